/-
  PROVED HERE: plain facts: a way to carry out tries, and a search by it, that comes to what is said of them (no program, no memory; the conditions stand in each statement).
-/
import Derived.Test.YtlmjilpjmgjjcabGreatDoorT7
import Derived.Test.YtlmjilpjmgjjcabGreatDoorCards
import Derived.Test.YtlmjilpjmgjjcabGreatDoorTie
import Derived.ProofKit
import Derived.LaidMore
import Derived.OpenShut
import Derived.Stop.Joined
import Derived.SevenTiedAt
import Derived.Deep.Slices
import Derived.Carry
import Derived.Deep.QuietTactic
import Derived.BigQuiet
set_option linter.unusedSimpArgs false
set_option linter.unusedVariables false
set_option maxRecDepth 10000
set_option maxHeartbeats 4000000
namespace Go.Proofs.YtlmjilpjmgjjcabGreatDoor
open Go.RowKit
theorem Zwg {n:ND} {c:Cls} {k:Nat} (h:(tryN n c k).2=1∨(tryN n c k).2=2):∃ d ds,n.goals.map (·.2)=d::ds∧(tryN n c k).1.goals.map (·.2)=List.replicate c.body.length (d+1)++ds∧(tryN n c k).1.done.map (·.2)=n.done.map (·.2)++[d]:=by
 by_cases hex:∃ r:ND × Nat,∃ m,NOk m∧Same m n∧Out m c k r.2 r.1
 ·have e:tryN n c k=Classical.choose hex:=by unfold tryN; rw [dif_pos hex]
  obtain ⟨m,_,hS,g,gs,hg,ho⟩:=Classical.choose_spec hex
  rw [e] at h ⊢
  rcases ho with ⟨h0,_⟩ | ⟨h0,_⟩ | ⟨σ,_,_,_,h4⟩
  ·omega
  ·omega
  ·rw [h4]
   refine ⟨g.2,gs.map (·.2),?_,?_,?_⟩
   ·rw [← hS.gd,hg]; rfl
   ·simp only [Zau]
    rw [Zkf,Qr,List.map_map]
    congr 1
    generalize c.body=b
    induction b with
    | nil=>rfl
    | cons x b ih=>rw [List.map_cons,ih,Qf,List.replicate_succ]; rfl
   ·simp only [Zau]
    rw [Zkf,Qr,hS.dd]
    rfl
 ·have e:tryN n c k=(⟨[],[],[],[],0⟩,0):=by unfold tryN; rw [dif_neg hex]
  rw [e] at h
  simp at h
theorem Zzt {cs:List Cls} {m:ND} {k i:Nat} {ks:List Nat} (h:(Zas cs m (k::ks) i).2=(0,0)):∃ c,cs[k]?=some c∧m.goals≠[]∧((tryN m c k).2=1∨(tryN m c k).2=2)∧Zas cs m (k::ks) i=Zas cs (tryN m c k).1 ks (i+1):=by
 cases hc:cs[k]? with
 | none =>
  have:=Zdq (cs:=cs) (n:=m) (k:=k) (i:=i) (ks:=ks) (Or.inr (List.getElem?_eq_none_iff.1 hc))
  rw [this] at h; simp at h
 | some c =>
  by_cases hg:m.goals=[]
  ·have:=Zdq (cs:=cs) (n:=m) (k:=k) (i:=i) (ks:=ks) (Or.inl hg)
   rw [this] at h; simp at h
  ·by_cases hq:(tryN m c k).2=1∨(tryN m c k).2=2
   ·exact ⟨c,rfl,hg,hq,Zjr hc hg hq⟩
   ·have:=Zgi (i:=i) (ks:=ks) hc hq
    rw [this] at h; simp at h
structure DepAt (w:World) (ds ls:List Nat) (dv lv:Value) (wr:World):Prop where
 ext:Ext w wr
 dep:wr.ownsRow w.heap.size 3 1 dv ds.length (ints ds)
 lef:wr.ownsRow w.heap.size 3 1 lv ls.length (ints ls)
 off:∀ j,dv.ownBlock=some j→¬ lv.ownBlock=some j
theorem DepAt.depApp {w w1 w2:World} {ds ls:List Nat} {dv lv dv2:Value} {d:Nat} (h:DepAt w ds ls dv lv w1) (hap:Appended w1 w.heap.size 3 1 dv (ds.length+1) (ints ds++[.int .i64 d]) dv2 w2):DepAt w (ds++[d]) ls dv2 lv w2:=by
 obtain ⟨h1,h2,h3,h4⟩:=h
 refine ⟨h1.trans (hap.kept.below h1.size (fun j hj=>(h2.lt j hj).1)),by have:=hap.owns; simpa [ints] using this,hap.kept.owns h3 (fun j hj hS=>h4 j hS hj),fun j hj hl => ?_⟩
 rcases hap.where_ with e | ⟨g,e,hg⟩
 ·rw [e] at hj; exact h4 j hj hl
 ·rw [e] at hj
  simp only [Qo] at hj
  have:=(h3.lt j hl).2
  omega
theorem DepAt.lefApp {w w1 w2:World} {ds ls:List Nat} {dv lv lv2:Value} {d:Nat} (h:DepAt w ds ls dv lv w1) (hap:Appended w1 w.heap.size 3 1 lv (ls.length+1) (ints ls++[.int .i64 d]) lv2 w2):DepAt w ds (ls++[d]) dv lv2 w2:=by
 obtain ⟨h1,h2,h3,h4⟩:=h
 refine ⟨h1.trans (hap.kept.below h1.size (fun j hj=>(h3.lt j hj).1)),hap.kept.owns h2 (fun j hj hS=>h4 j hj hS),by have:=hap.owns; simpa [ints] using this,fun j hj hl => ?_⟩
 rcases hap.where_ with e | ⟨g,e,hg⟩
 ·rw [e] at hl; exact h4 j hj hl
 ·rw [e] at hl
  simp only [Qo] at hl
  have:=(h2.lt j hj).2
  omega
theorem DepAt.cut {w wr:World} {ds ls:List Nat} {dv:Value} {d g cap:Nat} (h:DepAt w ds (ls++[d]) dv (.slice (some ⟨g,0,none⟩) (ls.length+1) cap) wr):DepAt w ds ls dv (.slice (some ⟨g,0,none⟩) ls.length cap) wr:=by
 obtain ⟨h1,h2,h3,h4⟩:=h
 rw [Qg,Qf,Jt] at h3
 have:=Zmz h3
 refine ⟨h1,h2,?_,h4⟩
 have e:(ints (ls++[d])).take ls.length=ints ls:=by
  unfold ints
  rw [Qr,List.take_append_of_le_length (by simp),List.take_of_length_le (by simp)]
 rw [e] at this
 exact this
def Ydo (ds:List Nat) (w:World) (e:Ending) (w':World):Prop:=Ext w w'∧∃ x c,e = .returned (.slice x ds.length c)∧w'.ownsRow 0 3 1 (.slice x ds.length c) ds.length (ints ds)
theorem Zqe (w:World) (cv hv bv nv kv:Value) (cs:List Cls) (xs:List (List Value)) (a:List (List Sym) × Names) (ks:List Nat) (hP:ProgIn w cv cs xs) (hh:∃ a n x,hv = .slice a n x) (hb:TermsIn w bv a.1) (hns:w.ownsRow 0 9 1 nv a.2.length (strs a.2)) (hk:w.ownsRow 0 3 1 kv ks.length (ints ks))
  (hcs:∀ c ∈ cs,COk c) (hcl:cs.length≤24) (hal:a.1.length≤6) (hkl:ks.length≤400) (hk9:∀ k ∈ ks,k≤99) (hf:(Zas cs (topN a) ks 0).2=(0,0)) :
  Calls Tryz.prog 38 #[cv,.agg #[hv,bv,nv],kv] w (Ydo ((Zas cs (topN a) ks 0).1.done.map (·.2)) w):=by
 obtain ⟨h1,h2,h3,rfl⟩:=hh
 obtain ⟨ba,bcap,rfl⟩:=hb.shape
 obtain ⟨na,ncap,rfl⟩:=Zae hns
 obtain ⟨ka,kcap,rfl⟩:=Zae hk
 obtain ⟨la,lcap,rfl⟩:=Zae hP.owns
 have HP:=Zac hP
 have Hk:=Zac hk
 have Hcs:=Zac hcs
 have Hk9:=Zac hk9
 have Hf:=Zac hf
 clear hP hb hns hk hcs hk9 hf
 go_enter Tryz.func38,Tryz.ntmps38
 go_wp2
 go_loopg [8,16] (a.1.length+1) (fun gk lv iv wr=>∃ (k:Nat),iv = .int .i64 k∧k≤a.1.length∧a.1.length - k<gk∧DepAt w [] (List.replicate k 0) (.slice none 0 0) lv wr)
 case atStart=>exact ⟨0,by go_num,Qm _,by omega,(Ext.of (by repeat' (first | with_reducible(first|exact Qx _ _|apply Kept.drew|apply Kept.drewN|apply Qz|refine Qy ?_ ?_ _)|exact fun h=>absurd h (by simp <;> omega)))),World.ownsRow_nil _ _ _ _,World.ownsRow_nil _ _ _ _,fun j hj=>by simp [Value.ownBlock] at hj⟩
 case round =>
  obtain ⟨k,rfl,hk,hgk,hD⟩:=hrel
  have hrow:=hD.lef
  rw [List.length_replicate] at hrow
  obtain ⟨sa,scap,rfl⟩:=Zae hrow
  have hsr:=hD.ext.size
  have HD:=Zac hD
  have Hrow:=Zac hrow
  clear hD hrow
  by_cases hlt:k<a.1.length
  ·go_wp2_with (at_builtin; go_loud (refine Zal wr rfl (.tmp 18) (.tmp 19) 22 rfl w.heap.size 3 Tryz.infoInt Tryz.underlying22 rfl (by decide) (.slice sa k scap) k (ints (List.replicate k 0)) rfl Hrow.out #[.int .i64 0] (N:=wr.heap.size) rfl (by simp) rfl (Zgq _) ?_ ?_ ?_))
   ·omega
   ·omega
   intro v2 w2 hap
   obtain ⟨a2,c2,rfl⟩:=Zae hap.owns
   have hD2:=HD.out.lefApp (d:=0) (w2:=w2) (lv2 := .slice a2 (k+1) c2) (by rw [List.length_replicate]; exact hap)
   rw [← List.replicate_succ'] at hD2
   have HD2:=Zac hD2
   clear hap hD2
   go_wp2
   go_roundg (a.1.length - k)
   case measure=>omega
   case rel=>exact ⟨k+1,by go_num,by omega,by omega,HD2.out⟩
  ·have hek:k=a.1.length:=by omega
   subst hek
   obtain ⟨wo,hwo⟩:∃ x,x=wr:=⟨_,rfl⟩
   subst hwo
   have HD0:Hid (DepAt w ((topN a).done.map (·.2)) ((topN a).goals.map (·.2)).reverse (.slice none 0 0) (.slice sa a.1.length scap) wo):=by
    have e1:(topN a).done.map (·.2)=[]:=rfl
    have e2:((topN a).goals.map (·.2)).reverse=List.replicate a.1.length 0:=by
     have:(topN a).goals.map (·.2)=List.replicate a.1.length 0:=by
      unfold topN
      simp only [List.map_map]
      generalize a.1=l
      induction l with
      | nil=>rfl
      | cons x l ih=>rw [List.map_cons,ih,Qf,List.replicate_succ]; rfl
     rw [this,List.reverse_replicate]
    rw [e1,e2]
    exact HD.out
   have hb0:Hid (∀ x ∈ (topN a).goals.map (·.2),x≤0):=fun x hx=>by
    unfold topN at hx
    simp at hx
    omega
   clear HD Hrow
   go_wp2
   go_loopg [7,8,24] (ks.length+1) (fun gk dv lv iv wr=>∃ (i:Nat) (m:ND),iv = .int .i64 i∧i≤ks.length∧ks.length - i<gk∧Zas cs (topN a) ks 0=Zas cs m (ks.drop i) i∧(∀ x ∈ m.goals.map (·.2),x≤i)∧m.goals.length≤6+6 * i∧m.done.length=i∧DepAt w (m.done.map (·.2)) (m.goals.map (·.2)).reverse dv lv wr)
   case atStart=>exact ⟨0,topN a,by go_num,Qm _,by omega,by simp,hb0.out,by unfold topN; simp; omega,by unfold topN; rfl,HD0.out⟩
   case round =>
    obtain ⟨i,m,rfl,hi,hgi,hfo,hbd,hgl,hdl,hD⟩:=hrel
    have hdn:=hD.dep
    have hln:=hD.lef
    rw [Ql,hdl] at hdn
    rw [List.length_reverse,Ql] at hln
    obtain ⟨da,dcap,rfl⟩:=Zae hdn
    obtain ⟨sa,scap,rfl⟩:=Zae hln
    have hsr:=hD.ext.size
    have Hfo:=Zac hfo
    have Hbd:=Zac hbd
    have HD:=Zac hD
    have Hdn:=Zac hdn
    have Hln:=Zac hln
    clear hfo hbd hD hdn hln
    by_cases hlt:i<ks.length
    ·obtain ⟨k,hk⟩:∃ k,ks[i]?=some k:=⟨_,Qb hlt⟩
     have hdk:ks.drop i=k::ks.drop (i+1):=by rw [List.drop_eq_getElem_cons hlt,(Qa.1 hk).2]
     have hk99:=Hk9.out k (Qh hk)
     have hfz:=Hf.out
     rw [Hfo.out,hdk] at hfz
     obtain ⟨c,hc,hmg,hq,hgo⟩:=Zzt hfz
     obtain ⟨d,ds,hg1,hg2,hd1⟩:=Zwg hq
     have hkc2:=(Qa.1 hc).1
     have hfo2:Zas cs (topN a) ks 0=Zas cs (tryN m c k).1 (ks.drop (i+1)) (i+1):=by rw [Hfo.out,hdk,hgo]
     have hdi:d≤i:=Hbd.out d (by rw [hg1]; simp)
     have hbl:=(Hcs.out c (Qh hc)).bn
     have hL:m.goals.length=ds.length+1:=by have:=congrArg List.length hg1; simpa using this
     have hbd2:∀ x ∈ (tryN m c k).1.goals.map (·.2),x≤i+1:=fun x hx=>by
      rw [hg2] at hx
      rcases Qk.1 hx with hx | hx
      ·have:=List.eq_of_mem_replicate hx; omega
      ·have:=Hbd.out x (by rw [hg1]; simp [hx]); omega
     have hgl2:(tryN m c k).1.goals.length≤6+6 * (i+1):=by
      have:=congrArg List.length hg2
      simp at this
      omega
     have hdl2:(tryN m c k).1.done.length=i+1:=by
      have:=congrArg List.length hd1
      simp at this
      omega
     have hDr:=HD.out
     rw [hg1,List.reverse_cons] at hDr
     have hlr:=Hln.out
     rw [hg1,List.reverse_cons,hL] at hlr
     have hdr:=Hdn.out
     obtain ⟨dl,hdle⟩:∃ l,l=m.done.map (·.2):=⟨_,rfl⟩
     rw [← hdle] at hdr hDr hd1
     have hdll:dl.length=i:=by rw [hdle,Ql]; exact hdl
     obtain ⟨rs,hrs⟩:∃ l,l=ds.reverse:=⟨_,rfl⟩
     have hrl:ds.length=rs.length:=by rw [hrs]; simp
     rw [← hrs] at hlr hDr
     rw [hrl] at hlr hL
     rw [hL] at hDr ⊢
     obtain ⟨kb,kcap',kcur,hke,hBk,hkb,hkc⟩:=Zao Hk.out (by omega)
     simp only [Value.slice.injEq] at hke
     obtain ⟨rfl,_,rfl⟩:=hke
     have hkbw:=Zab hkb
     have k0:wr.cell? ⟨kb,i,none⟩=some (.int .i64 k):=(HD.out.ext.cell (p:=⟨kb,i,none⟩) hkbw).trans (Zai Hk.out i _ (by simp only [ints,Qj,hk,Option.map_some]))
     have hkbl:kb<wr.heap.size:=by omega
     obtain ⟨lb,lcap',lcur,hle,_,hlb,_⟩:=Zao HP.out.owns (by omega)
     simp only [Value.slice.injEq] at hle
     obtain ⟨rfl,_,rfl⟩:=hle
     have hlbw:=Zab hlb
     obtain ⟨cv0,cv1,cv2,e0,e1,e2,hcl2⟩:=HP.out.cell hc
     obtain ⟨b2,b3,rfl⟩:=hcl2.body.shape
     obtain ⟨sg,scap',scur,hse,_,hsb,_⟩:=Zao hlr (by omega)
     simp only [Value.slice.injEq] at hse
     obtain ⟨rfl,_,rfl⟩:=hse
     have s0:wr.cell? ⟨sg,rs.length,none⟩=some (.int .i64 d):=Zai hlr _ _ (by simp [ints])
     have hsgl:=Zab hsb
     have HDr:=Zac hDr
     have Hdr:Hid (wr.ownsRow w.heap.size 3 1 (.slice da i dcap) i (ints dl)):=hdr
     have Hfo2:=Zac hfo2
     have Hbd2:=Zac hbd2
     have Hg2:=Zac hg2
     have Hd1:=Zac hd1
     have He1:=Zac e1
     have Hrs:=Zac hrs
     have Hdll:=Zac hdll
     have hn1:¬ ((rs.length:Int)<0):=by omega
     have hn2:¬ ((k:Int)<0):=by omega
     have hn3:¬ ((cs.length:Int)≤(k:Int)):=by omega
     clear hk hdk hfz hc hmg hq hgo hg1 hg2 hd1 hfo2 hbd2 hDr hlr hdr hdle hrs hkb hlb e0 e1 e2 hcl2 hsb hdll hrl
     go_wp2_with (at_builtin; go_loud (refine Zal wr rfl (.tmp 47) (.tmp 49) 22 rfl w.heap.size 3 Tryz.infoInt Tryz.underlying22 rfl (by decide) (.slice da i dcap) i (ints dl) rfl Hdr.out #[.int .i64 d] (N:=wr.heap.size) rfl (by simp) rfl (Zgq _) ?_ ?_ ?_))
     ·omega
     intro v2 w2 hap
     obtain ⟨a2,c2,rfl⟩:=Zae hap.owns
     have hD2:=(HDr.out.depApp (d:=d) (w2:=w2) (dv2 := .slice a2 (i+1) c2) (by rw [Hdll.out]; exact hap)).cut
     have hz2:=hap.kept.size
     have hlbl:lb<w2.heap.size:=by omega
     have l1:w2.cell? ⟨lb,k * 3+1,none⟩=some (.slice b2 c.body.length b3):=(hD2.ext.cell (p:=⟨lb,k * 3+1,none⟩) hlbw).trans He1.out
     have hz0:=hD2.ext.size
     have HD2:=Zac hD2
     have hsgl2:sg<w2.heap.size:=by omega
     have hrcap:rs.length≤scap:=by omega
     clear hap hD2 k0 s0
     obtain ⟨wp,hwp⟩:∃ x,x=w2:=⟨_,rfl⟩
     subst hwp
     go_wp2
     go_loopg [8,60] (c.body.length+1) (fun gk lv iv wr=>∃ (j:Nat),iv = .int .i64 j∧j≤c.body.length∧c.body.length - j<gk∧DepAt w (dl++[d]) (rs++List.replicate j (d+1)) (.slice a2 (i+1) c2) lv wr)
     case atStart=>exact ⟨0,by go_num,Qm _,by omega,by simpa using HD2.out⟩
     case round =>
      obtain ⟨j,rfl,hj,hgj,hD3⟩:=hrel
      have hl3:=hD3.lef
      rw [Qg,List.length_replicate] at hl3
      obtain ⟨ta,tcap,rfl⟩:=Zae hl3
      have hs3:=hD3.ext.size
      have HD3:=Zac hD3
      have Hl3:=Zac hl3
      clear hD3 hl3
      by_cases hjl:j<c.body.length
      ·go_wp2_with (at_builtin; go_loud (refine Zal wr rfl (.tmp 62) (.tmp 65) 22 rfl w.heap.size 3 Tryz.infoInt Tryz.underlying22 rfl (by decide) (.slice ta (rs.length+j) tcap) (rs.length+j) (ints (rs++List.replicate j (d+1))) rfl Hl3.out #[.int .i64 ((d:Int)+1)] (N:=wr.heap.size) rfl (by simp) rfl (Zgq _) ?_ ?_ ?_))
       ·omega
       ·omega
       intro v4 w4 hap
       obtain ⟨a4,c4,rfl⟩:=Zae hap.owns
       have hD4:=HD3.out.lefApp (d:=d+1) (w2:=w4) (lv2 := .slice a4 (rs.length+j+1) c4) (by rw [Qg,List.length_replicate]; exact hap)
       rw [Qi,← List.replicate_succ'] at hD4
       have HD4:=Zac hD4
       clear hap hD4
       go_wp2
       go_roundg (c.body.length - j)
       case measure=>omega
       case rel=>exact ⟨j+1,by go_num,by omega,by omega,HD4.out⟩
      ·have hej:j=c.body.length:=by omega
       subst hej
       go_wp2
       go_roundg (ks.length - i)
       case measure=>omega
       case rel =>
        refine ⟨i+1,(tryN m c k).1,by go_num,by omega,by omega,Hfo2.out,Hbd2.out,hgl2,hdl2,?_⟩
        rw [Hd1.out,Hg2.out,List.reverse_append,List.reverse_replicate,← Hrs.out]
        exact HD3.out
    ·have hei:i=ks.length:=by omega
     subst hei
     have hm:(Zas cs (topN a) ks 0).1=m:=by
      have h1:=Hf.out
      have e:Zas cs m [] ks.length=if m.goals=[] then (m,0,0) else (m,7,ks.length):=by unfold Zas; rfl
      rw [Hfo.out,List.drop_eq_nil_of_le (Qe _),e] at h1
      rw [Hfo.out,List.drop_eq_nil_of_le (Qe _),e]
      by_cases hg:m.goals=[]
      ·rw [if_pos hg]
      ·rw [if_neg hg] at h1; simp at h1
     have Hm:=Zac hm
     clear hm
     go_wp2
     go_ret
     rw [Hm.out]
     refine ⟨HD.out.ext,da,dcap,by rw [Ql,hdl]; rfl,?_⟩
     rw [Ql,hdl]
     exact Zbd Hdn.out (Qm _)
theorem Yep:∀ {met:List Nat} {n k:Nat},(∀ i,i<k→met[i]?≠some n)→met[k]?=some n→met.idxOf n=k:=by
 intro met
 induction met with
 | nil=>intro n k _ h; simp at h
 | cons x met ih =>
  intro n k h1 h2
  rw [List.idxOf_cons]
  cases k with
  | zero=>simp at h2; subst h2; simp
  | succ k =>
   have hx:x≠n:=fun e=>h1 0 (by omega) (by simp [e])
   have:(x == n)=false:=by rw [Qu]; exact hx
   rw [this]
   simp only [cond_false]
   rw [ih (n:=n) (k:=k) (fun i hi=>by have:=h1 (i+1) (by omega); simpa using this) (by simpa using h2)]
theorem Ycd:∀ {met:List Nat} {n:Nat},(∀ i,i<met.length→met[i]?≠some n)→met.idxOf n=met.length:=by
 intro met
 induction met with
 | nil=>intro n _; rfl
 | cons x met ih =>
  intro n h1
  rw [List.idxOf_cons]
  have hx:x≠n:=fun e=>h1 0 (by simp) (by simp [e])
  have:(x == n)=false:=by rw [Qu]; exact hx
  rw [this]
  simp only [cond_false,Qf]
  rw [ih (n:=n) (fun i hi=>by have:=h1 (i+1) (by simp; omega); simpa using this)]
theorem Zsd (w:World) (n:Nat) (lv:Value) (met:List Nat) (h:w.ownsRow 0 3 1 lv met.length (ints met)) (hl:met.length≤10000) (hn:n≤200000) :
  Calls Tryz.prog 76 #[.int .i64 n,lv] w fun e w'=>e = .returned (.int .i64 (met.idxOf n))∧w'=w:=by
 obtain ⟨la,lcap,rfl⟩:=Zae h
 have H:=Zac h
 clear h
 go_enter Tryz.func76,Tryz.ntmps76
 go_wp2
 go_loopg [5] (met.length+1) (fun gk pv wr=>∃ (k:Nat),pv = .int .i64 k∧k≤met.length∧met.length - k<gk∧wr=w∧∀ i,i<k→met[i]?≠some n)
 case atStart=>exact ⟨0,by go_num,Qm _,by omega,rfl,fun i hi=>by omega⟩
 case round =>
  obtain ⟨k,rfl,hk,hgk,rfl,hbef⟩:=hrel
  have Hbef:=Zac hbef
  clear hbef
  by_cases hlt:k<met.length
  ·have hlt':(k:Int)<(met.length:Int):=by omega
   obtain ⟨x,hx⟩:∃ x,met[k]?=some x:=⟨_,Qb hlt⟩
   obtain ⟨g,cap',cur,he,_,hgb,_⟩:=Zao H.out (by omega)
   simp only [Value.slice.injEq] at he
   obtain ⟨rfl,_,rfl⟩:=he
   have x0:wr.cell? ⟨g,k,none⟩=some (.int .i64 x):=Zai H.out k _ (by simp only [ints,Qj,hx,Option.map_some])
   have hgl:=Zab hgb
   have Hx:=Zac hx
   clear hx hgb
   by_cases hxn:x=n
   ·subst hxn
    have Hi:Hid (met.idxOf x=k):=Yep Hbef.out Hx.out
    go_wp2
    go_ret
    exact ⟨by rw [Hi.out]; simp,rfl⟩
   ·have hb:((x:Int) != (n:Int))=true:=by rw [bne_iff_ne]; omega
    go_wp2
    go_roundg (met.length - k)
    case measure=>omega
    case rel =>
     refine ⟨k+1,by go_num,by omega,by omega,rfl,fun i hi => ?_⟩
     by_cases e:i=k
     ·subst e
      rw [Hx.out]
      simpa using hxn
     ·exact Hbef.out i (by omega)
  ·have hek:k=met.length:=by omega
   subst hek
   have Hi:Hid (met.idxOf n=met.length):=Ycd Hbef.out
   have hlt':¬ ((met.length:Int)<(met.length:Int)):=by omega
   go_wp2
   go_ret
   exact ⟨by rw [Hi.out]; simp,rfl⟩
theorem TermsAt.other {w w':World} {B B2 n s:Nat} {e:TypeId} {v vv:Value} {ls:List (List Sym)} {vs ys:List Value} (h:TermsAt w B v ls vs) (hv:w.ownsRow B2 e s vv n ys) (he1:72≠e) (he2:102≠e) (hk:Kept (Zbj vv) w w'):TermsAt w' B v ls vs :=
 ⟨hk.owns h.owns (fun j hj hS=>by
  obtain ⟨cur,hc⟩:=Zbu hv j hS
  exact Zag h.owns he1 hc hj),fun i l hi=>by
  obtain ⟨x,h1,h2⟩:=h.all i l hi
  refine ⟨x,h1,hk.owns h2 (fun j hj hS => ?_)⟩
  obtain ⟨cur,hc⟩:=Zbu hv j hS
  exact Zag h2 he2 hc hj⟩
structure OrdB (w:World) (Bc:Nat) (rl:List (List Sym)) (rv:Value) (xs:List Value) (met:List Nat) (mv:Value) (ch:List Sym) (cv:Value) (wr:World):Prop where
 ext:Ext w wr
 row:TermsAt wr w.heap.size rv rl xs
 low:∀ x ∈ xs,∀ j,x.ownBlock=some j→j<Bc
 met:wr.ownsRow w.heap.size 3 1 mv met.length (ints met)
 b1:w.heap.size≤Bc
 b2:Bc≤wr.heap.size
 chg:wr.ownsRow Bc 102 3 cv ch.length (Zah ch)
theorem OrdB.on {w wr w1:World} {Bc:Nat} {rl:List (List Sym)} {rv mv cv:Value} {xs:List Value} {met:List Nat} {ch:List Sym} (h:OrdB w Bc rl rv xs met mv ch cv wr) (e:Ext wr w1):OrdB w Bc rl rv xs met mv ch cv w1:=by
 obtain ⟨h1,h2,h3,h4,h5,h6,h7⟩:=h
 exact ⟨h1.trans (e.mono h1.size),h2.ext e,h3,Zaj h4 (fun j hj=>e.block j (h4.lt j hj).2),h5,Qq h6 e.size,Zaj h7 (fun j hj=>e.block j (h7.lt j hj).2)⟩
theorem OrdB.metApp {w w1 w2:World} {Bc n:Nat} {rl:List (List Sym)} {rv mv mv2 cv:Value} {xs:List Value} {met:List Nat} {ch:List Sym} (h:OrdB w Bc rl rv xs met mv ch cv w1) (hap:Appended w1 w.heap.size 3 1 mv (met.length+1) (ints met++[.int .i64 n]) mv2 w2):OrdB w Bc rl rv xs (met++[n]) mv2 ch cv w2:=by
 obtain ⟨h1,h2,h3,h4,h5,h6,h7⟩:=h
 have hsz:=hap.kept.size
 refine ⟨h1.trans (hap.kept.below h1.size (fun j hj=>(h4.lt j hj).1)),h2.other h4 (by decide) (by decide) hap.kept,h3,?_,h5,by omega,hap.kept.owns h7 (fun j hj hS => ?_)⟩
 ·have:=hap.owns
  simpa [ints] using this
 ·obtain ⟨cur,hc⟩:=Zbu h4 j hS
  exact Zag h7 (by decide) hc hj
theorem OrdB.chApp {w w1 w2:World} {Bc:Nat} {rl:List (List Sym)} {rv mv cv cv2:Value} {xs:List Value} {met:List Nat} {ch:List Sym} {s:Sym} (h:OrdB w Bc rl rv xs met mv ch cv w1) (hap:Appended w1 Bc 102 3 cv (ch.length+1) (Zah ch++Zbn s) cv2 w2):OrdB w Bc rl rv xs met mv (ch++[s]) cv2 w2:=by
 obtain ⟨h1,h2,h3,h4,h5,h6,h7⟩:=h
 have hsz:=hap.kept.size
 refine ⟨h1.trans (hap.kept.below h1.size (fun j hj=>Qq h5 (h7.lt j hj).1)),⟨hap.kept.owns h2.owns (fun j hj hS => ?_),fun i l hi => ?_⟩,h3,hap.kept.owns h4 (fun j hj hS => ?_),h5,by omega,?_⟩
 ·obtain ⟨cur,hc⟩:=Zbu h7 j hS
  exact Zag h2.owns (by decide) hc hj
 ·obtain ⟨x,e1,e2⟩:=h2.all i l hi
  refine ⟨x,e1,hap.kept.owns e2 (fun j hj hS => ?_)⟩
  have:=h3 x (Qh e1) j hj
  have:=(h7.lt j hS).1
  omega
 ·obtain ⟨cur,hc⟩:=Zbu h7 j hS
  exact Zag h4 (by decide) hc hj
 ·have:=hap.owns
  rw [Zcq,Qg]
  simpa [Zah] using this
theorem OrdB.box {w w1 w2:World} {Bc M:Nat} {cs:Array Value} {fr:Nat × Nat} {rl:List (List Sym)} {rv mv cv:Value} {xs:List Value} {met:List Nat} {ch:List Sym} (h:OrdB w Bc rl rv xs met mv ch cv w1) (hM:w1.heap[M]?=some (.cells cs 102 fr)) (hB:Bc≤M) (hc:∀ j,cv.ownBlock=some j→j≠M) (hk:Kept (fun k=>k=M) w1 w2):OrdB w Bc rl rv xs met mv ch cv w2:=by
 obtain ⟨h1,h2,h3,h4,h5,h6,h7⟩:=h
 have hsz:=hk.size
 refine ⟨h1.trans (hk.below h1.size (fun j hj=>by omega)),⟨Zch h2.owns hM (by decide) hk,fun i l hi => ?_⟩,h3,Zch h4 hM (by decide) hk,h5,by omega,hk.owns h7 (fun j hj hS=>hc j hj hS)⟩
 obtain ⟨x,e1,e2⟩:=h2.all i l hi
 refine ⟨x,e1,hk.owns e2 (fun j hj hS => ?_)⟩
 have:=h3 x (Qh e1) j hj
 have hS:j=M:=hS
 omega
theorem TermsAt.words {w:World} {B:Nat} {v:Value} {ls:List (List Sym)} {vs:List Value} (h:TermsAt w B v ls vs):∀ x ∈ vs,∀ j,x.ownBlock=some j→j<w.heap.size:=fun x hx j hj=>by
 have hlen:vs.length=ls.length:=by have:=h.owns.1; omega
 obtain ⟨i,hi⟩:=List.mem_iff_getElem?.1 hx
 have hil:=(Qa.1 hi).1
 obtain ⟨y,h3,h4⟩:=h.all i _ (Qb (by omega))
 rw [hi] at h3
 simp only [Qo] at h3
 subst h3
 exact (h4.lt j hj).2
theorem Yce (n:Nat) (met:List Nat):(meet n met).length≤met.length+1:=by unfold meet; split <;> simp
theorem Zmq:∀ (l:List Sym) (met:List Nat),(Zav l met).2.length≤met.length+l.length:=by
 intro l
 induction l with
 | nil=>intro met; simp [Zav]
 | cons s l ih =>
  intro met
  simp only [Zav]
  split
  ·have:=ih (meet s.num met); have:=Yce s.num met; simp; omega
  ·have:=ih met; simp; omega
theorem Zmr:∀ (ts:List (List Sym)) (met:List Nat),(Zaw ts met).2.length≤met.length+ts.flatten.length:=by
 intro ts
 induction ts with
 | nil=>intro met; simp [Zaw]
 | cons t ts ih =>
  intro met
  simp only [Zaw,List.flatten_cons,Qg]
  have:=ih (Zav t met).2
  have:=Zmq t met
  omega
def Yfv (ts:List (List Sym)) (w:World) (e:Ending) (w':World):Prop:=Ext w w'∧∃ x c,e = .returned (.slice x ts.length c)∧TermsIn w' (.slice x ts.length c) (Zaw ts []).1
theorem Zse (w:World) (tv:Value) (ts:List (List Sym)) (h:TermsIn w tv ts) (hl:ts.length≤1000) (hf:ts.flatten.length≤8000) (hok:∀ t ∈ ts,TmOk t) :
  Calls Tryz.prog 64 #[tv] w (Yfv ts w):=by
 obtain ⟨us,h⟩:=h
 obtain ⟨ta,tcap,rfl⟩:=Zae h.owns
 have H:=Zac h
 have Hok:=Zac hok
 have Hf:=Zac hf
 clear h hok hf
 go_enter Tryz.func64,Tryz.ntmps64
 go_wp2
 go_loopg [3,4,13] (ts.length+1) (fun gk rv mv iv wr=>∃ (k:Nat) (xs:List Value),iv = .int .i64 k∧k≤ts.length∧ts.length - k<gk∧OrdB w wr.heap.size (Zaw (ts.take k) []).1 rv xs (Zaw (ts.take k) []).2 mv [] (.slice none 0 0) wr)
 case atStart=>exact ⟨0,[],by go_num,Qm _,by omega,Below.refl _ _,TermsAt.nil _ _,by simp,World.ownsRow_nil _ _ _ _,Qe _,Qe _,World.ownsRow_nil _ _ _ _⟩
 case round =>
  obtain ⟨k,xs,rfl,hk,hgk,hA⟩:=hrel
  have hmet:(Zaw (ts.take k) []).2.length≤8000:=by
   have h1:=Zmr (ts.take k) []
   have h2:=Hf.out
   have h3:(ts.take k).flatten.length≤ts.flatten.length:=by
    conv=>rhs; rw [← List.take_append_drop k ts,List.flatten_append,Qg]
    omega
   simp at h1
   simp at h2 h3
   omega
  have hlk:(Zaw (ts.take k) []).1.length=k:=by rw [Zeu]; simp; omega
  obtain ⟨rl,hrl⟩:∃ r,r=(Zaw (ts.take k) []).1:=⟨_,rfl⟩
  obtain ⟨met,hme⟩:∃ r,r=(Zaw (ts.take k) []).2:=⟨_,rfl⟩
  rw [← hrl,← hme] at hA
  rw [← hme] at hmet
  rw [← hrl] at hlk
  have hrow:=hA.row.owns
  rw [hlk] at hrow
  obtain ⟨ra,rcap,rfl⟩:=Zae hrow
  obtain ⟨ma,mcap,rfl⟩:=Zae hA.met
  have hsr:=hA.ext.size
  have HA:=Zac hA
  have Hrl:=Zac hrl
  have Hme:=Zac hme
  have Hlk:=Zac hlk
  clear hA hrow hrl hme hlk
  by_cases hlt:k<ts.length
  ·obtain ⟨t,ht⟩:∃ t,ts[k]?=some t:=⟨_,Qb hlt⟩
   obtain ⟨x,hx,hxo⟩:=H.out.all _ t ht
   obtain ⟨xa,xcap,rfl⟩:=Zae hxo
   obtain ⟨g,cap',cur,he,_,hgb,_⟩:=Zao H.out.owns (by omega)
   simp only [Value.slice.injEq] at he
   obtain ⟨rfl,_,rfl⟩:=he
   have hgw:=Zab hgb
   have hgr:g<wr.heap.size:=by omega
   have x0:wr.cell? ⟨g,k,none⟩=some (.slice xa t.length xcap):=(HA.out.ext.cell (p:=⟨g,k,none⟩) hgw).trans (Zai H.out.owns _ _ hx)
   obtain ⟨o1,o2,o3⟩:=Hok.out t (Qh ht)
   have Hxo:Hid (WordAt w (.slice xa t.length xcap) t):=hxo
   have Ht:=Zac ht
   have Ho3:=Zac o3
   have Hta:Hid (∀ (i:Nat) s,t[i]?=some s→s.name=[]→s.args=0):=fun i s hs=>by obtain ⟨j,hj⟩:=o1; exact (Zif hj hs).1
   have hm8:met.length+t.length≤9000:=by omega
   obtain ⟨wo,hwo⟩:∃ x,x=wr:=⟨_,rfl⟩
   subst hwo
   clear ht hx hxo hgb o1 o3
   go_wp2
   go_loopg [4,7,19] (t.length+1) (fun gk mv cv iv wr=>∃ (i:Nat),iv = .int .i64 i∧i≤t.length∧t.length - i<gk∧OrdB w wo.heap.size rl (.slice ra k rcap) xs (Zav (t.take i) met).2 mv (Zav (t.take i) met).1 cv wr)
   case atStart=>exact ⟨0,by go_num,Qm _,by omega,HA.out⟩
   case round =>
    obtain ⟨i,rfl,hi,hgi,hB⟩:=hrel
    have hmi:(Zav (t.take i) met).2.length≤9000:=by
     have:=Zmq (t.take i) met
     simp at this
     omega
    have hci:(Zav (t.take i) met).1.length=i:=by rw [Zir]; simp; omega
    obtain ⟨ch,hch⟩:∃ r,r=(Zav (t.take i) met).1:=⟨_,rfl⟩
    obtain ⟨mt,hmt⟩:∃ r,r=(Zav (t.take i) met).2:=⟨_,rfl⟩
    rw [← hch,← hmt] at hB
    rw [← hmt] at hmi
    rw [← hch] at hci
    have hcg:=hB.chg
    rw [hci] at hcg
    obtain ⟨ca,ccap,rfl⟩:=Zae hcg
    obtain ⟨na,ncap,rfl⟩:=Zae hB.met
    have hsi:=hB.ext.size
    have hb2:=hB.b2
    have HB:=Zac hB
    have Hch:=Zac hch
    have Hmt:=Zac hmt
    have Hci:=Zac hci
    clear hB hcg hch hmt hci x0
    by_cases hit:i<t.length
    ·obtain ⟨s,hs⟩:∃ s,t[i]?=some s:=⟨_,Qb hit⟩
     obtain ⟨g2,cap2,cur2,he2,_,hgb2,_⟩:=Zao Hxo.out (by omega)
     simp only [Value.slice.injEq] at he2
     obtain ⟨rfl,_,rfl⟩:=he2
     have ho:=Zaj Hxo.out (fun j hj=>HB.out.ext.block j (Hxo.out.lt j hj).2)
     have hgw2:=Zab hgb2
     have hgr2:g2<wr.heap.size:=by omega
     have e0:wr.cell? ⟨g2,i * 3,none⟩=some (.string ⟨s.name.toArray⟩):=Zai ho _ _ (by have:=Zax t i s hs 0 (by omega); rw [Nat.add_zero] at this; rw [this]; rfl)
     have e1:wr.cell? ⟨g2,i * 3+1,none⟩=some (.int .i64 s.num):=Zai ho _ _ (by rw [Zax t i s hs 1 (by omega)]; rfl)
     have e2:wr.cell? ⟨g2,i * 3+2,none⟩=some (.int .i64 s.args):=Zai ho _ _ (by rw [Zax t i s hs 2 (by omega)]; rfl)
     have hsn:=Ho3.out s (Qh hs)
     have hnx:Zav (t.take (i+1)) met=(if s.name=[] then (ch++[⟨[],mt.idxOf s.num,s.args⟩],meet s.num mt) else (ch++[s],mt)):=by
      rw [List.take_add_one,hs]
      simp only [Option.toList]
      rw [Ziq,← Hch.out,← Hmt.out]
      simp only [Zav]
      split <;> rfl
     have Hnx:=Zac hnx
     clear hs ho hgb2 hnx
     cases hnm:s.name with
     | cons y ys =>
      rw [hnm] at e0
      have Hnx2:Hid (Zav (t.take (i+1)) met=(ch++[s],mt)):=by show _=_; rw [Hnx.out,if_neg (by rw [hnm]; simp)]
      have Hs2:Hid (s=⟨y::ys,s.num,s.args⟩):=by show _=_; rw [← hnm]
      have hE:Ext wr (wr.alloc (.cells #[.string ⟨(y::ys).toArray⟩,.int .i64 s.num,.int .i64 s.args] 102)):=(Ext.of (by repeat' (first | with_reducible(first|exact Qx _ _|apply Kept.drew|apply Kept.drewN|apply Qz|refine Qy ?_ ?_ _)|exact fun h=>absurd h (by simp <;> omega))))
      have HB1:=Zac (HB.out.on hE)
      have Hrow:Hid ((wr.alloc (.cells #[.string ⟨(y::ys).toArray⟩,.int .i64 s.num,.int .i64 s.args] 102)).ownsRow wo.heap.size 102 3 (.slice ca i ccap) i (Zah ch)):=by have:=HB1.out.chg; rw [Hci.out] at this; exact this
      clear hnm hE
      go_wp2_with (at_builtin; go_loud (refine Zal (wr.alloc (.cells #[.string ⟨(y::ys).toArray⟩,.int .i64 s.num,.int .i64 s.args] 102)) rfl (.tmp 41) (.tmp 43) 72 rfl wo.heap.size 102 Tryz.infoSym Tryz.underlying72 rfl (by decide) (.slice ca i ccap) i (Zah ch) rfl Hrow.out #[.string ⟨(y::ys).toArray⟩,.int .i64 s.num,.int .i64 s.args] (N:=wr.heap.size+1) rfl (by simp) rfl (Zge _ _ _) ?_ ?_ ?_))
      ·omega
      ·simp; omega
      intro v2 w2 hap
      obtain ⟨a2,c2,rfl⟩:=Zae hap.owns
      have hB2:=HB1.out.chApp (s:=s) (cv2 := .slice a2 (i+1) c2) (w2:=w2) (by rw [Hci.out,Hs2.out]; simpa [Zbn] using hap)
      have HB2:=Zac hB2
      clear hap hB2
      go_wp2
      go_roundg (t.length - i)
      case measure=>omega
      case rel=>exact ⟨i+1,by go_num,by omega,by omega,by rw [Hnx2.out]; exact HB2.out⟩
     | nil =>
      rw [hnm] at e0
      obtain ⟨P,hP⟩:∃ p,p=mt.idxOf s.num:=⟨_,rfl⟩
      have hPl:P≤mt.length:=by rw [hP]; exact List.idxOf_le_length
      have hE:∀ o,Ext wr (wr.alloc o):=fun o=>(Ext.of (by repeat' (first | with_reducible(first|exact Qx _ _|apply Kept.drew|apply Kept.drewN|apply Qz|refine Qy ?_ ?_ _)|exact fun h=>absurd h (by simp <;> omega))))
      have HPl:=Zac (Zsd (wr.alloc (.cells #[.string ⟨#[]⟩,.int .i64 s.num,.int .i64 s.args] 102)) s.num (.slice na mt.length ncap) mt (Zbd (HB.out.on (hE _)).met (Qm _)) (by omega) hsn)
      rw [← hP] at HPl
      have Hnx2:Hid (Zav (t.take (i+1)) met=(ch++[⟨[],P,s.args⟩],meet s.num mt)):=by show _=_; rw [Hnx.out,if_pos hnm,← hP]
      have Hmeet:Hid (meet s.num mt=if P=mt.length then mt++[s.num] else mt):=by show _=_; unfold meet; rw [← hP]
      have HE:=Zac hE
      have HBm:=Zac (HB.out.on (hE (.cells #[.string ⟨#[]⟩,.int .i64 s.num,.int .i64 s.args] 102)))
      clear hnm hE hP
      go_wp2_with fail
      refine HPl.out.mono ?_
      rintro e w1 ⟨rfl,rfl⟩
      by_cases hnew:P=mt.length
      ·subst hnew
       have hz:((mt.length:Int) == (mt.length:Int))=true:=by simp
       have Hmrow:Hid ((wr.alloc (.cells #[.string ⟨#[]⟩,.int .i64 s.num,.int .i64 s.args] 102)).ownsRow w.heap.size 3 1 (.slice na mt.length ncap) mt.length (ints mt)):=HBm.out.met
       go_wp2_with (at_builtin; go_loud (refine Zal (wr.alloc (.cells #[.string ⟨#[]⟩,.int .i64 s.num,.int .i64 s.args] 102)) rfl (.tmp 34) (.tmp 37) 22 rfl w.heap.size 3 Tryz.infoInt Tryz.underlying22 rfl (by decide) (.slice na mt.length ncap) mt.length (ints mt) rfl Hmrow.out #[.int .i64 s.num] (N:=wr.heap.size+1) rfl (by simp) rfl (Zgq _) ?_ ?_ ?_))
       ·omega
       ·simp; omega
       intro v2 w2 hap
       obtain ⟨a2,c2,rfl⟩:=Zae hap.owns
       have hB2:=HBm.out.metApp (n:=s.num) hap
       have hbx:w2.heap[wr.heap.size]?=some (.cells #[.string ⟨#[]⟩,.int .i64 s.num,.int .i64 s.args] 102 (0,0)):=(hap.kept.block _ (by simp) (Zag Hmrow.out (by decide) (heap_alloc_new wr _))).trans (heap_alloc_new wr _)
       have hK:Kept (fun k=>k=wr.heap.size) w2 (w2.setCell ⟨wr.heap.size,1,none⟩ (.int .i64 mt.length)):=(Qx (only wr.heap.size) w2).put 1 _
       have hB3:=hB2.box hbx hb2 (fun j hj=>by have:=(HB.out.chg.lt j hj).2; omega) hK
       have y0:=Zaa hbx 0 _ rfl
       have y1:=Zaa hbx 1 _ rfl
       have y2:=Zaa hbx 2 _ rfl
       have yf:=fun i=>Zad hbx i
       have yl:=Zab hbx
       have hsz2:=hap.kept.size
       simp at hsz2
       have HB3:=Zac hB3
       have Hrow:Hid ((w2.setCell ⟨wr.heap.size,1,none⟩ (.int .i64 mt.length)).ownsRow wo.heap.size 102 3 (.slice ca i ccap) i (Zah ch)):=by have:=hB3.chg; rw [Hci.out] at this; exact this
       have Hme2:Hid (meet s.num mt=mt++[s.num]):=by show _=_; rw [Hmeet.out]; simp
       clear hap hB2 hbx hK hB3 e0 e1 e2
       go_wp2_with (at_builtin; go_loud (refine Zal (w2.setCell ⟨wr.heap.size,1,none⟩ (.int .i64 mt.length)) rfl (.tmp 41) (.tmp 43) 72 rfl wo.heap.size 102 Tryz.infoSym Tryz.underlying72 rfl (by decide) (.slice ca i ccap) i (Zah ch) rfl Hrow.out #[.string ⟨#[]⟩,.int .i64 mt.length,.int .i64 s.args] (N:=w2.heap.size) rfl (by simp) rfl (Zge _ _ _) ?_ ?_ ?_))
       ·omega
       ·simp; omega
       intro v4 w4 hap
       obtain ⟨a4,c4,rfl⟩:=Zae hap.owns
       have hB4:=HB3.out.chApp (s:=⟨[],mt.length,s.args⟩) (cv2 := .slice a4 (i+1) c4) (w2:=w4) (by rw [Hci.out]; simpa [Zbn] using hap)
       have HB4:=Zac hB4
       clear hap hB4
       go_wp2
       go_roundg (t.length - i)
       case measure=>omega
       case rel=>exact ⟨i+1,by go_num,by omega,by omega,by rw [Hnx2.out,Hme2.out]; exact HB4.out⟩
      ·have hz:((P:Int) == (mt.length:Int))=false:=by rw [Qu]; omega
       have Hme2:Hid (meet s.num mt=mt):=by show _=_; rw [Hmeet.out,if_neg hnew]
       have HB3:=Zac (HB.out.on (HE.out (.cells #[.string ⟨#[]⟩,.int .i64 P,.int .i64 s.args] 102)))
       have Hrow:Hid ((wr.alloc (.cells #[.string ⟨#[]⟩,.int .i64 P,.int .i64 s.args] 102)).ownsRow wo.heap.size 102 3 (.slice ca i ccap) i (Zah ch)):=by have:=HB3.out.chg; rw [Hci.out] at this; exact this
       clear hnew
       go_wp2_with (at_builtin; go_loud (refine Zal (wr.alloc (.cells #[.string ⟨#[]⟩,.int .i64 P,.int .i64 s.args] 102)) rfl (.tmp 41) (.tmp 43) 72 rfl wo.heap.size 102 Tryz.infoSym Tryz.underlying72 rfl (by decide) (.slice ca i ccap) i (Zah ch) rfl Hrow.out #[.string ⟨#[]⟩,.int .i64 P,.int .i64 s.args] (N:=wr.heap.size+1) rfl (by simp) rfl (Zge _ _ _) ?_ ?_ ?_))
       ·omega
       ·simp; omega
       intro v4 w4 hap
       obtain ⟨a4,c4,rfl⟩:=Zae hap.owns
       have hB4:=HB3.out.chApp (s:=⟨[],P,s.args⟩) (cv2 := .slice a4 (i+1) c4) (w2:=w4) (by rw [Hci.out]; simpa [Zbn] using hap)
       have HB4:=Zac hB4
       clear hap hB4
       go_wp2
       go_roundg (t.length - i)
       case measure=>omega
       case rel=>exact ⟨i+1,by go_num,by omega,by omega,by rw [Hnx2.out,Hme2.out]; exact HB4.out⟩
    ·have hei:i=t.length:=by omega
     subst hei
     have Hrow:Hid (wr.ownsRow w.heap.size 72 1 (.slice ra k rcap) k xs):=by have:=HB.out.row.owns; rw [Hlk.out] at this; exact this
     go_wp2_with (at_builtin; go_loud (refine Zal wr rfl (.tmp 46) (.tmp 48) 63 rfl w.heap.size 72 Tryz.infoSyms Tryz.underlying63 rfl (by decide) (.slice ra k rcap) k xs rfl Hrow.out #[.slice ca t.length ccap] (N:=wr.heap.size) rfl (by simp) rfl (Zdk _ _ _) ?_ ?_ ?_))
     ·omega
     ·omega
     intro v2 w2 hap
     obtain ⟨a2,c2,rfl⟩:=Zae hap.owns
     have hfin:OrdB w w2.heap.size (Zaw (ts.take (k+1)) []).1 (.slice a2 (k+1) c2) (xs++[.slice ca t.length ccap]) (Zaw (ts.take (k+1)) []).2 (.slice na mt.length ncap) [] (.slice none 0 0) w2:=by
      have hch:=Hch.out
      have hmt:=Hmt.out
      rw [List.take_length] at hch hmt
      have hnx:Zaw (ts.take (k+1)) []=(rl++[ch],mt):=by
       rw [List.take_add_one,Ht.out]
       simp only [Option.toList]
       rw [Zno,← Hrl.out,← Hme.out]
       simp only [Zaw]
       rw [hch,hmt]
      rw [hnx]
      obtain ⟨q1,q2,q3,q4,q5,q6,q7⟩:=HB.out
      have hsz:=hap.kept.size
      have hx:WordAt wr (.slice ca t.length ccap) ch:=Zbd q7 (Qm _)
      have ht:TermsAt w2 w.heap.size (.slice a2 (k+1) c2) (rl++[ch]) (xs++[.slice ca t.length ccap]):=q2.snoc (by rw [Hlk.out]; exact hap) hx
      refine ⟨q1.trans (hap.kept.below q1.size (fun j hj=>(Hrow.out.lt j hj).1)),ht,ht.words,hap.kept.owns q4 (fun j hj hS => ?_),by omega,Qe _,World.ownsRow_nil _ _ _ _⟩
      obtain ⟨cur,hc⟩:=Zbu Hrow.out j hS
      exact Zag q4 (by decide) hc hj
     have Hfin:=Zac hfin
     clear hap hfin
     go_wp2
     go_roundg (ts.length - k)
     case measure=>omega
     case rel=>exact ⟨k+1,_,by go_num,by omega,by omega,Hfin.out⟩
  ·have hek:k=ts.length:=by omega
   subst hek
   go_wp2
   go_ret
   have hr:=Hrl.out
   rw [List.take_length] at hr
   obtain ⟨q1,q2,_⟩:=HA.out
   rw [hr] at q2
   exact ⟨q1,ra,rcap,rfl,q2.inn⟩
structure TxOk (ts:List (List Sym)):Prop where
 len:ts.length≤1000
 all:ts.flatten.length≤8000
 ok:∀ t ∈ ts,TmOk t
 sym:∀ t ∈ (Zaw ts []).1,Ybk t
 txt:∀ t ∈ (Zaw ts []).1,(Zbx t []).length≤1000000
def Zlg (ts:List (List Sym)):List (List UInt8):=(Zaw ts []).1.map (fun t=>Zbx t [])
def Ycf (ts:List (List Sym)) (w:World) (e:Ending) (w':World):Prop:=Ext w w'∧∃ x c,e = .returned (.slice x ts.length c)∧w'.ownsRow 0 9 1 (.slice x ts.length c) ts.length (strs (Zlg ts))
theorem Zzu (w:World) (tv:Value) (ts:List (List Sym)) (h:TermsIn w tv ts) (ho:TxOk ts):Calls Tryz.prog 53 #[tv] w (Ycf ts w):=by
 obtain ⟨ta,tcap,rfl⟩:=h.shape
 have HI:=Zac (Zse w _ ts h ho.len ho.all ho.ok)
 have Ho:=Zac ho
 have hl:=ho.len
 have hcl:(Zaw ts []).1.length=ts.length:=Zeu _ _
 obtain ⟨C,hC⟩:∃ C,C=(Zaw ts []).1:=⟨_,rfl⟩
 have Htx:Hid (Zlg ts=C.map (fun t=>Zbx t [])):=by show _=_; unfold Zlg; rw [hC]
 rw [← hC] at hcl
 have HC:=Zac hC
 have Hcl:=Zac hcl
 clear h ho hC hcl
 go_enter Tryz.func53,Tryz.ntmps53
 go_wp2_with fail
 refine HI.out.mono ?_
 rintro e w1 ⟨hE1,xa,xc,rfl,hT⟩
 rw [← HC.out] at hT
 obtain ⟨us,hT⟩:=hT
 have hz1:=hE1.size
 have HE1:=Zac hE1
 have HT:=Zac hT
 clear hE1 hT HI
 go_wp2
 go_loopg [3,9] (ts.length+1) (fun gk rv iv wr=>∃ (k:Nat),iv = .int .i64 k∧k≤ts.length∧ts.length - k<gk∧Ext w1 wr∧wr.ownsRow w1.heap.size 9 1 rv k (strs ((C.take k).map (fun t=>Zbx t []))))
 case atStart=>exact ⟨0,by go_num,Qm _,by omega,Below.refl _ _,World.ownsRow_nil _ _ _ _⟩
 case round =>
  obtain ⟨k,rfl,hk,hgk,hE,hown⟩:=hrel
  obtain ⟨ra,rcap,rfl⟩:=Zae hown
  have hsr:=hE.size
  have HE:=Zac hE
  have Hown:=Zac hown
  clear hE hown
  by_cases hlt:k<ts.length
  ·have hkC:k<C.length:=by rw [Hcl.out]; exact hlt
   obtain ⟨t,ht⟩:∃ t,C[k]?=some t:=⟨_,Qb hkC⟩
   obtain ⟨y,hy,hyo⟩:=HT.out.all _ t ht
   obtain ⟨ya,ycap,rfl⟩:=Zae hyo
   have hor:=HT.out.owns
   rw [Hcl.out] at hor
   obtain ⟨g,cap',cur,he,_,hgb,_⟩:=Zao hor (by omega)
   simp only [Value.slice.injEq] at he
   obtain ⟨rfl,_,rfl⟩:=he
   have hgw:=Zab hgb
   have hgr:g<wr.heap.size:=by omega
   have x0:wr.cell? ⟨g,k,none⟩=some (.slice ya t.length ycap):=(HE.out.cell (p:=⟨g,k,none⟩) hgw).trans (Zai hor _ _ hy)
   have htm:t ∈ (Zaw ts []).1:=by rw [← HC.out]; exact Qh ht
   have hso:=Ho.out.sym t htm
   have htx:=Ho.out.txt t htm
   have HA:=Zac (Zpa wr 0 (.slice ya t.length ycap) t (WordAt.ext hyo HE.out) hso.1 hso.2 (by omega))
   have hnx:C.take (k+1)=C.take k++[t]:=by rw [List.take_add_one,ht]; rfl
   obtain ⟨A,hA⟩:∃ A,A=Zbx t []:=⟨_,rfl⟩
   rw [← hA] at HA htx
   have HAA:=Zac hA
   have Hnx:=Zac hnx
   clear ht hy hyo hor hgb htm hso hnx hA
   go_wp2_with fail
   refine HA.out.mono ?_
   rintro e w2 ⟨rfl,hE2⟩
   have hz2:=hE2.size
   have HE2:Hid (Ext w1 w2):=HE.out.trans (hE2.mono hsr)
   have Hrow:Hid (w2.ownsRow w1.heap.size 9 1 (.slice ra k rcap) k (strs ((C.take k).map (fun t=>Zbx t [])))):=Zaj Hown.out (fun j hj=>hE2.block j (Hown.out.lt j hj).2)
   clear hE2 x0
   go_wp2_with (at_builtin; go_loud (refine Zal w2 rfl (.tmp 13) (.tmp 16) 35 rfl w1.heap.size 9 Tryz.infoStr Tryz.underlying35 rfl (by decide) (.slice ra k rcap) k (strs ((C.take k).map (fun t=>Zbx t []))) rfl Hrow.out #[.string ⟨A.toArray⟩] (N:=w2.heap.size) rfl (by simp) rfl (Zxh _) ?_ ?_ ?_))
   ·omega
   ·omega
   intro v3 w3 hap
   obtain ⟨a3,c3,rfl⟩:=Zae hap.owns
   have hE3:Ext w1 w3:=HE2.out.trans (hap.kept.below (by omega) (fun j hj=>(Hrow.out.lt j hj).1))
   have hrow3:w3.ownsRow w1.heap.size 9 1 (.slice a3 (k+1) c3) (k+1) (strs ((C.take (k+1)).map (fun t=>Zbx t []))):=by
    have:=hap.owns
    rw [Hnx.out,Qr]
    simp only [List.map_cons,List.map_nil,strs,Qr]
    rw [← HAA.out]
    rw [← List.map_take] at this
    exact this
   have HE3:=Zac hE3
   have Hrow3:=Zac hrow3
   clear hap hE3 hrow3
   go_wp2
   go_roundg (ts.length - k)
   case measure=>omega
   case rel=>exact ⟨k+1,by go_num,by omega,by omega,HE3.out,Hrow3.out⟩
  ·have hek:k=ts.length:=by omega
   subst hek
   go_wp2
   go_ret
   have hrow:=Hown.out
   rw [← Hcl.out,List.take_length] at hrow
   rw [← Htx.out,Hcl.out] at hrow
   exact ⟨HE1.out.trans (HE.out.mono hz1),ra,rcap,rfl,Zbd hrow (Qm _)⟩
theorem Zfr (w:World) (nv vv:Value) (names:Names) (ts:List (List Sym)) (hn:w.ownsRow 0 9 1 nv names.length (strs names)) (h:TermsIn w vv ts) (ho:TxOk ts) (hl:names.length=ts.length) (hL:(Zhl [] names (Zaw ts []).1).length≤100000000) :
  Calls Tryz.prog 39 #[nv,vv] w fun e w'=>Ext w w'∧e = .returned (.string ⟨(if names=[] then [121,101,115] else Zhl [] names (Zaw ts []).1).toArray⟩):=by
 obtain ⟨na,ncap,rfl⟩:=Zae hn
 obtain ⟨ta,tcap,rfl⟩:=h.shape
 by_cases h0:names=[]
 ·subst h0
  clear hn h ho hl hL
  go_enter Tryz.func39,Tryz.ntmps39
  go_wp2
  go_ret
  exact ⟨Below.refl _ _,by simp⟩
 ·have hpos:0<names.length:=List.length_pos_iff.2 h0
  rw [if_neg h0]
  have HI:=Zac (Zzu w _ ts h ho)
  have hcl:(Zaw ts []).1.length=ts.length:=Zeu _ _
  have hlen:=ho.len
  obtain ⟨C,hC⟩:∃ C,C=(Zaw ts []).1:=⟨_,rfl⟩
  have Htx:Hid (Zlg ts=C.map (fun t=>Zbx t [])):=by show _=_; unfold Zlg; rw [hC]
  rw [← hC] at hcl hL ⊢
  obtain ⟨F,hF⟩:∃ F,F=Zhl [] names C:=⟨_,rfl⟩
  rw [← hF] at hL ⊢
  have HF:=Zac hF
  have Hn:=Zac hn
  have Hcl:=Zac hcl
  have z1:((names.length:Int) == 0)=false:=by rw [Qu]; omega
  have Hl:=Zac hl
  obtain ⟨N,hN⟩:∃ N,N=names.length:=⟨_,rfl⟩
  rw [← hN] at z1 hpos ⊢
  have hNl:N≤1000:=by omega
  have htN:ts.length=N:=by omega
  rw [htN]
  have HN:=Zac hN
  have HtN:=Zac htN
  rw [htN] at HI
  clear hn h ho hC hF hcl hl h0 hN htN
  go_enter Tryz.func39,Tryz.ntmps39
  go_wp2_with fail
  refine HI.out.mono ?_
  rintro e w1 ⟨hE1,xa,xc,rfl,hT⟩
  rw [HtN.out] at hT ⊢
  rw [Htx.out] at hT
  have hz1:=hE1.size
  have HE1:=Zac hE1
  have HT:=Zac hT
  clear hE1 hT HI
  go_wp2
  go_loopg [5,14] (N+1) (fun gk tx iv wr=>∃ (k:Nat) (acc:List UInt8),iv = .int .i64 k∧k≤N∧N - k<gk∧tx = .string ⟨acc.toArray⟩∧acc++Zhl (if k=0 then [] else [44]) (names.drop k) (C.drop k)=F∧wr=w1)
  case atStart=>exact ⟨0,[],by go_num,Qm _,by omega,rfl,by rw [HF.out]; rfl,rfl⟩
  case round =>
   obtain ⟨k,acc,rfl,hk,hgk,rfl,hacc,rfl⟩:=hrel
   by_cases hlt:k<N
   ·have hkn:k<names.length:=by rw [← HN.out]; exact hlt
    have hkC:k<C.length:=by rw [Hcl.out,HtN.out]; exact hlt
    obtain ⟨x,hx⟩:∃ x,names[k]?=some x:=⟨_,Qb hkn⟩
    obtain ⟨t,ht⟩:∃ t,C[k]?=some t:=⟨_,Qb hkC⟩
    have hdx:names.drop k=x::names.drop (k+1):=by rw [List.drop_eq_getElem_cons hkn,(Qa.1 hx).2]
    have hdt:C.drop k=t::C.drop (k+1):=by rw [List.drop_eq_getElem_cons hkC,(Qa.1 ht).2]
    rw [hdx,hdt,Zhl] at hacc
    have hor:w.ownsRow 0 9 1 (.slice na N ncap) N (strs names):=by have:=Hn.out; rw [← HN.out] at this; exact this
    obtain ⟨g,cap',cur,he,_,hgb,_⟩:=Zao hor (by omega)
    simp only [Value.slice.injEq] at he
    obtain ⟨rfl,_,rfl⟩:=he
    have hgw:=Zab hgb
    have hgr:g<wr.heap.size:=by omega
    have x0:wr.cell? ⟨g,k,none⟩=some (.string ⟨x.toArray⟩):=(HE1.out.cell (p:=⟨g,k,none⟩) hgw).trans (Zai hor _ _ (by simp [strs,hx]))
    obtain ⟨g2,cap2,cur2,he2,_,hgb2,_⟩:=Zao HT.out (by omega)
    simp only [Value.slice.injEq] at he2
    obtain ⟨rfl,_,rfl⟩:=he2
    have hgr2:=Zab hgb2
    obtain ⟨A,hA⟩:∃ A,A=Zbx t []:=⟨_,rfl⟩
    have y0:wr.cell? ⟨g2,k,none⟩=some (.string ⟨A.toArray⟩):=Zai HT.out _ _ (by simp [strs,ht,hA])
    rw [← hA] at hacc
    have hlen2:=Zre hacc
    simp only [Qg,Qf] at hlen2
    have Hacc:=Zac hacc
    have hkN:¬ ((N:Int)≤(k:Int)):=by omega
    clear hacc hdx hdt hx ht hor hgb hgb2 hA
    by_cases hk0:k=0
    ·subst hk0
     have Hacc2:Hid (acc++(x++[61]++A)++Zhl [44] (names.drop (0+1)) (C.drop (0+1))=F):=by show _=_; rw [← Hacc.out]; simp
     simp only [if_pos,Jt] at hlen2
     go_wp2
     go_roundg (N - 0)
     case measure=>omega
     case rel =>
      refine ⟨0+1,acc++(x++[61]++A),by go_num,by omega,by omega,?_,Hacc2.out,rfl⟩
      show Value.string (_++(_++(⟨[61].toArray⟩:ByteArray)++_))=_
      rw [Zbg,Zbg,Zbg]
    ·have Hacc2:Hid (acc++[44]++(x++[61]++A)++Zhl [44] (names.drop (k+1)) (C.drop (k+1))=F):=by show _=_; rw [← Hacc.out,if_neg hk0]; simp
     rw [if_neg hk0] at hlen2
     simp only [Qf,Jt] at hlen2
     have hk1:(0:Int)<(k:Int):=by omega
     go_wp2
     go_roundg (N - k)
     case measure=>omega
     case rel =>
      refine ⟨k+1,acc++[44]++(x++[61]++A),by go_num,by omega,by omega,?_,by rw [if_neg (by omega)]; exact Hacc2.out,rfl⟩
      show Value.string (_++(⟨[44].toArray⟩:ByteArray)++(_++(⟨[61].toArray⟩:ByteArray)++_))=_
      rw [Zbg,Zbg,Zbg,Zbg]
   ·have hek:k=N:=by omega
    subst hek
    have Hacc:Hid (acc=F):=by
     show _=_
     rw [List.drop_eq_nil_of_le (by rw [← HN.out]; exact Qe _)] at hacc
     simpa [Zhl] using hacc
    clear hacc
    go_wp2
    go_ret
    rw [← Hacc.out]
    exact ⟨HE1.out,rfl⟩
structure HeldC (p q x:ByteArray) (a:List (List Sym) × Names) (ks:List Nat) (n m:ND):Prop where
 ask:Zdt q=some a
 held:Zdx p q x=(a.2,m,0,0)
 ok:NOk n
 nm:NNm n
 few:NFew n
 same:Same n m
 fol:∃ cs,Zcl p=some cs∧Zas cs (topN a) ks 0=(m,0,0)
def Zcr:Value := .agg #[.slice none 0 0,.slice none 0 0,.slice none 0 0,.slice none 0 0,.int .i64 0,.slice none 0 0,.slice none 0 0]
def Ztt (p q x:ByteArray) (w:World) (e:Ending) (w':World):Prop:=Ext w w' ∧
 (((Zdx p q x).2.2.1≠0∧e = .returned (.tuple #[Zcr,.agg #[.int .i64 (Zdx p q x).2.2.1,.int .i64 (Zdx p q x).2.2.2]])) ∨
  (∃ a ks n m,HeldC p q x a ks n m∧∃ n1 nc g1 g2 g3 v1 v2 v3 r1 r2 r3,∃ uu:Nat,∃ k1 kc d1 dc,e = .returned (.tuple #[.agg #[.slice n1 a.2.length nc,.slice g1 g2 g3,.slice v1 v2 v3,.slice r1 r2 r3,.int .i64 uu,.slice k1 ks.length kc,.slice d1 (m.done.map (·.2)).length dc],.agg #[.int .i64 0,.int .i64 0]]) ∧
   NodeIn w' (.slice g1 g2 g3) (.slice v1 v2 v3) (.slice r1 r2 r3) n∧w'.ownsRow 0 9 1 (.slice n1 a.2.length nc) a.2.length (strs a.2)∧w'.ownsRow 0 3 1 (.slice k1 ks.length kc) ks.length (ints ks)∧w'.ownsRow 0 3 1 (.slice d1 (m.done.map (·.2)).length dc) (m.done.map (·.2)).length (ints (m.done.map (·.2)))))
theorem Zwh (p q x:ByteArray) (w:World) (hp:p.size≤maxLen) (hq:q.size≤maxLen) (hx:x.size≤maxLen):Calls Tryz.prog 23 #[.string p,.string q,.string x] w (Ztt p q x w):=by
 have HBo:=Zac (fun u=>Zle p q u hp hq)
 have HNu:=Zac (fun u=>Ycc x u hx)
 clear hp hq hx
 obtain ⟨W,hW⟩:∃ W,W=(w.alloc (.cells #[.slice none 0 0,.slice none 0 0,.slice none 0 0,.slice none 0 0,.int .i64 0,.slice none 0 0,.slice none 0 0] 67)).alloc (.cells #[.int .i64 0,.int .i64 0] 60):=⟨_,rfl⟩
 have hE0:Ext w W:=by rw [hW]; exact (Ext.of (by repeat' (first | with_reducible(first|exact Qx _ _|apply Kept.drew|apply Kept.drewN|apply Qz|refine Qy ?_ ?_ _)|exact fun h=>absurd h (by simp <;> omega))))
 have hWs:W.heap.size=w.heap.size+2:=by rw [hW]; simp
 have hb0:W.heap[w.heap.size]?=some (.cells #[.slice none 0 0,.slice none 0 0,.slice none 0 0,.slice none 0 0,.int .i64 0,.slice none 0 0,.slice none 0 0] 67 (0,0)):=by rw [hW]; exact Zaq (heap_alloc_new w _) _
 have hb1:W.heap[w.heap.size+1]?=some (.cells #[.int .i64 0,.int .i64 0] 60 (0,0)):=by rw [hW]; exact Zcw (by simp) _
 have HB:Hid (∀ y,Ext W y→y.cell? ⟨w.heap.size,0,none⟩=some (.slice none 0 0)∧y.cell? ⟨w.heap.size,1,none⟩=some (.slice none 0 0)∧y.cell? ⟨w.heap.size,2,none⟩=some (.slice none 0 0)∧y.cell? ⟨w.heap.size,3,none⟩=some (.slice none 0 0)∧y.cell? ⟨w.heap.size,4,none⟩=some (.int .i64 0)∧y.cell? ⟨w.heap.size,5,none⟩=some (.slice none 0 0)∧y.cell? ⟨w.heap.size,6,none⟩=some (.slice none 0 0)∧(∀ i,y.frozen? ⟨w.heap.size,i,none⟩=false) ∧
   y.cell? ⟨w.heap.size+1,0,none⟩=some (.int .i64 0)∧y.cell? ⟨w.heap.size+1,1,none⟩=some (.int .i64 0)∧(∀ i,y.frozen? ⟨w.heap.size+1,i,none⟩=false)∧w.heap.size<y.heap.size∧w.heap.size+1<y.heap.size):=fun y hE=>by
  have e0:=(hE.block _ (Zab hb0)).trans hb0
  have e1:=(hE.block _ (Zab hb1)).trans hb1
  exact ⟨Zaa e0 0 _ rfl,Zaa e0 1 _ rfl,Zaa e0 2 _ rfl,Zaa e0 3 _ rfl,Zaa e0 4 _ rfl,Zaa e0 5 _ rfl,Zaa e0 6 _ rfl,fun i=>Zad e0 i,Zaa e1 0 _ rfl,Zaa e1 1 _ rfl,fun i=>Zad e1 i,Zab e0,Zab e1⟩
 have Hb0:=Zac hb0
 have Hb1:=Zac hb1
 have HE0:=Zac hE0
 clear hb0 hb1 hE0
 go_enter Tryz.func23,Tryz.ntmps23
 go_wp2_with fail
 rw [← hW]
 have HW:=Zac hW
 clear hW
 refine (HBo.out W).mono ?_
 rintro e w1 ⟨hE1,hout⟩
 obtain ⟨p0,p1,p2,p3,p4,p5,p6,pf,f0,f1,ff,pl,fl⟩:=HB.out w1 hE1
 have hz1:=hE1.size
 have hEw1:Ext w w1:=HE0.out.trans (hE1.mono (by omega))
 have HE1:=Zac hE1
 have HEw1:=Zac hEw1
 clear hE1 hEw1
 rcases hout with ⟨hno,rfl⟩ | ⟨⟨cs,hcs⟩,hno,rfl⟩ | ⟨cs,a,l1,lc,xs,h1,h2,h3,b1,bc,n1,nc,hcs,hask,rfl,hP,hA,hN⟩
 ·have Hh:Hid ((Zdx p q x).2.2=(4,0)):=by show _=_; simp [Zdx,hno]
  clear hno
  go_wp2
  refine bodyPost_ret (v := .tuple #[Zcr,.agg #[.int .i64 4,.int .i64 0]]) (by simp [results,Tryz.results23,go_sem,Zcr,p0,p1,p2,p3,p4,p5,p6,pf,f0,f1,ff,pl,fl]) rfl ?_
  exact ⟨HEw1.out.trans (Kept.below (S:=fun i=>w.heap.size≤i) (by repeat' (first | with_reducible(first|exact Qx _ _|apply Kept.drew|apply Kept.drewN|apply Qz|refine Qy ?_ ?_ _)|(intro _; simp only; omega))) (by omega) (fun i e=>e)),Or.inl (by rw [Hh.out]; exact ⟨by simp,rfl⟩)⟩
 ·have Hh:Hid ((Zdx p q x).2.2=(5,0)):=by show _=_; simp [Zdx,hcs,hno]
  clear hno hcs
  go_wp2
  refine bodyPost_ret (v := .tuple #[Zcr,.agg #[.int .i64 5,.int .i64 0]]) (by simp [results,Tryz.results23,go_sem,Zcr,p0,p1,p2,p3,p4,p5,p6,pf,f0,f1,ff,pl,fl]) rfl ?_
  exact ⟨HEw1.out.trans (Kept.below (S:=fun i=>w.heap.size≤i) (by repeat' (first | with_reducible(first|exact Qx _ _|apply Kept.drew|apply Kept.drewN|apply Qz|refine Qy ?_ ?_ _)|(intro _; simp only; omega))) (by omega) (fun i e=>e)),Or.inl (by rw [Hh.out]; exact ⟨by simp,rfl⟩)⟩
 ·obtain ⟨_,_,_,hNO,hNN,hal,_,han,_⟩:=Zcm hask
  obtain ⟨_,_,_,hCO,hcl⟩:=Zcp hcs
  have Hhe:Hid (Zdx p q x=if 400<x.size then ([],⟨[],[],[],[],0⟩,1,0) else match Zcv x with
   | (none,at')=>([],⟨[],[],[],[],0⟩,6,at')
   | (some ks,_)=>(a.2,Zas cs (topN a) ks 0)):=by show _=_; unfold Zdx; rw [hcs,hask]; rfl
  have HP:=Zac hP
  have HA:=Zac hA
  have HN:=Zac hN
  have HNO:=Zac hNO
  have HNN:=Zac hNN
  have HNF:=Zac (Zsb hask)
  have HCF:=Zac (Zoa hcs)
  have HCO:Hid (∀ c ∈ cs,COk c∧CNm c):=hCO
  have Hask:=Zac hask
  have Hcs:=Zac hcs
  clear hP hA hN hNO hNN hCO hask hcs
  go_wp2_with fail
  refine (HNu.out _).mono ?_
  rintro e w2 ⟨hE2,hout⟩
  have hz2:=hE2.size
  have hz2:w1.heap.size+1≤w2.heap.size:=by simpa using hz2
  have hE12:Ext w1 w2:=(Below.refl _ w1 |>.alloc (Qe _) _).trans (hE2.mono (by simp))
  have hcb:w2.heap[w1.heap.size]?=some (.cells #[.slice h1 h2 h3,.slice b1 a.1.length bc,.slice n1 a.2.length nc] 74 (0,0)):=(hE2.block _ (by simp)).trans (heap_alloc_new w1 _)
  have hEw2:Ext w w2:=HEw1.out.trans (hE12.mono (by omega))
  obtain ⟨p0,p1,p2,p3,p4,p5,p6,pf,f0,f1,ff,pl,fl⟩:=HB.out w2 (HE1.out.trans (hE12.mono (by omega)))
  have q0:=Zaa hcb 0 _ rfl
  have q1:=Zaa hcb 1 _ rfl
  have q2:=Zaa hcb 2 _ rfl
  have ql:=Zab hcb
  have HE12:=Zac hE12
  have HEw2:=Zac hEw2
  clear hE2 hE12 hEw2 hcb
  rcases hout with ⟨hbig,rfl⟩ | ⟨hsm,⟨ks,ka,kc,hnum,rfl,hks,hkl,hk9⟩ | ⟨pp,hnum,rfl⟩⟩
  ·have Hh:Hid ((Zdx p q x).2.2=(1,0)):=by show _=_; rw [Hhe.out,if_pos hbig]
   clear hbig
   go_wp2_with fail
   go_region
   all_goals
    go_wp2
    refine bodyPost_ret (v := .tuple #[Zcr,.agg #[.int .i64 1,.int .i64 0]]) (by simp [results,Tryz.results23,go_sem,Zcr,p0,p1,p2,p3,p4,p5,p6,pf,f0,f1,ff,pl,fl]) rfl ?_
    exact ⟨HEw2.out.trans (Kept.below (S:=fun i=>w.heap.size≤i) (by repeat' (first | with_reducible(first|exact Qx _ _|apply Kept.drew|apply Kept.drewN|apply Qz|refine Qy ?_ ?_ _)|(intro _; simp only; omega))) (by omega) (fun i e=>e)),Or.inl (by rw [Hh.out]; exact ⟨by simp,rfl⟩)⟩
  ·have Hh0:Hid (Zdx p q x=(a.2,Zas cs (topN a) ks 0)):=by show _=_; rw [Hhe.out,if_neg (by omega),hnum]
   have hP2:=HP.out.ext HE12.out
   have hA2:=HA.out.ext HE12.out
   have hN2:=Zaj HN.out (fun j hj=>HE12.out.block j (HN.out.lt j hj).2)
   have HFo:Hid (∀ o,Calls Tryz.prog 37 #[.slice l1 cs.length lc,.agg #[.slice h1 h2 h3,.slice b1 a.1.length bc,.slice n1 a.2.length nc],.slice ka ks.length kc] (w2.alloc o) (Zhg cs a ks (w2.alloc o))):=fun o=>by
    have hE:Ext w2 (w2.alloc o):=(Ext.of (by repeat' (first | with_reducible(first|exact Qx _ _|apply Kept.drew|apply Kept.drewN|apply Qz|refine Qy ?_ ?_ _)|exact fun h=>absurd h (by simp <;> omega))))
    exact Zsc _ _ _ _ _ _ cs xs a ks (hP2.ext hE) ⟨_,_,_,rfl⟩ (hA2.ext hE) (Zaj hN2 (fun j hj=>hE.block j (hN2.lt j hj).2)) (Zaj hks (fun j hj=>hE.block j (hks.lt j hj).2)) HCO.out HCF.out hcl HNO.out HNN.out HNF.out hal han hkl hk9
   have HDp:Hid ((Zas cs (topN a) ks 0).2=(0,0)→∀ y,Ext w2 y→Calls Tryz.prog 38 #[.slice l1 cs.length lc,.agg #[.slice h1 h2 h3,.slice b1 a.1.length bc,.slice n1 a.2.length nc],.slice ka ks.length kc] y (Ydo ((Zas cs (topN a) ks 0).1.done.map (·.2)) y)):=fun hf y hE =>
    Zqe y _ _ _ _ _ cs xs a ks (hP2.ext hE) ⟨_,_,_,rfl⟩ (hA2.ext hE) (Zaj hN2 (fun j hj=>hE.block j (hN2.lt j hj).2)) (Zaj hks (fun j hj=>hE.block j (hks.lt j hj).2)) (fun c hc=>(HCO.out c hc).1) hcl hal hkl hk9 hf
   have HN2:=Zac hN2
   have Hks:=Zac hks
   clear hP2 hA2 hN2 hks hk9 hnum
   go_wp2_with fail
   refine (HFo.out _).mono ?_
   rintro e w3 ⟨hE3,hout⟩
   have hz3:=hE3.size
   have hz3:w2.heap.size+1≤w3.heap.size:=by simpa using hz3
   have hE23:Ext w2 w3:=(Below.refl _ w2 |>.alloc (Qe _) _).trans (hE3.mono (by simp))
   have hfb:w3.heap[w2.heap.size]?=some (.cells #[.int .i64 0,.int .i64 0] 60 (0,0)):=(hE3.block _ (by simp)).trans (heap_alloc_new w2 _)
   have hEw3:Ext w w3:=HEw2.out.trans (hE23.mono (by omega))
   obtain ⟨p0,p1,p2,p3,p4,p5,p6,pf,f0,f1,ff,pl,fl⟩:=HB.out w3 (HE1.out.trans ((HE12.out.mono (by omega)).trans (hE23.mono (by omega))))
   have t0:=Zaa hfb 0 _ rfl
   have t1:=Zaa hfb 1 _ rfl
   have tf:=fun i=>Zad hfb i
   have tl:=Zab hfb
   have q0:w3.cell? ⟨w1.heap.size,0,none⟩=some (.slice h1 h2 h3):=(hE23.cell (p:=⟨w1.heap.size,0,none⟩) ql).trans q0
   have q1:w3.cell? ⟨w1.heap.size,1,none⟩=some (.slice b1 a.1.length bc):=(hE23.cell (p:=⟨w1.heap.size,1,none⟩) ql).trans q1
   have q2:w3.cell? ⟨w1.heap.size,2,none⟩=some (.slice n1 a.2.length nc):=(hE23.cell (p:=⟨w1.heap.size,2,none⟩) ql).trans q2
   have ql3:w1.heap.size<w3.heap.size:=by omega
   have HE23:=Zac hE23
   have HEw3:=Zac hEw3
   have Hfb:=Zac hfb
   clear hE3 hE23 hEw3 hfb HFo
   rcases hout with ⟨hne,rfl⟩ | ⟨hz,g1,g2,g3,v1,v2,v3,r1,r2,r3,uu,n,rfl,hNd,hok,hnm,hfw,hsame⟩
   ·obtain ⟨er,her⟩:∃ r,r=(Zas cs (topN a) ks 0).2.1:=⟨_,rfl⟩
    obtain ⟨pe,hpe⟩:∃ r,r=(Zas cs (topN a) ks 0).2.2:=⟨_,rfl⟩
    rw [← her,← hpe]
    rw [← her] at hne
    have Hh:Hid ((Zdx p q x).2.2.1=er∧(Zdx p q x).2.2.2=pe):=by show _∧_; rw [Hh0.out]; exact ⟨her.symm,hpe.symm⟩
    have hb:((er:Int) != 0)=true:=by rw [bne_iff_ne]; omega
    have Hne:=Zac hne
    clear her hpe hne
    go_wp2_with fail
    go_region
    all_goals
     go_wp2
     refine bodyPost_ret (v := .tuple #[Zcr,.agg #[.int .i64 er,.int .i64 pe]]) (by simp [results,Tryz.results23,go_sem,Zcr,p0,p1,p2,p3,p4,p5,p6,pf,f0,f1,ff,pl,fl]) rfl ?_
     exact ⟨HEw3.out.trans (Kept.below (S:=fun i=>w.heap.size≤i) (by repeat' (first | with_reducible(first|exact Qx _ _|apply Kept.drew|apply Kept.drewN|apply Qz|refine Qy ?_ ?_ _)|(intro _; simp only; omega))) (by omega) (fun i e=>e)),Or.inl (by rw [Hh.out.1,Hh.out.2]; exact ⟨Hne.out,rfl⟩)⟩
   ·have HNd:=Zac hNd
    have Hok:=Zac hok
    have Hnm:=Zac hnm
    have Hfw:=Zac hfw
    have Hsame:=Zac hsame
    have Hz:=Zac hz
    have HDp2:=Zac (HDp.out hz)
    clear hNd hok hnm hfw hsame hz HDp
    go_wp2_with fail
    refine (HDp2.out _ (HE23.out.trans (Kept.below (S:=fun i=>w2.heap.size≤i) (by repeat' (first | with_reducible(first|exact Qx _ _|apply Kept.drew|apply Kept.drewN|apply Qz|refine Qy ?_ ?_ _)|(intro _; simp only; omega))) (by omega) (fun i e=>e)))).mono ?_
    rintro e w4 ⟨hE4,da,dc,rfl,hds⟩
    obtain ⟨M,hM⟩:∃ M,M=(Zas cs (topN a) ks 0).1:=⟨_,rfl⟩
    rw [← hM] at hds ⊢
    have hfo:Zas cs (topN a) ks 0=(M,0,0):=by rw [hM,← Hz.out]
    have hsm2:Same n M:=by rw [hM]; exact Hsame.out
    have hz4:=hE4.size
    simp at hz4
    have hE24:Ext w2 w4:=(HE23.out.trans (Kept.below (S:=fun i=>w2.heap.size≤i) (by repeat' (first | with_reducible(first|exact Qx _ _|apply Kept.drew|apply Kept.drewN|apply Qz|refine Qy ?_ ?_ _)|(intro _; simp only; omega))) (by omega) (fun i e=>e))).trans (hE4.mono (by simp; omega))
    have hK3:Kept (fun j=>j=w2.heap.size) w3 ((w3.setCell ⟨w2.heap.size,0,none⟩ (.int .i64 0)).setCell ⟨w2.heap.size,1,none⟩ (.int .i64 0)):=((Qx (only w2.heap.size) w3).put 0 _).put 1 _
    have hT4:∀ {v:Value} {ls:List (List Sym)},TermsIn w3 v ls→TermsIn w4 v ls:=fun {v ls} h=>((h.box Hfb.out (by decide) (by decide) hK3).ext ((Ext.of (by repeat' (first | with_reducible(first|exact Qx _ _|apply Kept.drew|apply Kept.drewN|apply Qz|refine Qy ?_ ?_ _)|exact fun h=>absurd h (by simp <;> omega)))):Ext _ (((w3.setCell ⟨w2.heap.size,0,none⟩ (.int .i64 0)).setCell ⟨w2.heap.size,1,none⟩ (.int .i64 0)).alloc (.cells #[.slice g1 g2 g3,.slice v1 v2 v3,.slice r1 r2 r3,.int .i64 uu] 65)))).ext hE4
    have hnb:w4.heap[w3.heap.size]?=some (.cells #[.slice g1 g2 g3,.slice v1 v2 v3,.slice r1 r2 r3,.int .i64 uu] 65 (0,0)):=(hE4.block _ (by simp)).trans (Zcw (by simp) _)
    have hEw4:Ext w w4:=HEw2.out.trans (hE24.mono (by omega))
    have hEW4:Ext W w4:=HE1.out.trans ((HE12.out.mono (by omega)).trans (hE24.mono (by omega)))
    obtain ⟨p0,p1,p2,p3,p4,p5,p6,pf,f0,f1,ff,pl,fl⟩:=HB.out w4 hEW4
    have hpb:=(hEW4.block _ (Zab Hb0.out)).trans Hb0.out
    have hfb2:=(hEW4.block _ (Zab Hb1.out)).trans Hb1.out
    have u0:=Zaa hnb 0 _ rfl
    have u1:=Zaa hnb 1 _ rfl
    have u2:=Zaa hnb 2 _ rfl
    have u3:=Zaa hnb 3 _ rfl
    have ul:=Zab hnb
    have q2:w4.cell? ⟨w1.heap.size,2,none⟩=some (.slice n1 a.2.length nc):=(hE24.cell (p:=⟨w1.heap.size,2,none⟩) ql).trans ((HE23.out.cell (p:=⟨w1.heap.size,2,none⟩) ql).symm.trans q2)
    have ql4:w1.heap.size<w4.heap.size:=by omega
    have hN4:=Zaj HN2.out (fun j hj=>hE24.block j (HN2.out.lt j hj).2)
    have hk4:=Zaj Hks.out (fun j hj=>hE24.block j (Hks.out.lt j hj).2)
    obtain ⟨D,hDe⟩:∃ D,D=M.done.map (·.2):=⟨_,rfl⟩
    rw [← hDe] at hds ⊢
    have hKp:∀ x0 x1 x2 x3 x4 x5 x6,Kept (fun j=>j=w.heap.size) w4 (((((((w4.setCell ⟨w.heap.size,0,none⟩ x0).setCell ⟨w.heap.size,1,none⟩ x1).setCell ⟨w.heap.size,2,none⟩ x2).setCell ⟨w.heap.size,3,none⟩ x3).setCell ⟨w.heap.size,4,none⟩ x4).setCell ⟨w.heap.size,5,none⟩ x5).setCell ⟨w.heap.size,6,none⟩ x6):=fun x0 x1 x2 x3 x4 x5 x6=>(((((((Qx (only w.heap.size) w4).put 0 _).put 1 _).put 2 _).put 3 _).put 4 _).put 5 _).put 6 _
    have hKf:∀ (y:World) z0 z1,Kept (fun j=>j=w.heap.size+1) y ((y.setCell ⟨w.heap.size+1,0,none⟩ z0).setCell ⟨w.heap.size+1,1,none⟩ z1):=fun y z0 z1=>((Qx (only (w.heap.size+1)) y).put 0 _).put 1 _
    have hout:∀ x0 x1 x2 x3 x4 x5 x6 z0 z1,Ztt p q x w (.returned (.tuple #[.agg #[.slice n1 a.2.length nc,.slice g1 g2 g3,.slice v1 v2 v3,.slice r1 r2 r3,.int .i64 uu,.slice ka ks.length kc,.slice da D.length dc],.agg #[.int .i64 0,.int .i64 0]])) (((((((((w4.setCell ⟨w.heap.size,0,none⟩ x0).setCell ⟨w.heap.size,1,none⟩ x1).setCell ⟨w.heap.size,2,none⟩ x2).setCell ⟨w.heap.size,3,none⟩ x3).setCell ⟨w.heap.size,4,none⟩ x4).setCell ⟨w.heap.size,5,none⟩ x5).setCell ⟨w.heap.size,6,none⟩ x6).setCell ⟨w.heap.size+1,0,none⟩ z0).setCell ⟨w.heap.size+1,1,none⟩ z1):=fun x0 x1 x2 x3 x4 x5 x6 z0 z1=>by
     have hf5:=((hKp x0 x1 x2 x3 x4 x5 x6).block _ fl (by simp)).trans hfb2
     have hT:∀ {v:Value} {ls:List (List Sym)},TermsIn w3 v ls→TermsIn (((((((((w4.setCell ⟨w.heap.size,0,none⟩ x0).setCell ⟨w.heap.size,1,none⟩ x1).setCell ⟨w.heap.size,2,none⟩ x2).setCell ⟨w.heap.size,3,none⟩ x3).setCell ⟨w.heap.size,4,none⟩ x4).setCell ⟨w.heap.size,5,none⟩ x5).setCell ⟨w.heap.size,6,none⟩ x6).setCell ⟨w.heap.size+1,0,none⟩ z0).setCell ⟨w.heap.size+1,1,none⟩ z1) v ls:=fun {v ls} h =>
      ((hT4 h).box hpb (by decide) (by decide) (hKp x0 x1 x2 x3 x4 x5 x6)).box hf5 (by decide) (by decide) (hKf _ z0 z1)
     refine ⟨hEw4.trans (Kept.below (S:=fun i=>w.heap.size≤i) (by repeat' (first | with_reducible(first|exact Qx _ _|apply Kept.drew|apply Kept.drewN|apply Qz|refine Qy ?_ ?_ _)|(intro _; simp only; omega))) (by omega) (fun i e=>e)),Or.inr ⟨a,ks,n,M,⟨Hask.out,by rw [Hh0.out,hfo],Hok.out,Hnm.out,Hfw.out,hsm2,cs,Hcs.out,hfo⟩,n1,nc,g1,g2,g3,v1,v2,v3,r1,r2,r3,uu,ka,kc,da,dc,by rw [← hDe],⟨hT HNd.out.goals,hT HNd.out.vals,hT HNd.out.done⟩,?_,?_,?_⟩⟩
     ·exact Zch (Zch hN4 hpb (by decide) (hKp x0 x1 x2 x3 x4 x5 x6)) hf5 (by decide) (hKf _ z0 z1)
     ·exact Zch (Zch hk4 hpb (by decide) (hKp x0 x1 x2 x3 x4 x5 x6)) hf5 (by decide) (hKf _ z0 z1)
     ·rw [← hDe]; exact Zch (Zch hds hpb (by decide) (hKp x0 x1 x2 x3 x4 x5 x6)) hf5 (by decide) (hKf _ z0 z1)
    have Hout:=Zac hout
    clear hout hKp hKf hT4 hN4 hk4 hds hE24 hK3 hnb hEw4 hEW4 hpb hfb2 hfo hsm2 hE4 hM hDe HDp2
    go_wp2
    refine bodyPost_ret (v := .tuple #[.agg #[.slice n1 a.2.length nc,.slice g1 g2 g3,.slice v1 v2 v3,.slice r1 r2 r3,.int .i64 uu,.slice ka ks.length kc,.slice da D.length dc],.agg #[.int .i64 0,.int .i64 0]]) (by simp [results,Tryz.results23,go_sem,p0,p1,p2,p3,p4,p5,p6,pf,f0,f1,ff,pl,fl]) rfl ?_
    exact Hout.out _ _ _ _ _ _ _ _ _
  ·have Hh:Hid ((Zdx p q x).2.2=(6,pp)):=by show _=_; rw [Hhe.out,if_neg (by omega),hnum]
   clear hnum
   go_wp2_with fail
   go_region
   all_goals
    go_wp2
    refine bodyPost_ret (v := .tuple #[Zcr,.agg #[.int .i64 6,.int .i64 pp]]) (by simp [results,Tryz.results23,go_sem,Zcr,p0,p1,p2,p3,p4,p5,p6,pf,f0,f1,ff,pl,fl]) rfl ?_
    exact ⟨HEw2.out.trans (Kept.below (S:=fun i=>w.heap.size≤i) (by repeat' (first | with_reducible(first|exact Qx _ _|apply Kept.drew|apply Kept.drewN|apply Qz|refine Qy ?_ ?_ _)|(intro _; simp only; omega))) (by omega) (fun i e=>e)),Or.inl (by rw [Hh.out]; exact ⟨by simp,rfl⟩)⟩
theorem Zzv {p:List Tok→Names→Option (List Sym × List Tok × Names)} (hp:∀ ts names r,p ts names=some r→2 * r.1.length+r.2.1.length≤ts.length+1) :
  ∀ (g:Nat) (ts:List Tok) (names:Names) (acc:List (List Sym)) r,Zfg p g ts names acc=some r→2 * r.1.flatten.length+r.2.1.length+1≤2 * acc.flatten.length+ts.length:=by
 intro g
 induction g with
 | zero=>intro ts names acc r h; simp [Zfg] at h
 | succ g ih =>
  intro ts names acc r h
  cases ts with
  | nil=>simp [Zfg] at h
  | cons t ts =>
   rw [Zfg] at h
   split at h
   ·simp at h; subst h
    simp only [Qf]; omega
   ·split at h
    ·simp at h
    ·rename_i q hq
     have h1:=hp _ _ _ hq
     have h4:=ih _ _ _ _ h
     simp only [List.flatten_append,List.flatten_cons,List.flatten_nil,Qs,Qg,Qf] at h4 ⊢
     omega
theorem Zzw:∀ (f:Nat) (ts:List Tok) (names:Names) r,Zdn f ts names=some r→2 * r.1.length+r.2.1.length≤ts.length+1:=by
 intro f
 induction f with
 | zero=>intro ts names r h; simp [Zdn] at h
 | succ f ih =>
  intro ts names r h
  cases ts with
  | nil=>simp [Zdn] at h
  | cons t ts =>
   rw [Zdn] at h
   split at h
   ·simp at h; subst h
    simp only [Qf,Jt]; omega
   ·cases ts with
    | nil=>simp [Zlu] at h
    | cons u us =>
     rw [Zlu] at h
     split at h
     ·simp at h; subst h
      simp only [Qf,Jt]; omega
     ·rw [Option.map_eq_some_iff] at h
      obtain ⟨q,hq,rfl⟩:=h
      have h1:=Zzv ih _ _ _ _ _ hq
      simp only [List.flatten_nil,Jt,Qf] at h1 ⊢
      omega
theorem Zwi {f:Nat}:∀ (g:Nat) (ts:List Tok) (names:Names) (acc:List (List Sym)) r,Zdr f g ts names acc=some r→2 * r.1.flatten.length+r.2.1.length≤2 * acc.flatten.length+ts.length:=by
 intro g
 induction g with
 | zero=>intro ts names acc r h; simp [Zdr] at h
 | succ g ih =>
  intro ts names acc r h
  rw [Zdr] at h
  split at h
  ·simp at h
  ·rename_i q hq
   have h1:=Zzw f _ _ _ hq
   split at h
   ·simp at h
   ·rename_i x rest hx
    rw [hx] at h1
    simp only [Qf] at h1
    split at h
    ·simp at h; subst h
     simp only [List.flatten_append,List.flatten_cons,List.flatten_nil,Qs,Qg]
     omega
    ·have h4:=ih _ _ _ _ h
     simp only [List.flatten_append,List.flatten_cons,List.flatten_nil,Qs,Qg] at h4
     omega
theorem Zlh {s:ByteArray} {a:List (List Sym) × Names} (h:Zdt s=some a):a.2.length≤60:=by
 unfold Zdt at h
 split at h
 ·simp at h
 ·split at h
  ·simp at h
  ·rename_i hs he
   have hs:s.size≤120:=by omega
   obtain ⟨r1,_,_⟩:=Zdc s true
   have h0:(runs s true).1=0:=by rw [r1]; omega
   obtain ⟨q,e1,e2,_⟩:=Zhc s hs h0
   rw [e1] at h
   simp at h
   subst h
   obtain ⟨g1,g2,_⟩:=Zfv 1000 0 1000 (Zbh s) [] [] q (Zdl s) (by simp) rfl e1
   obtain ⟨x1,x2,x3⟩:=Zea _ _ _ g2
   have hl:=Zgc s
   have h2:=Zwi 1000 (Zbh s) [] [] q e1
   simp only [List.flatten_nil,Jt] at h2
   simp only
   omega
theorem Zwj:∀ (l:List Sym) (met:List Nat) (M:Nat),(Zav l met).2.length≤M→(∀ s ∈ l,s.name≠[]→s.num=0)→0<M→∀ s ∈ (Zav l met).1,s.num<M:=by
 intro l
 induction l with
 | nil=>intro met M _ _ _ s hs; simp [Zav] at hs
 | cons s l ih =>
  intro met M hM hz hp t ht
  have hgrow:∀ (l:List Sym) (met:List Nat),met.length≤(Zav l met).2.length:=by
   intro l
   induction l with
   | nil=>intro met; simp [Zav]
   | cons s l ih =>
    intro met
    simp only [Zav]
    split
    ·have:=ih (meet s.num met)
     have h1:met.length≤(meet s.num met).length:=by unfold meet; split <;> simp
     simp; omega
    ·exact ih met
  simp only [Zav] at hM ht
  split at ht
  ·rename_i hn
   rw [if_pos hn] at hM
   simp only at hM
   rcases Qp.1 ht with rfl | ht
   ·show met.idxOf s.num<M
    have h1:=hgrow l (meet s.num met)
    have h2:met.idxOf s.num<(meet s.num met).length:=by
     unfold meet
     split
     ·rename_i e; rw [e]; simp
     ·rename_i e
      have:=List.idxOf_le_length (a:=s.num) (l:=met)
      omega
    omega
   ·exact ih _ M hM (fun u hu=>hz u (by simp [hu])) hp t ht
  ·rename_i hn
   rw [if_neg hn] at hM
   simp only at hM
   rcases Qp.1 ht with rfl | ht
   ·rw [hz t (by simp) hn]; exact hp
   ·exact ih _ M hM (fun u hu=>hz u (by simp [hu])) hp t ht
theorem Zwk:∀ (ts:List (List Sym)) (met:List Nat) (M:Nat),(Zaw ts met).2.length≤M→(∀ t ∈ ts,∀ s ∈ t,s.name≠[]→s.num=0)→0<M→∀ t ∈ (Zaw ts met).1,∀ s ∈ t,s.num<M:=by
 intro ts
 induction ts with
 | nil=>intro met M _ _ _ t ht; simp [Zaw] at ht
 | cons u ts ih =>
  intro met M hM hz hp t ht
  have hgrow:∀ (ts:List (List Sym)) (met:List Nat),met.length≤(Zaw ts met).2.length:=by
   intro ts
   induction ts with
   | nil=>intro met; simp [Zaw]
   | cons v ts ih =>
    intro met
    simp only [Zaw]
    have h1:=ih (Zav v met).2
    have h2:met.length≤(Zav v met).2.length:=by
     clear h1 ih
     induction v generalizing met with
     | nil=>simp [Zav]
     | cons s l ih =>
      simp only [Zav]
      split
      ·have:=ih (meet s.num met)
       have h1:met.length≤(meet s.num met).length:=by unfold meet; split <;> simp
       simp; omega
      ·exact ih met
    omega
  simp only [Zaw] at hM ht
  rcases Qp.1 ht with rfl | ht
  ·exact Zwj u met M (Qq (hgrow ts _) hM) (fun s hs=>hz u (by simp) s hs) hp
  ·exact ih _ M hM (fun v hv=>hz v (by simp [hv])) hp t ht
theorem Zsf:∀ (l:List Sym) (met:List Nat) (P:Nat→Prop),(∀ s ∈ l,P s.args)→∀ s ∈ (Zav l met).1,P s.args:=by
 intro l
 induction l with
 | nil=>intro met P _ s hs; simp [Zav] at hs
 | cons s l ih =>
  intro met P h t ht
  simp only [Zav] at ht
  split at ht
  ·rcases Qp.1 ht with rfl | ht
   ·exact h s (by simp)
   ·exact ih _ P (fun u hu=>h u (by simp [hu])) t ht
  ·rcases Qp.1 ht with rfl | ht
   ·exact h t (by simp)
   ·exact ih _ P (fun u hu=>h u (by simp [hu])) t ht
theorem Zli:∀ (ts:List (List Sym)) (met:List Nat) (u:List Sym),u ∈ (Zaw ts met).1→∃ t ∈ ts,∃ m,u=(Zav t m).1:=by
 intro ts
 induction ts with
 | nil=>intro met u h; simp [Zaw] at h
 | cons t ts ih =>
  intro met u h
  simp only [Zaw] at h
  rcases Qp.1 h with rfl | h
  ·exact ⟨t,by simp,met,rfl⟩
  ·obtain ⟨t',h1,m,h2⟩:=ih _ u h
   exact ⟨t',by simp [h1],m,h2⟩
theorem Zja {n:ND} {c:Cls} {k:Nat} (h:(tryN n c k).2=1∨(tryN n c k).2=2):(tryN n c k).1.used=n.used++[k]:=by
 by_cases hex:∃ r:ND × Nat,∃ m,NOk m∧Same m n∧Out m c k r.2 r.1
 ·have e:tryN n c k=Classical.choose hex:=by unfold tryN; rw [dif_pos hex]
  obtain ⟨m,_,hS,g,gs,_,ho⟩:=Classical.choose_spec hex
  rw [e] at h ⊢
  rcases ho with ⟨h0,_⟩ | ⟨h0,_⟩ | ⟨σ,_,_,_,h4⟩
  ·omega
  ·omega
  ·rw [h4]; simp [Zau,hS.used]
 ·have e:tryN n c k=(⟨[],[],[],[],0⟩,0):=by unfold tryN; rw [dif_neg hex]
  rw [e] at h
  simp at h
def Yeq:Prop:=∀ (p q x:ByteArray) (w:World),p.size≤maxLen→q.size≤maxLen→x.size≤maxLen→Calls Tryz.prog 18 #[.string p,.string q,.string x] w fun e w'=>e = .returned (.tuple #[.string ⟨(yesN p q x).1.toArray⟩,.int .i64 (yesN p q x).2.1,.int .i64 (yesN p q x).2.2])∧Ext w w'
end Go.Proofs.YtlmjilpjmgjjcabGreatDoor
namespace Go.Proofs.YtlmjilpjmgjjcabGreatDoor
open Go.ChangeShapes Go.WideShapes Go.ChangeAt Go.WideMaps Go.WideElems Go.RowKit
theorem own:ownKnob Tryz.prog.godebug=none:=by kernel_rfl
namespace Go.Proofs.YtlmjilpjmgjjcabGreatDoor
open Go.ChangeShapes Go.WideShapes Go.ChangeAt Go.WideMaps Go.WideElems Go.RowKit
set_option linter.unusedSimpArgs false
set_option linter.unusedVariables false
end Go.Proofs.YtlmjilpjmgjjcabGreatDoor
end Go.Proofs.YtlmjilpjmgjjcabGreatDoor
namespace Go.Proofs.YtlmjilpjmgjjcabGreatDoor
open Go.RowKit
theorem Zsg {ts:List (List Sym)} {N:Nat} (h:∀ t ∈ ts,t.length≤N):ts.flatten.length≤N * ts.length:=by
 induction ts with
 | nil=>simp
 | cons t ts ih =>
  have h1:=h t (by simp)
  have h2:=ih (fun y hy=>h y (by simp [hy]))
  simp only [List.flatten_cons,Qg,Qf]
  rw [Nat.mul_add]
  omega
theorem Zwl:∀ (ts:List (List Sym)) (seen:List Nat),(∀ t ∈ ts,Wf 1 t∧t.length≤30∧∀ s ∈ t,s.name.length≤4096)→seen.length+ts.flatten.length≤4000→∀ u ∈ (Zaw ts seen).1,(Zbx u []).length≤200000:=by
 intro ts
 induction ts with
 | nil=>intro seen _ _ u hu; simp [Zaw] at hu
 | cons t ts ih =>
  intro seen h hs u hu
  simp only [List.flatten_cons,Qg] at hs
  obtain ⟨h1,h2,h3⟩:=h t (by simp)
  have hc:=Zqc (l:=t) (by omega) h1 h3 (seen:=seen) (by omega)
  simp only [Zaw] at hu
  rcases Qp.1 hu with rfl | hu
  ·omega
  ·exact ih _ (fun v hv=>h v (by simp [hv])) (by omega) u hu
theorem tx_ok {n:ND} (hn:NOk n) (hm:NNm n) {ts:List (List Sym)} (ht:∀ t ∈ ts,t ∈ n.terms∧t.length≤30) (hl:ts.length≤130) (hv:(Zaw ts []).2.length≤2599):TxOk ts:=by
 have hfl:ts.flatten.length≤30 * ts.length:=Zsg (fun t h=>(ht t h).2)
 have hV:n.vars≤101000:=by have:=hn.vars; have:=hn.ul; omega
 refine ⟨by omega,by omega,fun t h=>Zlf (hn.wf t (ht t h).1) (by have:=(ht t h).2; omega) (hn.occ t (ht t h).1) (by omega),fun u hu=>⟨?_,fun s hs=>⟨?_,?_⟩⟩,fun u hu => ?_⟩
 ·obtain ⟨t,h1,m,rfl⟩:=Zli ts [] u hu
  rw [Zir]
  have:=(ht t h1).2
  omega
 ·exact Zwk ts [] 2600 (by omega) (fun t h1 x hx hne=>by
   obtain ⟨i,hi⟩:=List.mem_iff_getElem?.1 hx
   exact (Zif (hn.wf t (ht t h1).1) hi).2 hne) (by omega) u hu s hs
 ·obtain ⟨t,h1,m,rfl⟩:=Zli ts [] u hu
  refine Qq (Zsf t m (fun a=>a≤30) (fun x hx => ?_) s hs) (by omega)
  obtain ⟨i,hi⟩:=List.mem_iff_getElem?.1 hx
  have hil:=(Qa.1 hi).1
  have:=Zrr (hn.wf t (ht t h1).1) (i:=i) hil
  have he:Zat t i=x:=by unfold Zat; rw [List.getD_eq_getElem?_getD,hi]; rfl
  rw [he] at this
  have:=(ht t h1).2
  omega
 ·refine Qq (Zwl ts [] (fun t h1=>⟨hn.wf t (ht t h1).1,(ht t h1).2,fun s hs=>Qq (hm t (ht t h1).1 s hs) (by omega)⟩) ?_ u hu) (by omega)
  simp only [Jt]
  omega
theorem Zsh {n:ND} (hn:NOk n) (hm:NNm n) (hl:n.vals.length≤60):TxOk n.vals:=by
 have hfl:n.vals.flatten.length≤30 * n.vals.length:=Zsg (fun t h=>hn.vsize h)
 refine tx_ok hn hm (fun t h=>⟨by unfold ND.terms; simp [h],hn.vsize h⟩) (by omega) ?_
 have:=Zmr n.vals []
 simp only [Jt] at this
 omega
theorem Zjs {n:ND} (hn:NOk n) (hm:NNm n) (hl:n.vals.length≤60) {names:Names} (hs:names.length≤60) (hns:∀ x ∈ names,x.length≤8):(Zhl [] names (Zaw n.vals []).1).length≤100000000:=by
 have hfl:n.vals.flatten.length≤30 * n.vals.length:=Zsg (fun t h=>hn.vsize h)
 have:=Zzs names n.vals [] [] (fun x hx=>Qq (hns x hx) (by omega)) (fun t ht=>⟨hn.wf t (by unfold ND.terms; simp [ht]),by have:=hn.vsize ht; omega,fun s hs=>Qq (hm t (by unfold ND.terms; simp [ht]) s hs) (by omega)⟩) (by simp) (by simp only [Jt]; omega)
 omega
theorem Zsi (w:World) (nv gv vv rv kv dv:Value) (uu:Nat) (names:Names) (n:ND) (hg:∃ a l c,gv = .slice a l c) (hr:∃ a l c,rv = .slice a l c) (hk:∃ a l c,kv = .slice a l c) (hd:∃ a l c,dv = .slice a l c) (hnv:w.ownsRow 0 9 1 nv names.length (strs names)) (hv:TermsIn w vv n.vals) (hn:NOk n) (hm:NNm n) (hl:n.vals.length=names.length) (hs:names.length≤60) (hns:∀ x ∈ names,x.length≤8) :
  Calls Tryz.prog 24 #[.agg #[nv,gv,vv,rv,.int .i64 uu,kv,dv]] w fun e w'=>Ext w w'∧e = .returned (.string ⟨(Zbb names n).toArray⟩):=by
 obtain ⟨g1,g2,g3,rfl⟩:=hg
 obtain ⟨r1,r2,r3,rfl⟩:=hr
 obtain ⟨k1,k2,k3,rfl⟩:=hk
 obtain ⟨d1,d2,d3,rfl⟩:=hd
 obtain ⟨na,ncap,rfl⟩:=Zae hnv
 obtain ⟨va,vcap,rfl⟩:=hv.shape
 have HA:Hid (∀ o,Calls Tryz.prog 39 #[.slice na names.length ncap,.slice va n.vals.length vcap] (w.alloc o) fun e w'=>Ext (w.alloc o) w'∧e = .returned (.string ⟨(Zbb names n).toArray⟩)):=fun o=>by
  have hE:Ext w (w.alloc o):=(Ext.of (by repeat' (first | with_reducible(first|exact Qx _ _|apply Kept.drew|apply Kept.drewN|apply Qz|refine Qy ?_ ?_ _)|exact fun h=>absurd h (by simp <;> omega))))
  exact Zfr _ _ _ names n.vals (Zaj hnv (fun j hj=>hE.block j (hnv.lt j hj).2)) (hv.ext hE) (Zsh hn hm (by omega)) hl.symm (Zjs hn hm (by omega) hs hns)
 clear hnv hv hn hm hl hs hns
 go_enter Tryz.func24,Tryz.ntmps24
 go_wp2_with fail
 refine (HA.out _).mono ?_
 rintro e w1 ⟨hE1,rfl⟩
 have HE1:=Zac hE1
 clear hE1
 go_wp2
 go_ret
 exact ⟨(Below.refl _ w |>.alloc (Qe _) _).trans (HE1.out.mono (by simp)),rfl⟩
theorem Ycg:Yeq:=by
 intro p q x w hp hq hx
 have HC:=Zac (Zwh p q x w hp hq hx)
 obtain ⟨Y,hY⟩:∃ Y,Y=yesN p q x:=⟨_,rfl⟩
 rw [← hY]
 have HY:=Zac hY
 clear hp hq hx hY
 go_enter Tryz.func18,Tryz.ntmps18
 go_wp2_with fail
 refine HC.out.mono ?_
 rintro e w1 ⟨hE1,hout⟩
 have hz1:=hE1.size
 have HE1:=Zac hE1
 clear hE1 HC
 rcases hout with ⟨hne,rfl⟩ | ⟨a,ks,n,m,hH,n1,nc,g1,g2,g3,v1,v2,v3,r1,r2,r3,uu,k1,kc,d1,dc,rfl,hN,hnames,hks,hds⟩
 ·obtain ⟨er,her⟩:∃ r,r=(Zdx p q x).2.2.1:=⟨_,rfl⟩
  obtain ⟨pe,hpe⟩:∃ r,r=(Zdx p q x).2.2.2:=⟨_,rfl⟩
  rw [← her,← hpe]
  rw [← her] at hne
  have Hy:Hid (Y=([],er,pe)):=by show _=_; rw [HY.out,yesN,if_neg (by rw [← her]; exact hne),← her,← hpe]
  have hb:((er:Int) != 0)=true:=by rw [bne_iff_ne]; omega
  clear her hpe hne
  unfold Zcr
  go_wp2_with fail
  go_quiet (fail)
  go_wp2
  go_ret3
  rw [Hy.out]
  exact ⟨rfl,HE1.out.trans (Kept.below (S:=fun i=>w.heap.size≤i) (by repeat' (first | with_reducible(first|exact Qx _ _|apply Kept.drew|apply Kept.drewN|apply Qz|refine Qy ?_ ?_ _)|(intro _; simp only; omega))) (by omega) (fun _ h=>h))⟩
 ·have hvl:=Zwf hH.ask hH.held
  have hsm:=Zlh hH.ask
  obtain ⟨_,_,_,_,_,_,_,_,ha8⟩:=Zcm hH.ask
  have hans:Zbb a.2 n=Zbb a.2 m:=by unfold Zbb; rw [hH.same.valsC hH.ok]
  have Hy:Hid (Y=(Zbb a.2 n,0,0)):=by show _=_; rw [HY.out,yesN,hH.held,hans]; simp
  have HAn:Hid (∀ y,Ext w1 y→Calls Tryz.prog 24 #[.agg #[.slice n1 a.2.length nc,.slice g1 g2 g3,.slice v1 v2 v3,.slice r1 r2 r3,.int .i64 uu,.slice k1 ks.length kc,.slice d1 (m.done.map (·.2)).length dc]] y fun e w'=>Ext y w'∧e = .returned (.string ⟨(Zbb a.2 n).toArray⟩)):=fun y hE =>
   Zsi y _ _ _ _ _ _ uu a.2 n ⟨_,_,_,rfl⟩ ⟨_,_,_,rfl⟩ ⟨_,_,_,rfl⟩ ⟨_,_,_,rfl⟩ (Zaj hnames (fun j hj=>hE.block j (hnames.lt j hj).2)) (hN.vals.ext hE) hH.ok hH.nm (by rw [hH.same.vl,hvl]) hsm ha8
  obtain ⟨T,hT⟩:∃ T,T=Zbb a.2 n:=⟨_,rfl⟩
  rw [← hT] at HAn Hy
  obtain ⟨D,hD⟩:∃ D,D=(m.done.map (·.2)).length:=⟨_,rfl⟩
  rw [← hD] at HAn ⊢
  clear hvl hsm ha8 hans hH hN hnames hks hds hT hD
  go_wp2_with fail
  refine (HAn.out _ ((Below.refl _ w1 |>.alloc (Qe _) _).alloc (by simp) _)).mono ?_
  rintro e w2 ⟨hE2,rfl⟩
  have HE2:=Zac hE2
  clear hE2
  go_wp2
  go_ret3
  rw [Hy.out]
  exact ⟨rfl,(HE1.out.trans (Kept.below (S:=fun i=>w.heap.size≤i) (by repeat' (first | with_reducible(first|exact Qx _ _|apply Kept.drew|apply Kept.drewN|apply Qz|refine Qy ?_ ?_ _)|(intro _; simp only; omega))) (by omega) (fun _ h=>h))).trans (HE2.out.mono (by simp; omega))⟩
theorem Zwm:∀ (ks:List Nat) (sep:List UInt8),sep.length≤1→(∀ k ∈ ks,k≤99)→(Zek sep ks).length≤101 * ks.length:=by
 intro ks
 induction ks with
 | nil=>intro sep _ _; simp [Zek]
 | cons k ks ih =>
  intro sep hs hk
  have h1:=ih [46] (by simp) (fun j hj=>hk j (by simp [hj]))
  have h2:=hk k (by simp)
  have h3:=Zjf k
  simp only [Zek,Qg,Qf]
  omega
mutual
inductive TreeR (cs:List Cls):ND→List UInt8→Prop
 | leaf (n:ND) (h:n.goals=[]):TreeR cs n [33]
 | node (n:ND) (t:List UInt8) (h:n.goals≠[]) (hp:Part cs n cs.length t):TreeR cs n ([40]++t++[41])
inductive Part (cs:List Cls):ND→Nat→List UInt8→Prop
 | zero (n:ND):Part cs n 0 []
 | miss (n:ND) (k:Nat) (t:List UInt8) (c:Cls) (h:Part cs n k t) (hc:cs[k]?=some c) (hq:(tryN n c k).2=0):Part cs n (k+1) t
 | kid (n:ND) (k:Nat) (t u:List UInt8) (c:Cls) (h:Part cs n k t) (hc:cs[k]?=some c) (hq:(tryN n c k).2=1∨(tryN n c k).2=2) (hu:TreeR cs (tryN n c k).1 u):Part cs n (k+1) (t++Lib.decDigits k++u)
end
structure SN where
 way:List (ND × Nat)
 tries:Nat
 status:Nat
 found:ND
 tree:List UInt8
def Zcx (cs:List Cls):List (ND × Nat)→List UInt8→List (ND × Nat) × List UInt8
 | (n,k)::r,t=>if cs.length≤k then Zcx cs r (t++[41]) else ((n,k)::r,t)
 | [],t=>([],t)
noncomputable def Zbz (s:SN) (n:ND):SN:=open Classical in if n.goals=[] then { s with tree:=s.tree++[33],status:=1,found:=n } else { s with way:=(n,0)::s.way,tree:=s.tree++[40] }
noncomputable def Zde (cs:List Cls) (s:SN):SN := { s with way:=(Zcx cs s.way s.tree).1,tree:=(Zcx cs s.way s.tree).2 }
noncomputable def Zay (cs:List Cls) (s:SN):SN:=match s.way with
 | []=>s
 | (n,k)::r=>match cs[k]? with
  | none=>s
  | some c=>Zde cs (if (tryN n c k).2=3 then { s with way:=(n,k+1)::r,tries:=s.tries+1,status:=3 }
    else if (tryN n c k).2=1∨(tryN n c k).2=2 then Zbz { s with way:=(n,k+1)::r,tries:=s.tries+1,tree:=s.tree++Lib.decDigits k } (tryN n c k).1
    else { s with way:=(n,k+1)::r,tries:=s.tries+1 })
def PH (cs:List Cls) (top:ND):List (ND × Nat)→ND→Nat→List UInt8→Prop
 | [],n,k,T=>n=top∧n.goals≠[]∧k≤cs.length∧∃ t,Part cs n k t∧T=[40]++t
 | x::r,n,k,T=>n.goals≠[]∧k≤cs.length∧∃ t j' c T',x.2=j'+1∧cs[j']?=some c∧((tryN x.1 c j').2=1∨(tryN x.1 c j').2=2)∧n=(tryN x.1 c j').1∧PH cs top r x.1 j' T'∧Part cs n k t∧T=T'++Lib.decDigits j'++([40]++t)
def PW (cs:List Cls) (top:ND):List (ND × Nat)→List UInt8→Prop
 | [],T=>TreeR cs top T
 | (n,k)::r,T=>PH cs top r n k T
theorem PW.part {cs:List Cls} {top n:ND} {k:Nat} {r:List (ND × Nat)} {T:List UInt8} (h:PW cs top ((n,k)::r) T):n.goals≠[]∧k≤cs.length∧∃ t0 t,Part cs n k t∧T=t0++([40]++t)∧∀ k' t',Part cs n k' t'→k'≤cs.length→PW cs top ((n,k')::r) (t0++([40]++t')):=by
 cases r with
 | nil =>
  obtain ⟨h1,h2,h3,t,h4,h5⟩:=h
  exact ⟨h2,h3,[],t,h4,by simpa using h5,fun k' t' hp hk=>⟨h1,h2,hk,t',hp,by simp⟩⟩
 | cons m r =>
  obtain ⟨m,j⟩:=m
  obtain ⟨h1,h2,t,j',c,T',h3,h4,h5,h6,h7,h8,h9⟩:=h
  exact ⟨h1,h2,T'++Lib.decDigits j',t,h8,h9,fun k' t' hp hk=>⟨h1,hk,t',j',c,T',h3,h4,h5,h6,h7,hp,rfl⟩⟩
theorem PW.miss {cs:List Cls} {top n:ND} {k:Nat} {r:List (ND × Nat)} {T:List UInt8} {c:Cls} (h:PW cs top ((n,k)::r) T) (hc:cs[k]?=some c) (hq:(tryN n c k).2=0):PW cs top ((n,k+1)::r) T:=by
 obtain ⟨h1,h2,t0,t,h3,h4,h5⟩:=h.part
 rw [h4]
 exact h5 (k+1) t (.miss n k t c h3 hc hq) (by have:=(Qa.1 hc).1; omega)
theorem PW.kid {cs:List Cls} {top n:ND} {k:Nat} {r:List (ND × Nat)} {T u:List UInt8} {c:Cls} (h:PW cs top ((n,k)::r) T) (hc:cs[k]?=some c) (hq:(tryN n c k).2=1∨(tryN n c k).2=2) (hu:TreeR cs (tryN n c k).1 u):PW cs top ((n,k+1)::r) (T++Lib.decDigits k++u):=by
 obtain ⟨h1,h2,t0,t,h3,h4,h5⟩:=h.part
 rw [h4]
 have:=h5 (k+1) (t++Lib.decDigits k++u) (.kid n k t u c h3 hc hq hu) (by have:=(Qa.1 hc).1; omega)
 simpa using this
theorem PW.down {cs:List Cls} {top n:ND} {k:Nat} {r:List (ND × Nat)} {T:List UInt8} {c:Cls} (h:PW cs top ((n,k)::r) T) (hc:cs[k]?=some c) (hq:(tryN n c k).2=1∨(tryN n c k).2=2) (hg:(tryN n c k).1.goals≠[]):PW cs top (((tryN n c k).1,0)::(n,k+1)::r) (T++Lib.decDigits k++[40]) :=
 ⟨hg,Qm _,[],k,c,T,rfl,hc,hq,rfl,h,.zero _,by simp⟩
theorem PW.up {cs:List Cls} {top n:ND} {k:Nat} {r:List (ND × Nat)} {T:List UInt8} (h:PW cs top ((n,k)::r) T) (hk:cs.length≤k):PW cs top r (T++[41]):=by
 cases r with
 | nil =>
  obtain ⟨h1,h2,h3,t,h4,h5⟩:=h
  have e:k=cs.length:=by omega
  subst e h1 h5
  exact .node n t h2 h4
 | cons m r =>
  obtain ⟨m,j⟩:=m
  obtain ⟨h1,h2,t,j',c,T',h3,h4,h5,h6,h7,h8,h9⟩:=h
  have e:k=cs.length:=by omega
  simp only at h3 h5 h6 h7
  subst e h3 h6 h9
  have h7':PW cs top ((m,j')::r) T':=h7
  have:=h7'.kid h4 h5 (.node _ t h1 h8)
  simpa using this
theorem PW.leave {cs:List Cls} {top:ND}:∀ {way:List (ND × Nat)} {T:List UInt8},PW cs top way T→PW cs top (Zcx cs way T).1 (Zcx cs way T).2:=by
 intro way
 induction way with
 | nil=>intro T h; exact h
 | cons x r ih =>
  obtain ⟨n,k⟩:=x
  intro T h
  unfold Zcx
  split
  ·rename_i hk
   exact ih (h.up hk)
  ·exact h
theorem Zfx (n:ND) (c:Cls) (k:Nat):(tryN n c k).2=0∨(tryN n c k).2=1∨(tryN n c k).2=2∨(tryN n c k).2=3:=by
 by_cases hex:∃ r:ND × Nat,∃ m,NOk m∧Same m n∧Out m c k r.2 r.1
 ·have e:tryN n c k=Classical.choose hex:=by unfold tryN; rw [dif_pos hex]
  obtain ⟨m,_,_,g,gs,_,ho⟩:=Classical.choose_spec hex
  rw [e]
  rcases ho with ⟨h0,_⟩ | ⟨h0,_⟩ | ⟨σ,_,_,h3,_⟩
  ·exact Or.inl h0
  ·exact Or.inr (Or.inr (Or.inr h0))
  ·rw [h3]
   unfold Zeq
   split
   ·simp
   ·split <;> simp
 ·have e:tryN n c k=(⟨[],[],[],[],0⟩,0):=by unfold tryN; rw [dif_neg hex]
  rw [e]; simp
theorem PW.try' {cs:List Cls} {top:ND} {s:SN} (h:PW cs top s.way s.tree) (hf:(Zay cs s).status≠3):PW cs top (Zay cs s).way (Zay cs s).tree:=by
 unfold Zay at hf ⊢
 cases hw:s.way with
 | nil=>rw [hw] at hf h; simpa [hw] using h
 | cons x r =>
  obtain ⟨n,k⟩:=x
  rw [hw] at hf h
  simp only at hf ⊢
  cases hc:cs[k]? with
  | none=>rw [hc] at hf; simp only [hw]; exact h
  | some c =>
   rw [hc] at hf
   simp only at hf ⊢
   by_cases h3:(tryN n c k).2=3
   ·rw [if_pos h3] at hf
    exact absurd rfl hf
   ·rw [if_neg h3]
    by_cases h12:(tryN n c k).2=1∨(tryN n c k).2=2
    ·rw [if_pos h12]
     by_cases hg:(tryN n c k).1.goals=[]
     ·simp only [Zbz,if_pos hg,Zde]
      have h':PW cs top ((n,k)::r) s.tree:=h
      exact (h'.kid hc h12 (.leaf _ hg)).leave
     ·simp only [Zbz,if_neg hg,Zde]
      have h':PW cs top ((n,k)::r) s.tree:=h
      exact (h'.down hc h12 hg).leave
    ·rw [if_neg h12]
     simp only [Zde]
     have h0:(tryN n c k).2=0:=by have:=Zfx n c k; omega
     have h':PW cs top ((n,k)::r) s.tree:=h
     exact (h'.miss hc h0).leave
theorem Zqf {w:World} {B:Nat} {e:TypeId} {s g n cap:Nat} {xs:List Value} (h:w.ownsRow B e s (.slice (some ⟨g,0,none⟩) (n+1) cap) (n+1) xs) :
  w.ownsRow B e s (.slice (some ⟨g,0,none⟩) n cap) n (xs.take (n * s)):=by
 have hm:(n+1) * s=n * s+s:=Nat.succ_mul n s
 refine ⟨by have:=h.1; rw [List.length_take]; omega,?_⟩
 rcases h.2 with ⟨h1,_⟩ | ⟨g',cap',cur,h1,hb,hg,hn,hc,hs,ht⟩
 ·simp at h1
 ·simp at h1
  obtain ⟨rfl,rfl⟩:=h1
  refine .inr ⟨g,cap,cur,rfl,hb,hg,by omega,hc,hs,?_⟩
  rw [← ht,List.take_take]
  congr 1
  omega
def Zgw (N:Nat):List (ND × Nat)→List (ND × Nat)
 | []=>[]
 | x::r=>if N≤x.2 then Zgw N r else x::r
theorem Zdp (cs:List Cls):∀ (way:List (ND × Nat)) (t:List UInt8),(Zcx cs way t).1=Zgw cs.length way:=by
 intro way
 induction way with
 | nil=>intro t; rfl
 | cons x r ih =>
  obtain ⟨n,k⟩:=x
  intro t
  simp only [Zcx,Zgw]
  split
  ·exact ih _
  ·rfl
theorem Zms {N:Nat}:∀ {way:List (ND × Nat)} {x:ND × Nat} {r:List (ND × Nat)},Zgw N way=x::r→x.2<N:=by
 intro way
 induction way with
 | nil=>intro x r h; simp [Zgw] at h
 | cons y s ih =>
  intro x r h
  simp only [Zgw] at h
  split at h
  ·exact ih h
  ·rename_i hn
   simp at h
   rw [← h.1]; omega
theorem Zmt (N:Nat) (way:List (ND × Nat)):Zgw N (Zgw N way)=Zgw N way:=by
 cases h:Zgw N way with
 | nil=>rfl
 | cons x r =>
  have:=Zms h
  simp only [Zgw]
  rw [if_neg (by omega)]
noncomputable def Zcs (a:List (List Sym) × Names) (st:Nat) (found:ND) (T:List UInt8):List UInt8 × List UInt8 × List UInt8 :=
 if st=1 then (Zbb a.2 found,Zis found,[]) else if st=2 then ([],[],T) else ([],[],[])
theorem box6 {w:World} {b:Nat} {u0 u1 u2 u3 u4 u5:Value} {t:TypeId} (h:w.heap[b]?=some (.cells #[u0,u1,u2,u3,u4,u5] t (0,0))) :
  w.cell? ⟨b,0,none⟩=some u0∧w.cell? ⟨b,1,none⟩=some u1∧w.cell? ⟨b,2,none⟩=some u2∧w.cell? ⟨b,3,none⟩=some u3∧w.cell? ⟨b,4,none⟩=some u4∧w.cell? ⟨b,5,none⟩=some u5∧∀ i,w.frozen? ⟨b,i,none⟩=false :=
 ⟨Zaa h 0 _ rfl,Zaa h 1 _ rfl,Zaa h 2 _ rfl,Zaa h 3 _ rfl,Zaa h 4 _ rfl,Zaa h 5 _ rfl,fun i=>Zad h i⟩
noncomputable def Zlj (n:ND) (c:Cls) (k:Nat) (r:List (ND × Nat)):List (ND × Nat):=if (tryN n c k).2=1 then ((tryN n c k).1,0)::(n,k+1)::r else (n,k+1)::r
noncomputable def Zgx (n:ND) (c:Cls) (k:Nat):Nat:=if (tryN n c k).2=2 then 1 else if (tryN n c k).2=3 then 3 else 0
theorem Zhh {n:ND} {c:Cls} {k:Nat} (h:(tryN n c k).2=1∨(tryN n c k).2=2):(tryN n c k).2=2↔(tryN n c k).1.goals=[]:=by
 by_cases hex:∃ r:ND × Nat,∃ m,NOk m∧Same m n∧Out m c k r.2 r.1
 ·have e:tryN n c k=Classical.choose hex:=by unfold tryN; rw [dif_pos hex]
  obtain ⟨m,_,hS,g,gs,_,ho⟩:=Classical.choose_spec hex
  rw [e] at h ⊢
  rcases ho with ⟨h0,_⟩ | ⟨h0,_⟩ | ⟨σ,_,_,h3,h4⟩
  ·omega
  ·omega
  ·rw [h3,← h4] at h
   rw [h3,← h4]
   unfold Zeq at h ⊢
   split at h
   ·omega
   ·rename_i ho
    rw [if_neg ho]
    split
    ·rename_i hg; simp [hg]
    ·rename_i hg; simp [hg]
 ·have e:tryN n c k=(⟨[],[],[],[],0⟩,0):=by unfold tryN; rw [dif_neg hex]
  rw [e] at h
  simp at h
def Zfy (way:List (ND × Nat)):List Nat:=(way.map (fun x=>x.2 - 1)).reverse
theorem Zmu (n:ND) (k:Nat) (r:List (ND × Nat)):Zfy ((n,k+1)::r)=Zfy r++[k]:=by simp [Zfy]
def UsedW:List (ND × Nat)→Prop
 | []=>True
 | x::r=>x.1.used=Zfy r∧(∀ y ∈ r,1≤y.2)∧UsedW r
theorem UsedW.trim {N:Nat}:∀ {way:List (ND × Nat)},UsedW way→UsedW (Zgw N way):=by
 intro way
 induction way with
 | nil=>intro h; exact h
 | cons x r ih =>
  intro h
  simp only [Zgw]
  split
  ·exact ih h.2.2
  ·exact h
theorem Zqg {N:Nat}:∀ {way:List (ND × Nat)} {x:ND × Nat},x ∈ Zgw N way→x ∈ way:=by
 intro way
 induction way with
 | nil=>intro x h; exact h
 | cons y r ih =>
  intro x h
  simp only [Zgw] at h
  split at h
  ·exact List.mem_cons_of_mem _ (ih h)
  ·exact h
theorem Zmv (cs:List Cls):∀ (way:List (ND × Nat)) (t:List UInt8),(Zcx cs way t).2.length+(Zcx cs way t).1.length=t.length+way.length:=by
 intro way
 induction way with
 | nil=>intro t; rfl
 | cons x r ih =>
  obtain ⟨n,k⟩:=x
  intro t
  simp only [Zcx]
  split
  ·rw [ih]; simp; omega
  ·rfl
structure InvN (cs:List Cls) (a:List (List Sym) × Names) (s:SN):Prop where
 way:∀ x ∈ s.way,x.1.goals≠[]∧x.1.vals.length=a.2.length∧x.2≤cs.length∧∀ k ∈ x.1.used,k<cs.length
 used:UsedW s.way
 tree:s.status≠3→PW cs (topN a) s.way s.tree
 trim:Zgw cs.length s.way=s.way
 found:s.status=1→s.found.goals=[]∧s.found.vals.length=a.2.length∧∀ k ∈ s.found.used,k<cs.length
 len:s.tree.length+s.way.length≤2+26 * s.tries
 tries:s.tries≤3000
 no:s.status=2→s.way=[]
 st:s.status≤3
theorem Zjb {cs:List Cls} {s:SN} {n:ND} {k:Nat} {r:List (ND × Nat)} {c:Cls} (hw:s.way=(n,k)::r) (hc:cs[k]?=some c) (h0:s.status=0) :
  (Zay cs s).way=Zgw cs.length (Zlj n c k r)∧(Zay cs s).status=Zgx n c k∧(Zay cs s).tries=s.tries+1∧(Zgx n c k=1→(Zay cs s).found=(tryN n c k).1):=by
 have hk:=Zfx n c k
 unfold Zay
 rw [hw]
 simp only [hc]
 by_cases h3:(tryN n c k).2=3
 ·rw [if_pos h3]
  simp [Zde,Zdp,Zlj,Zgx,h3]
 ·rw [if_neg h3]
  by_cases h12:(tryN n c k).2=1∨(tryN n c k).2=2
  ·rw [if_pos h12]
   by_cases hg:(tryN n c k).1.goals=[]
   ·have h2:=(Zhh h12).2 hg
    simp [Zde,Zbz,hg,Zdp,Zlj,Zgx,h2]
   ·have h2:(tryN n c k).2≠2:=fun h=>hg ((Zhh h12).1 h)
    have h1:(tryN n c k).2=1:=by omega
    simp [Zde,Zbz,hg,Zdp,Zlj,Zgx,h1,h0]
  ·rw [if_neg h12]
   have h00:(tryN n c k).2=0:=by omega
   simp [Zde,Zdp,Zlj,Zgx,h00,h0]
theorem Zqh {cs:List Cls} {s:SN} {n:ND} {k:Nat} {r:List (ND × Nat)} {c:Cls} (hw:s.way=(n,k)::r) (hc:cs[k]?=some c) (hk:k<24):(Zay cs s).tree.length+(Zay cs s).way.length≤s.tree.length+s.way.length+26:=by
 have hd:(Lib.decDigits k).length≤24:=by
  have:=Zjf k
  omega
 unfold Zay
 rw [hw]
 simp only [hc,Zde,Zmv]
 split
 ·simp
 ·split
  ·unfold Zbz
   split
   ·simp; omega
   ·simp; omega
  ·simp
theorem InvN.try' {cs:List Cls} {a:List (List Sym) × Names} {s:SN} (h:InvN cs a s) (hcl:cs.length≤24) (h0:s.status=0) {n:ND} {k:Nat} {r:List (ND × Nat)} {c:Cls} (hw:s.way=(n,k)::r) (hc:cs[k]?=some c) (ht:s.tries<3000):InvN cs a (Zay cs s):=by
 obtain ⟨e1,e2,e3,e4⟩:=Zjb hw hc h0
 have hkk:=Zfx n c k
 have hklt:=(Qa.1 hc).1
 obtain ⟨w1,w2,w3,w4⟩:=h.way (n,k) (by rw [hw]; simp)
 have hu:=h.used
 rw [hw] at hu
 have hr:∀ x ∈ r,x.1.goals≠[]∧x.1.vals.length=a.2.length∧x.2≤cs.length∧∀ k ∈ x.1.used,k<cs.length:=fun x hx=>h.way x (by rw [hw]; simp [hx])
 have hchild:(tryN n c k).2=1∨(tryN n c k).2=2→(tryN n c k).1.vals.length=a.2.length∧∀ j ∈ (tryN n c k).1.used,j<cs.length:=fun hq=>by
  refine ⟨by rw [Ziz hq]; exact w2,fun j hj => ?_⟩
  rw [Zja hq] at hj
  rcases Qk.1 hj with hj | hj
  ·exact w4 j hj
  ·simp at hj; omega
 refine ⟨?_,?_,?_,?_,?_,?_,?_,?_,?_⟩
 ·intro x hx
  rw [e1] at hx
  have hx:=Zqg hx
  unfold Zlj at hx
  split at hx
  ·rename_i h1
   rcases Qp.1 hx with rfl | hx
   ·have h2:¬ (tryN n c k).1.goals=[]:=fun hg=>by have:=(Zhh (Or.inl h1)).2 hg; omega
    exact ⟨h2,(hchild (Or.inl h1)).1,Qm _,(hchild (Or.inl h1)).2⟩
   ·rcases Qp.1 hx with rfl | hx
    ·exact ⟨w1,w2,by show k+1≤_; omega,w4⟩
    ·exact hr x hx
  ·rcases Qp.1 hx with rfl | hx
   ·exact ⟨w1,w2,by show k+1≤_; omega,w4⟩
   ·exact hr x hx
 ·rw [e1]
  apply UsedW.trim
  unfold Zlj
  split
  ·rename_i h1
   exact ⟨by rw [Zmu,Zja (Or.inl h1),hu.1],fun y hy=>by
    rcases Qp.1 hy with rfl | hy
    ·exact Nat.succ_le_succ (Qm _)
    ·exact hu.2.1 y hy,hu.1,hu.2⟩
  ·exact ⟨hu.1,hu.2⟩
 ·intro h3
  exact PW.try' (h.tree (by omega)) h3
 ·rw [e1,Zmt]
 ·intro h1
  rw [e2] at h1
  rw [e4 h1]
  have hq2:(tryN n c k).2=2:=by
   unfold Zgx at h1
   split at h1
   ·assumption
   ·split at h1 <;> omega
  exact ⟨(Zhh (Or.inr hq2)).1 hq2,(hchild (Or.inr hq2)).1,(hchild (Or.inr hq2)).2⟩
 ·have:=Zqh hw hc (by omega)
  have:=h.len
  omega
 ·omega
 ·intro h2
  rw [e2] at h2
  unfold Zgx at h2
  split at h2
  ·omega
  ·split at h2 <;> omega
 ·rw [e2]
  unfold Zgx
  split
  ·omega
  ·split <;> omega
noncomputable def Zct (cs:List Cls):Nat→SN→SN × Nat
 | 0,s=>(s,0)
 | n+1,s=>open Classical in if s.status=0∧s.way≠[]∧s.tries<3000 then ((Zct cs n (Zay cs s)).1,(Zct cs n (Zay cs s)).2+1) else (s,0)
def Zfz (s:SN):SN := { s with way:=[],tree:=[],status:=3 }
noncomputable def endN (s:SN):SN:=open Classical in if s.status=3 then Zfz s else if s.status=0 then (if s.way=[] then { s with status:=2 } else if 3000≤s.tries then Zfz s else s) else s
noncomputable def Zdf (cs:List Cls) (n:Nat) (s:SN):SN × Nat:=if s.status=2∨s.status=3 then (s,0) else (endN (Zct cs n { s with status:=0 }).1,(Zct cs n { s with status:=0 }).2)
theorem InvN.full {cs:List Cls} {a:List (List Sym) × Names} {s:SN} (h:InvN cs a s):InvN cs a (Zfz s) :=
 ⟨fun x hx=>by simp [Zfz] at hx,trivial,fun h3=>absurd rfl h3,rfl,fun h1=>by simp [Zfz] at h1,by simp [Zfz],h.tries,fun _=>rfl,by simp [Zfz]⟩
theorem InvN.end' {cs:List Cls} {a:List (List Sym) × Names} {s:SN} (h:InvN cs a s):InvN cs a (endN s):=by
 unfold endN
 split
 ·exact h.full
 ·split
  ·rename_i h3 h0
   split
   ·rename_i hw
    exact ⟨h.way,h.used,fun _=>h.tree (by omega),h.trim,fun h1=>by simp at h1,h.len,h.tries,fun _=>hw,by simp⟩
   ·split
    ·exact h.full
    ·exact h
  ·exact h
theorem InvN.seek {cs:List Cls} {a:List (List Sym) × Names} {s:SN} (h:InvN cs a s) (h3:s.status≠3):InvN cs a { s with status:=0 } :=
 ⟨h.way,h.used,fun _=>h.tree h3,h.trim,fun h1=>by simp at h1,h.len,h.tries,fun h2=>by simp at h2,by simp⟩
theorem InvN.head {cs:List Cls} {a:List (List Sym) × Names} {s:SN} (h:InvN cs a s) (hw:s.way≠[]):∃ n k r c,s.way=(n,k)::r∧cs[k]?=some c∧n.goals≠[]:=by
 cases e:s.way with
 | nil=>exact absurd e hw
 | cons x r =>
  obtain ⟨n,k⟩:=x
  have ht:=h.trim
  rw [e] at ht
  have hk:=Zms ht
  exact ⟨n,k,r,_,rfl,Qb hk,(h.way (n,k) (by rw [e]; simp)).1⟩
theorem InvN.loop {cs:List Cls} {a:List (List Sym) × Names} (hcl:cs.length≤24):∀ {n:Nat} {s:SN},InvN cs a s→InvN cs a (Zct cs n s).1:=by
 intro n
 induction n with
 | zero=>intro s h; exact h
 | succ n ih =>
  intro s h
  unfold Zct
  split
  ·rename_i hc
   obtain ⟨n',k,r,c,h1,h2,h3⟩:=h.head hc.2.1
   exact ih (h.try' hcl hc.1 h1 h2 hc.2.2)
  ·exact h
theorem InvN.step {cs:List Cls} {a:List (List Sym) × Names} (hcl:cs.length≤24) {n:Nat} {s:SN} (h:InvN cs a s):InvN cs a (Zdf cs n s).1:=by
 unfold Zdf
 split
 ·exact h
 ·rename_i h3
  exact ((h.seek (by omega)).loop hcl).end'
noncomputable def newN (cs:List Cls) (a:List (List Sym) × Names):SN:=Zde cs (Zbz ⟨[],0,0,⟨[],[],[],[],0⟩,[]⟩ (topN a))
theorem Zhi {a:List (List Sym) × Names} (h:a.1≠[]):(topN a).goals≠[]:=by simpa [topN] using h
theorem InvN.new (cs:List Cls) {a:List (List Sym) × Names} (ha:a.1≠[]):InvN cs a (newN cs a):=by
 have hg:=Zhi ha
 have hp:PW cs (topN a) [(topN a,0)] [40]:=⟨rfl,hg,Qm _,[],.zero _,by simp⟩
 unfold newN Zbz
 rw [if_neg hg]
 refine ⟨?_,?_,?_,?_,?_,?_,?_,?_,?_⟩
 ·intro x hx
  simp only [Zde,Zdp] at hx
  have hx:=Zqg hx
  simp at hx
  subst hx
  exact ⟨hg,by simp [topN],Qm _,fun k hk=>by simp [topN] at hk⟩
 ·simp only [Zde,Zdp]
  exact UsedW.trim ⟨rfl,fun y hy=>by simp at hy,trivial⟩
 ·intro _
  exact hp.leave
 ·simp only [Zde,Zdp]
  exact Zmt _ _
 ·intro h; simp [Zde] at h
 ·simp only [Zde,Zmv]
  simp
 ·simp [Zde]
 ·intro h; simp [Zde] at h
 ·simp [Zde]
def symB (s t:Sym):Bool:=s.name == t.name && s.num == t.num && s.args == t.args
theorem Zzx {s t:Sym} (h:symB s t=true):s=t:=by
 unfold symB at h
 simp only [Bool.and_eq_true,beq_iff_eq] at h
 obtain ⟨⟨h1,h2⟩,h3⟩:=h
 cases s; cases t
 simp_all
theorem Yer {s t:Sym} (h:symB s t=false):s≠t:=by
 rintro rfl
 simp [symB] at h
def Zob:List Sym→List Sym→Option (List Sym × List Sym)
 | s::a,t::b=>if symB s t then Zob a b else some ((s::a).take (skip 1 (s::a)),(t::b).take (skip 1 (t::b)))
 | _,_=>none
theorem Ztu {l:List Sym} {j:Nat} (h:Wf j l) (hj:0<j):Wf 1 (l.take (skip 1 l))∧l=l.take (skip 1 l)++l.drop (skip 1 l):=by
 refine ⟨?_,(List.take_append_drop _ _).symm⟩
 obtain ⟨k,rfl⟩:∃ k,j=1+k:=⟨j - 1,by omega⟩
 obtain ⟨a,b,rfl,ha,hb⟩:=Zim h
 rw [Zie b ha,List.take_left]
 exact ha
theorem Zmw {s:Sym} {l:List Sym}:((s::l).take (skip 1 (s::l))).head?=some s:=by simp [skip]
theorem Zwn:∀ {a b:List Sym} {j:Nat} {x y:List Sym},Wf j a→Wf j b→Zob a b=some (x,y)→Parts a b x y:=by
 intro a
 induction a with
 | nil=>intro b j x y _ _ h; simp [Zob] at h
 | cons s a ih =>
  intro b j x y ha hb h
  cases b with
  | nil=>simp [Zob] at h
  | cons t b =>
   unfold Zob at h
   split at h
   ·rename_i e
    obtain rfl:=Zzx e
    obtain ⟨_,_,_,h1⟩:=ha
    obtain ⟨_,_,_,h2⟩:=hb
    obtain ⟨⟨p,ra,rb,rfl,rfl⟩,wx,wy,ne⟩:=ih h1 h2 h
    exact ⟨⟨s::p,ra,rb,by simp,by simp⟩,wx,wy,ne⟩
   ·rename_i e
    obtain ⟨rfl,rfl⟩:(s::a).take (skip 1 (s::a))=x∧(t::b).take (skip 1 (t::b))=y:=by simpa using h
    obtain ⟨w1,e1⟩:=Ztu ha ha.1
    obtain ⟨w2,e2⟩:=Ztu hb hb.1
    refine ⟨⟨[],_,_,by rw [List.nil_append]; exact e1,by rw [List.nil_append]; exact e2⟩,w1,w2,?_⟩
    rw [Zmw,Zmw]
    intro h1
    exact Yer (by simpa using e) (by simpa using h1)
theorem Zwo:∀ {a b:List Sym} {j:Nat},Wf j a→Wf j b→Zob a b=none→a=b:=by
 intro a
 induction a with
 | nil =>
  intro b j ha hb h
  cases b with
  | nil=>rfl
  | cons t b=>have h1:j=0:=ha; have h2:=hb.1; omega
 | cons s a ih =>
  intro b j ha hb h
  cases b with
  | nil=>have h1:j=0:=hb; have h2:=ha.1; omega
  | cons t b =>
   unfold Zob at h
   split at h
   ·rename_i e
    obtain rfl:=Zzx e
    obtain ⟨_,_,_,h1⟩:=ha
    obtain ⟨_,_,_,h2⟩:=hb
    rw [ih h1 h2 h]
   ·simp at h
def occB (v:Nat) (l:List Sym):Bool:=l.any (fun s=>s.name.isEmpty && s.num == v)
theorem Ztv {v:Nat} {l:List Sym} (h:occB v l=true):Occ v l:=by
 unfold occB at h
 rw [List.any_eq_true] at h
 obtain ⟨s,h1,h2⟩:=h
 simp only [Bool.and_eq_true,beq_iff_eq,List.isEmpty_iff] at h2
 exact ⟨s,h1,h2.1,h2.2⟩
def sgC (bs:List (Nat × List Sym)):Nat→List Sym:=fun n=>bs.foldl (fun t b=>ap (sub1 b.1 b.2) t) (vr n)
theorem Ztw (bs:List (Nat × List Sym)) (v:Nat) (y:List Sym):sgC (bs++[(v,y)])=fun n=>ap (sub1 v y) (sgC bs n):=by
 funext n
 simp [sgC,List.foldl_append]
def fitC:Nat→List Sym→List Sym→List (Nat × List Sym)→Option (Option (List (Nat × List Sym)))
 | 0,_,_,_=>none
 | f+1,a,b,bs=>match Zob a b with
  | none=>some (some bs)
  | some (x,y)=>match x.head?,y.head? with
   | some s,some t=>if s.name.isEmpty then (if occB s.num y then some none else fitC f (ap (sub1 s.num y) a) (ap (sub1 s.num y) b) (bs++[(s.num,y)]))
     else if t.name.isEmpty then (if occB t.num x then some none else fitC f (ap (sub1 t.num x) a) (ap (sub1 t.num x) b) (bs++[(t.num,x)]))
     else some none
   | _,_=>none
theorem Ztx {x:List Sym} {s:Sym} (h:Wf 1 x) (hs:x.head?=some s) (hn:s.name.isEmpty=true):x=vr s.num:=by
 obtain ⟨s',r,rfl,_,h2⟩:=Zjy h
 simp at hs
 subst hs
 exact h2 (by simpa using hn)
theorem Yes {a0 b0:List Sym} {j:Nat}:∀ {f:Nat} {a b:List Sym} {bs:List (Nat × List Sym)},Carr a0 b0 (sgC bs) a b→Wf j a→Wf j b →
  (fitC f a b bs=some none→NoFit a0 b0)∧(∀ bs',fitC f a b bs=some (some bs')→Mgu (sgC bs') a0 b0):=by
 intro f
 induction f with
 | zero=>intro a b bs _ _ _; exact ⟨fun h=>by simp [fitC] at h,fun _ h=>by simp [fitC] at h⟩
 | succ f ih =>
  intro a b bs hC ha hb
  unfold fitC
  cases hp:Zob a b with
  | none =>
   refine ⟨fun h=>by simp at h,fun bs' h => ?_⟩
   simp at h
   subst h
   exact hC.done (Zwo ha hb hp)
  | some xy =>
   obtain ⟨x,y⟩:=xy
   have hP:=Zwn ha hb hp
   simp only
   obtain ⟨s,r,hx,_,_⟩:=Zjy hP.wx
   obtain ⟨t,q,hy,_,_⟩:=Zjy hP.wy
   have hsx:x.head?=some s:=by rw [hx]; rfl
   have hty:y.head?=some t:=by rw [hy]; rfl
   rw [hsx,hty]
   simp only
   split
   ·rename_i e
    have hv:=Ztx hP.wx hsx e
    split
    ·rename_i o
     exact ⟨fun _=>hC.none (Or.inl (Zkr hP hv (Ztv o))),fun _ h=>by simp at h⟩
    ·have hC':=hC.step (Or.inl hP) hv
     rw [← Ztw] at hC'
     exact ih hC' (Zhv (Zkq hP.wy) ha) (Zhv (Zkq hP.wy) hb)
   ·rename_i e
    split
    ·rename_i e2
     have hv:=Ztx hP.wy hty e2
     split
     ·rename_i o
      exact ⟨fun _=>hC.none (Or.inr (Zkr hP.symm hv (Ztv o))),fun _ h=>by simp at h⟩
     ·have hC':=hC.step (Or.inr hP.symm) hv
      rw [← Ztw] at hC'
      exact ih hC' (Zhv (Zkq hP.wx) ha) (Zhv (Zkq hP.wx) hb)
    ·rename_i e2
     exact ⟨fun _=>hC.none (Or.inl (Zuq hP hx hy (by simpa using e) (by simpa using e2))),fun _ h=>by simp at h⟩
def tryC (n:ND) (c:Cls) (k:Nat):Option (ND × Nat):=match n.goals with
 | []=>none
 | g::gs=>match fitC 200 g.1 (ap (Zdb n.vars) c.head) [] with
  | none=>none
  | some none=>some (⟨[],[],[],[],0⟩,0)
  | some (some bs)=>if 30<(ap (sgC bs) g.1).length then some (⟨[],[],[],[],0⟩,3) else some (Zau (sgC bs) n c k g gs,Zeq (Zau (sgC bs) n c k g gs))
theorem Zoc {n:ND} {c:Cls} {k q:Nat} {ch:ND} (hn:NOk n) (hc:COk c) (h:tryC n c k=some (ch,q)):Out n c k q ch:=by
 unfold tryC at h
 split at h
 ·simp at h
 ·rename_i g gs hg
  have w1:Wf 1 g.1:=hn.wf g.1 (by unfold ND.terms; rw [hg]; simp)
  have w2:Wf 1 (ap (Zdb n.vars) c.head):=Zhv (fun m=>Zqy _) hc.wfh
  have hC:=Yes (f:=200) (bs:=[]) (j:=1) (Carr.start w1 w2) w1 w2
  refine ⟨g,gs,hg,?_⟩
  split at h
  ·simp at h
  ·rename_i e
   simp at h
   exact Or.inl ⟨h.2.symm,hC.1 e⟩
  ·rename_i bs e
   have hM:=hC.2 bs e
   split at h
   ·rename_i hl
    simp at h
    exact Or.inr (Or.inl ⟨h.2.symm,hM.small hl⟩)
   ·rename_i hl
    simp at h
    exact Or.inr (Or.inr ⟨sgC bs,hM,by omega,h.2.symm,h.1.symm⟩)
def RelW:List (ND × Nat)→List (ND × Nat)→Prop
 | [],[]=>True
 | x::r,y::q=>(NOk x.1∧Same x.1 y.1∧x.2=y.2)∧RelW r q
 | _,_=>False
structure RelS (s t:SN):Prop where
 way:RelW s.way t.way
 tries:s.tries=t.tries
 status:s.status=t.status
 found:s.status=1→NOk s.found∧Same s.found t.found
 tree:s.tree=t.tree
theorem RelW.nil_iff {a b:List (ND × Nat)} (h:RelW a b):a=[]↔b=[]:=by
 cases a <;> cases b <;> simp_all [RelW]
theorem RelW.leave (cs:List Cls):∀ {a b:List (ND × Nat)} {t:List UInt8},RelW a b→RelW (Zcx cs a t).1 (Zcx cs b t).1∧(Zcx cs a t).2=(Zcx cs b t).2:=by
 intro a
 induction a with
 | nil =>
  intro b t h
  cases b with
  | nil=>exact ⟨trivial,rfl⟩
  | cons y q=>exact h.elim
 | cons x r ih =>
  intro b t h
  cases b with
  | nil=>exact h.elim
  | cons y q =>
   obtain ⟨n,k⟩:=x
   obtain ⟨m,j⟩:=y
   obtain ⟨⟨h1,h2,h3⟩,h4⟩:=h
   simp only at h3
   subst h3
   unfold Zcx
   split
   ·exact ih h4
   ·exact ⟨⟨⟨h1,h2,rfl⟩,h4⟩,rfl⟩
def Zty (cs:List Cls) (s:SN):SN:=⟨(Zcx cs s.way s.tree).1,s.tries,s.status,s.found,(Zcx cs s.way s.tree).2⟩
theorem RelS.left (cs:List Cls) {s t:SN} (h:RelS s t):RelS (Zty cs s) (Zde cs t):=by
 have h1:=h.way.leave cs (t:=s.tree)
 unfold Zty Zde
 refine ⟨?_,h.tries,h.status,h.found,?_⟩
 ·simp only; rw [← h.tree]; exact h1.1
 ·simp only; rw [← h.tree]; exact h1.2
def Zod (s:SN) (n:ND):SN:=if n.goals.isEmpty then ⟨s.way,s.tries,1,n,s.tree++[33]⟩ else ⟨(n,0)::s.way,s.tries,s.status,s.found,s.tree++[40]⟩
theorem RelS.enter {s t:SN} (h:RelS s t) {n m:ND} (hn:NOk n) (hs:Same n m):RelS (Zod s n) (Zbz t m):=by
 have hg:=hs.gl
 unfold Zod Zbz
 by_cases he:n.goals=[]
 ·have he':m.goals=[]:=List.eq_nil_of_length_eq_zero (by rw [← hg,he]; rfl)
  rw [if_pos (by simp [he]),if_pos he']
  exact ⟨h.way,h.tries,rfl,fun _=>⟨hn,hs⟩,by simp only; rw [h.tree]⟩
 ·have he':m.goals≠[]:=fun e=>he (List.eq_nil_of_length_eq_zero (by rw [hg,e]; rfl))
  rw [if_neg (by simpa using he),if_neg he']
  exact ⟨⟨⟨hn,hs,rfl⟩,h.way⟩,h.tries,h.status,h.found,by simp only; rw [h.tree]⟩
def decC (k:Nat):List UInt8:=if k<10 then [UInt8.ofNat (48+k)] else Lib.decDigits k
theorem Zzy (k:Nat):decC k=Lib.decDigits k:=by
 unfold decC
 split
 ·rename_i h
  rw [Lib.decDigits_one h]
 ·rfl
def Zjc (cs:List Cls) (s:SN):Option SN:=match s.way with
 | []=>some s
 | (n,k)::r=>match cs[k]? with
  | none=>some s
  | some c=>match tryC n c k with
   | none=>none
   | some (ch,q)=>some (Zty cs (if q=3 then ⟨(n,k+1)::r,s.tries+1,3,s.found,s.tree⟩
    else if q=1∨q=2 then Zod ⟨(n,k+1)::r,s.tries+1,s.status,s.found,s.tree++decC k⟩ ch
    else ⟨(n,k+1)::r,s.tries+1,s.status,s.found,s.tree⟩))
theorem RelS.try' {cs:List Cls} (hcs:∀ c ∈ cs,COk c) {s t s':SN} (h:RelS s t) (he:Zjc cs s=some s'):RelS s' (Zay cs t):=by
 unfold Zjc at he
 unfold Zay
 have hw:=h.way
 cases hs:s.way with
 | nil =>
  rw [hs] at he hw
  cases ht:t.way with
  | nil=>simp at he; subst he; exact h
  | cons y q=>rw [ht] at hw; exact hw.elim
 | cons x r =>
  rw [hs] at he hw
  cases ht:t.way with
  | nil=>rw [ht] at hw; exact hw.elim
  | cons y q =>
   rw [ht] at hw
   obtain ⟨n,k⟩:=x
   obtain ⟨m,j⟩:=y
   obtain ⟨⟨h1,h2,h3⟩,h4⟩:=hw
   simp only at h1 h2 h3
   subst h3
   simp only at he ⊢
   cases hc:cs[k]? with
   | none=>rw [hc] at he; simp at he; subst he; exact h
   | some c =>
    rw [hc] at he
    simp only at he ⊢
    cases hq:tryC n c k with
    | none=>rw [hq] at he; simp at he
    | some cq =>
     obtain ⟨ch,q'⟩:=cq
     rw [hq] at he
     simp only [Qo] at he
     subst he
     rw [Zzy]
     have hcc:=hcs c (Qh hc)
     obtain ⟨e1,e2⟩:=Zeo h1 h2 hcc (Zoc h1 hcc hq)
     refine RelS.left cs ?_
     rw [← e1]
     split
     ·exact ⟨⟨⟨h1,h2,rfl⟩,h4⟩,by simp only; rw [h.tries],rfl,fun h=>by simp at h,h.tree⟩
     ·split
      ·rename_i h12
       exact RelS.enter (s:=⟨(n,k+1)::r,s.tries+1,s.status,s.found,s.tree++Lib.decDigits k⟩) (t:=⟨(m,k+1)::q,t.tries+1,t.status,t.found,t.tree++Lib.decDigits k⟩) ⟨⟨⟨h1,h2,rfl⟩,h4⟩,by simp only; rw [h.tries],h.status,h.found,by simp only; rw [h.tree]⟩ (e2 h12).1 (e2 h12).2
      ·exact ⟨⟨⟨h1,h2,rfl⟩,h4⟩,by simp only; rw [h.tries],h.status,h.found,h.tree⟩
def Zlk (cs:List Cls):Nat→SN→Option (SN × Nat)
 | 0,s=>some (s,0)
 | n+1,s=>if s.status=0∧s.way.isEmpty=false∧s.tries<3000 then match Zjc cs s with
   | none=>none
   | some s'=>match Zlk cs n s' with
    | none=>none
    | some (u,m)=>some (u,m+1)
  else some (s,0)
theorem RelS.loop {cs:List Cls} (hcs:∀ c ∈ cs,COk c):∀ {n:Nat} {s t:SN} {r:SN × Nat},RelS s t→Zlk cs n s=some r→RelS r.1 (Zct cs n t).1∧r.2=(Zct cs n t).2:=by
 intro n
 induction n with
 | zero=>intro s t r h he; simp [Zlk] at he; subst he; exact ⟨h,rfl⟩
 | succ n ih =>
  intro s t r h he
  have hiff:(s.status=0∧s.way.isEmpty=false∧s.tries<3000)↔(t.status=0∧t.way≠[]∧t.tries<3000):=by
   rw [h.status,h.tries,List.isEmpty_eq_false_iff,Ne,h.way.nil_iff]
  unfold Zlk at he
  unfold Zct
  split at he
  ·rename_i hc
   rw [if_pos (hiff.1 hc)]
   cases hm:Zjc cs s with
   | none=>rw [hm] at he; simp at he
   | some s' =>
    rw [hm] at he
    simp only at he
    cases hl:Zlk cs n s' with
    | none=>rw [hl] at he; simp at he
    | some um =>
     obtain ⟨u,m⟩:=um
     rw [hl] at he
     simp at he
     subst he
     have:=ih (h.try' hcs hm) hl
     exact ⟨this.1,by simp only; rw [← this.2]⟩
  ·rename_i hc
   rw [if_neg (fun e=>hc (hiff.2 e))]
   simp at he
   subst he
   exact ⟨h,rfl⟩
def Ztz (s:SN):SN:=⟨[],s.tries,3,s.found,[]⟩
def Yet (s:SN):SN:=if s.status=3 then Ztz s else if s.status=0 then (if s.way.isEmpty then ⟨s.way,s.tries,2,s.found,s.tree⟩ else if 3000≤s.tries then Ztz s else s) else s
theorem RelS.full {s t:SN} (h:RelS s t):RelS (Ztz s) (Zfz t):=⟨trivial,h.tries,rfl,fun h=>by simp [Ztz] at h,rfl⟩
theorem RelS.end' {s t:SN} (h:RelS s t):RelS (Yet s) (endN t):=by
 unfold Yet endN
 rw [h.status]
 split
 ·exact h.full
 ·split
  ·rename_i h3 h0
   by_cases hw:s.way=[]
   ·rw [if_pos (by simp [hw]),if_pos (h.way.nil_iff.1 hw)]
    exact ⟨h.way,h.tries,rfl,fun h=>by simp at h,h.tree⟩
   ·rw [if_neg (by simpa using hw),if_neg (fun e=>hw (h.way.nil_iff.2 e)),h.tries]
    split
    ·exact h.full
    ·exact h
  ·exact h
def Zki (cs:List Cls) (n:Nat) (s:SN):Option (SN × Nat):=if s.status=2∨s.status=3 then some (s,0) else match Zlk cs n ⟨s.way,s.tries,0,s.found,s.tree⟩ with
 | none=>none
 | some (u,m)=>some (Yet u,m)
theorem RelS.step {cs:List Cls} (hcs:∀ c ∈ cs,COk c) {n:Nat} {s t:SN} {r:SN × Nat} (h:RelS s t) (he:Zki cs n s=some r):RelS r.1 (Zdf cs n t).1∧r.2=(Zdf cs n t).2:=by
 unfold Zki at he
 unfold Zdf
 rw [h.status] at he
 split at he
 ·rename_i hc
  simp at he
  subst he
  rw [if_pos hc]
  exact ⟨h,rfl⟩
 ·rename_i hc
  rw [if_neg hc]
  cases hl:Zlk cs n ⟨s.way,s.tries,0,s.found,s.tree⟩ with
  | none=>rw [hl] at he; simp at he
  | some um =>
   obtain ⟨u,m⟩:=um
   rw [hl] at he
   simp at he
   subst he
   have:=RelS.loop hcs (s:=⟨s.way,s.tries,0,s.found,s.tree⟩) (t := { t with status:=0 }) ⟨h.way,h.tries,rfl,fun h=>by simp at h,h.tree⟩ hl
   exact ⟨this.1.end',this.2⟩
def Zsj (cs:List Cls) (a:List (List Sym) × Names):SN:=Zty cs (Zod ⟨[],0,0,⟨[],[],[],[],0⟩,[]⟩ (topN a))
theorem RelS.new {cs:List Cls} {a:List (List Sym) × Names} (h:NOk (topN a)):RelS (Zsj cs a) (newN cs a) :=
 RelS.left cs (RelS.enter (s:=⟨[],0,0,⟨[],[],[],[],0⟩,[]⟩) (t:=⟨[],0,0,⟨[],[],[],[],0⟩,[]⟩) ⟨trivial,rfl,rfl,fun h=>by simp at h,rfl⟩ h (Same.refl h))
end Go.Proofs.YtlmjilpjmgjjcabGreatDoor
