/-
  PROVED HERE: the program's own Explain answers as the document does; so the given card of the law 'Explains' holds.
-/
import Derived.Test.YtlmjilpjmgjjcaaGreatDoorT13
import Derived.Test.YtlmjilpjmgjjcaaGreatDoorCards
import Derived.Test.YtlmjilpjmgjjcaaGreatDoorTie
import Derived.ProofKit
import Derived.LaidMore
import Derived.OpenShut
import Derived.Stop.Joined
import Derived.SevenTiedAt
import Derived.Deep.Slices
import Derived.Carry
namespace Go.Proofs.YtlmjilpjmgjjcaaGreatDoor
open Go.RowKit
set_option linter.unusedSimpArgs false
set_option linter.unusedVariables false
theorem Zsu {n:ND} {c:Cls} {k:Nat} (h:(tryN n c k).2=1∨(tryN n c k).2=2):(tryN n c k).1.used=n.used++[k]:=by
 by_cases hex:∃ r:ND × Nat,∃ m,NOk m∧Same m n∧Out m c k r.2 r.1
 ·have e:tryN n c k=Classical.choose hex:=by unfold tryN; rw [dif_pos hex]
  obtain ⟨m,_,hS,g,gs,_,ho⟩:=Classical.choose_spec hex
  rw [e] at h ⊢
  rcases ho with ⟨h0,_⟩ | ⟨h0,_⟩ | ⟨σ,_,_,_,h4⟩
  ·omega
  ·omega
  ·rw [h4]; simp [Zao,hS.used]
 ·have e:tryN n c k=(⟨[],[],[],[],0⟩,0):=by unfold tryN; rw [dif_neg hex]
  rw [e] at h
  simp at h
theorem Zsv {cs:List Cls}:∀ {ks:List Nat} {n:ND} {i:Nat},(Zar cs n ks i).2.1=0→(∀ k ∈ n.used,k<cs.length)→∀ k ∈ (Zar cs n ks i).1.used,k<cs.length:=by
 intro ks
 induction ks with
 | nil=>intro n i h hu; unfold Zar; split <;> exact hu
 | cons k ks ih =>
  intro n i h hu
  cases hc:cs[k]? with
  | none =>
   have:=Zct (cs:=cs) (n:=n) (k:=k) (i:=i) (ks:=ks) (Or.inr (List.getElem?_eq_none_iff.1 hc))
   rw [this] at h; simp at h
  | some c =>
   by_cases hg:n.goals=[]
   ·have:=Zct (cs:=cs) (n:=n) (k:=k) (i:=i) (ks:=ks) (Or.inl hg)
    rw [this] at h; simp at h
   ·by_cases hq:(tryN n c k).2=1∨(tryN n c k).2=2
    ·rw [Zhb hc hg hq] at h ⊢
     refine ih h (fun j hj => ?_)
     rw [Zsu hq] at hj
     rcases List.mem_append.1 hj with hj | hj
     ·exact hu j hj
     ·simp at hj; subst hj; exact (List.getElem?_eq_some_iff.1 hc).1
    ·have:=Zfc (i:=i) (ks:=ks) hc hq
     rw [this] at h; simp at h
theorem Zpg {p q x:ByteArray} {a:List (List Sym) × Names} {n0:ND} (ha:Zgc q=some a) (h:Zcs p q x=(a.2,n0,0,0)):∀ k ∈ n0.used,k<24:=by
 cases hp:Zds p with
 | none=>simp [Zcs,hp] at h
 | some cs =>
  have hcl:=(Zhg hp).2.2.2.2
  by_cases hx:400<x.size
  ·simp [Zcs,hp,ha,hx] at h
  ·cases hn:Zby x with
   | mk o pl =>
    cases o with
    | none=>simp [Zcs,hp,ha,hx,hn] at h
    | some ks =>
     simp [Zcs,hp,ha,hx,hn] at h
     have h2:=Zsv (cs:=cs) (ks:=ks) (n:=topN a) (i:=0) (by rw [h]) (by simp [topN])
     rw [h] at h2
     exact fun k hk=>Nat.lt_of_lt_of_le (h2 k hk) hcl
theorem Zsw:∀ (ts:List (List Sym)) (ds ks:List Nat) (seen:List Nat),(∀ d ∈ ds,d≤100)→(∀ k ∈ ks,k≤99)→(∀ t ∈ ts,Wf 1 t∧t.length≤1000∧∀ s ∈ t,s.name.length≤4096)→seen.length+ts.flatten.length≤4000 →
  (Zea (Zas ts seen).1 ds ks).length≤400 * ds.length+4100 * ts.flatten.length:=by
 intro ts
 induction ts with
 | nil=>intro ds ks seen _ _ _ _; simp [Zas,Zea]
 | cons t ts ih =>
  intro ds ks seen h1 h2 h3 h4
  cases ds with
  | nil=>simp [Zas,Zea]
  | cons d ds =>
   cases ks with
   | nil=>simp [Zas,Zea]
   | cons k ks =>
    obtain ⟨t1,t2,t3⟩:=h3 t (by simp)
    simp only [List.flatten_cons,List.length_append] at h4 ⊢
    obtain ⟨c1,c2⟩:=Zii t2 t1 t3 (seen:=seen) (by omega)
    have h:=ih ds ks (Zax t seen).2 (fun y hy=>h1 y (by simp [hy])) (fun y hy=>h2 y (by simp [hy])) (fun y hy=>h3 y (by simp [hy])) (by omega)
    have hd:=h1 d (by simp)
    have hk:=h2 k (by simp)
    have hdl:=Zkq k
    simp only [Zas,Zea,List.length_append,List.length_cons,List.length_replicate,List.length_nil]
    omega
set_option maxRecDepth 10000 in
set_option maxHeartbeats 4000000 in
theorem Znv (p q x:ByteArray) (w:World) (hp:p.size≤maxLen) (hq:q.size≤maxLen) (hx:x.size≤maxLen) :
  Calls Tryz.prog 92 #[.string p,.string q,.string x] w fun e w'=>e = .returned (.tuple #[.string ⟨(Zkv p q x).1.toArray⟩,.int .i64 (Zkv p q x).2.1,.int .i64 (Zkv p q x).2.2])∧Ext w w':=by
 have HF:=Zaa (fun u=>Zko p q x u hp hq hx)
 obtain ⟨Y,hY⟩:∃ Y,Y=Zkv p q x:=⟨_,rfl⟩
 rw [← hY]
 have HY:=Zaa hY
 clear hp hq hx hY
 go_enter Tryz.func92,Tryz.ntmps92
 go_wp2_with fail
 refine (HF.out _).mono ?_
 rintro e w1 ⟨hE1,hF⟩
 have hs1:=hE1.size
 have HE1:=Zaa hE1
 clear hE1
 rcases hF with ⟨er,pl,her,hh,a0,l0,c0,a1,l1,c1,rfl⟩ | ⟨a,av,nv,m0,m1,m2,m3,m4,n0,hh,hask,rfl,hA,hnode⟩
 ·have Hy:Hid (Y=([],er,pl)):=by show _=_; rw [HY.out,Zkv,hh]; simp [her]
  have hb:((er:Int) != 0)=true:=by rw [bne_iff_ne]; omega
  clear hh
  go_wp2
  go_ret3
  rw [Hy.out]
  exact ⟨rfl,HE1.out.trans (Kept.below (S:=fun i=>w.heap.size≤i) (by repeat' (first | with_reducible exact Kept.refl _ _ | with_reducible apply Kept.drew | with_reducible apply Kept.drewN | with_reducible apply Kept.alloc | with_reducible refine Kept.setCell ?_ ?_ _ | (intro _; simp only; omega))) hs1 (fun _ h=>h))⟩
 ·obtain ⟨ax,hA1⟩:=hA.atoms
  have huse:=Zpg hask hh
  obtain ⟨aa,acap,rfl⟩:=Zad hA1.1
  obtain ⟨n,hR,hOk,hNm,hS,rfl⟩:=hnode.node
  obtain ⟨vx,hV⟩:=hR.vals
  obtain ⟨gx,hG⟩:=hR.goals
  obtain ⟨dx,hD⟩:=hR.done
  have hU:=hR.used
  obtain ⟨ga,gcap,rfl⟩:=Zad hG.owns
  obtain ⟨va,vcap,rfl⟩:=Zad hV.1
  obtain ⟨da,dcap,rfl⟩:=Zad hD.owns
  obtain ⟨ua,ucap,rfl⟩:=Zad hU
  obtain ⟨na,ncap,rfl⟩:=Zad hA.names
  rw [← hS.used] at huse
  obtain ⟨F,hF⟩:∃ F,F=Zea (Zas (n.done.map (·.1)) []).1 (n.done.map (·.2)) n.used:=⟨_,rfl⟩
  have hexp:Zkc n0=F:=by rw [hF]; unfold Zkc; rw [hS.doneC hOk,hS.dd,hS.used]
  have Hy:Hid (Y=(F,0,0)):=by show _=_; rw [HY.out,Zkv,hh]; simp [hexp]
  have hdl:=hOk.dl
  have hul:=hOk.ul
  have hds:∀ g ∈ n.done,g.1.length≤30∧g.2≤100:=fun g hg=>⟨(hOk.ds g hg).1,by have:=(hOk.ds g hg).2; omega⟩
  have hdw:∀ g ∈ n.done,Wf 1 g.1:=fun g hg=>hOk.wf g.1 (by simp only [ND.terms,List.mem_append,List.mem_map]; exact Or.inr (Or.inr ⟨g,hg,rfl⟩))
  have hdn:∀ g ∈ n.done,∀ s ∈ g.1,s.name.length≤4096:=fun g hg s hs=>Nat.le_trans (hNm g.1 (by simp only [ND.terms,List.mem_append,List.mem_map]; exact Or.inr (Or.inr ⟨g,hg,rfl⟩)) s hs) (by omega)
  have hfl:(n.done.map (·.1)).flatten.length≤3000:=by
   have key:∀ ls:List (List Sym × Nat),(∀ t ∈ ls,t.1.length≤30)→(ls.map (·.1)).flatten.length≤30 * ls.length:=by
    intro ls
    induction ls with
    | nil=>intro _; simp
    | cons t ts ih =>
     intro h
     have h1:=h t (by simp)
     have h2:=ih (fun y hy=>h y (by simp [hy]))
     simp only [List.map_cons,List.flatten_cons,List.length_append,List.length_cons]; omega
   have:=key n.done (fun t ht=>(hds t ht).1)
   omega
  have hFl:F.length≤20000000:=by
   have:=Zsw (n.done.map (·.1)) (n.done.map (·.2)) n.used [] (fun d hd=>by obtain ⟨g,hg,rfl⟩:=List.mem_map.1 hd; exact (hds g hg).2) (fun k hk=>by have:=huse k hk; omega)
    (fun t ht=>by obtain ⟨g,hg,rfl⟩:=List.mem_map.1 ht; exact ⟨hdw g hg,by have:=(hds g hg).1; omega,hdn g hg⟩) (by simp only [List.length_nil]; omega)
   rw [← hF] at this
   simp only [List.length_map] at this
   omega
  have HD:=Zaa hD
  have HU:=Zaa hU
  have Hdl:=Zaa hdl
  have Hds:=Zaa hds
  have Hdw:=Zaa hdw
  have Hdn:=Zaa hdn
  have HFe:=Zaa hF
  have Huse:=Zaa huse
  have hdl2:n.done.length≤100:=by omega
  clear hh hask hA hA1 hnode hR hOk hNm hS hV hG hD hU hexp hdl hds hdw hdn hF huse
  obtain ⟨W0,hW0⟩:∃ W0,W0=(w1.alloc (.cells #[.slice aa a.1.length acap,.slice na a.2.length ncap] 148)).alloc (.cells #[.slice ga n.goals.length gcap,.slice va n.vals.length vcap,.slice da n.done.length dcap,.slice ua n.used.length ucap,.int .i64 n.vars] 152):=⟨_,rfl⟩
  have hE0:Ext w1 W0:=by rw [hW0]; exact (Ext.of (by repeat' (first | with_reducible exact Kept.refl _ _ | with_reducible apply Kept.drew | with_reducible apply Kept.drewN | with_reducible apply Kept.alloc | with_reducible refine Kept.setCell ?_ ?_ _ | exact fun h=>absurd h (by simp <;> omega))))
  have hs0:W0.heap.size=w1.heap.size+2:=by rw [hW0]; simp
  have hB0:W0.heap[w1.heap.size+1]?=some (.cells #[.slice ga n.goals.length gcap,.slice va n.vals.length vcap,.slice da n.done.length dcap,.slice ua n.used.length ucap,.int .i64 n.vars] 152 (0,0)):=by rw [hW0]; simpa using heap_alloc_new (w1.alloc _) _
  have HE0:=Zaa hE0
  have HB0:=Zaa hB0
  have HW0:=Zaa hW0
  clear hE0 hB0 hW0
  go_wp2
  rw [← HW0.out]
  go_loopg [13,14,15] (n.done.length+1) (fun gk tx sl i wr=>∃ (j:Nat) (sk:List Nat) (dt:List UInt8),i = .int .i64 j∧j≤n.done.length∧n.done.length - j<gk∧tx = .string ⟨dt.toArray⟩ ∧
   dt++Zea (Zas ((n.done.drop j).map (·.1)) sk).1 ((n.done.drop j).map (·.2)) (n.used.drop j)=F∧sk.length+((n.done.drop j).map (·.1)).flatten.length≤3000∧Appended W0 W0.heap.size 3 1 (.slice none 0 0) sk.length (ints sk) sl wr)
  case atStart=>exact ⟨0,[],[],by go_num,Nat.zero_le _,by omega,rfl,by simp [HFe.out],by simpa using hfl,⟨World.ownsRow_nil _ _ _ _,Kept.refl _ _,Or.inl rfl⟩⟩
  case round =>
   obtain ⟨j,sk,dt,rfl,hj,hgk,rfl,hdt,hsk,hap⟩:=hrel
   obtain ⟨ska,skcap,rfl⟩:=Zad hap.owns
   have hdl:dt.length≤20000000:=by
    have h1:=congrArg List.length hdt
    simp only [List.length_append] at h1
    omega
   have hE0r:Ext W0 wr:=hap.kept.below (Nat.le_refl _) (fun i e=>by simp [Zbd,Value.ownBlock] at e)
   have hsr:=hE0r.size
   have hEwr:Ext w1 wr:=HE0.out.trans (hE0r.mono (by omega))
   obtain ⟨m0,m1,m2,m3,m4,mf⟩:=box5 ((hE0r.block (w1.heap.size+1) (by omega)).trans HB0.out)
   have Hap:=Zaa hap
   have Hdt:=Zaa hdt
   have HEwr:=Zaa hEwr
   clear hap hdt hEwr hE0r
   by_cases hlt:j<n.done.length
   ·obtain ⟨g,hg⟩:∃ g,n.done[j]?=some g:=⟨_,List.getElem?_eq_getElem hlt⟩
    have hlu:j<n.used.length:=by have:=Hdl.out; omega
    obtain ⟨u,hu⟩:∃ u,n.used[j]?=some u:=⟨_,List.getElem?_eq_getElem hlu⟩
    have hdx:n.done.drop j=g::n.done.drop (j+1):=by
     rw [List.drop_eq_getElem_cons hlt,(List.getElem?_eq_some_iff.1 hg).2]
    have hdu:n.used.drop j=u::n.used.drop (j+1):=by
     rw [List.drop_eq_getElem_cons hlu,(List.getElem?_eq_some_iff.1 hu).2]
    obtain ⟨a',b',c',x0,x1,x2,x3,hrt⟩:=HD.out.all j g hg
    obtain ⟨s3,n3,c3a,c3l,c3c,rfl,rfl,rfl⟩:=hrt.shape
    have hrow':=HD.out.ext (Y:=fun _=>False) (B':=0) HEwr.out (fun _ _ h=>h) (Nat.le_refl _)
    obtain ⟨gb,cap',cur,hge,hBg,hgb,hcp⟩:=Zal hrow'.owns (by omega)
    simp only [Value.slice.injEq] at hge
    obtain ⟨rfl,_,rfl⟩:=hge
    have y0:wr.cell? ⟨gb,j * 4,none⟩=some (.string s3):=Zaf hrow'.owns _ _ x0
    have y1:wr.cell? ⟨gb,j * 4+1,none⟩=some (.int .i64 n3):=Zaf hrow'.owns _ _ x1
    have y2:wr.cell? ⟨gb,j * 4+2,none⟩=some (.slice c3a c3l c3c):=Zaf hrow'.owns _ _ x2
    have y3:wr.cell? ⟨gb,j * 4+3,none⟩=some (.int .i64 g.2):=Zaf hrow'.owns _ _ x3
    have hur:=Zan HU.out (fun i hi=>HEwr.out.block i (HU.out.lt i hi).2)
    obtain ⟨ub,ucap',ucur,hue,hBu,hub,hucp⟩:=Zal hur (by omega)
    simp only [Value.slice.injEq] at hue
    obtain ⟨rfl,_,rfl⟩:=hue
    have z0:wr.cell? ⟨ub,j,none⟩=some (.int .i64 u):=Zaf hur j _ (by simp only [ints,List.getElem?_map,hu,Option.map_some])
    have hu24:=Huse.out u (List.mem_of_getElem? hu)
    obtain ⟨ht30,hd100⟩:=Hds.out g (List.mem_of_getElem? hg)
    have htw:=Hdw.out g (List.mem_of_getElem? hg)
    have htn:=Hdn.out g (List.mem_of_getElem? hg)
    have hT:=wf_isT 1000 (by omega) htw
    obtain ⟨wc1,wc2⟩:=Zjm hT sk
    have hskl:sk.length+g.1.length+((n.done.drop (j+1)).map (·.1)).flatten.length≤3000:=by
     rw [hdx] at hsk
     simp only [List.map_cons,List.flatten_cons,List.length_append] at hsk
     omega
    obtain ⟨cl1,cl2⟩:=Zii (by omega) htw htn (seen:=sk) (by omega)
    have hI:=Zme 1000 wr 0 wr.heap.size _ _ _ g.1 W0.heap.size sk _ ((hrt.ext HEwr.out (fun _ _ h=>h)).repT (by omega)) Hap.out.owns hsr htn (by omega)
    rw [wc1,wc2] at hI
    obtain ⟨tx,htx⟩:∃ tx,tx=Zco (Zax g.1 sk).1 []:=⟨_,rfl⟩
    obtain ⟨sk2,hsk2⟩:∃ sk2,sk2=(Zax g.1 sk).2:=⟨_,rfl⟩
    obtain ⟨dg,hdg⟩:∃ dg,dg=Lib.decDigits u:=⟨_,rfl⟩
    have hdgl:dg.length≤25:=by rw [hdg]; have:=Zkq u; omega
    rw [← htx,← hsk2] at hI
    rw [← htx] at cl1
    rw [← hsk2] at cl2
    have Hnext:Hid (dt++List.replicate (2 * g.2) 32++tx++[32,98,121,32]++dg++[10]++Zea (Zas ((n.done.drop (j+1)).map (·.1)) sk2).1 ((n.done.drop (j+1)).map (·.2)) (n.used.drop (j+1))=F):=by
     have h1:=Hdt.out
     rw [hdx,hdu] at h1
     show _=_
     rw [← h1,htx,hsk2,hdg]; simp [Zas,Zea]
    have hdec:=Zmc u (by omega)
    have HI:=Zaa hI
    have Hdec:Hid (∀ w:World,Calls Tryz.prog 117 #[.int .i64 u] w fun e w'=>e = .returned (.string ⟨dg.toArray⟩)∧w'=w):=by rw [hdg]; exact hdec
    have hubl:=Zac hub
    have hgbl:=Zac hgb
    have hcl1:tx.length≤200000:=by omega
    obtain ⟨wo,hwo⟩:∃ x,x=wr:=⟨_,rfl⟩
    subst hwo
    clear hgb hrow' hrt x0 x1 x2 x3 hg hu hdx hdu hur hub hT wc1 wc2 hI htw htn cl1 htx hsk2 hdg hdec
    go_wp2
    go_loopg [13,16] (g.2+1) (fun gk tx i wr=>∃ (k:Nat),i = .int .i64 k∧k≤g.2∧g.2 - k<gk∧tx = .string ⟨(dt++List.replicate (2 * k) 32).toArray⟩∧wr=wo)
    case atStart=>exact ⟨0,by go_num,Nat.zero_le _,by omega,by simp,rfl⟩
    case round =>
     obtain ⟨k,rfl,hk,hgk2,rfl,rfl⟩:=hrel
     have hrl:(dt++List.replicate (2 * k) (32:UInt8)).length≤20000200:=by simp; omega
     by_cases hlt2:k<g.2
     ·have Hstr:Hid ((⟨(dt++List.replicate (2 * k) (32:UInt8)).toArray⟩:ByteArray)++⟨[32,32].toArray⟩=⟨(dt++List.replicate (2 * (k+1)) (32:UInt8)).toArray⟩):=by
       show _=_
       rw [Zcg,List.append_assoc]
       congr 3
       rw [show 2 * (k+1)=2 * k+2 by omega,← List.replicate_append_replicate]
       rfl
      generalize dt++List.replicate (2 * k) (32:UInt8)=dr at *
      go_wp2
      go_roundg (g.2 - k)
      case measure=>omega
      case rel=>exact ⟨k+1,by go_num,by omega,by omega,by rw [← Hstr.out],rfl⟩
     ·have hek:k=g.2:=by omega
      subst hek
      obtain ⟨dr,hdr⟩:∃ dr,dr=dt++List.replicate (2 * g.2) (32:UInt8):=⟨_,rfl⟩
      rw [← hdr] at hrl ⊢
      have Hdr:=Zaa hdr
      clear hdr
      have Hstr:Hid ((⟨dr.toArray⟩:ByteArray)++⟨tx.toArray⟩++⟨[32,98,121,32].toArray⟩++⟨dg.toArray⟩++⟨[10].toArray⟩=⟨(dr++tx++[32,98,121,32]++dg++[10]).toArray⟩):=by
       show _=_; rw [Zcg,Zcg,Zcg,Zcg]
      go_wp2_with fail
      refine HI.out.mono ?_
      rintro e w3 ⟨sv',rfl,hap1⟩
      obtain ⟨s1a,s1cap,rfl⟩:=Zad hap1.owns
      have hk1:Kept (fun i=>W0.heap.size≤i) wr w3:=hap1.kept.mono (fun i _ e=>(Hap.out.owns.lt i e).1)
      have hub1:ub<w1.heap.size:=(HU.out.lt ub rfl).2
      have m3':w3.cell? ⟨w1.heap.size+1,3,none⟩=some (.slice (some ⟨ub,0,none⟩) n.used.length ucap):=hk1.cell m3 (by show ¬ W0.heap.size≤w1.heap.size+1; omega)
      have z0':w3.cell? ⟨ub,j,none⟩=some (.int .i64 u):=hk1.cell z0 (by show ¬ W0.heap.size≤ub; omega)
      have Hap1:=Zaa hap1
      clear hap1 y0 y1 y2 y3 hk1
      go_wp2_with fail
      refine (Hdec.out _).mono ?_
      rintro e w4 ⟨rfl,rfl⟩
      go_wp2
      go_roundg (n.done.length - j)
      case measure=>omega
      case rel=>exact ⟨j+1,sk2,dr++tx++[32,98,121,32]++dg++[10],by go_num,by omega,by omega,by rw [← Hstr.out],by rw [Hdr.out]; exact Hnext.out,by omega,Hap.out.trans Hap1.out⟩
   ·have Hend:Hid (F=dt):=by
     have h1:=Hdt.out
     rw [List.drop_eq_nil_of_le (by omega)] at h1
     simp only [List.map_nil,Zas,Zea,List.append_nil] at h1
     exact h1.symm
    go_wp2
    go_ret3
    rw [Hy.out,Hend.out]
    exact ⟨rfl,HE1.out.trans (HEwr.out.mono hs1)⟩
def Znl:Prop:=∀ (p q x:ByteArray) (w:World),p.size≤maxLen→q.size≤maxLen→x.size≤maxLen→Calls Tryz.prog 19 #[.string p,.string q,.string x] w fun e w'=>e = .returned (.tuple #[.string ⟨(yesN p q x).1.toArray⟩,.int .i64 (yesN p q x).2.1,.int .i64 (yesN p q x).2.2])∧Ext w w'
set_option maxRecDepth 10000 in
set_option maxHeartbeats 1000000 in
theorem Zyw (HC0:Znl) (n m:Int) (p q x:ByteArray) (w:World) (hp:p.size≤maxLen) (hq:q.size≤maxLen) (hx:x.size≤maxLen) :
  Calls Tryz.prog 63 #[.agg #[.int .i64 6,.int .i64 n,.int .i64 m,.string p,.string q,.string x]] w fun e w'=>e = .returned (.bool true)∧Below w.heap.size w w':=by
 have HC:=Zaa (HC0 p q x)
 have HR:=Zaa (Zyq p q x)
 obtain ⟨R,hR⟩:∃ R,R=yesN p q x:=⟨_,rfl⟩
 rw [← hR] at HC HR
 clear HC0 hR
 go_enter Tryz.func63,Tryz.ntmps63
 go_wp2_with fail
 refine (HC.out _ hp hq hx).mono ?_
 rintro e w1 ⟨rfl,hb1⟩
 have hsz1:w.heap.size+1≤w1.heap.size:=by have:=hb1.size; simpa using this
 have hb1':Below w.heap.size w w1:=((Below.refl _ w).alloc (Nat.le_refl _) _).trans (hb1.mono (by simp))
 have hc:w1.cell? ⟨w.heap.size,3,none⟩=some (.string p):=(hb1.cell (p:=⟨w.heap.size,3,none⟩) (by simp)).trans (Zbk w _ _ 3 _ rfl)
 have hd:w1.cell? ⟨w.heap.size,4,none⟩=some (.string q):=(hb1.cell (p:=⟨w.heap.size,4,none⟩) (by simp)).trans (Zbk w _ _ 4 _ rfl)
 have he:w1.cell? ⟨w.heap.size,5,none⟩=some (.string x):=(hb1.cell (p:=⟨w.heap.size,5,none⟩) (by simp)).trans (Zbk w _ _ 5 _ rfl)
 have Hb1:=Zaa hb1'
 clear hb1 hb1'
 go_wp2_with fail
 refine (HR.out _ hp hq hx).mono ?_
 rintro e w2 ⟨rfl,hb2⟩
 have Hb2:=Zaa hb2
 clear hb2
 go_wp2
 go_ret
 exact ⟨rfl,Hb1.out.trans (Hb2.out.mono Hb1.out.size)⟩
set_option maxRecDepth 10000 in
set_option maxHeartbeats 1000000 in
theorem step_yes (HC0:Znl) (n m:Int) (p q x:ByteArray) (b:Value) (w:World) (hp:p.size≤maxLen) (hq:q.size≤maxLen) (hx:x.size≤maxLen) :
  Calls Tryz.prog 38 #[b,.agg #[.int .i64 6,.int .i64 n,.int .i64 m,.string p,.string q,.string x]] w fun e w'=>e = .returned (.bool true)∧Below w.heap.size w w':=by
 have HT:=Zaa (Zyw HC0 n m p q x)
 clear HC0
 go_enter Tryz.func38,Tryz.ntmps38
 go_wp2_with fail
 refine (HT.out _ hp hq hx).mono ?_
 rintro e w1 ⟨rfl,hb1⟩
 have Hb1:=Zaa hb1
 clear hb1
 go_wp2
 go_ret
 exact ⟨rfl,((Below.refl _ w).alloc (Nat.le_refl _) _).trans (Hb1.out.mono (by simp))⟩
set_option maxRecDepth 10000 in
set_option maxHeartbeats 1000000 in
theorem upTo_yes (HC0:Znl) (sv:Value) (w:World) (hst:Znk w sv) :
  Calls Tryz.prog 13 #[sv,.int .i64 6,.int .i64 6] w fun e w'=>e = .returned (.int .i64 (-1))∧Below w.heap.size w w':=by
 obtain ⟨a,len,cap,rfl,hlen,hcells⟩:=hst
 unfold maxLen at hlen
 have HS:=Zaa (step_yes HC0)
 have HL:=Zaa Zst
 have Hcells:=Zaa hcells
 clear HC0 hcells
 go_enter Tryz.func13,Tryz.ntmps13
 go_wp2
 go_loopw [8] (fun i wr=>∃ k:Nat,k≤len∧i = .int .i64 k∧Below w.heap.size w wr∧wr.heap[w.heap.size]?=some (.cells #[.slice none 0 0,.slice none 0 0,.slice none 0 0] 76 (0,0))) (fun i _=>len - (intOf i).toNat)
 case atStart=>exact ⟨0,Nat.zero_le _,rfl,(Below.refl _ _).alloc (Nat.le_refl _) _,heap_alloc_new w _⟩
 case round =>
  obtain ⟨k,hk,rfl,hbel,hblk⟩:=hrel
  have Hblk:=Zaa hblk
  have hsz:=Zac hblk
  clear hblk
  by_cases hlt:k<len
  ·obtain ⟨b,off,kd,n,m,p,q,x,rfl,hbl,d0,d1,d2,d3,d4,d5,hp,hq,hx⟩:=Hcells.out k hlt
   have c0:wr.cell? ⟨b,off+k * 6,none⟩=some (.int .i64 kd):=(hbel.cell (p:=⟨b,off+k * 6,none⟩) hbl).trans d0
   have c1:wr.cell? ⟨b,off+k * 6+1,none⟩=some (.int .i64 n):=(hbel.cell (p:=⟨b,off+k * 6+1,none⟩) hbl).trans d1
   have c2:wr.cell? ⟨b,off+k * 6+2,none⟩=some (.int .i64 m):=(hbel.cell (p:=⟨b,off+k * 6+2,none⟩) hbl).trans d2
   have c3:wr.cell? ⟨b,off+k * 6+3,none⟩=some (.string p):=(hbel.cell (p:=⟨b,off+k * 6+3,none⟩) hbl).trans d3
   have c4:wr.cell? ⟨b,off+k * 6+4,none⟩=some (.string q):=(hbel.cell (p:=⟨b,off+k * 6+4,none⟩) hbl).trans d4
   have c5:wr.cell? ⟨b,off+k * 6+5,none⟩=some (.string x):=(hbel.cell (p:=⟨b,off+k * 6+5,none⟩) hbl).trans d5
   clear d0 d1 d2 d3 d4 d5
   by_cases hkd:kd=6
   ·subst hkd
    go_wp2_with fail
    refine (HS.out n m p q x _ _ hp hq hx).mono ?_
    rintro e w1 ⟨rfl,hb1⟩
    have hs1:wr.heap.size+1≤w1.heap.size:=by have:=hb1.size; simpa using this
    have hbel1:Below w.heap.size w w1:=(hbel.alloc hbel.size _).trans (hb1.mono (by simp; omega))
    have Hblk1:Hid (w1.heap[w.heap.size]?=some (.cells #[.slice none 0 0,.slice none 0 0,.slice none 0 0] 76 (0,0))):=(hb1.block w.heap.size (by simp; omega)).trans (Zag Hblk.out _)
    clear hb1 c0 c1 c2 c3 c4 c5
    go_wp2_with fail
    refine (HL.out w1 w.heap.size Hblk1.out).mono ?_
    rintro e w2 ⟨rfl,rfl⟩
    go_wp2
    go_roundw
    case rel=>exact ⟨k+1,by omega,by go_num,hbel1,Hblk1.out⟩
    case measure=>simp [intOf]; omega
   ·rcases Int.lt_or_gt_of_ne hkd with hlt2 | hlt2
    ·have h1:¬ (6:Int)≤kd:=by omega
     clear hkd hlt2
     go_wp2
     go_roundw
     case rel=>exact ⟨k+1,by omega,by go_num,hbel.alloc hbel.size _,Zag Hblk.out _⟩
     case measure=>simp [intOf]; omega
    ·have h1:(6:Int)≤kd:=by omega
     have h2:¬ kd≤(6:Int):=by omega
     clear hkd hlt2
     go_wp2
     go_roundw
     case rel=>exact ⟨k+1,by omega,by go_num,hbel.alloc hbel.size _,Zag Hblk.out _⟩
     case measure=>simp [intOf]; omega
  ·go_wp2
   go_ret
   exact ⟨rfl,hbel⟩
def Zdx:Prop:=∀ (p q x:ByteArray) (w:World),p.size≤maxLen→q.size≤maxLen→x.size≤maxLen→Calls Tryz.prog 34 #[.string p,.string q,.string x] w fun e w'=>e = .returned (.tuple #[.string ⟨(Zkv p q x).1.toArray⟩,.int .i64 (Zkv p q x).2.1,.int .i64 (Zkv p q x).2.2])∧Ext w w'
set_option maxRecDepth 10000 in
set_option maxHeartbeats 1000000 in
theorem Znw (HC0:Zdx) (n m:Int) (p q x:ByteArray) (w:World) (hp:p.size≤maxLen) (hq:q.size≤maxLen) (hx:x.size≤maxLen) :
  Calls Tryz.prog 63 #[.agg #[.int .i64 7,.int .i64 n,.int .i64 m,.string p,.string q,.string x]] w fun e w'=>e = .returned (.bool true)∧Below w.heap.size w w':=by
 have HC:=Zaa (HC0 p q x)
 have HR:=Zaa (Znv p q x)
 obtain ⟨R,hR⟩:∃ R,R=Zkv p q x:=⟨_,rfl⟩
 rw [← hR] at HC HR
 clear HC0 hR
 go_enter Tryz.func63,Tryz.ntmps63
 go_wp2_with fail
 refine (HC.out _ hp hq hx).mono ?_
 rintro e w1 ⟨rfl,hb1⟩
 have hsz1:w.heap.size+1≤w1.heap.size:=by have:=hb1.size; simpa using this
 have hb1':Below w.heap.size w w1:=((Below.refl _ w).alloc (Nat.le_refl _) _).trans (hb1.mono (by simp))
 have hc:w1.cell? ⟨w.heap.size,3,none⟩=some (.string p):=(hb1.cell (p:=⟨w.heap.size,3,none⟩) (by simp)).trans (Zbk w _ _ 3 _ rfl)
 have hd:w1.cell? ⟨w.heap.size,4,none⟩=some (.string q):=(hb1.cell (p:=⟨w.heap.size,4,none⟩) (by simp)).trans (Zbk w _ _ 4 _ rfl)
 have he:w1.cell? ⟨w.heap.size,5,none⟩=some (.string x):=(hb1.cell (p:=⟨w.heap.size,5,none⟩) (by simp)).trans (Zbk w _ _ 5 _ rfl)
 have Hb1:=Zaa hb1'
 clear hb1 hb1'
 go_wp2_with fail
 refine (HR.out _ hp hq hx).mono ?_
 rintro e w2 ⟨rfl,hb2⟩
 have Hb2:=Zaa hb2
 clear hb2
 go_wp2
 go_ret
 exact ⟨rfl,Hb1.out.trans (Hb2.out.mono Hb1.out.size)⟩
set_option maxRecDepth 10000 in
set_option maxHeartbeats 1000000 in
theorem Zsx (HC0:Zdx) (n m:Int) (p q x:ByteArray) (b:Value) (w:World) (hp:p.size≤maxLen) (hq:q.size≤maxLen) (hx:x.size≤maxLen) :
  Calls Tryz.prog 38 #[b,.agg #[.int .i64 7,.int .i64 n,.int .i64 m,.string p,.string q,.string x]] w fun e w'=>e = .returned (.bool true)∧Below w.heap.size w w':=by
 have HT:=Zaa (Znw HC0 n m p q x)
 clear HC0
 go_enter Tryz.func38,Tryz.ntmps38
 go_wp2_with fail
 refine (HT.out _ hp hq hx).mono ?_
 rintro e w1 ⟨rfl,hb1⟩
 have Hb1:=Zaa hb1
 clear hb1
 go_wp2
 go_ret
 exact ⟨rfl,((Below.refl _ w).alloc (Nat.le_refl _) _).trans (Hb1.out.mono (by simp))⟩
set_option maxRecDepth 10000 in
set_option maxHeartbeats 1000000 in
theorem Zsy (HC0:Zdx) (sv:Value) (w:World) (hst:Znk w sv) :
  Calls Tryz.prog 13 #[sv,.int .i64 7,.int .i64 7] w fun e w'=>e = .returned (.int .i64 (-1))∧Below w.heap.size w w':=by
 obtain ⟨a,len,cap,rfl,hlen,hcells⟩:=hst
 unfold maxLen at hlen
 have HS:=Zaa (Zsx HC0)
 have HL:=Zaa Zst
 have Hcells:=Zaa hcells
 clear HC0 hcells
 go_enter Tryz.func13,Tryz.ntmps13
 go_wp2
 go_loopw [8] (fun i wr=>∃ k:Nat,k≤len∧i = .int .i64 k∧Below w.heap.size w wr∧wr.heap[w.heap.size]?=some (.cells #[.slice none 0 0,.slice none 0 0,.slice none 0 0] 76 (0,0))) (fun i _=>len - (intOf i).toNat)
 case atStart=>exact ⟨0,Nat.zero_le _,rfl,(Below.refl _ _).alloc (Nat.le_refl _) _,heap_alloc_new w _⟩
 case round =>
  obtain ⟨k,hk,rfl,hbel,hblk⟩:=hrel
  have Hblk:=Zaa hblk
  have hsz:=Zac hblk
  clear hblk
  by_cases hlt:k<len
  ·obtain ⟨b,off,kd,n,m,p,q,x,rfl,hbl,d0,d1,d2,d3,d4,d5,hp,hq,hx⟩:=Hcells.out k hlt
   have c0:wr.cell? ⟨b,off+k * 6,none⟩=some (.int .i64 kd):=(hbel.cell (p:=⟨b,off+k * 6,none⟩) hbl).trans d0
   have c1:wr.cell? ⟨b,off+k * 6+1,none⟩=some (.int .i64 n):=(hbel.cell (p:=⟨b,off+k * 6+1,none⟩) hbl).trans d1
   have c2:wr.cell? ⟨b,off+k * 6+2,none⟩=some (.int .i64 m):=(hbel.cell (p:=⟨b,off+k * 6+2,none⟩) hbl).trans d2
   have c3:wr.cell? ⟨b,off+k * 6+3,none⟩=some (.string p):=(hbel.cell (p:=⟨b,off+k * 6+3,none⟩) hbl).trans d3
   have c4:wr.cell? ⟨b,off+k * 6+4,none⟩=some (.string q):=(hbel.cell (p:=⟨b,off+k * 6+4,none⟩) hbl).trans d4
   have c5:wr.cell? ⟨b,off+k * 6+5,none⟩=some (.string x):=(hbel.cell (p:=⟨b,off+k * 6+5,none⟩) hbl).trans d5
   clear d0 d1 d2 d3 d4 d5
   by_cases hkd:kd=7
   ·subst hkd
    go_wp2_with fail
    refine (HS.out n m p q x _ _ hp hq hx).mono ?_
    rintro e w1 ⟨rfl,hb1⟩
    have hs1:wr.heap.size+1≤w1.heap.size:=by have:=hb1.size; simpa using this
    have hbel1:Below w.heap.size w w1:=(hbel.alloc hbel.size _).trans (hb1.mono (by simp; omega))
    have Hblk1:Hid (w1.heap[w.heap.size]?=some (.cells #[.slice none 0 0,.slice none 0 0,.slice none 0 0] 76 (0,0))):=(hb1.block w.heap.size (by simp; omega)).trans (Zag Hblk.out _)
    clear hb1 c0 c1 c2 c3 c4 c5
    go_wp2_with fail
    refine (HL.out w1 w.heap.size Hblk1.out).mono ?_
    rintro e w2 ⟨rfl,rfl⟩
    go_wp2
    go_roundw
    case rel=>exact ⟨k+1,by omega,by go_num,hbel1,Hblk1.out⟩
    case measure=>simp [intOf]; omega
   ·rcases Int.lt_or_gt_of_ne hkd with hlt2 | hlt2
    ·have h1:¬ (7:Int)≤kd:=by omega
     clear hkd hlt2
     go_wp2
     go_roundw
     case rel=>exact ⟨k+1,by omega,by go_num,hbel.alloc hbel.size _,Zag Hblk.out _⟩
     case measure=>simp [intOf]; omega
    ·have h1:(7:Int)≤kd:=by omega
     have h2:¬ kd≤(7:Int):=by omega
     clear hkd hlt2
     go_wp2
     go_roundw
     case rel=>exact ⟨k+1,by omega,by go_num,hbel.alloc hbel.size _,Zag Hblk.out _⟩
     case measure=>simp [intOf]; omega
  ·go_wp2
   go_ret
   exact ⟨rfl,hbel⟩
set_option maxHeartbeats 1000000 in
theorem Zyx (HC0:Znl) (sv:Value) (w:World) (hst:Znk w sv) :
  Calls Tryz.prog 6 #[sv] w fun e w'=>e = .returned (.bool true)∧Below w.heap.size w w':=by
 have HU:=Zaa (upTo_yes HC0 sv w hst)
 clear HC0 hst
 go_enter Tryz.func6,Tryz.ntmps6
 go_wp2_with fail
 refine HU.out.mono ?_
 rintro e w1 ⟨rfl,hb1⟩
 have Hb1:=Zaa hb1
 clear hb1
 go_wp2
 go_ret
 exact ⟨rfl,Hb1.out⟩
set_option maxHeartbeats 1000000 in
theorem Zqp (HC0:Zdx) (sv:Value) (w:World) (hst:Znk w sv) :
  Calls Tryz.prog 7 #[sv] w fun e w'=>e = .returned (.bool true)∧Below w.heap.size w w':=by
 have HU:=Zaa (Zsy HC0 sv w hst)
 clear HC0 hst
 go_enter Tryz.func7,Tryz.ntmps7
 go_wp2_with fail
 refine HU.out.mono ?_
 rintro e w1 ⟨rfl,hb1⟩
 have Hb1:=Zaa hb1
 clear hb1
 go_wp2
 go_ret
 exact ⟨rfl,Hb1.out⟩
end Go.Proofs.YtlmjilpjmgjjcaaGreatDoor
namespace Go.Proofs.YtlmjilpjmgjjcaaGreatDoor
open Go.ChangeShapes Go.WideShapes Go.ChangeAt Go.WideMaps Go.WideElems Go.RowKit
set_option linter.unusedSimpArgs false
set_option linter.unusedVariables false
theorem own:ownKnob Tryz.prog.godebug=none:=by kernel_rfl
theorem laidOut:laidOutB Tryz.prog=true:=by kernel_rfl
theorem Zsz:Tryz.prog.cellsOf 78=6:=by kernel_rfl
theorem cellsInt:Tryz.prog.cellsOf 3=1:=by kernel_rfl
theorem cellsStr:Tryz.prog.cellsOf 9=1:=by kernel_rfl
theorem Zfv {W:World} {a:Addr} {j:Nat} {v:Value} (h:W.cell? (a.add j)=some v) (hs:a.spot=none):W.cell? ⟨a.block,a.off+j,none⟩=some v:=by
 have e:a.add j=⟨a.block,a.off+j,none⟩:=by
  unfold Addr.add
  obtain ⟨b,o,s⟩:=a
  simp only at hs
  subst hs
  split
  ·rename_i h0; subst h0; rfl
  ·rfl
 rwa [e] at h
theorem spot_none {W:World} {a:Addr} {v:Value} (h:W.cell? a=some v):a.spot=none:=by
 unfold World.cell? at h
 split at h
 ·split at h
  ·cases h
  ·rename_i h1; cases hs:a.spot with
   | none=>rfl
   | some _=>rw [hs] at h1; simp at h1
 ·cases h
theorem Zqq {H:Type} {enc:TypeId × Value→H} {W:World} {base n':Nat} {spare:Nat→Bool} {held:Bool} {a:Addr} {cs:List Value} {x:DataW H × List MemPlace} {i:Nat} (hcells:∀ i,i<6→W.cell? (a.add i)=cs[i]?) (hlen:cs.length=6) (hi:i<6)
  (h:DataW.trod enc Tryz.prog W base spare held n' 9 ((cs.drop i).take (Tryz.prog.cellsOf 9))=some x):∃ s:ByteArray,W.cell? (a.add i)=some (.string s)∧s.size≤maxLen:=by
 obtain ⟨s,h1,_,h3⟩:=DataW.trod_string Tryz.underlying9 h
 rw [cellsStr] at h1
 refine ⟨s,?_,h3⟩
 rw [hcells i hi]
 have:=congrArg (fun l:List Value=>l[0]?) h1
 simpa using this
theorem Zqr {H:Type} {enc:TypeId × Value→H} {W:World} {base n':Nat} {spare:Nat→Bool} {held:Bool} {a:Addr} {cs:List Value} {x:DataW H × List MemPlace} {i:Nat} (hcells:∀ i,i<6→W.cell? (a.add i)=cs[i]?) (hlen:cs.length=6) (hi:i<6)
  (h:DataW.trod enc Tryz.prog W base spare held n' 3 ((cs.drop i).take (Tryz.prog.cellsOf 3))=some x):∃ k:Int,W.cell? (a.add i)=some (.int .i64 k):=by
 obtain ⟨s,h1,_,h3⟩:=DataW.trod_int Tryz.underlying3 h
 rw [cellsInt] at h1
 refine ⟨s,?_⟩
 rw [hcells i hi]
 have:=congrArg (fun l:List Value=>l[0]?) h1
 simpa using this
set_option maxRecDepth 100000 in
theorem Zij {H:Type} {enc:TypeId × Value→H} {W:World} {a0:Option Addr} {len cap:Nat} {d:DataW H} {ps:List MemPlace}
  (h:DataW.Trod enc Tryz.prog W 0 (fun _=>true) true 22 (.slice a0 len cap) d ps):Znk W (.slice a0 len cap):=by
 obtain ⟨fuel,hf⟩:=h
 rcases Deep.open_slice Tryz.underlying22 hf with ⟨hcs,_⟩ | ⟨a,l,c,m,n,D,Pl,hcs,_,hl,hm,hmm,_,hall⟩
 ·simp [Value.cells] at hcs
  obtain ⟨rfl,rfl,rfl⟩:=hcs
  exact ⟨none,0,0,rfl,by decide,fun k hk=>absurd hk (by omega)⟩
 ·simp [Value.cells] at hcs
  obtain ⟨rfl,rfl,rfl⟩:=hcs
  refine ⟨some a,len,cap,rfl,Nat.le_trans hl hm,fun k hk => ?_⟩
  obtain ⟨cs,hcells,htrod⟩:=hall k (by rw [hmm]; simp; omega)
  rw [Zsz] at hcells
  obtain ⟨hb,hlen,hcell⟩:=World.cells?_some hcells
  obtain ⟨xs,n',_,_,hlen2,hxl,hfld⟩:=DataW.trod_struct Tryz.underlying78 htrod
  have hx:∀ i,i<6→∃ x,xs[i]?=some x:=fun i hi=>⟨_,List.getElem?_eq_getElem (by rw [hxl]; exact hi)⟩
  obtain ⟨x0,e0⟩:=hx 0 (by omega)
  obtain ⟨x1,e1⟩:=hx 1 (by omega)
  obtain ⟨x2,e2⟩:=hx 2 (by omega)
  obtain ⟨x3,e3⟩:=hx 3 (by omega)
  obtain ⟨x4,e4⟩:=hx 4 (by omega)
  obtain ⟨x5,e5⟩:=hx 5 (by omega)
  obtain ⟨k0,q0⟩:=Zqr hcell hlen (i:=0) (by omega) ((hfld 0 _ rfl).trans e0)
  obtain ⟨k1,q1⟩:=Zqr hcell hlen (i:=1) (by omega) ((hfld 1 _ rfl).trans e1)
  obtain ⟨k2,q2⟩:=Zqr hcell hlen (i:=2) (by omega) ((hfld 2 _ rfl).trans e2)
  obtain ⟨s3,q3,z3⟩:=Zqq hcell hlen (i:=3) (by omega) ((hfld 3 _ rfl).trans e3)
  obtain ⟨s4,q4,z4⟩:=Zqq hcell hlen (i:=4) (by omega) ((hfld 4 _ rfl).trans e4)
  obtain ⟨s5,q5,z5⟩:=Zqq hcell hlen (i:=5) (by omega) ((hfld 5 _ rfl).trans e5)
  have hblk:a.block<W.heap.size:=by
   have:=World.block_lt_of_cell? W _ q1
   rw [Deep.add_add] at this
   simpa [Addr.add] using this
  have hsp:a.spot=none:=by
   obtain ⟨cs',hcells',_⟩:=hall 0 (by rw [hmm]; simp; omega)
   rw [Zsz] at hcells'
   obtain ⟨_,hlen',hcell'⟩:=World.cells?_some hcells'
   have h1:=hcell' 0 (by omega)
   rw [List.getElem?_eq_getElem (by omega)] at h1
   have h2:=spot_none h1
   simpa [Addr.add] using h2
  simp only [Deep.add_add] at q0 q1 q2 q3 q4 q5
  obtain ⟨b,o,sp⟩:=a
  simp only at hsp
  subst hsp
  refine ⟨b,o,k0,k1,k2,s3,s4,s5,rfl,hblk,?_,?_,?_,?_,?_,?_,z3,z4,z5⟩
  ·simpa using Zfv q0 rfl
  ·simpa [Nat.add_assoc] using Zfv q1 rfl
  ·simpa [Nat.add_assoc] using Zfv q2 rfl
  ·simpa [Nat.add_assoc] using Zfv q3 rfl
  ·simpa [Nat.add_assoc] using Zfv q4 rfl
  ·simpa [Nat.add_assoc] using Zfv q5 rfl
end Go.Proofs.YtlmjilpjmgjjcaaGreatDoor
namespace Go.Proofs.YtlmjilpjmgjjcaaGreatDoor
open Go.ChangeShapes Go.WideShapes Go.ChangeAt Go.WideMaps Go.WideElems Go.RowKit
set_option linter.unusedSimpArgs false
set_option linter.unusedVariables false
theorem Zyy (os:Os) (args:Array Value):laidMetH Tryz.prog Rows.yesesRow.laid ((World.doorLaid Tryz.prog 400 os).forCall (fun _ _=>0) ⟨#[],args,[]⟩).memory :=
 laidMetH_of_parts3 (fuel:=8) (laidMet_of_run' 8 (by kernel_rfl) (by kernel_rfl)) (by kernel_rfl) (by kernel_rfl)
theorem Zqs (os:Os) (args:Array Value):laidMetH Tryz.prog Rows.explainsRow.laid ((World.doorLaid Tryz.prog 400 os).forCall (fun _ _=>0) ⟨#[],args,[]⟩).memory :=
 laidMetH_of_parts3 (fuel:=8) (laidMet_of_run' 8 (by kernel_rfl) (by kernel_rfl)) (by kernel_rfl) (by kernel_rfl)
set_option maxRecDepth 100000 in
theorem yeses_lifted (HC:Znl) (os:Os) (started:os.Started) (H:Type) (enc:TypeId × Value→H) :
  ReturnsInHanded {} Tryz.checked os 6 .any (fun w args=>(Rows.yesesSpec.pre enc Tryz.prog Tryz.f6 [] false w args∧laidMetH Tryz.prog Rows.yesesRow.laid w)∧sizedMet enc Tryz.prog Tryz.f6 (OpenSpec.ofChange Rows.yesesSpec) false w args)
   (Rows.yesesSpec.post enc Tryz.prog Tryz.f6 false true false false):=by
 refine returnsInHanded_of_change_and (C:=Tryz.checked) (X:=fun w _=>laidMetH Tryz.prog Rows.yesesRow.laid w) (fun _ _ _ hh h=>h.of_heap hh) own started (by kernel_rfl) Tryz.func6
  (ChangeSpec.witness_shaped (enc:=enc) (C:=Tryz.checked) (os:=os) (X:=fun w _=>laidMetH Tryz.prog Rows.yesesRow.laid w) false (World.doorLaid Tryz.prog 400 os) #[.slice none 0 0] 8 rfl (World.shaped_of_RefB (by kernel_rfl) (by kernel_rfl)) (by kernel_rfl) (by kernel_rfl) (by kernel_rfl) (Zyy os _)) ?_
 intro W base args ds gs before hval0 hW _ _ hL _
 have hval:∀ (j:Nat) t v,Tryz.f6.params[j]?=some t→args[j]?=some v→Value.okWide Tryz.prog W .any base t v:=hval0
 have hW':=hW
 obtain ⟨p,q,hA0,hV,rfl,hfz,hnd⟩:=hW
 have hA:DataW.TrodAll enc Tryz.prog W 0 (fun _=>true) true Tryz.f6.params.toList args.toList ds p:=hA0
 rw [Tryz.params6] at hA hval
 obtain ⟨v0,d0,rfl,rfl,h0⟩:=trodAll_one hA
 obtain ⟨rfl,rfl⟩:=trodVars_none hV
 have lt0:∀ x ∈ p,x.block<W.heap.size:=by obtain ⟨m,hm⟩:=h0; exact DataW.trod_lt m _ _ _ hm
 obtain ⟨a0,len0,cap0,rfl⟩:=okWide_slice Tryz.underlying22 (hval 0 22 v0 rfl rfl)
 have hst:=Zij h0
 clear hA0 hval0
 refine (Zyx HC _ W hst).mono fun e W' ⟨he,bel⟩ => ?_
 subst he
 exact ⟨_,rfl,_,_,_,[],_,[],hW',trodAll_mk1 (shut_bool Tryz.underlying4 _),trodAll_mk1 (Below.trod laidOut (by kernel_rfl) (of_decide_eq_true (by kernel_rfl)) h0 bel lt0),rfl,bel.frame _,fun h=>by cases h⟩
set_option maxRecDepth 100000 in
theorem Znm (HC:Zdx) (os:Os) (started:os.Started) (H:Type) (enc:TypeId × Value→H) :
  ReturnsInHanded {} Tryz.checked os 7 .any (fun w args=>(Rows.explainsSpec.pre enc Tryz.prog Tryz.f7 [] false w args∧laidMetH Tryz.prog Rows.explainsRow.laid w)∧sizedMet enc Tryz.prog Tryz.f7 (OpenSpec.ofChange Rows.explainsSpec) false w args)
   (Rows.explainsSpec.post enc Tryz.prog Tryz.f7 false true false false):=by
 refine returnsInHanded_of_change_and (C:=Tryz.checked) (X:=fun w _=>laidMetH Tryz.prog Rows.explainsRow.laid w) (fun _ _ _ hh h=>h.of_heap hh) own started (by kernel_rfl) Tryz.func7
  (ChangeSpec.witness_shaped (enc:=enc) (C:=Tryz.checked) (os:=os) (X:=fun w _=>laidMetH Tryz.prog Rows.explainsRow.laid w) false (World.doorLaid Tryz.prog 400 os) #[.slice none 0 0] 8 rfl (World.shaped_of_RefB (by kernel_rfl) (by kernel_rfl)) (by kernel_rfl) (by kernel_rfl) (by kernel_rfl) (Zqs os _)) ?_
 intro W base args ds gs before hval0 hW _ _ hL _
 have hval:∀ (j:Nat) t v,Tryz.f7.params[j]?=some t→args[j]?=some v→Value.okWide Tryz.prog W .any base t v:=hval0
 have hW':=hW
 obtain ⟨p,q,hA0,hV,rfl,hfz,hnd⟩:=hW
 have hA:DataW.TrodAll enc Tryz.prog W 0 (fun _=>true) true Tryz.f7.params.toList args.toList ds p:=hA0
 rw [Tryz.params7] at hA hval
 obtain ⟨v0,d0,rfl,rfl,h0⟩:=trodAll_one hA
 obtain ⟨rfl,rfl⟩:=trodVars_none hV
 have lt0:∀ x ∈ p,x.block<W.heap.size:=by obtain ⟨m,hm⟩:=h0; exact DataW.trod_lt m _ _ _ hm
 obtain ⟨a0,len0,cap0,rfl⟩:=okWide_slice Tryz.underlying22 (hval 0 22 v0 rfl rfl)
 have hst:=Zij h0
 clear hA0 hval0
 refine (Zqp HC _ W hst).mono fun e W' ⟨he,bel⟩ => ?_
 subst he
 exact ⟨_,rfl,_,_,_,[],_,[],hW',trodAll_mk1 (shut_bool Tryz.underlying4 _),trodAll_mk1 (Below.trod laidOut (by kernel_rfl) (of_decide_eq_true (by kernel_rfl)) h0 bel lt0),rfl,bel.frame _,fun h=>by cases h⟩
theorem Zta (HC:Zdx):Rows.ExplainsSaid :=
 OpenClaim.holds_of_wide 7 Tryz.f7 rfl rfl rfl rfl rfl rfl rfl ⟨rfl,rfl,rfl,rfl,rfl⟩ rfl rfl rfl rfl rfl (by kernel_rfl) Tryz.func7 (by kernel_rfl)
  (of_decide_eq_true (by kernel_rfl)) (by unfold Func.isWrapper; first | (rw [if_pos (by decide +kernel)]; kernel_rfl) | (rw [if_neg (by decide +kernel)]; exact ⟨rfl,rfl⟩))
  (fun os started H enc _=>Znm HC os started H enc)
theorem Zqt (HC:Zdx):Rows.ExplainsCardSaid :=
 Claim7.holds_tied_plain_at .later [] [.data,.data,.data] true Rows.explainsCard.stood.harness false
  (Zta HC) (fun _ h=>by cases h) (by kernel_rfl) (fun _ h=>by cases h) explains_row_tie rfl ⟨rfl,rfl⟩ (by kernel_rfl) rfl
  (fun f fn hf hfn=>by
   obtain rfl:f=7:=Option.some.inj ((show Tryz.prog.funcNamed Tryz.f7.name=some 7 by kernel_rfl).symm.trans hf) |>.symm
   obtain rfl:fn=Tryz.f7:=(Option.some.inj (Tryz.func7.symm.trans hfn)).symm
   exact ⟨by kernel_rfl,fun j t ht=>by
    rw [Tryz.params7] at ht
    have hm:t ∈ [22]:=by simpa using Array.mem_of_getElem? ht
    have hall:([22].all fun u => !Tryz.prog.wantsStandIn u)=true:=by kernel_rfl
    exact (show Tryz.prog.wantsStandIn t=false by simpa using List.all_eq_true.1 hall t hm)⟩)
  (by kernel_rfl)
end Go.Proofs.YtlmjilpjmgjjcaaGreatDoor
namespace Go.Proofs.YtlmjilpjmgjjcaaGreatDoor
open Go.RowKit
set_option linter.unusedSimpArgs false
set_option linter.unusedVariables false
theorem flat_le {ts:List (List Sym)} {N:Nat} (h:∀ t ∈ ts,t.length≤N):ts.flatten.length≤N * ts.length:=by
 induction ts with
 | nil=>simp
 | cons t ts ih =>
  have h1:=h t (by simp)
  have h2:=ih (fun y hy=>h y (by simp [hy]))
  simp only [List.flatten_cons,List.length_append,List.length_cons]
  rw [Nat.mul_add]
  omega
theorem Zyz:∀ (ts:List (List Sym)) (seen:List Nat),(∀ t ∈ ts,Wf 1 t∧t.length≤30∧∀ s ∈ t,s.name.length≤4096)→seen.length+ts.flatten.length≤4000→∀ u ∈ (Zas ts seen).1,(Zco u []).length≤200000:=by
 intro ts
 induction ts with
 | nil=>intro seen _ _ u hu; simp [Zas] at hu
 | cons t ts ih =>
  intro seen h hs u hu
  simp only [List.flatten_cons,List.length_append] at hs
  obtain ⟨h1,h2,h3⟩:=h t (by simp)
  have hc:=Zii (l:=t) (by omega) h1 h3 (seen:=seen) (by omega)
  simp only [Zas] at hu
  rcases List.mem_cons.1 hu with rfl | hu
  ·omega
  ·exact ih _ (fun v hv=>h v (by simp [hv])) (by omega) u hu
theorem tx_ok {n:ND} (hn:NOk n) (hm:NNm n) {ts:List (List Sym)} (ht:∀ t ∈ ts,t ∈ n.terms∧t.length≤30) (hl:ts.length≤130) (hv:(Zas ts []).2.length≤2599):TxOk ts:=by
 have hfl:ts.flatten.length≤30 * ts.length:=flat_le (fun t h=>(ht t h).2)
 have hV:n.vars≤101000:=by have:=hn.vars; have:=hn.ul; omega
 refine ⟨by omega,by omega,fun t h=>Znu (hn.wf t (ht t h).1) (by have:=(ht t h).2; omega) (hn.occ t (ht t h).1) (by omega),fun u hu=>⟨?_,fun s hs=>⟨?_,?_⟩⟩,fun u hu => ?_⟩
 ·obtain ⟨t,h1,m,rfl⟩:=Znj ts [] u hu
  rw [Zka]
  have:=(ht t h1).2
  omega
 ·exact Zyv ts [] 2600 (by omega) (fun t h1 x hx hne=>by
   obtain ⟨i,hi⟩:=List.mem_iff_getElem?.1 hx
   exact (Zjq (hn.wf t (ht t h1).1) hi).2 hne) (by omega) u hu s hs
 ·obtain ⟨t,h1,m,rfl⟩:=Znj ts [] u hu
  refine Nat.le_trans (Zuu t m (fun a=>a≤30) (fun x hx => ?_) s hs) (by omega)
  obtain ⟨i,hi⟩:=List.mem_iff_getElem?.1 hx
  have hil:=(List.getElem?_eq_some_iff.1 hi).1
  have:=Zuh (hn.wf t (ht t h1).1) (i:=i) hil
  have he:Zba t i=x:=by unfold Zba; rw [List.getD_eq_getElem?_getD,hi]; rfl
  rw [he] at this
  have:=(ht t h1).2
  omega
 ·refine Nat.le_trans (Zyz ts [] (fun t h1=>⟨hn.wf t (ht t h1).1,(ht t h1).2,fun s hs=>Nat.le_trans (hm t (ht t h1).1 s hs) (by omega)⟩) ?_ u hu) (by omega)
  simp only [List.length_nil]
  omega
theorem pa_eval2 {a0:Act} {vc:Value} {β:Nat→Nat} {lst lst':Nat→Bool} {x:Operand}:∀ {ops:List Oper} {kd:List Kd} {k:Nat},(∀ j o d,ops[j]?=some o→o.dst=some d→x = .tmp d→lst (k+j)=lst' (k+j)) →
  (pa a0 vc β lst k ops kd).eval x=(pa a0 vc β lst' k ops kd).eval x:=by
 intro ops
 induction ops with
 | nil=>intro kd k _; simp [pa]
 | cons o os ih =>
  intro kd k h
  cases kd with
  | nil=>simp [pa]
  | cons q qs =>
   have ih':=ih (kd:=qs) (k:=k+1) (fun j r d hr hd hx=>by
    have e:k+1+j=k+(j+1):=by omega
    rw [e]
    exact h (j+1) r d (by simpa using hr) hd hx)
   rw [pa,pa]
   by_cases hx:∃ d,o.dst=some d∧x = .tmp d
   ·obtain ⟨d,hd,rfl⟩:=hx
    have h0:=h 0 o d rfl hd rfl
    simp only [Nat.add_zero] at h0
    rw [← h0]
    split
    ·rw [hd]
     simp only [Act.eval,Act.put,Array.getD_eq_getD_getElem?]
     rcases Nat.lt_or_ge d a0.tmps.size with hd' | hd'
     ·rw [Array.getElem?_setIfInBounds_self_of_lt (by rw [Zmy]; exact hd'),Array.getElem?_setIfInBounds_self_of_lt (by rw [Zmy]; exact hd')]
     ·rw [Array.getElem?_eq_none (by simp [Zmy]; omega),Array.getElem?_eq_none (by simp [Zmy]; omega)]
    ·exact ih'
   ·have hne:∀ d,o.dst=some d→x ≠ .tmp d:=fun d hd e=>hx ⟨d,hd,e⟩
    have e1:∀ (b:Bool) (A:Act) (v:Value),(if b then A.put o.dst v else A).eval x=A.eval x:=fun b A v=>by
     cases b
     ·rfl
     ·exact Act.eval_put hne
    rw [e1,e1]
    exact ih'
theorem waits_mem {o:Oper} {j:Nat} (h:Zbv o j=true):∃ e ∈ o.after,Region.binds .any e=true∧e.on=j:=by
 unfold Zbv at h
 rw [← Array.any_toList] at h
 obtain ⟨e,he,hb⟩:=List.any_eq_true.1 h
 simp only [Bool.and_eq_true,beq_iff_eq] at hb
 exact ⟨e,by simpa using he,hb.1,hb.2⟩
def Zwd (z T:Nat) (ops:List Oper) (ph:List Ph) (m n:Nat):Bool :=
 (ops.length == ph.length && (List.range m).all fun p=>Znt ph p (fun _=>true)) &&
 (List.range ops.length).all fun i=>match ops[i]?,ph[i]? with
  | some o,some q =>
   (match o.guard with
    | none=>true
    | some (j,_)=>Zbv o j && (match ops[j]? with
     | some p=>match p.dst with | some d=>decide (d<T) | none=>false
     | _=>false)) && (match o.op with | .select .. => false | _=>true) &&
   (o.after.all fun e => !Region.binds .any e || e.on<i) &&
   ((List.range ops.length).all fun j=>match ops[j]? with
    | some p=>match p.dst with
     | some d=>((j == i) || (o.dst != some d)) && (!(o.looksAt ops.toArray).contains d || (Zbv o j && j != z) || (j == z && Zbv p i))
     | none=>true
    | none=>true) &&
   (match q with
    | .rd lo hi _=>(lo == 0 || Znt ph (lo - 1) (fun j=>Zgs ops n i j)) && (decide (m≤hi) || Znt ph hi (fun j=>Zgs ops n j i))
    | .st p=>decide (p<m) && (p == 0 || Znt ph (p - 1) (fun j=>Zgs ops n i j)) && ((List.range ops.length).all fun j=>j == i || (match ph[j]? with | some r => !r.isSt p | none=>true))
    | .no=>o.guard.isSome)
  | _,_=>false
structure PzAt (z T:Nat) (ops:List Oper) (ph:List Ph) (m n i:Nat) (o:Oper) (q:Ph):Prop where
 gd:o.guard=none∨∃ j b p d,o.guard=some (j,b)∧Zbv o j=true∧ops[j]?=some p∧p.dst=some d∧d<T
 sel:∀ cs b,o.op ≠ .select cs b
 low:∀ e ∈ o.after,Region.binds .any e=true→e.on<i
 dst:∀ j p d,ops[j]?=some p→p.dst=some d→j=i∨o.dst≠some d
 look:∀ j p d,ops[j]?=some p→p.dst=some d→d ∈ o.looksAt ops.toArray→(Zbv o j=true∧j≠z)∨(j=z∧Zbv p i=true)
 rdl:∀ lo hi g,q = .rd (lo+1) hi g→∃ j,ph[j]?=some (.st lo)∧Zgs ops n i j=true
 rdh:∀ lo hi g,q = .rd lo hi g→m≤hi∨∃ j,ph[j]?=some (.st hi)∧Zgs ops n j i=true
 stm:∀ p,q = .st p→p<m
 stl:∀ p,q = .st (p+1)→∃ j,ph[j]?=some (.st p)∧Zgs ops n i j=true
 stu:∀ p,q = .st p→∀ j,ph[j]?=some (.st p)→j=i
 ng:q = .no→o.guard≠none
theorem pz_at {z T:Nat} {ops:List Oper} {ph:List Ph} {m n:Nat} (h:Zwd z T ops ph m n=true) {i:Nat} {o:Oper} (ho:ops[i]?=some o):∃ q,ph[i]?=some q∧PzAt z T ops ph m n i o q:=by
 unfold Zwd at h
 simp only [Bool.and_eq_true,List.all_eq_true,List.mem_range,beq_iff_eq] at h
 obtain ⟨⟨hl,_⟩,h⟩:=h
 have hi:=(List.getElem?_eq_some_iff.1 ho).1
 have h:=h i hi
 rw [ho] at h
 cases hq:ph[i]? with
 | none=>rw [hq] at h; simp at h
 | some q =>
  rw [hq] at h
  simp only [Bool.and_eq_true,List.all_eq_true,List.mem_range] at h
  obtain ⟨⟨⟨⟨h1,h2⟩,h3⟩,h4⟩,h5⟩:=h
  refine ⟨q,rfl,?_,?_,?_,?_,?_,?_,?_,?_,?_,?_,?_⟩
  ·cases hgd:o.guard with
   | none=>exact Or.inl rfl
   | some jb =>
    obtain ⟨j,b⟩:=jb
    rw [hgd] at h1
    simp only [Bool.and_eq_true] at h1
    obtain ⟨h6,h7⟩:=h1
    cases hp:ops[j]? with
    | none=>rw [hp] at h7; simp at h7
    | some p =>
     rw [hp] at h7
     simp only at h7
     cases hd:p.dst with
     | none=>rw [hd] at h7; simp at h7
     | some d =>
      rw [hd] at h7
      exact Or.inr ⟨j,b,p,d,rfl,h6,hp,hd,by simpa using h7⟩
  ·intro cs b e; rw [e] at h2; simp at h2
  ·intro e he hb
   have:=Array.all_eq_true_iff_forall_mem.1 h3 e he
   simpa [hb] using this
  ·intro j p d hp hd
   have:=h4 j (List.getElem?_eq_some_iff.1 hp).1
   rw [hp] at this
   simp only [hd,Bool.and_eq_true,Bool.or_eq_true,beq_iff_eq,bne_iff_ne] at this
   exact this.1
  ·intro j p d hp hd hm
   have:=h4 j (List.getElem?_eq_some_iff.1 hp).1
   rw [hp] at this
   simp only [hd,Bool.and_eq_true,Bool.or_eq_true,beq_iff_eq,bne_iff_ne] at this
   rcases this.2 with (h | h) | h
   ·simp [hm] at h
   ·exact Or.inl h
   ·exact Or.inr h
  ·intro lo hi g e
   subst e
   simp only [Bool.and_eq_true,Bool.or_eq_true] at h5
   rcases h5.1 with h | h
   ·simp at h
   ·exact Zfl h
  ·intro lo hi g e
   subst e
   simp only [Bool.and_eq_true,Bool.or_eq_true,decide_eq_true_eq] at h5
   rcases h5.2 with h | h
   ·exact Or.inl h
   ·exact Or.inr (Zfl h)
  ·intro p e
   subst e
   simp only [Bool.and_eq_true,decide_eq_true_eq] at h5
   exact h5.1.1
  ·intro p e
   subst e
   simp only [Bool.and_eq_true,Bool.or_eq_true] at h5
   rcases h5.1.2 with h | h
   ·simp at h
   ·exact Zfl h
  ·intro p e j hj
   subst e
   simp only [Bool.and_eq_true,List.all_eq_true,List.mem_range,Bool.or_eq_true,beq_iff_eq] at h5
   rcases h5.2 j (by have:=(List.getElem?_eq_some_iff.1 hj).1; omega) with h | h
   ·exact h
   ·rw [hj] at h; simp [Ph.isSt] at h
  ·intro e
   subst e
   intro hn
   rw [hn] at h5
   simp at h5
abbrev pzA (z i:Nat) (a0:Act) (ops:List Oper) (ph:List Ph) (vs:List Value):Act:=phA a0 vs (fun j=>i == z || j != z) ops ph
def AllObZ (P:Program) (S:List Value→World→Prop) (z:Nat) (a0:Act) (ops0:List Oper) (ph0:List Ph):Nat→List Oper→List Ph→Prop
 | k,o::os,q::qs=>ObP P S (pzA z k a0 ops0 ph0) ph0 o q∧AllObZ P S z a0 ops0 ph0 (k+1) os qs
 | _,_,_=>True
theorem AllObZ.at {P:Program} {S:List Value→World→Prop} {z:Nat} {a0:Act} {ops0:List Oper} {ph0:List Ph}:∀ {ops:List Oper} {ks:List Ph} {k:Nat},AllObZ P S z a0 ops0 ph0 k ops ks →
  ∀ {i:Nat} {o:Oper} {q:Ph},ops[i]?=some o→ks[i]?=some q→ObP P S (pzA z (k+i) a0 ops0 ph0) ph0 o q:=by
 intro ops
 induction ops with
 | nil=>intro ks k _ i o q h; simp at h
 | cons p os ih =>
  intro ks k h i o q ho hq
  cases ks with
  | nil=>simp at hq
  | cons r qs =>
   cases i with
   | zero=>simp at ho hq; subst ho hq; exact h.1
   | succ i =>
    have:=ih h.2 (i:=i) (by simpa using ho) (by simpa using hq)
    have e:k+1+i=k+(i+1):=by omega
    rw [e] at this; exact this
theorem region_pz {P:Program} {ops:List Oper} {id:Nat} {Q:Exit→Act→World→Prop} {a0:Act} {w:World} (hm:P.follows .mixedOrders=true) (z:Nat) (ph:List Ph) (m n:Nat) (hfit:Zwd z a0.tmps.size ops ph m n=true)
  (S:List Value→World→Prop) (hS0:S [] w.drew) (hob:AllObZ P S z a0 ops ph 0 ops ph)
  (hQ:∀ vs u,vs.length=m→S vs u→Q .normal (phAll a0 ops ph vs) u) :
  (Code.region id ops.toArray true).wp P Q a0 w:=by
 have hlen:ops.length=ph.length∧∀ p,p<m→∃ j:Nat,ph[j]?=some (Ph.st p):=by
  unfold Zwd at hfit
  simp only [Bool.and_eq_true,beq_iff_eq,List.all_eq_true,List.mem_range] at hfit
  exact ⟨hfit.1.1,fun p hp=>by obtain ⟨j,h,_⟩:=Zfl (hfit.1.2 p hp); exact ⟨j,h⟩⟩
 obtain ⟨hlen,hall⟩:=hlen
 have hkat:∀ {i':Nat} {q':Ph},ph[i']?=some q'→∃ o',ops[i']?=some o'∧PzAt z a0.tmps.size ops ph m n i' o' q':=fun {i' q'} h1=>by
  have ho:=List.getElem?_eq_getElem (l:=ops) (i:=i') (by have:=(List.getElem?_eq_some_iff.1 h1).1; omega)
  obtain ⟨q2,hq2,hF2⟩:=pz_at hfit ho
  rw [h1] at hq2; simp at hq2; subst hq2
  exact ⟨_,ho,hF2⟩
 refine wp_region_any hm (Zgx (J:=PhPlan ops ph m a0 S) ?_ ?_ _ _ _ _ ?_ ?_)
 ·intro L a u i hr hJ
  obtain ⟨hsz,hcl,vs,rfl,hS,hvm,hst,hdue⟩:=hJ
  obtain ⟨h0,o,ho',_⟩:=mem_ready.1 hr
  have ho:ops[i]?=some o:=by simpa using ho'
  have hi:i<ops.length:=(List.getElem?_eq_some_iff.1 ho).1
  have hil:i<L.size:=by omega
  have hun:L.getD i false=false:=by simp [hil] at h0 ⊢; exact h0
  obtain ⟨q,hq,hF⟩:=pz_at hfit ho
  have hOb:=hob.at ho hq
  have hw1:∀ k,Zbv o k=true→L.getD k false=true:=fun k hk=>Zbf hr ho hk
  rw [Nat.zero_add] at hOb
  have hexec:execOp (phA a0 vs (fun j=>L.getD j false) ops ph).eval o=execOp (pzA z i a0 ops ph vs).eval o:=by
   refine execOp_congr o hF.sel (fun x hx=>pa_eval2 (fun j p d hp hd e => ?_))
   subst e
   simp only [Nat.zero_add]
   rcases hF.look j p d hp hd (List.mem_append_left _ (List.mem_filterMap.2 ⟨.tmp d,by simpa using hx,rfl⟩)) with ⟨hw,hjz⟩ | ⟨rfl,hw⟩
   ·rw [Zbf hr ho hw]
    symm
    simp only [Bool.or_eq_true,bne_iff_ne]
    exact Or.inr hjz
   ·have hjl:L.getD j false=false:=by
     cases hq':L.getD j false with
     | false=>rfl
     | true =>
      have:=hcl j p hp hq' i hw
      rw [hun] at this; simp at this
    rw [hjl]
    have hij:i≠j:=by
     intro e
     subst e
     rw [ho] at hp
     simp at hp
     subst hp
     obtain ⟨e',he',hb1,hb2⟩:=waits_mem hw
     have:=hF.low e' he' hb1
     omega
    symm
    simp [hij]
  have hyield:∀ j b,o.guard=some (j,b)→∃ r,ph[j]?=some r∧r.due≤vs.length∧yielded ops.toArray (phA a0 vs (fun j=>L.getD j false) ops ph).tmps j=(match r.val vs with | .bool c=>some c | _=>none):=by
   intro j b hg
   rcases hF.gd with hg' | ⟨j',b',p,d,hg',h1,h3,h4,h5⟩
   ·rw [hg'] at hg; simp at hg
   ·rw [hg'] at hg
    simp only [Option.some.injEq,Prod.mk.injEq] at hg
    obtain ⟨rfl,rfl⟩:=hg
    obtain ⟨r,hr',hF'⟩:=pz_at hfit h3
    have hk:(ph.map (Ph.kd vs))[j']?=some (r.kd vs):=by simp [hr']
    have ht:=pa_at (a0:=a0) (vc:=undef) (β:=noB) (lst:=fun j=>L.getD j false) (k:=0) h3 hk (by simpa using hw1 j' h1) h4 (fun j2 p' h6 h7=>by
     rcases hF'.dst j2 p' d h6 h7 with h | h
     ·exact h
     ·exact absurd h4 h) h5
    refine ⟨r,hr',hdue j' r hr' (hw1 j' h1),?_⟩
    unfold yielded
    simp only [List.getElem?_toArray,h3,Option.bind_some,h4,ht,Kd.val,Ph.kd]
    cases r.val vs <;> rfl
  have hL:=Zez hil
  have hold:∀ j,L.getD j false=true→(L.setIfInBounds i true).getD j false=true:=fun j h=>by rw [hL,h]; rfl
  have hnew:∀ j,j≠i→(L.setIfInBounds i true).getD j false=L.getD j false:=fun j h=>by
   rw [hL]
   have:(j == i)=false:=by rw [beq_eq_false_iff_ne]; exact h
   simp [this]
  have hput:∀ vs',(∀ j r,ph[j]?=some r→L.getD j false=true→r.val vs=r.val vs') →
    (phA a0 vs (fun j=>L.getD j false) ops ph).put o.dst (q.val vs')=phA a0 vs' (fun j=>(L.setIfInBounds i true).getD j false) ops ph:=by
   intro vs' hv
   have e1:phA a0 vs (fun j=>L.getD j false) ops ph=phA a0 vs' (fun j=>L.getD j false) ops ph:=Zlj (fun j r hr' hl=>by
    simp only [Nat.zero_add] at hl
    exact hv j r hr' hl)
   rw [e1]
   have hk:(ph.map (Ph.kd vs'))[i]?=some (q.kd vs'):=by simp [hq]
   have e2:=Zor (a0:=a0) (vc:=undef) (β:=noB) (lst:=fun j=>L.getD j false) (k:=0) ho hk (by simpa using hun) hF.dst
   simp only [Nat.zero_add] at e2
   have e3:(q.kd vs').val undef noB i=q.val vs':=rfl
   rw [e3] at e2
   show (pa a0 undef noB (fun j=>L.getD j false) 0 ops (ph.map (Ph.kd vs'))).put o.dst (q.val vs')=_
   rw [← e2]
   exact Zdb (fun j r hr'=>⟨by simp only [Nat.zero_add,hL],fun _=>rfl⟩)
  have hcl':∀ (i':Nat) o',ops[i']?=some o'→(L.setIfInBounds i true).getD i' false=true→∀ j,Zbv o' j=true→(L.setIfInBounds i true).getD j false=true:=by
   intro i' o' h1 h2 j hj
   by_cases e:i'=i
   ·subst e
    rw [ho] at h1; simp at h1; subst h1
    exact hold _ (Zbf hr ho hj)
   ·exact hold _ (hcl i' o' h1 ((hnew i' e).symm.trans h2) j hj)
  have hreach:∀ j,Zgs ops n i j=true→L.getD j false=true:=fun j h=>Zpc (L:=fun j=>L.getD j false) hcl ho hw1 h
  -- the operation turns no memory
  have hkeep:(∀ p,q ≠ .st p)→q.due≤vs.length→PhPlan ops ph m a0 S (L.setIfInBounds i true) ((phA a0 vs (fun j=>L.getD j false) ops ph).put o.dst (q.val vs)) u:=fun hns hqd=>by
   refine ⟨by simpa using hsz,hcl',vs,hput vs (fun _ _ _ _=>rfl),hS,hvm,?_,?_⟩
   ·intro i' p h1
    have hne:i'≠i:=fun e=>by subst e; rw [hq] at h1; exact hns p (Option.some.inj h1)
    rw [hnew i' hne]
    exact hst i' p h1
   ·intro i' q' h1 h2
    by_cases e:i'=i
    ·subst e; rw [hq] at h1; simp at h1; subst h1; exact hqd
    ·exact hdue i' q' h1 ((hnew i' e).symm.trans h2)
  unfold wpOp
  simp only [ho']
  by_cases hqn:q = .no
  ·subst hqn
   cases hg:o.guard with
   | none=>exact absurd hg (hF.ng rfl)
   | some jb =>
    obtain ⟨j,b⟩:=jb
    obtain ⟨r,hr',hd,hy⟩:=hyield j b hg
    have hO:=hOb.1
    rw [hg] at hO
    simp only [hr'] at hO
    have hv:=hO vs u hd hS
    have hwant:Region.wanted o (yielded ops.toArray (phA a0 vs (fun j=>L.getD j false) ops ph).tmps)=false:=by
     unfold Region.wanted
     rw [hg]
     simp only
     rw [hy]
     cases hrv:r.val vs with
     | bool c =>
      rw [hrv] at hv
      have:c≠b:=fun e=>hv (by rw [e])
      simpa using this
     | _=>simp
    rw [if_neg (by rw [hwant]; simp)]
    exact hkeep (fun p=>by simp) (Nat.zero_le _)
  ·have hwant:Region.wanted o (yielded ops.toArray (phA a0 vs (fun j=>L.getD j false) ops ph).tmps)=true:=by
    cases hg:o.guard with
    | none=>simp [Region.wanted,hg]
    | some jb =>
     obtain ⟨j,b⟩:=jb
     obtain ⟨r,hr',hd,hy⟩:=hyield j b hg
     have hO:=hOb.1
     rw [hg] at hO
     simp only [hr'] at hO
     have hv:=hO vs u hd hS
     have hv':r.val vs = .bool b:=by cases q <;> first | exact hv | exact absurd rfl hqn
     unfold Region.wanted
     rw [hg]
     simp only
     rw [hy,hv']
     simp
   rw [if_pos hwant]
   refine Or.inl ?_
   unfold Oper.wp
   rw [hexec]
   cases q with
   | no=>exact absurd rfl hqn
   | rd lo hi g =>
    have hlo:lo≤vs.length:=by
     cases lo with
     | zero=>exact Nat.zero_le _
     | succ lo =>
      obtain ⟨j,h1,h2⟩:=hF.rdl lo hi g rfl
      exact (hst j lo h1).1 (hreach j h2)
    have hhi:vs.length≤hi:=by
     rcases hF.rdh lo hi g rfl with h | ⟨j,h1,h2⟩
     ·omega
     ·rcases Nat.lt_or_ge hi vs.length with h | h
      ·have hj:=(hst j hi h1).2 h
       have:=Zig (L:=fun j=>L.getD j false) hcl n j i h2 hj
       rw [hun] at this; simp at this
      ·exact h
    have hO:(execOp (pzA z i a0 ops ph vs).eval o).run P u=_:=hOb.2 vs u hlo hhi hS
    rw [hO]
    exact hkeep (fun p=>by simp) hlo
   | st p =>
    have hpv:vs.length=p:=by
     have h1:¬ p<vs.length:=fun h=>by
      have:=(hst i p hq).2 h
      rw [hun] at this; simp at this
     cases p with
     | zero=>omega
     | succ p =>
      obtain ⟨j,h2,h3⟩:=hF.stl p rfl
      have:=(hst j p h2).1 (hreach j h3)
      omega
    have hpm:=hF.stm p rfl
    have hstep:∀ v u',S (vs++[v]) u'→PhPlan ops ph m a0 S (L.setIfInBounds i true) ((phA a0 vs (fun j=>L.getD j false) ops ph).put o.dst v) u':=by
     intro v u' hS'
     have hval:(Ph.st p).val (vs++[v])=v:=by
      subst hpv
      simp [Ph.val]
     refine ⟨by simpa using hsz,hcl',vs++[v],?_,hS',by simp; omega,?_,?_⟩
     ·rw [← hput (vs++[v]) ?_,hval]
      intro j r h1 h2
      have hd:=hdue j r h1 h2
      cases r with
      | rd lo hi g =>
       simp only [Ph.due] at hd
       simp only [Ph.val]
       rw [List.take_append_of_le_length hd]
      | st p' =>
       simp only [Ph.due] at hd
       simp only [Ph.val,List.getD_eq_getElem?_getD]
       rw [List.getElem?_append_left (by omega)]
      | no=>rfl
     ·intro i' p' h1
      by_cases e:i'=i
      ·subst e
       rw [hq] at h1
       simp at h1
       subst h1
       rw [hL]
       simp
       omega
      ·rw [hnew i' e,hst i' p' h1]
       have hne:p'≠p:=fun e2=>by subst e2; exact e (hF.stu p' rfl i' h1)
       simp only [List.length_append,List.length_cons,List.length_nil]
       omega
     ·intro i' q' h1 h2
      simp only [List.length_append,List.length_cons,List.length_nil]
      by_cases e:i'=i
      ·subst e
       rw [hq] at h1; simp at h1; subst h1
       simp only [Ph.due]; omega
      ·have:=hdue i' q' h1 ((hnew i' e).symm.trans h2)
       omega
    have hO:StepOk P S vs u (pzA z i a0 ops ph vs).eval o:=hOb.2 vs u hpv hS
    cases hO with
    | value v w' h hS'=>rw [h]; exact hstep v w' hS'
    | skip w' h hS'=>rw [h]; exact hstep undef w' hS'
    | call f args u1 h hS' =>
     rw [h]
     refine hS'.mono ?_
     rintro e u' ⟨v,rfl,hr'⟩
     exact hstep v u' hr'
    | row f args u1 h hS' =>
     rw [h]
     exact hS'.mono (fun v u' hr'=>hstep v u' hr')
 ·intro L a u hr hJ
  obtain ⟨hsz,hcl,vs,rfl,hS,hvm,hst,hdue⟩:=hJ
  have hal:∀ i,i<ops.length→L.getD i false=true:=by
   intro i
   induction i using Nat.strongRecOn with
   | _ i ih =>
    intro hi
    cases hl:L.getD i false with
    | true=>rfl
    | false =>
     exfalso
     have ho:ops[i]?=some ops[i]:=List.getElem?_eq_getElem hi
     obtain ⟨q,hq,hF⟩:=pz_at hfit ho
     have:i ∈ Region.ready .any ops.toArray L:=by
      refine mem_ready.2 ⟨?_,ops[i],by simp,fun e he hb=>ih e.on (hF.low e he hb) (by have:=hF.low e he hb; omega)⟩
      have hi':i<L.size:=by omega
      simp [hi'] at hl ⊢
      exact hl
     rw [hr] at this
     simp at this
  have e:phA a0 vs (fun j=>L.getD j false) ops ph=phAll a0 ops ph vs:=Zdb (fun j r hr'=>⟨by
   simp only [Nat.zero_add]
   exact hal j (by have:=(List.getElem?_eq_some_iff.1 hr').1; simp at this; omega),fun _=>rfl⟩)
  rw [e]
  refine hQ vs u ?_ hS
  rcases Nat.lt_or_ge vs.length m with h | h
  ·obtain ⟨j,hj⟩:=hall _ h
   have:=(hst j _ hj).1 (hal j (by have:=(List.getElem?_eq_some_iff.1 hj).1; omega))
   omega
  ·omega
 ·have:(ops.toArray).size=ops.length:=by simp
  unfold unl
  exact Nat.le_trans (List.length_filter_le _ _) (by simp)
 ·have hz:∀ j,(Array.replicate ops.toArray.size false).getD j false=false:=fun j=>by
   simp only [Array.getD_eq_getD_getElem?,Array.getElem?_replicate]
   split <;> rfl
  refine ⟨by simp,?_,[],?_,hS0,Nat.zero_le _,?_,?_⟩
  ·intro i o _ h; rw [hz] at h; simp at h
  ·have:∀ (k:Nat) (os:List Oper) (qs:List Kd),pa a0 undef noB (fun j=>(Array.replicate ops.toArray.size false).getD j false) k os qs=a0:=by
    intro k os
    induction os generalizing k with
    | nil=>intro qs; simp [pa]
    | cons o os ih =>
     intro qs
     cases qs with
     | nil=>simp [pa]
     | cons q qs=>rw [pa,hz]; simp only [Bool.false_eq_true,if_false]; exact ih _ _
   exact (this _ _ _).symm
  ·intro i p _
   rw [hz]
   simp
  ·intro i q _ h; rw [hz] at h; simp at h
set_option maxRecDepth 10000 in
set_option maxHeartbeats 2000000 in
theorem Zza (d:Nat) (w:World) (hd:d≤1000):Calls Tryz.prog 80 #[.int .i64 d] w fun e w'=>e = .returned (.string ⟨(List.replicate (2 * d) 32).toArray⟩)∧w'=w:=by
 go_enter Tryz.func80,Tryz.ntmps80
 go_wp2
 go_loopg [3,4] (d+1) (fun gk tx nv wr=>∃ (k:Nat),nv = .int .i64 k∧k≤d∧d - k<gk∧tx = .string ⟨(List.replicate (2 * k) 32).toArray⟩∧wr=w)
 case atStart=>exact ⟨0,by go_num,Nat.zero_le _,by omega,rfl,rfl⟩
 case round =>
  obtain ⟨k,rfl,hk,hgk,rfl,rfl⟩:=hrel
  by_cases hlt:k<d
  ·have hlt':(k:Int)<(d:Int):=by omega
   have hsz:(⟨(List.replicate (2 * k) 32).toArray⟩:ByteArray).size=2 * k:=by simp [ByteArray.size]
   obtain ⟨S,hS⟩:∃ S,S=(⟨(List.replicate (2 * k) (32:UInt8)).toArray⟩:ByteArray):=⟨_,rfl⟩
   rw [← hS] at hsz ⊢
   have HS:=Zaa hS
   clear hS
   go_wp2
   go_roundg (d - k)
   case measure=>omega
   case rel =>
    refine ⟨k+1,by go_num,by omega,by omega,?_,rfl⟩
    rw [HS.out]
    show Value.string (_++(⟨[32,32].toArray⟩:ByteArray))=_
    rw [Zcg,show 2 * (k+1)=2 * k+1+1 by omega,List.replicate_succ',List.replicate_succ']
    simp
  ·have hek:k=d:=by omega
   subst hek
   have hlt':¬ ((k:Int)<(k:Int)):=by omega
   go_wp2
   go_ret
   exact ⟨rfl,rfl⟩
theorem Zuv {cs:List Cls}:∀ {ks:List Nat} {n:ND} {i:Nat},(Zar cs n ks i).2=(0,0)→(Zar cs n ks i).1.used=n.used++ks:=by
 intro ks
 induction ks with
 | nil =>
  intro n i h
  have e:Zar cs n [] i=if n.goals=[] then (n,0,0) else (n,7,i):=by unfold Zar; rfl
  rw [e] at h ⊢
  split
  ·simp
  ·rename_i hg; rw [if_neg hg] at h; simp at h
 | cons k ks ih =>
  intro n i h
  obtain ⟨c,hc,hg,hq,hgo⟩:=Zsr h
  rw [hgo] at h ⊢
  rw [ih h,Zsu hq]
  simp
theorem done_tx {n:ND} (hn:NOk n) (hm:NNm n) (hf:NFew n):TxOk (n.done.map (·.1)):=by
 have hl:n.done.length≤100:=by rw [hn.dl]; exact hn.ul
 have hin:∀ t ∈ n.done.map (·.1),t ∈ n.terms∧t.length≤30:=fun t ht=>by
  refine ⟨by unfold ND.terms; simp only [List.mem_append]; exact Or.inr (Or.inr ht),?_⟩
  obtain ⟨x,hx,rfl⟩:=List.mem_map.1 ht
  exact (hn.ds x hx).1
 refine tx_ok hn hm hin (by simp; omega) ?_
 have:=Zyo (n.done.map (·.1)) [] (fun t ht=>by
  obtain ⟨h1,h2⟩:=hin t ht
  have:=varN_few (hn.wf t h1) (hf t h1)
  omega)
 simp only [List.length_nil,List.length_map] at this
 omega
theorem Zwe (a:List UInt8) (b:Array UInt8):(⟨a.toArray⟩:ByteArray)++⟨b⟩=⟨(a++b.toList).toArray⟩:=by
 have:=Zcg a b.toList
 simpa using this
def ExplPh (w0:World) (I X:List UInt8):List Value→World→Prop
 | [],u=>u=w0
 | [a],u=>a = .string ⟨I.toArray⟩∧u=w0
 | [a,b],u=>a = .string ⟨I.toArray⟩∧b = .string ⟨X.toArray⟩∧u=w0
 | _,_=>False
theorem ExplPh.at {w0:World} {I X:List UInt8}:∀ {vs:List Value} {u:World},ExplPh w0 I X vs u→u=w0∧(1≤vs.length→vs.getD 0 undef = .string ⟨I.toArray⟩)∧(2≤vs.length→vs.getD 1 undef = .string ⟨X.toArray⟩)
 | [],u,h=>⟨h,by simp,by simp⟩
 | [a],u,h=>⟨h.2,fun _=>h.1,by simp⟩
 | [a,b],u,h=>⟨h.2.2,fun _=>h.1,fun _=>h.2.1⟩
 | _::_::_::_,u,h=>h.elim
set_option maxRecDepth 10000 in
set_option maxHeartbeats 4000000 in
theorem Zlq (w:World) (nv gv vv rv kv dv:Value) (uu:Nat) (n:ND) (ds ks:List Nat) (hnv:∃ a l c,nv = .slice a l c) (hg:∃ a l c,gv = .slice a l c) (hv:∃ a l c,vv = .slice a l c) (hr:TermsIn w rv (n.done.map (·.1))) (hk:w.ownsRow 0 3 1 kv ks.length (ints ks)) (hd:w.ownsRow 0 3 1 dv ds.length (ints ds))
  (hn:NOk n) (hm:NNm n) (hf:NFew n) (hkl:ks.length=n.done.length) (hdl:ds.length=n.done.length) (hk9:∀ k ∈ ks,k≤99) (hd9:∀ d ∈ ds,d≤100) (hL:(Zea (Zas (n.done.map (·.1)) []).1 ds ks).length≤100000000) :
  Calls Tryz.prog 59 #[.agg #[nv,gv,vv,rv,.int .i64 uu,kv,dv]] w fun e w'=>Ext w w'∧e = .returned (.string ⟨(Zea (Zas (n.done.map (·.1)) []).1 ds ks).toArray⟩):=by
 obtain ⟨n1,n2,n3,rfl⟩:=hnv
 obtain ⟨g1,g2,g3,rfl⟩:=hg
 obtain ⟨v1,v2,v3,rfl⟩:=hv
 obtain ⟨ra,rcap,rfl⟩:=hr.shape
 obtain ⟨ka,kcap,rfl⟩:=Zad hk
 obtain ⟨da,dcap,rfl⟩:=Zad hd
 have hN100:n.done.length≤100:=by rw [hn.dl]; exact hn.ul
 obtain ⟨ts,hts⟩:∃ l,l=n.done.map (·.1):=⟨_,rfl⟩
 have htl:ts.length=n.done.length:=by rw [hts]; simp
 have htx:=done_tx hn hm hf
 rw [← hts] at hr htx hL ⊢
 obtain ⟨N,hN⟩:∃ N,N=ts.length:=⟨_,rfl⟩
 have hkN:ks.length=N:=by omega
 have hdN:ds.length=N:=by omega
 have hNl:N≤100:=by omega
 rw [hkN] at hk ⊢
 rw [hdN] at hd ⊢
 rw [← hN] at hr ⊢
 have HT:Hid (∀ y,Ext w y→Calls Tryz.prog 79 #[.slice ra N rcap] y (Zwb ts y)):=fun y hE=>texts_any y _ ts (hr.ext hE) htx
 have hcl:(Zas ts []).1.length=ts.length:=Zhe _ _
 obtain ⟨C,hC⟩:∃ C,C=(Zas ts []).1:=⟨_,rfl⟩
 have Htx:Hid (Zni ts=C.map (fun t=>Zco t [])):=by show _=_; unfold Zni; rw [hC]
 rw [← hC] at hcl hL ⊢
 obtain ⟨F,hF⟩:∃ F,F=Zea C ds ks:=⟨_,rfl⟩
 rw [← hF] at hL ⊢
 have HF:=Zaa hF
 have Hk:=Zaa hk
 have Hd:=Zaa hd
 have Hk9:=Zaa hk9
 have Hd9:=Zaa hd9
 have HkN:=Zaa hkN
 have HdN:=Zaa hdN
 have HCN:Hid (C.length=N):=by show _=_; omega
 have HtN:Hid (ts.length=N):=hN.symm
 clear hr hk hd hn hm hf htx hC hF hcl hkl hdl hk9 hd9 hkN hdN hts htl hN hN100
 go_enter Tryz.func59,Tryz.ntmps59
 go_wp2_with fail
 refine (HT.out _ (Below.refl _ w |>.alloc (Nat.le_refl _) _)).mono ?_
 rintro e w1 ⟨hE1,xa,xc,rfl,hT⟩
 rw [HtN.out] at hT ⊢
 rw [Htx.out] at hT
 have hz1:=hE1.size
 simp at hz1
 have hEw1:Ext w w1:=(Below.refl _ w |>.alloc (Nat.le_refl _) _).trans (hE1.mono (by simp))
 have hbx:w1.heap[w.heap.size]?=some (.cells #[.slice n1 n2 n3,.slice g1 g2 g3,.slice v1 v2 v3,.slice ra N rcap,.int .i64 uu,.slice ka N kcap,.slice da N dcap] 89 (0,0)):=(hE1.block _ (by simp)).trans (heap_alloc_new w _)
 have c5:w1.cell? ⟨w.heap.size,5,none⟩=some (.slice ka N kcap):=Zab hbx 5 _ rfl
 have c6:w1.cell? ⟨w.heap.size,6,none⟩=some (.slice da N dcap):=Zab hbx 6 _ rfl
 have hbl:=Zac hbx
 have HEw1:=Zaa hEw1
 have HTx:=Zaa hT
 clear hE1 hEw1 hbx hT HT
 go_wp2
 go_loopg [3,11] (N+1) (fun gk tx iv wr=>∃ (k:Nat) (acc:List UInt8),iv = .int .i64 k∧k≤N∧N - k<gk∧tx = .string ⟨acc.toArray⟩∧acc++Zea (C.drop k) (ds.drop k) (ks.drop k)=F∧Ext w1 wr)
 case atStart=>exact ⟨0,[],by go_num,Nat.zero_le _,by omega,rfl,by rw [HF.out]; rfl,Below.refl _ _⟩
 case round =>
  obtain ⟨k,acc,rfl,hk,hgk,rfl,hacc,hEr⟩:=hrel
  have hzr:=hEr.size
  have c5:wr.cell? ⟨w.heap.size,5,none⟩=some (.slice ka N kcap):=(hEr.cell (p:=⟨w.heap.size,5,none⟩) hbl).trans c5
  have c6:wr.cell? ⟨w.heap.size,6,none⟩=some (.slice da N dcap):=(hEr.cell (p:=⟨w.heap.size,6,none⟩) hbl).trans c6
  have hblr:w.heap.size<wr.heap.size:=by omega
  have HEr:=Zaa hEr
  clear hEr
  by_cases hlt:k<N
  ·have hkC:k<C.length:=by rw [HCN.out]; exact hlt
   have hkd:k<ds.length:=by rw [HdN.out]; exact hlt
   have hkk:k<ks.length:=by rw [HkN.out]; exact hlt
   obtain ⟨t,ht⟩:∃ t,C[k]?=some t:=⟨_,List.getElem?_eq_getElem hkC⟩
   obtain ⟨d,hd⟩:∃ d,ds[k]?=some d:=⟨_,List.getElem?_eq_getElem hkd⟩
   obtain ⟨x,hx⟩:∃ x,ks[k]?=some x:=⟨_,List.getElem?_eq_getElem hkk⟩
   have hdt:C.drop k=t::C.drop (k+1):=by rw [List.drop_eq_getElem_cons hkC,(List.getElem?_eq_some_iff.1 ht).2]
   have hdd:ds.drop k=d::ds.drop (k+1):=by rw [List.drop_eq_getElem_cons hkd,(List.getElem?_eq_some_iff.1 hd).2]
   have hdx:ks.drop k=x::ks.drop (k+1):=by rw [List.drop_eq_getElem_cons hkk,(List.getElem?_eq_some_iff.1 hx).2]
   rw [hdt,hdd,hdx,Zea] at hacc
   have hd100:=Hd9.out d (List.mem_of_getElem? hd)
   have hx99:=Hk9.out x (List.mem_of_getElem? hx)
   obtain ⟨kb,kc',kcur,hke,_,hkb,_⟩:=Zal Hk.out (by omega)
   simp only [Value.slice.injEq] at hke
   obtain ⟨rfl,_,rfl⟩:=hke
   have hkw:=Zac hkb
   obtain ⟨db,dc',dcur,hde,_,hdb,_⟩:=Zal Hd.out (by omega)
   simp only [Value.slice.injEq] at hde
   obtain ⟨rfl,_,rfl⟩:=hde
   have hdw:=Zac hdb
   have hz0:=HEw1.out.size
   have hE0r:Ext w wr:=HEw1.out.trans (HEr.out.mono hz0)
   have k0:wr.cell? ⟨kb,k,none⟩=some (.int .i64 x):=(hE0r.cell (p:=⟨kb,k,none⟩) hkw).trans (Zaf Hk.out k _ (by simp only [ints,List.getElem?_map,hx,Option.map_some]))
   have d0:wr.cell? ⟨db,k,none⟩=some (.int .i64 d):=(hE0r.cell (p:=⟨db,k,none⟩) hdw).trans (Zaf Hd.out k _ (by simp only [ints,List.getElem?_map,hd,Option.map_some]))
   obtain ⟨A,hA⟩:∃ A,A=Zco t []:=⟨_,rfl⟩
   obtain ⟨g2',cap2,cur2,he2,_,hgb2,_⟩:=Zal HTx.out (by omega)
   simp only [Value.slice.injEq] at he2
   obtain ⟨rfl,_,rfl⟩:=he2
   have hgw2:=Zac hgb2
   have hgr2:g2'<wr.heap.size:=by omega
   have y0:wr.cell? ⟨g2',k,none⟩=some (.string ⟨A.toArray⟩):=(HEr.out.cell (p:=⟨g2',k,none⟩) hgw2).trans (Zaf HTx.out _ _ (by simp [strs,ht,hA]))
   rw [← hA] at hacc
   obtain ⟨I,hI⟩:∃ I,I=List.replicate (2 * d) (32:UInt8):=⟨_,rfl⟩
   obtain ⟨X,hX⟩:∃ X,X=Lib.decDigits x:=⟨_,rfl⟩
   rw [← hI,← hX] at hacc
   have hlen:=Ztp hacc
   simp only [List.length_append,List.length_cons,List.length_nil] at hlen
   have HI:=Zaa (Zza d wr.drew (by omega))
   have HX:=Zaa (Zvk x wr.drew (by omega))
   rw [← hI] at HI
   rw [← hX] at HX
   have Hacc:=Zaa hacc
   have hkr:kb<wr.heap.size:=by omega
   have hdr:db<wr.heap.size:=by omega
   have hnk:¬ ((N:Int)≤(k:Int)):=by omega
   clear hacc hdt hdd hdx ht hd hx hkb hdb hgb2 hA hI hX hE0r
   go_wp2_with fail
   refine region_pz (by kernel_rfl) 19 [.rd 0 2 (fun _ => .string ⟨acc.toArray⟩),.rd 0 2 (fun _ => .pointer (some ⟨w.heap.size,6,none⟩)),.rd 0 2 (fun _ => .slice (some ⟨db,0,none⟩) N dcap),.rd 0 2 (fun _ => .int .i64 k),.rd 0 2 (fun _ => .pointer (some ⟨db,k,none⟩)),.rd 0 2 (fun _ => .int .i64 d),.st 0,.rd 0 2 (fun _ => .string ⟨A.toArray⟩),
    .rd 1 2 (fun _ => .string ⟨(I++A).toArray⟩),.rd 1 2 (fun _ => .string ⟨(I++A++[32,98,121,32]).toArray⟩),.rd 0 2 (fun _ => .pointer (some ⟨w.heap.size,5,none⟩)),.rd 0 2 (fun _ => .slice (some ⟨kb,0,none⟩) N kcap),.rd 0 2 (fun _ => .int .i64 k),.rd 0 2 (fun _ => .pointer (some ⟨kb,k,none⟩)),.rd 0 2 (fun _ => .int .i64 x),.st 1,
    .rd 2 2 (fun _ => .string ⟨(I++A++[32,98,121,32]++X).toArray⟩),.rd 2 2 (fun _ => .string ⟨(I++A++[32,98,121,32]++X++[10]).toArray⟩),.rd 2 2 (fun _ => .string ⟨(acc++(I++A++[32,98,121,32]++X++[10])).toArray⟩),.rd 2 2 (fun _ => .string ⟨(acc++(I++A++[32,98,121,32]++X++[10])).toArray⟩)] 2 6 (by kernel_rfl)
    (ExplPh wr.drew I X) rfl ?_ ?_
   ·refine ⟨⟨trivial,fun vs u hl0 hl hS => ?_⟩,⟨trivial,fun vs u hl0 hl hS => ?_⟩,⟨trivial,fun vs u hl0 hl hS => ?_⟩,⟨trivial,fun vs u hl0 hl hS => ?_⟩,⟨trivial,fun vs u hl0 hl hS => ?_⟩,⟨trivial,fun vs u hl0 hl hS => ?_⟩,⟨trivial,fun vs u hl hS => ?_⟩,⟨trivial,fun vs u hl0 hl hS => ?_⟩,⟨trivial,fun vs u hl0 hl hS => ?_⟩,⟨trivial,fun vs u hl0 hl hS => ?_⟩,⟨trivial,fun vs u hl0 hl hS => ?_⟩,⟨trivial,fun vs u hl0 hl hS => ?_⟩,⟨trivial,fun vs u hl0 hl hS => ?_⟩,⟨trivial,fun vs u hl0 hl hS => ?_⟩,⟨trivial,fun vs u hl0 hl hS => ?_⟩,⟨trivial,fun vs u hl hS => ?_⟩,⟨trivial,fun vs u hl0 hl hS => ?_⟩,⟨trivial,fun vs u hl0 hl hS => ?_⟩,⟨trivial,fun vs u hl0 hl hS => ?_⟩,⟨trivial,fun vs u hl0 hl hS => ?_⟩,trivial⟩
    all_goals (obtain ⟨rfl,hv0,hv1⟩:=hS.at)
    ·simp [pzA,phA,pa,Ph.kd,Ph.val,Kd.val,go_sem]
    ·simp [pzA,phA,pa,Ph.kd,Ph.val,Kd.val,go_sem]
    ·simp [pzA,phA,pa,Ph.kd,Ph.val,Kd.val,go_sem,c6]
    ·simp [pzA,phA,pa,Ph.kd,Ph.val,Kd.val,go_sem]
    ·simp [pzA,phA,pa,Ph.kd,Ph.val,Kd.val,go_sem,hlt]
    ·simp [pzA,phA,pa,Ph.kd,Ph.val,Kd.val,go_sem,d0]
    ·obtain rfl:=List.length_eq_zero_iff.1 hl
     refine .call 80 #[.int .i64 d] _ (by simp [pzA,phA,pa,Ph.kd,Ph.val,Kd.val,go_sem]) (HI.out.mono ?_)
     rintro e u ⟨rfl,rfl⟩
     exact ⟨_,rfl,rfl,rfl⟩
    ·simp [pzA,phA,pa,Ph.kd,Ph.val,Kd.val,go_sem]
    ·have h0:vs[0]?.getD undef = .string ⟨I.toArray⟩:=by have:=hv0 hl0; rwa [List.getD_eq_getElem?_getD] at this
     simp [pzA,phA,pa,Ph.kd,Ph.val,Kd.val,go_sem,h0,show ¬ 9223372036854775807<I.length+A.length by omega,Zcg]
    ·simp [pzA,phA,pa,Ph.kd,Ph.val,Kd.val,go_sem,show ¬ 9223372036854775807<I.length+A.length+4 by omega,show ¬ 9223372036854775807<I.length+(A.length+4) by omega,Zwe]
    ·simp [pzA,phA,pa,Ph.kd,Ph.val,Kd.val,go_sem]
    ·simp [pzA,phA,pa,Ph.kd,Ph.val,Kd.val,go_sem,c5]
    ·simp [pzA,phA,pa,Ph.kd,Ph.val,Kd.val,go_sem]
    ·simp [pzA,phA,pa,Ph.kd,Ph.val,Kd.val,go_sem,hlt]
    ·simp [pzA,phA,pa,Ph.kd,Ph.val,Kd.val,go_sem,k0]
    ·obtain ⟨a1,rfl⟩:=List.length_eq_one_iff.1 hl
     refine .call 41 #[.int .i64 x] _ (by simp [pzA,phA,pa,Ph.kd,Ph.val,Kd.val,go_sem]) (HX.out.mono ?_)
     rintro e u ⟨rfl,rfl⟩
     exact ⟨_,rfl,hS.1,rfl,rfl⟩
    ·have h1:vs[1]?.getD undef = .string ⟨X.toArray⟩:=by have:=hv1 hl0; rwa [List.getD_eq_getElem?_getD] at this
     simp [pzA,phA,pa,Ph.kd,Ph.val,Kd.val,go_sem,h1,show ¬ 9223372036854775807<I.length+(A.length+4)+X.length by omega,show ¬ 9223372036854775807<I.length+(A.length+(4+X.length)) by omega,show ¬ 9223372036854775807<I.length+(A.length+(X.length+4)) by omega,Zcg]
    ·simp [pzA,phA,pa,Ph.kd,Ph.val,Kd.val,go_sem,show ¬ 9223372036854775807<I.length+(A.length+(4+X.length))+1 by omega,show ¬ 9223372036854775807<I.length+(A.length+(X.length+4))+1 by omega,Zwe]
    ·simp [pzA,phA,pa,Ph.kd,Ph.val,Kd.val,go_sem,show ¬ 9223372036854775807<acc.length+(I.length+(A.length+(X.length+1+4))) by omega,Zcg]
    ·simp [pzA,phA,pa,Ph.kd,Ph.val,Kd.val,go_sem]
   ·rintro vs u hl hS
    obtain ⟨rfl,_,_⟩:=hS.at
    simp only [phAll,phA,paAll,pa,Ph.kd,Ph.val,Kd.val,List.map_cons,List.map_nil,if_true,Act.put,List.setIfInBounds_toArray,List.set_cons_succ,List.set_cons_zero]
    have Hacc2:Hid ((acc++(I++A++[32,98,121,32]++X++[10]))++Zea (C.drop (k+1)) (ds.drop (k+1)) (ks.drop (k+1))=F):=by show _=_; rw [← Hacc.out]; simp
    obtain ⟨acc2,hacc2⟩:∃ q,q=acc++(I++A++[32,98,121,32]++X++[10]):=⟨_,rfl⟩
    rw [← hacc2] at Hacc2 ⊢
    clear hacc2
    go_wp2
    go_roundg (N - k)
    case measure=>omega
    case rel=>exact ⟨k+1,acc2,by go_num,by omega,by omega,rfl,Hacc2.out,HEr.out.trans ⟨rfl,rfl,rfl,Nat.le_refl _,fun _ _=>rfl⟩⟩
  ·have hek:k=N:=by omega
   subst hek
   have Hacc:Hid (acc=F):=by
    show _=_
    rw [List.drop_eq_nil_of_le (by rw [HCN.out]; exact Nat.le_refl _)] at hacc
    simpa [Zea] using hacc
   clear hacc
   go_wp2
   go_ret
   rw [← Hacc.out]
   exact ⟨HEw1.out.trans (HEr.out.mono HEw1.out.size),rfl⟩
set_option maxRecDepth 10000 in
set_option maxHeartbeats 2000000 in
theorem Ztb:Zdx:=by
 intro p q x w hp hq hx
 have HC:=Zaa (Zyt p q x w hp hq hx)
 obtain ⟨Y,hY⟩:∃ Y,Y=Zkv p q x:=⟨_,rfl⟩
 rw [← hY]
 have HY:=Zaa hY
 clear hp hq hx hY
 go_enter Tryz.func34,Tryz.ntmps34
 go_wp2_with fail
 refine HC.out.mono ?_
 rintro e w1 ⟨hE1,hout⟩
 have hz1:=hE1.size
 have HE1:=Zaa hE1
 clear hE1 HC
 rcases hout with ⟨hne,rfl⟩ | ⟨a,ks,n,m,hH,n1,nc,g1,g2,g3,v1,v2,v3,r1,r2,r3,uu,k1,kc,d1,dc,rfl,hN,hnames,hks,hds⟩
 ·obtain ⟨er,her⟩:∃ r,r=(Zcs p q x).2.2.1:=⟨_,rfl⟩
  obtain ⟨pe,hpe⟩:∃ r,r=(Zcs p q x).2.2.2:=⟨_,rfl⟩
  rw [← her,← hpe]
  rw [← her] at hne
  have Hy:Hid (Y=([],er,pe)):=by show _=_; rw [HY.out,Zkv,if_neg (by rw [← her]; exact hne),← her,← hpe]
  have hb:((er:Int) != 0)=true:=by rw [bne_iff_ne]; omega
  clear her hpe hne
  unfold Zdm
  go_wp2_with fail
  go_quiet (fail)
  go_wp2
  go_ret3
  rw [Hy.out]
  exact ⟨rfl,HE1.out.trans (Kept.below (S:=fun i=>w.heap.size≤i) (by repeat' (first | with_reducible exact Kept.refl _ _ | with_reducible apply Kept.drew | with_reducible apply Kept.drewN | with_reducible apply Kept.alloc | with_reducible refine Kept.setCell ?_ ?_ _ | (intro _; simp only; omega))) (by omega) (fun _ h=>h))⟩
 ·have hus:m.used=ks:=by
   obtain ⟨cs,_,hf⟩:=hH.fol
   have:=Zuv (cs:=cs) (ks:=ks) (n:=topN a) (i:=0) (by rw [hf])
   rw [hf] at this
   simpa [topN] using this
  have hu24:=Zpg hH.ask hH.held
  rw [hus] at hu24
  have hkl:ks.length=n.done.length:=by rw [hH.ok.dl,hH.same.used,hus]
  have hdl:(m.done.map (·.2)).length=n.done.length:=by rw [List.length_map,← hH.same.dl]
  have hd9:∀ d ∈ m.done.map (·.2),d≤100:=fun d hd=>by
   rw [← hH.same.dd] at hd
   obtain ⟨g,hg,rfl⟩:=List.mem_map.1 hd
   have:=(hH.ok.ds g hg).2
   have:=hH.ok.ul
   omega
  have hk9:∀ k ∈ ks,k≤99:=fun k hk=>by have:=hu24 k hk; omega
  have hfl:(n.done.map (·.1)).flatten.length≤30 * (n.done.map (·.1)).length:=flat_le (fun t ht=>by
   obtain ⟨g,hg,rfl⟩:=List.mem_map.1 ht
   exact (hH.ok.ds g hg).1)
  have hdn:n.done.length≤100:=by rw [hH.ok.dl]; exact hH.ok.ul
  simp only [List.length_map] at hfl
  have hL:(Zea (Zas (n.done.map (·.1)) []).1 (m.done.map (·.2)) ks).length≤100000000:=by
   have:=Zsw (n.done.map (·.1)) (m.done.map (·.2)) ks [] hd9 hk9 (fun t ht=>by
    have hin:t ∈ n.terms:=by unfold ND.terms; simp only [List.mem_append]; exact Or.inr (Or.inr ht)
    obtain ⟨g,hg,rfl⟩:=List.mem_map.1 ht
    exact ⟨hH.ok.wf _ hin,by have:=(hH.ok.ds g hg).1; omega,fun s hs=>Nat.le_trans (hH.nm _ hin s hs) (by omega)⟩) (by simp only [List.length_nil]; omega)
   omega
  have hexp:Zkc m=Zea (Zas (n.done.map (·.1)) []).1 (m.done.map (·.2)) ks:=by unfold Zkc; rw [hH.same.doneC hH.ok,hus]
  obtain ⟨T,hT⟩:∃ T,T=Zea (Zas (n.done.map (·.1)) []).1 (m.done.map (·.2)) ks:=⟨_,rfl⟩
  have Hy:Hid (Y=(T,0,0)):=by show _=_; rw [HY.out,Zkv,hH.held,hT,← hexp]; simp
  have HAn:Hid (∀ y,Ext w1 y→Calls Tryz.prog 59 #[.agg #[.slice n1 a.2.length nc,.slice g1 g2 g3,.slice v1 v2 v3,.slice r1 r2 r3,.int .i64 uu,.slice k1 ks.length kc,.slice d1 (m.done.map (·.2)).length dc]] y fun e w'=>Ext y w'∧e = .returned (.string ⟨T.toArray⟩)):=fun y hE=>by
   rw [hT]
   exact Zlq y _ _ _ _ _ _ uu n (m.done.map (·.2)) ks ⟨_,_,_,rfl⟩ ⟨_,_,_,rfl⟩ ⟨_,_,_,rfl⟩ (hN.done.ext hE) (Zan hks (fun j hj=>hE.block j (hks.lt j hj).2)) (Zan hds (fun j hj=>hE.block j (hds.lt j hj).2)) hH.ok hH.nm hH.few hkl hdl hk9 hd9 hL
  obtain ⟨D,hD⟩:∃ D,D=(m.done.map (·.2)).length:=⟨_,rfl⟩
  rw [← hD] at HAn ⊢
  clear hus hu24 hkl hdl hd9 hk9 hfl hdn hL hexp hT hH hN hnames hks hds hD
  go_wp2_with fail
  refine (HAn.out _ ((Below.refl _ w1 |>.alloc (Nat.le_refl _) _).alloc (by simp) _)).mono ?_
  rintro e w2 ⟨hE2,rfl⟩
  have HE2:=Zaa hE2
  clear hE2
  go_wp2
  go_ret3
  rw [Hy.out]
  exact ⟨rfl,(HE1.out.trans (Kept.below (S:=fun i=>w.heap.size≤i) (by repeat' (first | with_reducible exact Kept.refl _ _ | with_reducible apply Kept.drew | with_reducible apply Kept.drewN | with_reducible apply Kept.alloc | with_reducible refine Kept.setCell ?_ ?_ _ | (intro _; simp only; omega))) (by omega) (fun _ h=>h))).trans (HE2.out.mono (by simp; omega))⟩
theorem explains_hold:Rows.ExplainsCardSaid:=Zqt Ztb
end Go.Proofs.YtlmjilpjmgjjcaaGreatDoor
