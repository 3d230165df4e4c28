/-
  PROVED HERE: how a tree's text that is held lies in the program's memory; its methods 'pass' and 'leave' (the conditions stand in each statement).
-/
import Derived.Test.YtlmjilpjmgjjcabGreatDoorT10
import Derived.Laws.OwnMore
set_option linter.unusedSimpArgs false
set_option linter.unusedVariables false
set_option maxRecDepth 10000
set_option maxHeartbeats 4000000
namespace Go.Proofs.YtlmjilpjmgjjcabGreatDoor
open Go.RowKit
def Yfe (w:World) (a:List (List Sym) × Names) (R:SN × Tr) (e:Ending) (w':World):Prop :=
 Ext w w'∧∃ aa ac wa wc,e = .returned (.tuple #[.agg #[.slice aa R.2.ans.length ac,.slice wa R.2.wts.length wc,.int .i64 R.2.tries,.int .i64 R.2.status,.string ⟨(Zdb a R.1.status R.1.found R.1.tree).2.2.toArray⟩],.bool true]) ∧
  w'.ownsRow w.heap.size 9 1 (.slice aa R.2.ans.length ac) R.2.ans.length (strs R.2.ans)∧w'.ownsRow w.heap.size 9 1 (.slice wa R.2.wts.length wc) R.2.wts.length (strs R.2.wts)
theorem Zht (cs:List Cls) {a:List (List Sym) × Names} (h:a.1≠[]):(newN cs a).status=0:=by
 unfold newN Zdf Zbz
 rw [if_neg (Zey h)]
theorem Yff (p q:ByteArray) (w:World) (cs:List Cls) (a:List (List Sym) × Names) (hp:p.size≤maxLen) (hq:q.size≤maxLen) (hcs:Zcl p=some cs) (hask:Zdx q=some a) :
  Calls Tryz.prog 10 #[.string p,.string q] w (Yfe w a (aftN cs a 3001 3000 3002 (newN cs a) ⟨[],[],0,0⟩)):=by
 obtain ⟨R,hR⟩:∃ R,R=aftN cs a 3001 3000 3002 (newN cs a) ⟨[],[],0,0⟩:=⟨_,rfl⟩
 have HN:=Zac (Yhy p q (w.alloc (.cells #[.slice none 0 0,.slice none 0 0,.int .i64 0,.int .i64 0,.string ⟨#[]⟩] 37)) hp hq)
 obtain ⟨_,_,_,_,_,_,hne,_,_⟩:=Zcy hask
 have HI:=Zac (InvN.new cs hne)
 have Hs:=Zac (Zht cs hne)
 have Hcs:Hid ((∀ c ∈ cs,COk c∧CNm c)∧(∀ c ∈ cs,CFew c)∧cs.length≤24):=by
  obtain ⟨_,_,_,h1,h2⟩:=Zdr hcs
  exact ⟨h1,Zqr hcs,by omega⟩
 have Hp:=Zac hcs
 have Hq:=Zac hask
 have HR:=Zac hR
 rw [← hR]
 clear hp hq hne hcs hask hR
 go_enter Tryz.func10,Tryz.ntmps10
 go_wp2_with fail
 refine HN.out.mono ?_
 rintro e w1 ⟨hE1,⟨h1,_⟩ | ⟨_,h1,_⟩ | ⟨cs',a',b,x,h1,h2,rfl,hge,hC⟩⟩
 ·rw [Hp.out] at h1; simp at h1
 ·rw [Hq.out] at h1; simp at h1
 obtain rfl:cs'=cs:=by rw [Hp.out] at h1; exact (Option.some.inj h1).symm
 obtain rfl:a'=a:=by rw [Hq.out] at h2; exact (Option.some.inj h2).symm
 have HA:=Zac (Yfd w1 b x cs' q a' (newN cs' a') 3001 3000 hC HI.out (fun h=>by rw [Hs.out] at h; simp at h) Hs.out Hcs.out.1 Hcs.out.2.1 Hcs.out.2.2 Hq.out (by omega) (by omega) (by omega))
 have hbl:=Zab hC.box
 have hE0:Ext w (w.alloc (.cells #[.slice none 0 0,.slice none 0 0,.int .i64 0,.int .i64 0,.string ⟨#[]⟩] 37)):=(Ext.of (by repeat' (first | with_reducible(first|exact Qx _ _|apply Kept.drew|apply Kept.drewN|apply Qz|refine Qy ?_ ?_ _)|exact fun h=>absurd h (by simp <;> omega))))
 have HE1:=Zac hE1
 have hs1:=hE1.size
 simp at hs1
 have hb0:w1.heap[w.heap.size]?=some (.cells #[.slice none 0 0,.slice none 0 0,.int .i64 0,.int .i64 0,.string ⟨#[]⟩] 37 (0,0)):=(hE1.block _ (by simp)).trans (heap_alloc_new w _)
 have hn0:¬ ownS b x w.heap.size:=hC.not hb0 (by decide) (by decide)
 have Hge:=Zac hge
 have HE01:Hid (Ext w w1):=hE0.trans (hE1.mono hE0.size)
 rw [← HR.out] at HA
 clear hge hC hE1 hE0 HN
 go_wp2_with fail
 refine HA.out.mono ?_
 rintro e w2 ⟨hK2,hx2,hI2,aa,ac,wa,wc,rfl,ha2,hw2⟩
 have hb2:=(hK2.block _ (Zab hb0) hn0).trans hb0
 obtain ⟨r0,r1,r2,r3,r4⟩:w2.cell? ⟨w.heap.size,0,none⟩=some (.slice none 0 0)∧w2.cell? ⟨w.heap.size,1,none⟩=some (.slice none 0 0)∧w2.cell? ⟨w.heap.size,2,none⟩=some (.int .i64 0)∧w2.cell? ⟨w.heap.size,3,none⟩=some (.int .i64 0)∧w2.cell? ⟨w.heap.size,4,none⟩=some (.string ⟨#[]⟩):=⟨Zaa hb2 0 _ rfl,Zaa hb2 1 _ rfl,Zaa hb2 2 _ rfl,Zaa hb2 3 _ rfl,Zaa hb2 4 _ rfl⟩
 have rf:=fun i=>Zae hb2 i
 have hl2:=Zab hb2
 have hE2:Ext w w2:=HE01.out.trans (hK2.below (by omega) (fun k hk=>by have:=Hge.out k hk; simp at this; omega))
 obtain ⟨At,hAt⟩:∃ z,z=R.2.ans.length:=⟨_,rfl⟩
 obtain ⟨Wt,hWt⟩:∃ z,z=R.2.wts.length:=⟨_,rfl⟩
 obtain ⟨Tt,hTt⟩:∃ z,z=R.2.tries:=⟨_,rfl⟩
 obtain ⟨St,hSt⟩:∃ z,z=R.2.status:=⟨_,rfl⟩
 obtain ⟨Qt,hQt⟩:∃ z,z=(Zdb a' R.1.status R.1.found R.1.tree).2.2:=⟨_,rfl⟩
 have Hfin:Hid (∀ Z,Kept (fun k=>w.heap.size≤k∧(k=w.heap.size∨w2.heap.size≤k)) w2 Z→Yfe w a' R (.returned (.tuple #[.agg #[.slice aa At ac,.slice wa Wt wc,.int .i64 Tt,.int .i64 St,.string ⟨Qt.toArray⟩],.bool true])) Z):=fun Z hZ=>by
  rw [hAt,hWt,hTt,hSt,hQt]
  have hS:∀ k,k<w2.heap.size→(w.heap.size≤k∧(k=w.heap.size∨w2.heap.size≤k))→k=w.heap.size:=fun k hk h=>by omega
  have hrow:∀ {v:Value} {xs:List Value} {n:Nat},w2.ownsRow w1.heap.size 9 1 v n xs→Z.ownsRow w.heap.size 9 1 v n xs:=fun hr=>Zba (Zah hr (fun k hk=>hZ.block k (hr.lt k hk).2 (fun h=>by have:=hS k (hr.lt k hk).2 h; have:=(hr.lt k hk).1; omega))) (by omega)
  exact ⟨hE2.trans (hZ.below (by omega) (fun k h=>h.1)),aa,ac,wa,wc,rfl,hrow ha2,hrow hw2⟩
 rw [← hAt,← hWt,← hTt,← hSt,← hQt]
 clear hK2 hx2 hI2 ha2 hw2 hb2 hE2 hAt hWt hTt hSt hQt hb0 hn0 HA HE01 HE1 HR
 go_wp2
 refine bodyPost_ret (v := .tuple #[.agg #[.slice aa At ac,.slice wa Wt wc,.int .i64 Tt,.int .i64 St,.string ⟨Qt.toArray⟩],.bool true]) (by simp [results,Tryz.results10,go_sem,r0,r1,r2,r3,r4,rf,hl2]) rfl ?_
 refine Hfin.out _ ?_
 repeat (first | with_reducible exact Qx _ _ | with_reducible apply Qz | with_reducible apply Kept.drew | with_reducible refine Qy ?_ (fun _=>⟨Qe _,Or.inl rfl⟩) _)
theorem Zvr {w:World} {B n c i:Nat} {a:Option Addr} {A:List (List UInt8)} (h:w.ownsRow B 9 1 (.slice a n c) n (strs A)) (hi:i<n):∃ g y,a=some ⟨g,0,none⟩∧g<w.heap.size∧A[i]?=some y∧w.cell? ⟨g,i,none⟩=some (.string ⟨y.toArray⟩):=by
 rcases h.2 with ⟨h1,h2⟩ | ⟨g,cap,cur,h1,h2⟩
 ·omega
 ·simp only [Value.slice.injEq] at h1
  obtain ⟨rfl,_,rfl⟩:=h1
  have hl:=h.1
  have hA:i<A.length:=by simp [strs] at hl; omega
  obtain ⟨y,hy⟩:∃ y,A[i]?=some y:=⟨_,Qb hA⟩
  exact ⟨g,y,rfl,(h.lt g rfl).2,hy,Zai h i _ (by unfold strs; rw [Qj,hy]; rfl)⟩
theorem Yhz (w:World) (B1 B2:Nat) (a1:Option Addr) (c1:Nat) (A:List (List UInt8)) (a2:Option Addr) (c2:Nat) (B:List (List UInt8)) (h1:w.ownsRow B1 9 1 (.slice a1 A.length c1) A.length (strs A)) (h2:w.ownsRow B2 9 1 (.slice a2 B.length c2) B.length (strs B)) (hA:A.length≤100000) (hB:B.length≤100000) :
  Calls Tryz.prog 12 #[.slice a1 A.length c1,.slice a2 B.length c2] w fun e w'=>e = .returned (.bool (decide (A=B)))∧Ext w w':=by
 have H1:Hid (∀ u,Ext w u→∀ i,i<A.length→∃ g y,a1=some ⟨g,0,none⟩∧g<u.heap.size∧A[i]?=some y∧u.cell? ⟨g,i,none⟩=some (.string ⟨y.toArray⟩)):=fun u hu i hi=>Zvr (Zah h1 (fun k hk=>hu.block k (h1.lt k hk).2)) hi
 have H2:Hid (∀ u,Ext w u→∀ i,i<B.length→∃ g y,a2=some ⟨g,0,none⟩∧g<u.heap.size∧B[i]?=some y∧u.cell? ⟨g,i,none⟩=some (.string ⟨y.toArray⟩)):=fun u hu i hi=>Zvr (Zah h2 (fun k hk=>hu.block k (h2.lt k hk).2)) hi
 clear h1 h2
 by_cases hl:A.length=B.length
 ·rw [← hl] at H2 ⊢
  have Hl:=Zac hl
  obtain ⟨n,hn⟩:∃ n,n=A.length:=⟨_,rfl⟩
  have Hn:=Zac hn
  rw [← hn] at H1 H2 ⊢
  rw [← hn] at hA
  obtain ⟨D,hD⟩:∃ D,D=decide (A=B):=⟨_,rfl⟩
  have HD:=Zac hD
  rw [← hD]
  clear hl hB hn hD
  go_enter Tryz.func12,Tryz.ntmps12
  go_wp2
  go_loopw [5] (fun i u=>∃ s:Nat,s≤n∧i = .int .i64 s∧Ext w u∧A.take s=B.take s) (fun i _=>n - (intOf i).toNat)
  case atStart=>exact ⟨0,Qm _,rfl,Below.refl _ _,rfl⟩
  case round =>
   obtain ⟨s,hs,rfl,hEu,htk⟩:=hrel
   have HEu:=Zac hEu
   have Htk:=Zac htk
   by_cases hlt:s<n
   ·obtain ⟨g,y,rfl,hg,hy,cy⟩:=H1.out _ hEu s hlt
    obtain ⟨g',z,rfl,hg',hz,cz⟩:=H2.out _ hEu s hlt
    have Hyz:Hid (A[s]?=some y∧B[s]?=some z):=⟨hy,hz⟩
    clear hEu htk hy hz
    by_cases hyz:y=z
    ·subst hyz
     go_wp2_with fail
     go_quiet (fail)
     go_wp2
     go_roundw
     case rel =>
      refine ⟨s+1,by omega,by go_num,HEu.out.trans ((Ext.of (by repeat' (first | with_reducible(first|exact Qx _ _|apply Kept.drew|apply Kept.drewN|apply Qz|refine Qy ?_ ?_ _)|exact fun h=>absurd h (by simp <;> omega)))).mono HEu.out.size),?_⟩
      rw [List.take_add_one,List.take_add_one,Htk.out,Hyz.out.1,Hyz.out.2]
     case measure=>simp [intOf]; omega
    ·have hne:¬ y.toArray=z.toArray:=fun e=>hyz (by simpa using e)
     have hD0:D=false:=by
      rw [HD.out,decide_eq_false_iff_not]
      rintro rfl
      exact hyz (Option.some.inj (Hyz.out.1.symm.trans Hyz.out.2))
     subst hD0
     have hb:(y == z)=false:=by rw [Qu]; exact hyz
     go_wp2_with fail
     go_quiet (fail)
     go_wp2
     go_ret
     exact ⟨rfl,HEu.out.trans ((Ext.of (by repeat' (first | with_reducible(first|exact Qx _ _|apply Kept.drew|apply Kept.drewN|apply Qz|refine Qy ?_ ?_ _)|exact fun h=>absurd h (by simp <;> omega)))).mono HEu.out.size)⟩
   ·have hD1:D=true:=by
     rw [HD.out,decide_eq_true_iff]
     have h1:=Htk.out
     rw [List.take_of_length_le (by rw [← Hn.out]; omega),List.take_of_length_le (by rw [← Hl.out,← Hn.out]; omega)] at h1
     exact h1
    subst hD1
    clear hEu htk
    go_wp2
    go_ret
    exact ⟨rfl,HEu.out⟩
 ·have hD:decide (A=B)=false:=by
   rw [decide_eq_false_iff_not]
   rintro rfl
   exact hl rfl
  rw [hD]
  have hb:((A.length:Int) != (B.length:Int))=true:=by rw [bne_iff_ne]; omega
  clear hD hl
  go_enter Tryz.func12,Tryz.ntmps12
  go_wp2
  go_ret
  exact ⟨rfl,Below.refl _ _⟩
theorem Zvs {cs:List Cls}:∀ {ks:List Nat} {n m:ND} (i j:Nat),Reach cs n ks m→m.goals=[]→(Zau cs n (ks++[j]) i).2=(7,i+ks.length):=by
 intro ks
 induction ks with
 | nil =>
  intro n m i j h hg
  obtain rfl:m=n:=h
  simp only [List.nil_append]
  unfold Zau
  cases cs[j]? with
  | none=>rfl
  | some c=>simp only; rw [if_pos hg]; rfl
 | cons k ks ih =>
  intro n m i j h hg
  obtain ⟨c,h1,h2,h3,h4⟩:=h
  simp only [List.cons_append]
  unfold Zau
  rw [h1]
  simp only
  rw [if_neg h2,if_pos h3,ih (i+1) j h4 hg,Qf]
  congr 1
  omega
theorem Zvt {cs:List Cls}:∀ {ks:List Nat} {n m:ND} (i j:Nat),Reach cs n (ks++[j]) m→(Zau cs n ks i).2=(7,i+ks.length):=by
 intro ks
 induction ks with
 | nil =>
  intro n m i j h
  obtain ⟨c,h1,h2,h3,h4⟩:=h
  unfold Zau
  rw [if_neg h2]
  rfl
 | cons k ks ih =>
  intro n m i j h
  obtain ⟨c,h1,h2,h3,h4⟩:=h
  unfold Zau
  rw [h1]
  simp only
  rw [if_neg h2,if_pos h3,ih (i+1) j h4,Qf]
  congr 1
  omega
theorem Znn (sep:List UInt8) (j:Nat):∀ (ks:List Nat),ks≠[]→Zax sep (ks++[j])=Zax sep ks++(46::Lib.decDigits j):=by
 have key:∀ (ks:List Nat) (sep:List UInt8) (k:Nat),Zax sep (k::(ks++[j]))=Zax sep (k::ks)++(46::Lib.decDigits j):=by
  intro ks
  induction ks with
  | nil=>intro sep k; simp [Zax]
  | cons i ks ih =>
   intro sep k
   simp only [List.cons_append]
   rw [Zax,ih [46] i]
   conv=>rhs; rw [Zax]
   simp
 intro ks h
 cases ks with
 | nil=>exact absurd rfl h
 | cons k ks=>exact key ks sep k
theorem Zvu:∀ (ks:List Nat) (k f p:Nat) (acc:List Nat),k<100→(∀ j ∈ ks,j<100)→ks.length+1<f→Zde f (Lib.decDigits k++Zax [46] ks++[46]) p acc=(none,p+(Lib.decDigits k++Zax [46] ks).length+1):=by
 intro ks
 induction ks with
 | nil =>
  intro k f p acc hk _ hf
  obtain ⟨g,rfl⟩:∃ g,f=g+2:=⟨f - 2,by simp at hf; omega⟩
  have e0:Lib.decDigits k++Zax [46] []++[46]=Lib.decDigits k++[46]:=by simp [Zax]
  have hn:=Zez hk (r:=[46]) (fun b r' e=>by simp at e; rw [← e.1]; decide)
  rw [e0,Zki hn (by have := @Zdg k; omega),List.drop_left]
  simp only [if_true]
  rw [Zde]
  simp [Zak,Zax]
 | cons j ks ih =>
  intro k f p acc hk hj hf
  simp only [Qf] at hf
  obtain ⟨g,rfl⟩:∃ g,f=g+1:=⟨f - 1,by omega⟩
  have e0:Lib.decDigits k++Zax [46] (j::ks)++[46]=Lib.decDigits k++(46::(Lib.decDigits j++Zax [46] ks++[46])):=by simp [Zax]
  have hn:=Zez hk (r:=46::(Lib.decDigits j++Zax [46] ks++[46])) (fun b r' e=>by simp at e; rw [← e.1]; decide)
  rw [e0,Zki hn (by have := @Zdg k; omega),List.drop_left]
  simp only [if_true]
  rw [ih j g _ _ (hj j (by simp)) (fun i hi=>hj i (by simp [hi])) (by omega)]
  simp only [Zax,Qg,Qf,Jt,Prod.mk.injEq,true_and]
  omega
theorem Ztp {p q:ByteArray} {cs:List Cls} {a:List (List Sym) × Names} {n:ND} (hp:Zcl p=some cs) (hq:Zdx q=some a) (hcl:cs.length≤24) (h:Reach cs (topN a) n.used n) (hg:n.goals=[]) (h0:n.used≠[]) (hl:n.used.length≤100) (hk:∀ k ∈ n.used,k<cs.length) :
  (yesN p q ⟨(Zbp n++[46,48]).toArray⟩).2=(7,n.used.length)∧(yesN p q ⟨(Zbp n++[46]).toArray⟩).2=(6,(Zbp n).length+1) ∧
  (n.used.length=1→(yesN p q ⟨#[]⟩).2=(6,0))∧(1<n.used.length→(yesN p q ⟨(Zax [] n.used.dropLast).toArray⟩).2=(7,n.used.length - 1)):=by
 have h100:∀ j ∈ n.used,j<100:=fun j hj=>by have:=hk j hj; omega
 have hw:=Zjn n.used h100
 have held:∀ (x:List UInt8) (ks:List Nat),x.length≤400→(Zcj ⟨x.toArray⟩).1=some ks→Zeg p q ⟨x.toArray⟩=(a.2,Zau cs (topN a) ks 0):=fun x ks hx hn=>by
  unfold Zeg
  rw [hp]
  simp only
  rw [hq]
  simp only
  rw [if_neg (by simp [ByteArray.size]; omega)]
  have hn':Zcj ⟨x.toArray⟩=(some ks,(Zcj ⟨x.toArray⟩).2):=Prod.ext hn rfl
  rw [hn']
 have none':∀ (x:List UInt8) (pl:Nat),x.length≤400→Zcj ⟨x.toArray⟩=(none,pl)→(yesN p q ⟨x.toArray⟩).2=(6,pl):=fun x pl hx hn=>by
  have:Zeg p q ⟨x.toArray⟩=([],⟨[],[],[],[],0⟩,6,pl):=by
   unfold Zeg
   rw [hp]
   simp only
   rw [hq]
   simp only
   rw [if_neg (by simp [ByteArray.size]; omega),hn]
  unfold yesN
  rw [this]
  simp
 refine ⟨?_,?_,?_,?_⟩
 ·have e:Zbp n++[46,48]=Zax [] (n.used++[0]):=by
   unfold Zbp
   rw [Znn [] 0 n.used h0,show Lib.decDigits 0=[48] from Zes 0 (by omega)]
  have hn:=Zih (n.used++[0]) (by simp) (fun j hj=>by
   rcases Qk.1 hj with hj | hj
   ·exact h100 j hj
   ·simp at hj; omega)
  rw [e]
  have hh:=held (Zax [] (n.used++[0])) _ (by rw [← e]; unfold Zbp; simp; omega) hn
  have hf:=Zvs 0 0 h hg
  unfold yesN
  rw [hh]
  simp only [hf]
  simp
 ·refine none' _ _ (by unfold Zbp; simp; omega) ?_
  unfold Zbp Zcj
  cases hu:n.used with
  | nil=>exact absurd hu h0
  | cons k ks =>
   rw [hu] at h100
   have hd:=Ydt ks (fun j hj=>h100 j (by simp [hj]))
   have hkl := @Zdg k
   have:=Zvu ks k ((⟨(Zax [] (k::ks)++[46]).toArray⟩:ByteArray).size+1) 0 [] (h100 k (by simp)) (fun j hj=>h100 j (by simp [hj])) (by
    simp only [ByteArray.size,List.size_toArray,Zax,List.nil_append,Qg,Qf,Jt]
    omega)
   simpa [Zax] using this
 ·intro _
  refine none' [] 0 (by simp) ?_
  rfl
 ·intro h1
  obtain ⟨ks,j,hkj⟩:∃ ks j,n.used=ks++[j]:=by
   refine ⟨n.used.dropLast,n.used.getLast h0,?_⟩
   exact (List.dropLast_concat_getLast h0).symm
  rw [hkj] at h h1 h100
  simp only [Qg,Qn] at h1
  have hks:ks≠[]:=fun e=>by subst e; simp at h1
  have hn:=Zih ks hks (fun i hi=>h100 i (by simp [hi]))
  have hwk:=Zjn ks (fun i hi=>h100 i (by simp [hi]))
  have hlen:ks.length≤100:=by rw [hkj] at hl; simp at hl; omega
  rw [hkj,List.dropLast_concat]
  have hh:=held (Zax [] ks) _ (by omega) hn
  have hf:=Zvt 0 j h
  unfold yesN
  rw [hh]
  simp only [hf]
  simp
mutual
inductive FormT:List UInt8→Prop
 | leaf:FormT [33]
 | node (t:List UInt8) (h:FormP t):FormT (40::(t++[41]))
inductive FormP:List UInt8→Prop
 | nil:FormP []
 | more (t u:List UInt8) (k:Nat) (hk:k<10) (h:FormP t) (hu:FormT u):FormP (t++(Lib.decDigits k++u))
end
theorem Zqt {cs:List Cls} {names:Names} (hcl:cs.length≤10) {n:ND} {t:List UInt8} {A:List (List UInt8)} (h:TreeA cs names n t A):FormT t:=by
 refine TreeA.rec (cs:=cs) (names:=names) (motive_1:=fun n t A _=>FormT t) (motive_2:=fun n k t A _=>FormP t) ?_ ?_ ?_ ?_ ?_ h
 ·intro n hg; exact .leaf
 ·intro n t A hg hp ih; simpa using FormT.node t ih
 ·intro n; exact .nil
 ·intro n k t A c hp hc hq ih; exact ih
 ·intro n k t u A B c hp hc hq hu ihp ihu
  have hk:k<10:=by have:=(Qa.1 hc).1; omega
  simpa using FormP.more t u k hk ihp ihu
def ShE (l:List UInt8) (p o:Nat) (due:Bool) (r:Option Nat):Prop:=p≤l.length∧∃ f,l.length<f+p∧Zcb l f p o due=r
theorem Yia {l:List UInt8} {p o:Nat} {r:Option Nat} (hc:l[p]?=some 33) (h:ShE l (p+1) o false r):ShE l p o true r:=by
 obtain ⟨h0,f,h1,h2⟩:=h
 refine ⟨by omega,f+1,by omega,?_⟩
 unfold Zcb
 rw [hc]
 simpa using h2
theorem Zxq {l:List UInt8} {p o:Nat} {r:Option Nat} (hc:l[p]?=some 40) (h:ShE l (p+1) (o+1) false r):ShE l p o true r:=by
 obtain ⟨h0,f,h1,h2⟩:=h
 refine ⟨by omega,f+1,by omega,?_⟩
 unfold Zcb
 rw [hc]
 simpa using h2
theorem Yib {l:List UInt8} {p o:Nat} {r:Option Nat} (hc:l[p]?=some 41) (h:ShE l (p+1) o false r):ShE l p (o+1) false r:=by
 obtain ⟨h0,f,h1,h2⟩:=h
 refine ⟨by omega,f+1,by omega,?_⟩
 unfold Zcb
 rw [hc]
 simpa using h2
theorem Zvv {l:List UInt8} {p o k:Nat} {c:UInt8} {r:Option Nat} (hc:l[p]?=some c) (h41:c≠41) (hn:Zak (l.drop p)=(k,1)) (h:ShE l (p+1) (o+1) true r):ShE l p (o+1) false r:=by
 obtain ⟨h0,f,h1,h2⟩:=h
 refine ⟨by omega,f+1,by omega,?_⟩
 unfold Zcb
 rw [hc]
 simp only [hn,h41,if_false,Bool.false_eq_true,Nat.add_one_ne_zero]
 simpa using h2
theorem Zqu {l:List UInt8} {o:Nat} {due:Bool} (h:due=true∨0<o):ShE l l.length o due (some l.length):=by
 refine ⟨Qe _,1,by omega,?_⟩
 unfold Zcb
 rw [List.getElem?_eq_none (Qe _)]
 simp only
 rw [if_pos h]
theorem Zno {l:List UInt8} {r:Option Nat} (h:ShE l 0 0 true r):Zdi l=r:=by
 obtain ⟨_,f,h1,h2⟩:=h
 unfold Zdi
 rw [Zlf l (l.length+1) f 0 0 true (by omega) (by omega) (by omega)]
 exact h2
theorem Zil {t:List UInt8} (h:FormT t):∃ c r,t=c::r∧(c=33∨c=40):=by
 cases h with
 | leaf=>exact ⟨33,[],rfl,Or.inl rfl⟩
 | node t h=>exact ⟨40,t++[41],rfl,Or.inr rfl⟩
theorem Yfg {k:Nat} (hk:k<10):∃ c,Lib.decDigits k=[c]∧c≠41:=by
 obtain ⟨c,r,h1,h2⟩:=Zxd (k:=k) (by omega)
 rw [Zes k hk] at h1
 simp only [List.cons.injEq] at h1
 exact ⟨c,by rw [Zes k hk,h1.1],h2⟩
theorem Zjt {pre:List UInt8} {c:UInt8} {r:List UInt8}:(pre++(c::r))[pre.length]?=some c:=by
 rw [Qd (Qe _)]
 simp
theorem Zqv {k:Nat} (hk:k<10) {c:UInt8} (hc:Lib.decDigits k=[c]) (pre v:List UInt8) (hv:Yds v):Zak ((pre++(c::v)).drop pre.length)=(k,1):=by
 rw [List.drop_left,show c::v=Lib.decDigits k++v by rw [hc]; rfl,Zez (by omega) hv,hc]
 rfl
theorem Zmf {c:UInt8} {r:List UInt8} (h:c=33∨c=40∨c=41):Yds (c::r):=fun b r' e=>by
 simp only [List.cons.injEq] at e
 rw [← e.1]
 exact Yin c h
theorem Yfh:Yds []:=fun b r' e=>by simp at e
theorem Zkq {t:List UInt8} (h:FormT t):∀ (l pre post:List UInt8) (o:Nat) (r:Option Nat),l=pre++(t++post)→ShE l (pre.length+t.length) o false r→ShE l pre.length o true r:=by
 refine FormT.rec (motive_1:=fun t _=>∀ (l pre post:List UInt8) (o:Nat) (r:Option Nat),l=pre++(t++post)→ShE l (pre.length+t.length) o false r→ShE l pre.length o true r)
  (motive_2:=fun t _=>∀ (l pre post:List UInt8) (o:Nat) (r:Option Nat),l=pre++(t++post)→ShE l (pre.length+t.length) (o+1) false r→ShE l pre.length (o+1) false r) ?_ ?_ ?_ ?_ h
 ·intro l pre post o r hl hs
  exact Yia (by rw [hl]; exact Zjt) hs
 ·intro t hp ih l pre post o r hl hs
  refine Zxq (by rw [hl]; exact Zjt) ?_
  have h1:=ih l (pre++[40]) (41::post) o r (by rw [hl]; simp) (by
   refine Yib ?_ ?_
   ·rw [hl,show pre++(40::(t++[41])++post)=(pre++[40]++t)++(41::post) by simp,← Qg]
    exact Zjt
   ·simp only [Qg,Qf,Jt] at hs ⊢
    rw [show pre.length+(0+1)+t.length+1=pre.length+(t.length+(0+1)+1) by omega]
    exact hs)
  simpa using h1
 ·intro l pre post o r hl hs
  simpa using hs
 ·intro t u k hk hp hu ihp ihu l pre post o r hl hs
  obtain ⟨c,hc,h41⟩:=Yfg hk
  obtain ⟨d,q,hd,hd2⟩:=Zil hu
  have h1:=ihu l (pre++t++[c]) post (o+1) r (by rw [hl,hc]; simp) (by
   simp only [Qg,Qf,Jt,hc] at hs ⊢
   rw [show pre.length+t.length+(0+1)+u.length=pre.length+(t.length+(0+1+u.length)) by omega]
   exact hs)
  have hl2:l=(pre++t)++(c::(u++post)):=by rw [hl,hc]; simp
  refine ihp l pre (Lib.decDigits k++u++post) o r (by rw [hl]; simp) ?_
  rw [← Qg]
  refine Zvv (k:=k) (c:=c) (by rw [hl2]; exact Zjt) h41 (by rw [hl2]; exact Zqv hk hc _ _ (by rw [hd]; exact Zmf (by rcases hd2 with h | h <;> simp [h]))) ?_
  rw [show (pre++t).length+1=(pre++t++[c]).length by rw [Qg (bs:=[c])]; rfl]
  exact h1
theorem Yau {t:List UInt8} (h:FormP t):∀ (l pre post:List UInt8) (o:Nat) (r:Option Nat),l=pre++(t++post)→ShE l (pre.length+t.length) (o+1) false r→ShE l pre.length (o+1) false r:=by
 refine FormP.rec (motive_1:=fun t _=>True) (motive_2:=fun t _=>∀ (l pre post:List UInt8) (o:Nat) (r:Option Nat),l=pre++(t++post)→ShE l (pre.length+t.length) (o+1) false r→ShE l pre.length (o+1) false r) trivial (fun _ _ _=>trivial) ?_ ?_ h
 ·intro l pre post o r hl hs
  simpa using hs
 ·intro t u k hk hp hu ihp _ l pre post o r hl hs
  obtain ⟨c,hc,h41⟩:=Yfg hk
  obtain ⟨d,q,hd,hd2⟩:=Zil hu
  have h1:=Zkq hu l (pre++t++[c]) post (o+1) r (by rw [hl,hc]; simp) (by
   simp only [Qg,Qf,Jt,hc] at hs ⊢
   rw [show pre.length+t.length+(0+1)+u.length=pre.length+(t.length+(0+1+u.length)) by omega]
   exact hs)
  have hl2:l=(pre++t)++(c::(u++post)):=by rw [hl,hc]; simp
  refine ihp l pre (Lib.decDigits k++u++post) o r (by rw [hl]; simp) ?_
  rw [← Qg]
  refine Zvv (k:=k) (c:=c) (by rw [hl2]; exact Zjt) h41 (by rw [hl2]; exact Zqv hk hc _ _ (by rw [hd]; exact Zmf (by rcases hd2 with h | h <;> simp [h]))) ?_
  rw [show (pre++t).length+1=(pre++t++[c]).length by rw [Qg (bs:=[c])]; rfl]
  exact h1
theorem Yav {u a b:List UInt8} (h:u <+: a++b):u <+: a∨∃ v,u=a++v∧v <+: b:=by
 obtain ⟨w,hw⟩:=h
 rcases List.append_eq_append_iff.1 hw with ⟨a',h1,h2⟩ | ⟨c',h1,h2⟩
 ·exact Or.inl ⟨a',h1.symm⟩
 ·exact Or.inr ⟨c',h1,⟨w,h2.symm⟩⟩
theorem Yic {t:List UInt8} (h:FormT t):∀ (l pre u:List UInt8) (o:Nat),l=pre++u→u <+: t→u≠t→ShE l pre.length o true (some l.length):=by
 refine FormT.rec (motive_1:=fun t _=>∀ (l pre u:List UInt8) (o:Nat),l=pre++u→u <+: t→u≠t→ShE l pre.length o true (some l.length))
  (motive_2:=fun t _=>∀ (l pre u:List UInt8) (o:Nat),l=pre++u→u <+: t→ShE l pre.length (o+1) false (some l.length)) ?_ ?_ ?_ ?_ h
 ·intro l pre u o hl hu hne
  have:u=[]:=by
   cases u with
   | nil=>rfl
   | cons a u =>
    obtain ⟨w,hw⟩:=hu
    simp only [List.cons_append,List.cons.injEq,List.append_eq_nil_iff] at hw
    obtain ⟨rfl,rfl,rfl⟩:=hw
    exact absurd rfl hne
  subst this
  obtain rfl:l=pre:=by simpa using hl
  exact Zqu (Or.inl rfl)
 ·intro t hp ih l pre u o hl hu hne
  cases u with
  | nil =>
   obtain rfl:l=pre:=by simpa using hl
   exact Zqu (Or.inl rfl)
  | cons a u =>
   obtain ⟨w,hw⟩:=hu
   simp only [List.cons_append,List.cons.injEq] at hw
   obtain ⟨rfl,hw⟩:=hw
   have hpre:u <+: t:=by
    rcases List.prefix_concat_iff.1 (show u <+: t++[41] from ⟨w,hw⟩) with e | e
    ·exact absurd (by rw [e]) hne
    ·exact e
   refine Zxq (by rw [hl]; exact Zjt) ?_
   have:=ih l (pre++[40]) u o (by rw [hl]; simp) hpre
   simpa using this
 ·intro l pre u o hl hu
  have:u=[]:=by simpa using hu
  subst this
  obtain rfl:l=pre:=by simpa using hl
  exact Zqu (Or.inr (by omega))
 ·intro t u2 k hk hp hu2 ihp ihu l pre u o hl hu
  obtain ⟨c,hc,h41⟩:=Yfg hk
  rw [hc] at hu
  rcases Yav hu with h1 | ⟨v,hv,hv2⟩
  ·exact ihp l pre u o hl h1
  ·subst hv
   cases v with
   | nil=>exact ihp l pre _ o hl (by simp)
   | cons a v =>
    obtain ⟨w,hw⟩:=hv2
    simp only [List.cons_append,List.nil_append,List.cons.injEq] at hw
    obtain ⟨rfl,hw⟩:=hw
    have hl2:l=(pre++t)++(a::v):=by rw [hl]; simp
    have hvf:Yds v:=by
     cases v with
     | nil=>exact Yfh
     | cons b v =>
      obtain ⟨d,q,hd,hd2⟩:=Zil hu2
      rw [hd] at hw
      simp only [List.cons_append,List.cons.injEq] at hw
      rw [hw.1]
      exact Zmf (by rcases hd2 with h | h <;> simp [h])
    refine Yau hp l pre (a::v) o _ hl ?_
    rw [← Qg]
    refine Zvv (k:=k) (c:=a) (by rw [hl2]; exact Zjt) h41 (by rw [hl2]; exact Zqv hk hc _ _ hvf) ?_
    rw [show (pre++t).length+1=(pre++t++[a]).length by rw [Qg (bs:=[a])]; rfl]
    by_cases he:v=u2
    ·subst he
     refine Zkq hu2 l (pre++t++[a]) [] (o+1) _ (by rw [hl2]; simp) ?_
     rw [show (pre++t++[a]).length+v.length=l.length by rw [hl2]; simp; omega]
     exact Zqu (Or.inr (by omega))
    ·exact ihu l (pre++t++[a]) v (o+1) (by rw [hl2]; simp) ⟨w,hw⟩ he
theorem Yfi {T:List UInt8} (h:FormT T) {n:Nat} (hn:n<T.length):Zdi (T.take n)=some n:=by
 have:=Yic h (T.take n) [] (T.take n) 0 rfl (List.take_prefix _ _) (fun e=>by
  have:=congrArg List.length e
  simp at this
  omega)
 have:=Zno this
 rw [List.length_take,Nat.min_eq_left (by omega)] at this
 exact this
theorem Yaw {T:List UInt8} (h:FormT T) (c:UInt8):Zdi (T++[c])=some T.length:=by
 refine Zno (Zkq h (T++[c]) [] [c] 0 _ (by simp) ?_)
 refine ⟨by simp,2,by simp; omega,?_⟩
 unfold Zcb
 simp
theorem Zvw {T:List UInt8} (h:FormT T):Zdi T=none:=by
 refine Zno (Zkq h T [] [] 0 _ (by simp) ?_)
 refine ⟨by simp,1,by simp,?_⟩
 unfold Zcb
 simp
def Yfj (Rf:HN) (p:Nat):Prop:=Rf.wrong=true∧Rf.at'=p
theorem Ykn {cs:List Cls} {names:Names} {l:List UInt8} {n:ND} {k p:Nat} {r:List (ND × Nat)} {A:List (List UInt8)} {c:Cls} (hc:cs[k]?=some c) (hq:(tryN n c k).2=1∨(tryN n c k).2=2) (hn:Zak (l.drop p)=(k,1)):goM cs names l n k p r A=Zcc names l (tryN n c k).1 (p+1) ((n,k+1)::r) A:=by
 have hkl:=(Qa.1 hc).1
 unfold goM
 rw [show cs.length - k=(cs.length - (k+1))+1 by omega,Zfn,hc]
 simp only
 rw [if_neg (by omega)]
 simp only [hn]
 rw [if_neg (by omega)]
theorem Yfk {cs:List Cls} {names:Names} (hcl:cs.length≤24) {l:List UInt8} {Rf:HN} {n:ND} {k:Nat} {t:List UInt8} {B:List (List UInt8)} (h:PartA cs names n k t B):∀ (pre post:List UInt8) (way:List (ND × Nat)) (A:List (List UInt8)),l=pre++t++post→Goes cs names l pre.length ((n,0)::way) A Rf→Goes cs names l (pre.length+t.length) ((n,k)::way) (A++B) Rf:=by
 refine PartA.rec (cs:=cs) (names:=names) (motive_1:=fun n t B _=>True)
  (motive_2:=fun n k t B _=>∀ (pre post:List UInt8) (way:List (ND × Nat)) (A:List (List UInt8)),l=pre++t++post→Goes cs names l pre.length ((n,0)::way) A Rf→Goes cs names l (pre.length+t.length) ((n,k)::way) (A++B) Rf) (fun _ _=>trivial) (fun _ _ _ _ _ _=>trivial) ?_ ?_ ?_ h
 ·intro n pre post way A hl hG
  simpa using hG
 ·intro n k t B c hp hc hq ih pre post way A hl hG
  have h1:=Zig (ih pre post way A hl hG)
  rw [Zqe hc hq] at h1
  exact Zlc h1
 ·intro n k t u A' B c hp hc hq hu ihp _ pre post way A hl hG
  have hkl:=(Qa.1 hc).1
  have hk:k<100:=by omega
  have hl2:l=(pre++t)++(Lib.decDigits k++u)++post:=by rw [hl]; simp
  have h1:=Zig (ihp pre (Lib.decDigits k++u++post) way A (by rw [hl]; simp) hG)
  have hn:Zak (l.drop (pre.length+t.length))=(k,(Lib.decDigits k).length):=by
   have:=Ydx hk hu (pre++t) post
   rw [← hl2] at this
   simpa using this
  unfold goM at h1
  rw [show cs.length - k=(cs.length - (k+1))+1 by omega,Zfn,hc] at h1
  simp only at h1
  rw [if_neg (by omega)] at h1
  simp only [hn] at h1
  rw [if_neg (by have := @Zdg k; omega)] at h1
  have h2:=Zsu (l:=l) hcl hu (pre++t++Lib.decDigits k) post ((n,k+1)::way) (A++A') (by rw [hl]; simp) (by rw [Qg,Qg]; exact h1)
  simp only [Qg] at h2 ⊢
  rw [show pre.length+(t.length+(Lib.decDigits k).length+u.length)=pre.length+t.length+(Lib.decDigits k).length+u.length by omega,← Qi]
  exact h2
structure Alter (x y:List UInt8) (cs:List Cls) (names:Names) (n:ND) (t u v:List UInt8):Prop where
 at':t=u++(x++v)
 form:FormT (u++(y++v))
 wrong:∀ (l pre post:List UInt8) (way:List (ND × Nat)) (A:List (List UInt8)) (Rf:HN),l=pre++(u++(y++v))++post→Znb cs names l (Zcc names l n pre.length way A) Rf→Yfj Rf (pre.length+u.length)
structure AlterP (x y:List UInt8) (cs:List Cls) (names:Names) (n:ND) (t u v:List UInt8):Prop where
 at':t=u++(x++v)
 form:FormP (u++(y++v))
 wrong:∀ (l pre post:List UInt8) (way:List (ND × Nat)) (A:List (List UInt8)) (Rf:HN),l=pre++(u++(y++v))++post→Goes cs names l pre.length ((n,0)::way) A Rf→Yfj Rf (pre.length+u.length)
theorem Alter.node {x y:List UInt8} {cs:List Cls} {names:Names} {n:ND} {t u v:List UInt8} (hg:n.goals≠[]) (h:AlterP x y cs names n t u v):Alter x y cs names n ([40]++t++[41]) (40::u) (v++[41]):=by
 refine ⟨by rw [h.at']; simp,by simpa using FormT.node _ h.form,fun l pre post way A Rf hl hG => ?_⟩
 unfold Zcc at hG
 rw [if_neg hg,if_pos (by rw [hl]; exact Zkj)] at hG
 have:=h.wrong l (pre++[40]) ([41]++post) way A Rf (by rw [hl]; simp) (by simpa using hG.1 rfl)
 exact ⟨this.1,by rw [this.2]; simp; omega⟩
theorem AlterP.kid {x y:List UInt8} {cs:List Cls} {names:Names} (hcl:cs.length≤10) {n:ND} {k:Nat} {t w u v:List UInt8} {A0:List (List UInt8)} {c:Cls} (hp:PartA cs names n k t A0) (hc:cs[k]?=some c) (hq:(tryN n c k).2=1∨(tryN n c k).2=2) (hf:FormP t) (h:Alter x y cs names (tryN n c k).1 w u v):AlterP x y cs names n (t++Lib.decDigits k++w) (t++Lib.decDigits k++u) v:=by
 have hk:k<10:=by have:=(Qa.1 hc).1; omega
 obtain ⟨d,hd,_⟩:=Yfg hk
 refine ⟨by rw [h.at']; simp,by simpa using FormP.more t _ k hk hf h.form,fun l pre post way A Rf hl hG => ?_⟩
 have hl2:l=(pre++t)++(d::((u++(y++v))++post)):=by rw [hl,hd]; simp
 have h1:=Zig (Yfk (by omega) hp pre (Lib.decDigits k++(u++(y++v))++post) way A (by rw [hl]; simp) hG)
 have hn:Zak (l.drop (pre.length+t.length))=(k,1):=by
  rw [← Qg,hl2]
  obtain ⟨e,q,he,he2⟩:=Zil h.form
  exact Zqv hk hd _ _ (by rw [he]; exact Zmf (by rcases he2 with h | h <;> simp [h]))
 rw [Ykn hc hq hn] at h1
 have h2:=h.wrong l (pre++t++[d]) post _ _ Rf (by rw [hl2]; simp) (by
  rw [show (pre++t++[d]).length=pre.length+t.length+1 by simp; omega]
  exact h1)
 rw [hd]
 exact ⟨h2.1,by rw [h2.2]; simp; omega⟩
theorem AlterP.early {x y:List UInt8} {cs:List Cls} {names:Names} (hcl:cs.length≤10) {n:ND} {k:Nat} {t w u v:List UInt8} (hk:k<10) (hw:FormT w) (h:AlterP x y cs names n t u v):AlterP x y cs names n (t++Lib.decDigits k++w) u (v++Lib.decDigits k++w):=by
 refine ⟨by rw [h.at']; simp,?_,fun l pre post way A Rf hl hG=>h.wrong l pre (Lib.decDigits k++w++post) way A Rf (by rw [hl]; simp) hG⟩
 have:=FormP.more _ w k hk h.form hw
 simpa using this
theorem Zqw {cs:List Cls} {names:Names} (hcl:cs.length≤10) {n:ND} {k:Nat} {t:List UInt8} {A:List (List UInt8)} (h:PartA cs names n k t A):FormP t:=by
 refine PartA.rec (cs:=cs) (names:=names) (motive_1:=fun n t A _=>True) (motive_2:=fun n k t A _=>FormP t) (fun _ _=>trivial) (fun _ _ _ _ _ _=>trivial) ?_ ?_ ?_ h
 ·intro n; exact .nil
 ·intro n k t A c hp hc hq ih; exact ih
 ·intro n k t u A B c hp hc hq hu ihp _
  have hk:k<10:=by have:=(Qa.1 hc).1; omega
  simpa using FormP.more t u k hk ihp (Zqt hcl hu)
theorem Zxr {k:Nat} (hk:k<10):(33:UInt8) ∉ Lib.decDigits k:=by
 rw [Zes k hk]
 intro h
 rw [List.mem_singleton] at h
 have:=(Zcu k hk).1
 rw [← h] at this
 exact absurd this (by decide)
theorem Yax {cs:List Cls} {names:Names} (hcl:cs.length≤10) {n:ND} {t:List UInt8} {A:List (List UInt8)} (h:TreeA cs names n t A):(33:UInt8) ∉ t∨∃ u v,(33:UInt8) ∉ u∧Alter [33] [40,41] cs names n t u v:=by
 refine TreeA.rec (cs:=cs) (names:=names) (motive_1:=fun n t A _=>(33:UInt8) ∉ t∨∃ u v,(33:UInt8) ∉ u∧Alter [33] [40,41] cs names n t u v)
  (motive_2:=fun n k t A _=>(33:UInt8) ∉ t∨∃ u v,(33:UInt8) ∉ u∧AlterP [33] [40,41] cs names n t u v) ?_ ?_ ?_ ?_ ?_ h
 ·intro n hg
  refine Or.inr ⟨[],[],by simp,rfl,by simpa using FormT.node [] .nil,fun l pre post way A Rf hl hG => ?_⟩
  unfold Zcc at hG
  have e:l[pre.length]?=some 40:=by rw [hl]; exact Zkj
  rw [if_pos hg,if_neg (by rw [e]; decide)] at hG
  exact hG.2 rfl
 ·intro n t A hg hp ih
  rcases ih with ih | ⟨u,v,h1,h2⟩
  ·exact Or.inl (by simp [ih])
  ·exact Or.inr ⟨40::u,v++[41],by simp [h1],Alter.node hg h2⟩
 ·intro n
  exact Or.inl (by simp)
 ·intro n k t A c hp hc hq ih
  exact ih
 ·intro n k t w A B c hp hc hq hu ihp ihu
  have hk:k<10:=by have:=(Qa.1 hc).1; omega
  rcases ihp with ihp | ⟨u,v,h1,h2⟩
  ·rcases ihu with ihu | ⟨u,v,h1,h2⟩
   ·exact Or.inl (by simp [ihp,ihu,Zxr hk])
   ·exact Or.inr ⟨t++Lib.decDigits k++u,v,by simp [ihp,h1,Zxr hk],AlterP.kid hcl hp hc hq (Zqw hcl hp) h2⟩
  ·exact Or.inr ⟨u,v++Lib.decDigits k++w,h1,h2.early hcl hk (Zqt hcl hu)⟩
def Zen (t:List UInt8) (j:Nat):Prop:=t[j]?=some 40∧t[j+1]?=some 41
theorem Yfl {t:List UInt8} (h:FormT t):∃ u c,t=u++[c]∧c≠40:=by
 cases h with
 | leaf=>exact ⟨[],33,rfl,by decide⟩
 | node t h=>exact ⟨40::t,41,rfl,by decide⟩
theorem Zpb {t:List UInt8} (h:FormP t):t=[]∨∃ u c,t=u++[c]∧c≠40:=by
 cases h with
 | nil=>exact Or.inl rfl
 | more t u k hk h hu =>
  obtain ⟨u',c,e,hc⟩:=Yfl hu
  exact Or.inr ⟨t++(Lib.decDigits k++u'),c,by rw [e]; simp,hc⟩
theorem Zqx {a b:List UInt8} (ha:a=[]∨∃ u c,a=u++[c]∧c≠40) (h1:∀ j,¬ Zen a j) (h2:∀ j,¬ Zen b j):∀ j,¬ Zen (a++b) j:=by
 intro j ⟨k1,k2⟩
 rcases Nat.lt_or_ge (j+1) a.length with h | h
 ·rw [Qc (by omega)] at k1
  rw [Qc h] at k2
  exact h1 j ⟨k1,k2⟩
 ·rcases Nat.lt_or_ge j a.length with h' | h'
  ·rw [Qc h'] at k1
   rcases ha with rfl | ⟨u,c,rfl,hc⟩
   ·simp at h'
   ·have:j=u.length:=by simp at h h'; omega
    subst this
    simp at k1
    exact hc k1
  ·rw [Qd h'] at k1
   rw [Qd (by omega),show j+1 - a.length=j - a.length+1 by omega] at k2
   exact h2 _ ⟨k1,k2⟩
theorem Znw {a b:List UInt8} {i:Nat} (ha:a=[]∨∃ u c,a=u++[c]∧c≠40) (h1:∀ j,¬ Zen a j) (h2:∀ j,j<i→¬ Zen b j):∀ j,j<a.length+i→¬ Zen (a++b) j:=by
 intro j hj ⟨k1,k2⟩
 rcases Nat.lt_or_ge (j+1) a.length with h | h
 ·rw [Qc (by omega)] at k1
  rw [Qc h] at k2
  exact h1 j ⟨k1,k2⟩
 ·rcases Nat.lt_or_ge j a.length with h' | h'
  ·rw [Qc h'] at k1
   rcases ha with rfl | ⟨u,c,rfl,hc⟩
   ·simp at h'
   ·have:j=u.length:=by simp at h h'; omega
    subst this
    simp at k1
    exact hc k1
  ·rw [Qd h'] at k1
   rw [Qd (by omega),show j+1 - a.length=j - a.length+1 by omega] at k2
   exact h2 _ (by omega) ⟨k1,k2⟩
theorem Zpc {a b:List UInt8} {i:Nat} (hi:i+1<a.length) (h:∀ j,j<i→¬ Zen a j):∀ j,j<i→¬ Zen (a++b) j:=by
 intro j hj ⟨k1,k2⟩
 rw [Qc (by omega)] at k1 k2
 exact h j hj ⟨k1,k2⟩
theorem Yay {k:Nat} (hk:k<10):(∀ j,¬ Zen (Lib.decDigits k) j)∧(∃ u c,Lib.decDigits k=u++[c]∧c≠40):=by
 rw [Zes k hk]
 have hne:UInt8.ofNat (48+k)≠40:=fun e=>by
  have:=(Zcu k hk).1
  rw [e] at this
  exact absurd this (by decide)
 refine ⟨fun j ⟨k1,k2⟩ => ?_,[],_,rfl,hne⟩
 cases j with
 | zero=>simp at k2
 | succ j=>simp at k1
theorem Yaz {cs:List Cls} {names:Names} (hcl:cs.length≤10) {n:ND} {t:List UInt8} {A:List (List UInt8)} (h:TreeA cs names n t A):(∀ j,¬ Zen t j)∨∃ u v,(∀ j,j<u.length→¬ Zen t j)∧Alter [40,41] [33] cs names n t u v:=by
 refine TreeA.rec (cs:=cs) (names:=names) (motive_1:=fun n t A _=>(∀ j,¬ Zen t j)∨∃ u v,(∀ j,j<u.length→¬ Zen t j)∧Alter [40,41] [33] cs names n t u v)
  (motive_2:=fun n k t A _=>(∀ j,¬ Zen t j)∨∃ u v,(∀ j,j<u.length→¬ Zen t j)∧AlterP [40,41] [33] cs names n t u v) ?_ ?_ ?_ ?_ ?_ h
 ·intro n hg
  refine Or.inl (fun j ⟨k1,k2⟩ => ?_)
  cases j with
  | zero=>simp at k2
  | succ j=>simp at k1
 ·intro n t A hg hp ih
  have hf:=Zqw hcl hp
  rcases Classical.em (t=[]) with e | e
  ·subst e
   refine Or.inr ⟨[],[],fun j hj=>by simp at hj,rfl,by simpa using FormT.leaf,fun l pre post way A Rf hl hG => ?_⟩
   unfold Zcc at hG
   have e:l[pre.length]?=some 33:=by rw [hl]; exact Zkj
   rw [if_neg hg,if_neg (by rw [e]; decide)] at hG
   exact hG.2 rfl
  ·have hnd:∀ j,¬ Zen ([40]:List UInt8) j:=fun j ⟨k1,k2⟩=>by
    cases j with
    | zero=>simp at k2
    | succ j=>simp at k1
   have hd0:∃ d r,t=d::r∧d≠41:=by
    have key:∀ {t:List UInt8},FormP t→t≠[]→∃ d r,t=d::r∧d≠41:=by
     intro t ht
     refine FormP.rec (motive_1:=fun t _=>True) (motive_2:=fun t _=>t≠[]→∃ d r,t=d::r∧d≠41) trivial (fun _ _ _=>trivial) (fun h=>absurd rfl h) ?_ ht
     intro t u k hk hp hu ihp _ _
     cases t with
     | nil =>
      obtain ⟨c,hc,h41⟩:=Yfg hk
      exact ⟨c,u,by rw [hc]; rfl,h41⟩
     | cons a t =>
      obtain ⟨d,r,he,h41⟩:=ihp (by simp)
      simp only [List.cons.injEq] at he
      exact ⟨a,_,rfl,by rw [he.1]; exact h41⟩
    exact key hf e
   obtain ⟨d,r,hd,hd41⟩:=hd0
   have hfirst:¬ Zen (40::(t++[41])) 0:=fun ⟨_,k2⟩=>by
    rw [hd] at k2
    simp at k2
    exact hd41 k2
   have hsh:∀ j,Zen (40::(t++[41])) (j+1)→Zen (t++[41]) j:=fun j ⟨k1,k2⟩=>⟨by simpa using k1,by simpa using k2⟩
   have h41:∀ j,¬ Zen ([41]:List UInt8) j:=fun j ⟨k1,k2⟩=>by
    cases j with
    | zero=>simp at k2
    | succ j=>simp at k1
   rcases ih with ih | ⟨u,v,h1,h2⟩
   ·refine Or.inl (fun j hj => ?_)
    cases j with
    | zero=>exact hfirst hj
    | succ j=>exact Zqx (Zpb hf) ih h41 j (hsh j hj)
   ·refine Or.inr ⟨40::u,v++[41],fun j hj hD => ?_,Alter.node hg h2⟩
    cases j with
    | zero=>exact hfirst hD
    | succ j =>
     have hul:u.length+1<t.length:=by rw [h2.at',Qg,Qg]; simp only [Qf,Jt]; omega
     exact Zpc hul h1 j (by simpa using hj) (hsh j hD)
 ·intro n
  exact Or.inl (fun j ⟨k1,_⟩=>by simp at k1)
 ·intro n k t A c hp hc hq ih
  exact ih
 ·intro n k t w A B c hp hc hq hu ihp ihu
  have hk:k<10:=by have:=(Qa.1 hc).1; omega
  obtain ⟨d1,d2⟩:=Yay hk
  have hf:=Zqw hcl hp
  have hlast:(t++Lib.decDigits k)=[]∨∃ u c,(t++Lib.decDigits k)=u++[c]∧c≠40:=by
   obtain ⟨u,c,e,hc⟩:=d2
   exact Or.inr ⟨t++u,c,by rw [e]; simp,hc⟩
  rcases ihp with ihp | ⟨u,v,h1,h2⟩
  ·have hmid:=Zqx (Zpb hf) ihp d1
   rcases ihu with ihu | ⟨u,v,h1,h2⟩
   ·exact Or.inl (Zqx hlast hmid ihu)
   ·refine Or.inr ⟨t++Lib.decDigits k++u,v,?_,AlterP.kid hcl hp hc hq hf h2⟩
    have:=Znw hlast hmid h1
    simpa [Nat.add_assoc] using this
  ·refine Or.inr ⟨u,v++Lib.decDigits k++w,?_,h2.early hcl hk (Zqt hcl hu)⟩
   have hul:u.length+1<t.length:=by rw [h2.at',Qg,Qg]; simp only [Qf,Jt]; omega
   have:=Zpc (b:=Lib.decDigits k++w) hul h1
   simpa using this
theorem Ztq {p q:ByteArray} {cs:List Cls} {a:List (List Sym) × Names} {x y T u v:List UInt8} (hp:Zcl p=some cs) (hq:Zdx q=some a) (h:Alter x y cs a.2 (topN a) T u v) (hl:(u++(y++v)).length≤20000):(allN p q ⟨(u++(y++v)).toArray⟩).2=(7,u.length):=by
 have hsh:=Zvw h.form
 have hG:=Znc cs a hsh
 have hW:=h.wrong (u++(y++v)) [] [] [] [] _ (by simp) hG
 unfold allN
 rw [hp]
 simp only
 rw [hq]
 simp only
 rw [if_neg (by simp only [ByteArray.size,List.size_toArray]; omega)]
 show (match Zdi (u++(y++v)) with
  | some pl=>([],6,pl)
  | none=>if (Zhp cs a (u++(y++v))).wrong=true then ([],7,(Zhp cs a (u++(y++v))).at') else ((Zhp cs a (u++(y++v))).ans,0,0)).2=_
 rw [hsh]
 simp only
 rw [if_pos hW.1,hW.2]
 simp
theorem Zxs {p q:ByteArray} {cs:List Cls} {a:List (List Sym) × Names} {l:List UInt8} {pl:Nat} (hp:Zcl p=some cs) (hq:Zdx q=some a) (h:Zdi l=some pl) (hl:l.length≤20000):(allN p q ⟨l.toArray⟩).2=(6,pl):=by
 unfold allN
 rw [hp]
 simp only
 rw [hq]
 simp only
 rw [if_neg (by simp only [ByteArray.size,List.size_toArray]; omega)]
 show (match Zdi l with
  | some pl=>([],6,pl)
  | none=>if (Zhp cs a l).wrong=true then ([],7,(Zhp cs a l).at') else ((Zhp cs a l).ans,0,0)).2=_
 rw [h]
theorem Yiu {i:Nat} (hi:i<6) (N:Names):∃ s,((argT i).syms N).1=[s]∧ArgS s:=by
 unfold argT
 split
 ·rename_i h
  refine ⟨⟨[symA i],0,0⟩,rfl,rfl,Or.inr ?_⟩
  rcases (by omega:i=0∨i=1∨i=2) with rfl | rfl | rfl
  ·exact Or.inl rfl
  ·exact Or.inr (Or.inl rfl)
  ·exact Or.inr (Or.inr rfl)
 ·exact ⟨_,rfl,rfl,Or.inl rfl⟩
theorem Yko {x:At3} (hx:AtOk x) (N:Names):FA ((atG x).syms N).1∧hdN ((atG x).syms N).1=[symP x.1]:=by
 obtain ⟨P,A,B⟩:=x
 obtain ⟨s,e1,h1⟩:=Yiu hx.2.1 N
 obtain ⟨t,e2,h2⟩:=Yiu hx.2.2 ((argT A).syms N).2
 have e:((atG (P,A,B)).syms N).1=[⟨[symP P],0,2⟩,s,t]:=by
  show ⟨[symP P],0,2⟩::(((argT A).syms N).1++((argT B).syms ((argT A).syms N).2).1)=_
  rw [e1,e2]
  rfl
 rw [e]
 exact ⟨⟨_,s,t,rfl,by simp,rfl,h1,h2⟩,rfl⟩
theorem Ykp:∀ (l:List At3) (N:Names),(∀ x ∈ l,AtOk x)→(∀ t ∈ (Zfm (l.map atG) N).1,FA t)∧(Zfm (l.map atG) N).1.map hdN=l.map (fun x=>[symP x.1]):=by
 intro l
 induction l with
 | nil=>intro N _; exact ⟨by simp [Zfm],rfl⟩
 | cons x l ih =>
  intro N h
  obtain ⟨h1,h2⟩:=Yko (h x (by simp)) N
  obtain ⟨h3,h4⟩:=ih ((atG x).syms N).2 (fun y hy=>h y (by simp [hy]))
  simp only [List.map_cons,Zfm,Qp]
  refine ⟨fun t ht => ?_,by rw [h2,h4]⟩
  rcases ht with rfl | ht
  ·exact h1
  ·exact h3 t ht
structure RlLay (x:At3 × List At3) (a:Nat):Prop where
 ok:RlOk x
 le:a≤2
 head:x.1.1=2 - a
 body:x.2.map (·.1)=(layB a).map (2 - ·)
theorem Zqy {a:Nat} (h:a≤2):[symP (2 - a)]=layN a:=by
 rcases (by omega:a=0∨a=1∨a=2) with rfl | rfl | rfl <;> rfl
theorem Ykq {x:At3 × List At3} {a:Nat} (h:RlLay x a):FFc (clOf (rlG x))∧LvC (clOf (rlG x)) a:=by
 obtain ⟨h1,h2⟩:=Yko h.ok.1 []
 obtain ⟨h3,h4⟩:=Ykp x.2 ((atG x.1).syms []).2 h.ok.2.1
 refine ⟨⟨h1,h3⟩,h.le,?_,?_⟩
 ·show hdN ((atG x.1).syms []).1=_
  rw [h2,h.head,Zqy h.le]
 ·show (Zfm (x.2.map atG) ((atG x.1).syms []).2).1.map hdN=_
  rw [h4]
  have e:x.2.map (fun y=>[symP y.1])=(x.2.map (·.1)).map (fun p=>[symP p]):=by rw [List.map_map]; rfl
  rw [e,h.body,List.map_map]
  refine List.map_congr_left (fun b hb => ?_)
  exact Zqy (Yez a b hb)
theorem Ykr (Ls:List ((At3 × List At3) × Nat)) (h:∀ y ∈ Ls,RlLay y.1 y.2) (h7:Ls.length≤7) (hf:∀ a,cntF (Ls.map (·.2)) a 0≤layM a) (hc:∀ c ∈ Ls.map (fun y=>clOf (rlG y.1)),COk c):LayC (Ls.map (fun y=>clOf (rlG y.1))) (Ls.map (·.2)):=by
 refine ⟨by simp,by simpa using h7,fun k c hk => ?_,hf⟩
 rw [Qj,Option.map_eq_some_iff] at hk
 obtain ⟨y,hy,rfl⟩:=hk
 have hm:=Qh hy
 obtain ⟨h1,h2⟩:=Ykq (h y hm)
 exact ⟨y.2,by rw [Qj,hy]; rfl,h2,hc _ (List.mem_map_of_mem hm),h1⟩
theorem Yks {x:At3} (hx:AtOk x) {a:Nat} (ha:a≤2) (hh:x.1=2 - a) (hN:NOk (topN (Zfm [atG x] []))):NodeL (topN (Zfm [atG x] [])) [a]:=by
 obtain ⟨h1,h2⟩:=Yko hx []
 refine ⟨hN,⟨fun g hg => ?_,fun v hv => ?_,fun g hg=>by simp [topN] at hg⟩,?_,fun b hb=>by simp at hb; omega,?_⟩
 ·simp only [topN,Zfm,List.map_cons,List.map_nil,List.mem_singleton] at hg
  subst hg
  exact h1
 ·simp only [topN,List.mem_map] at hv
  obtain ⟨i,_,rfl⟩:=hv
  exact Zsx i
 ·unfold LvG
  simp only [topN,Zfm,List.map_cons,List.map_nil]
  rw [h2,hh,Zqy ha]
 ·have:wtL [a]≤4:=by rcases (by omega:a=0∨a=1∨a=2) with rfl | rfl | rfl <;> decide
  simpa [topN] using this
theorem LayI.aft {cs:List Cls} {lv:List Nat} {a:List (List Sym) × Names} (hC:LayC cs lv) {tries size:Nat}:∀ {f:Nat} {m:SN} {t:Tr},LayI lv m→LayI lv (aftN cs a tries size f m t).1:=by
 intro f
 induction f with
 | zero=>intro m t h; exact h
 | succ f ih =>
  intro m t h
  rw [aftN]
  split
  ·split
   ·exact h.step hC
   ·exact ih (h.step hC)
  ·exact h
theorem Ztr (Ls:List ((At3 × List At3) × Nat)) (h:∀ y ∈ Ls,RlLay y.1 y.2) (h7:Ls.length≤7) (hf:∀ a,cntF (Ls.map (·.2)) a 0≤layM a) (x:At3) (hx:AtOk x) :
  ∃ cs a,Zcl ⟨(Zec (Ls.map (fun y=>rlG y.1))).toArray⟩=some cs∧Zdx ⟨((atG x).text++[46]).toArray⟩=some a∧cs.length≤7∧Told cs a (aftN cs a 3001 3000 3002 (newN cs a) ⟨[],[],0,0⟩).1 (aftN cs a 3001 3000 3002 (newN cs a) ⟨[],[],0,0⟩).2∧(aftN cs a 3001 3000 3002 (newN cs a) ⟨[],[],0,0⟩).1.status=2∧(aftN cs a 3001 3000 3002 (newN cs a) ⟨[],[],0,0⟩).1.way=[]∧(aftN cs a 3001 3000 3002 (newN cs a) ⟨[],[],0,0⟩).1.tree.length≤4000:=by
 have hfine:∀ c ∈ Ls.map (fun y=>rlG y.1),ClFine c:=fun c hc=>by
  obtain ⟨y,hy,rfl⟩:=List.mem_map.1 hc
  have ho:=(h y hy).ok
  refine ⟨Zqa _ _ _ ho.1.1 ho.1.2.1 ho.1.2.2,fun t ht => ?_,by have:=ho.2.2; simp [rlG]; omega⟩
  obtain ⟨z,hz,rfl⟩:=List.mem_map.1 ht
  have:=ho.2.1 z hz
  exact Zqa _ _ _ this.1 this.2.1 this.2.2
 have hlen:(Zec (Ls.map (fun y=>rlG y.1))).length≤800:=by
  have key:∀ (l:List ((At3 × List At3) × Nat)),(∀ y ∈ l,RlLay y.1 y.2)→(Zec (l.map (fun y=>rlG y.1))).length≤40 * l.length:=by
   intro l
   induction l with
   | nil=>intro _; simp [Zec]
   | cons y l ih =>
    intro hl
    have h1:=ih (fun z hz=>hl z (by simp [hz]))
    have h2:=(hl y (by simp)).ok.2.2
    have h3:(clT (atG y.1.1) (y.1.2.map atG)).length≤40:=by
     by_cases hb:y.1.2.map atG=[]
     ·rw [hb]
      simp only [clT,Qg,Qn]
      have:(atG y.1.1).text.length=6:=Zjm _ _ _
      omega
     ·rw [Zwz _ _ hb]
      have h5:=Zsg y.1.2
      have:(atG y.1.1).text.length=6:=Zjm _ _ _
      simp only [Qg,Qf,Jt]
      omega
    simp only [List.map_cons,Zec,List.flatMap_cons,Qg,Qf] at h1 ⊢
    have h6:(clT (rlG y.1).1 (rlG y.1).2).length≤40:=h3
    omega
  have:=key Ls h
  omega
 have hp:=Zup _ hfine (by simp; omega) hlen
 have hxf:(atG x).fine=true:=Zqa _ _ _ hx.1 hx.2.1 hx.2.2
 have hq:=Zzi (atG x) [] hxf (by simp) (by simp) (by have:(atG x).text.length=6:=Zjm _ _ _; simp [Zdp,this])
 obtain ⟨_,_,_,hcs,hcl⟩:=Zdr hp
 obtain ⟨_,_,_,hN,_,_,hane,_,_⟩:=Zcy hq
 rw [List.map_map] at hp hcs hcl
 have hC:=Ykr Ls h h7 hf (fun c hc=>(hcs c hc).1)
 obtain ⟨a,ha,hh⟩:∃ a,a≤2∧x.1=2 - a:=⟨2 - x.1,by omega,by have:=hx.1; omega⟩
 have hNL:=Yks hx ha hh hN
 obtain ⟨cs,hcse⟩:∃ cs,cs=Ls.map (fun y=>clOf (rlG y.1)):=⟨_,rfl⟩
 have hp':Zcl ⟨(Zec (Ls.map (fun y=>rlG y.1))).toArray⟩=some cs:=by rw [hcse]; exact hp
 rw [← hcse] at hC
 have hcl':cs.length≤24:=by have:=hC.seven; omega
 have hI:=InvN.new cs (a:=Zfm [atG x] []) hane
 have hs0:=Zht cs (a:=Zfm [atG x] []) hane
 have hn0:(newN cs (Zfm [atG x] [])).tries=0:=by
  unfold newN Zdf Zbz
  rw [if_neg (Zey hane)]
 have hLy:=LayI.new hC ha hane hNL
 have hend:=Yht (f:=3002) (t:=⟨[],[],0,0⟩) hC hI hLy hn0 (Or.inl hs0) (by simp)
 have hT:=(Told.new cs hane).aft hcl' (tries:=3001) (size:=3000) (f:=3002) hI (Or.inl hs0)
 obtain ⟨hI2,htr⟩:=Yhq (cs:=cs) (a:=Zfm [atG x] []) hcl' (tries:=3001) (size:=3000) (f:=3002) (t:=⟨[],[],0,0⟩) hI hn0 (Qm _)
 have hLe:=hLy.aft (a:=Zfm [atG x] []) hC (tries:=3001) (size:=3000) (f:=3002) (t:=⟨[],[],0,0⟩)
 obtain ⟨_,pp,_,hpp⟩:=hLe
 have hlen2:=hI2.len
 exact ⟨cs,Zfm [atG x] [],hp',hq,hC.seven,hT,hend,hI2.no hend,by omega⟩
structure AppendedR (w:World) (base:Nat) (e:TypeId) (size:Nat) (v:Value) (n:Nat) (xs:List Value) (v':Value) (w':World):Prop where
 owns:w'.ownsRow base e size v' n xs
 kept:Kept (Zbl v) w w'
theorem Zff {P:Program} {ops:Array Oper} {rest:List Oper} {o:Oper} {a:Act} {Q:Exit→Act→World→Prop} (w:World) (hgd:o.guard=none) (s x:Operand) (t:TypeId)
  (ho:o.op = .call { callee := .builtin .append,args:=#[s,x],argTypes:=#[t,t] })
  (base base':Nat) (e:TypeId) {z:Value} {size bytes:Nat}
  (hinfo:(P.info? e).map (fun i=>(i.zero,i.size,i.bytes))=some (some z,size,bytes)) (ht:P.underlying t=some (.slice e)) (hzs:z.cells.size=size) (hsz:0<size)
  (v:Value) (n:Nat) (xs:List Value) (hs:a.eval s=v) (hown:w.ownsRow base e size v n xs)
  (u:Value) (m:Nat) (ys:List Value) (hx:a.eval x=u) (hown2:w.ownsRow base' e size u m ys) (h1:∀ z ∈ ys,z.oneCell'=true)
  (hbig:(n+m) * (bytes+1)≤140737488355328) (hbase:base≤w.heap.size)
  (h:∀ v' w',AppendedR w base e size v (n+m) (xs++ys) v' w'→wpList P ops Q rest (a.put o.dst v') w'):wpList P ops Q (o::rest) a w:=by
 refine wpList_plain hgd fun _ hK => ?_
 obtain ⟨i,hi,hz,hsi,hby⟩:=info_parts hinfo
 have hb1:n+m≤140737488355328:=Qq (Nat.le_mul_of_pos_right (n+m) (Nat.succ_pos bytes)) hbig
 have hb2:(n+m) * bytes≤140737488355328:=Qq (Nat.mul_le_mul_left _ (Nat.le_succ _)) hbig
 have h63:n+m≤maxLen:=by simp only [maxLen]; omega
 obtain ⟨v',w',hr,h2⟩:∃ v' w',(Builtin.append_ #[t,t] o.type #[v,u]).run P w = .ok v' w'∧AppendedR w base e size v (n+m) (xs++ys) v' w':=by
  rcases hown2.2 with ⟨rfl,rfl⟩ | ⟨g,cap,cur,rfl,_,hg,hmc,hcm,hcs,htake⟩
  ·have hys:ys=[]:=List.eq_nil_of_length_eq_zero (by have:=hown2.1; simpa using this)
   subst hys
   exact ⟨v,w,run_append_owned_none (P:=P) w base t o.type e i size ht hi v n xs hown,by simpa using hown,Qx _ _⟩
  ·have hnews:∀ (j:Nat) (y:Value),ys[j]?=some y→w.cell? ((⟨g,0,none⟩:Addr).add j)=some y:=hown2.cells (g:=g) rfl
   obtain ⟨v',w',hr,hA,hB,_⟩:=run_append_own (P:=P) w base t o.type e i z size bytes ht hi hz hsi hby hzs hsz v n xs hown ⟨g,0,none⟩ m cap ys hown2.1 hnews h1 h63 hb2 hbase
   exact ⟨v',w',hr,hA,Kept.of_grown hB⟩
 unfold Oper.wp execOp
 simp only [ho,resolve,invoke,builtin,Sem.run_bind,Sem.run_pure,Result.andThen_ok,List.map_toArray,List.map_cons,List.map_nil,hs,hx,hr]
 exact hK _ _ (h v' w' h2)
theorem Zmg {u:World} {v:Value} {R:List (At3 × List At3)} {xs:List Value} (h:RulesIn u v R xs):∀ z ∈ xs,z.oneCell'=true:=by
 intro z hz
 obtain ⟨j,hj⟩:=List.mem_iff_getElem?.1 hz
 have hl:=h.owns.1
 have hjl:=(Qa.1 hj).1
 obtain ⟨x,hx⟩:∃ x,R[j / 4]?=some x:=⟨_,Qb (by omega)⟩
 obtain ⟨a,c,y0,y1,y2,y3,_⟩:=h.all _ x hx
 rcases (by omega:j % 4=0∨j % 4=1∨j % 4=2∨j % 4=3) with e | e | e | e
 ·rw [show j=j / 4 * 4 by omega,y0] at hj; cases hj; rfl
 ·rw [show j=j / 4 * 4+1 by omega,y1] at hj; cases hj; rfl
 ·rw [show j=j / 4 * 4+2 by omega,y2] at hj; cases hj; rfl
 ·rw [show j=j / 4 * 4+3 by omega,y3] at hj; cases hj; rfl
theorem RulesIn.join {u w':World} {base:Nat} {v1 v2 v':Value} {R1 R2:List (At3 × List At3)} {xs1 xs2:List Value} (h1:RulesIn u v1 R1 xs1) (h2:RulesIn u v2 R2 xs2) (hb:u.ownsRow base 53 4 v1 R1.length xs1) (hA:AppendedR u base 53 4 v1 (R1.length+R2.length) (xs1++xs2) v' w'):RulesIn w' v' (R1++R2) (xs1++xs2):=by
 have hkeep:∀ {vv:Value} {l:List At3},AtomsIn u vv l→AtomsIn w' vv l:=fun hr=>⟨Zah hr.owns (fun k e=>hA.kept.block k (hr.owns.lt k e).2 (fun e2=>by
  obtain ⟨c1,k1⟩:=Zbk hr.owns k e
  obtain ⟨c2,k2⟩:=Zbk hb k e2
  rw [k1] at k2
  simp at k2)),hr.ok⟩
 have hl:=h1.owns.1
 refine ⟨by rw [Qg]; exact Zba hA.owns (Qm _),fun k x hx => ?_⟩
 rcases Nat.lt_or_ge k R1.length with hk | hk
 ·rw [Qc hk] at hx
  obtain ⟨a,c,y0,y1,y2,y3,y4,y5⟩:=h1.all k x hx
  refine ⟨a,c,?_,?_,?_,?_,hkeep y4,y5⟩
  ·rw [Qc (by omega)]; exact y0
  ·rw [Qc (by omega)]; exact y1
  ·rw [Qc (by omega)]; exact y2
  ·rw [Qc (by omega)]; exact y3
 ·rw [Qd hk] at hx
  obtain ⟨a,c,y0,y1,y2,y3,y4,y5⟩:=h2.all _ x hx
  refine ⟨a,c,?_,?_,?_,?_,hkeep y4,y5⟩
  ·rw [Qd (by omega),hl,show k * 4 - R1.length * 4=(k - R1.length) * 4 by omega]; exact y0
  ·rw [Qd (by omega),hl,show k * 4+1 - R1.length * 4=(k - R1.length) * 4+1 by omega]; exact y1
  ·rw [Qd (by omega),hl,show k * 4+2 - R1.length * 4=(k - R1.length) * 4+2 by omega]; exact y2
  ·rw [Qd (by omega),hl,show k * 4+3 - R1.length * 4=(k - R1.length) * 4+3 by omega]; exact y3
theorem Yfm {α:Type} (c z:Nat):∀ (l:List α),((l.map (fun _=>c)).filter (fun b=>b == z)).length=if c=z then l.length else 0:=by
 intro l
 induction l with
 | nil=>simp
 | cons x l ih =>
  simp only [List.map_cons,List.filter_cons]
  by_cases h:c=z
  ·simp only [h,beq_self_eq_true,if_true,Qf] at ih ⊢
   rw [ih]
  ·have:(c == z)=false:=by simpa using h
   simp only [this,h,if_false,Bool.false_eq_true] at ih ⊢
   exact ih
def lysF (F:List At3):List ((At3 × List At3) × Nat):=F.map (fun x=>((x,[]),0))
def lysR (R:List (At3 × List At3)) (c:Nat):List ((At3 × List At3) × Nat):=R.map (fun x=>(x,c))
theorem Ykt {F:List At3} {R S:List (At3 × List At3)} (hF:F.length≤3) (hR:R.length≤2) (hS:S.length≤2) (z:Nat):cntF ((lysF F++(lysR R 1++lysR S 2)).map (·.2)) z 0≤layM z∧cntF (((lysR R 1++lysR S 2)++lysF F).map (·.2)) z 0≤layM z:=by
 have e1:(lysF F).map (·.2)=F.map (fun _=>0):=by simp [lysF]
 have e2:∀ (R:List (At3 × List At3)) c,(lysR R c).map (·.2)=R.map (fun _=>c):=fun R c=>by simp [lysR]
 unfold cntF
 simp only [List.drop_zero,Qr,e1,e2,List.filter_append,Qg,Yfm]
 unfold layM
 match z with
 | 0=>simp; omega
 | 1=>simp; omega
 | 2=>simp; omega
 | z+3 =>
  simp
theorem Ylq {F:List At3} {R S:List (At3 × List At3)} (hF:∀ x ∈ F,x.1=2) (hFo:∀ x ∈ F,RlOk (x,[])) (hR:∀ y ∈ R,RlLay y 1) (hS:∀ y ∈ S,RlLay y 2):∀ y ∈ lysF F++(lysR R 1++lysR S 2),RlLay y.1 y.2:=by
 intro y hy
 simp only [Qk,lysF,lysR,List.mem_map] at hy
 rcases hy with ⟨x,hx,rfl⟩ | ⟨x,hx,rfl⟩ | ⟨x,hx,rfl⟩
 ·exact ⟨hFo x hx,by omega,hF x hx,rfl⟩
 ·exact hR x hx
 ·exact hS x hx
set_option maxHeartbeats 8000000 in
theorem Zvx (w:World) (B b:Nat) (ra:Option Addr) (rl rc:Nat) (h:RawIn w B b ra rl rc):Calls Tryz.prog 5 #[.pointer (some ⟨b,0,none⟩)] w fun e w'=>∃ (a:Option Addr) (c:Nat) (Ls:List ((At3 × List At3) × Nat)) (xs:List Value),Ls.length≤7∧(∀ y ∈ Ls,RlLay y.1 y.2)∧(∀ z,cntF (Ls.map (·.2)) z 0≤layM z)∧e = .returned (.slice a Ls.length c)∧RulesIn w' (.slice a Ls.length c) (Ls.map (·.1)) xs∧Kept (only b) w w'∧RawIn w' B b ra rl rc:=by
 have hbl:b<w.heap.size∧B≤b:=by obtain ⟨q,h⟩:=h; exact ⟨Zab h.box,h.le⟩
 have HT:=Zac (Zeh w B b ra rl rc h 4 ⟨by omega,by omega⟩)
 clear h
 go_enter Tryz.func5,Tryz.ntmps5
 go_wp2_with fail
 refine HT.out.mono ?_
 rintro e w1 ⟨n,hn,rfl,hK,hR⟩
 have HK:Hid (Kept (only b) w w1∧RawIn w1 B b ra rl rc):=⟨hK,hR⟩
 clear hK hR HT
 go_wp2
 go_loopw [3,5] (fun sv i u=>∃ (k:Nat) (a:Option Addr) (c:Nat) (F:List At3) (xs:List Value),k+F.length=n∧i = .int .i64 k∧sv = .slice a F.length c∧RlsAt u w.heap.size (.slice a F.length c) (F.map (fun x=>(x,[]))) xs∧(∀ x ∈ F,x.1=2)∧Kept (only b) w u∧RawIn u B b ra rl rc) (fun _ i _=>(intOf i).toNat)
 case atStart=>exact ⟨n,none,0,[],[],by simp,rfl,rfl,RlsAt.nil _ _,by simp,HK.out.1,HK.out.2⟩
 case round =>
  obtain ⟨k,a,c,F,xs,hkF,rfl,rfl,hrls,hF2,hKu,hRu⟩:=hrel
  have Hrls:=Zac hrls
  have HF2:=Zac hF2
  have HKu:=Zac hKu
  have hsw:=hKu.size
  clear hrls hF2 hKu HK
  by_cases h0:k=0
  ·subst h0
   have hFn:F.length≤3:=by omega
   clear hkF
   have HT2:=Zac (Zeh wr B b ra rl rc hRu 3 ⟨by omega,by omega⟩)
   clear hRu
   go_wp2_with fail
   refine HT2.out.mono ?_
   rintro e w2 ⟨n2,hn2,rfl,hK2,hR2⟩
   have HK2:Hid (Kept (only b) w w2∧RawIn w2 B b ra rl rc):=⟨HKu.out.trans hK2,hR2⟩
   have HFr:Hid (∀ u,Kept (only b) w2 u→RlsAt u w.heap.size (.slice a F.length c) (F.map (fun x=>(x,[]))) xs):=fun u hu=>Hrls.out.keep (fun i h1 h2=>by
    have e1:=hK2.block i h2 (fun e=>by have e:i=b:=e; omega)
    have e2:=hu.block i (by have:=hK2.size; omega) (fun e=>by have e:i=b:=e; omega)
    rw [e2,e1])
   have hs2:=HK2.out.1.size
   clear hK2 hR2 HT2 Hrls
   obtain ⟨wf,hwf⟩:∃ wf,wf=wr:=⟨_,rfl⟩
   subst hwf
   have hb2:b<w2.heap.size:=by omega
   go_wp2
   go_loopw [4,7] (fun sv i u=>∃ (k:Nat) (a2:Option Addr) (c2:Nat) (R:List (At3 × List At3)) (ys:List Value),k+R.length=n2∧i = .int .i64 k∧sv = .slice a2 R.length c2∧RlsAt u w2.heap.size (.slice a2 R.length c2) R ys∧(∀ y ∈ R,RlLay y 1)∧Kept (only b) w2 u∧RawIn u B b ra rl rc) (fun _ i _=>(intOf i).toNat)
   case atStart=>exact ⟨n2,none,0,[],[],by simp,rfl,rfl,RlsAt.nil _ _,by simp,Qx _ _,HK2.out.2⟩
   case round =>
    obtain ⟨k,a2,c2,R,ys,hkR,rfl,rfl,hrl2,hRy,hKr,hRr⟩:=hrel
    have Hrl2:=Zac hrl2
    have HRy:=Zac hRy
    have HKr:=Zac hKr
    have hsr:=hKr.size
    have hR2:R.length≤2:=by omega
    clear hrl2 hRy hKr
    by_cases h0:k=0
    ·subst h0
     clear hkR
     have HT3:=Zac (Zeh wr B b ra rl rc hRr 3 ⟨by omega,by omega⟩)
     clear hRr
     go_wp2_with fail
     refine HT3.out.mono ?_
     rintro e w3 ⟨n3,hn3,rfl,hK3,hR3⟩
     have hs3:=hK3.size
     have HRb:Hid (RlsAt w3 w2.heap.size (.slice a2 R.length c2) R ys):=Hrl2.out.keep (fun i h1 h2=>hK3.block i h2 (fun e=>by have e:i=b:=e; omega))
     have HK3:Hid (Kept (only b) w2 w3∧RawIn w3 B b ra rl rc):=⟨HKr.out.trans hK3,hR3⟩
     have hR1l:R.length≤2:=hR2
     clear hK3 hR3 HT3 Hrl2 HKr
     obtain ⟨wg,hwg⟩:∃ wg,wg=wr:=⟨_,rfl⟩
     subst hwg
     go_wp2
     go_loopw [4,11] (fun sv i u=>∃ (k:Nat) (a3:Option Addr) (c3:Nat) (S:List (At3 × List At3)) (zs:List Value),k+S.length=n3∧i = .int .i64 k∧sv = .slice a3 (R++S).length c3∧RlsAt u w2.heap.size (.slice a3 (R++S).length c3) (R++S) zs∧(∀ y ∈ S,RlLay y 2)∧Kept (only b) w2 u∧RawIn u B b ra rl rc) (fun _ i _=>(intOf i).toNat)
     case atStart=>exact ⟨n3,a2,c2,[],ys,by simp,rfl,by simp,by simpa using HRb.out,by simp,HK3.out.1,HK3.out.2⟩
     case round =>
      obtain ⟨k,a3,c3,S,zs,hkS,rfl,rfl,hrl3,hSy,hKs,hRs⟩:=hrel
      have Hrl3:=Zac hrl3
      have HSy:=Zac hSy
      have HKs:=Zac hKs
      have hss:=hKs.size
      have hS2:S.length≤2:=by omega
      obtain ⟨M,hM⟩:∃ M,M=(R++S).length:=⟨_,rfl⟩
      have hM4:M≤4:=by rw [hM,Qg]; omega
      rw [← hM] at Hrl3 ⊢
      have HM:=Zac hM
      clear hrl3 hSy hKs hM
      by_cases h0:k=0
      ·subst h0
       clear hkS
       have HT4:=Zac (Zeh wr B b ra rl rc hRs 2 ⟨by omega,by omega⟩)
       clear hRs
       go_wp2_with fail
       refine HT4.out.mono ?_
       rintro e w4 ⟨fs,hfs,rfl,hK4,hR4⟩
       have hs4:=hK4.size
       have hKw2:Kept (only b) w2 w4:=HKs.out.trans hK4
       have hF4:=HFr.out w4 hKw2
       have hR4':=Hrl3.out.keep (u':=w4) (fun i h1 h2=>hK4.block i h2 (fun e=>by have e:i=b:=e; omega))
       have hFm:(F.map (fun x=>((x,[]):At3 × List At3))).length=F.length:=by simp
       have hFok:∀ x ∈ F,RlOk (x,[]):=fun x hx=>hF4.ok (x,[]) (List.mem_map_of_mem hx)
       have HLy:=Zac (Ylq HF2.out hFok HRy.out HSy.out)
       have HLc:=Zac (fun z=>Ykt (F:=F) (R:=R) (S:=S) hFn hR1l hS2 z)
       have HLl:Hid ((lysF F++(lysR R 1++lysR S 2)).length=F.length+M∧((lysR R 1++lysR S 2)++lysF F).length=M+F.length∧(lysF F++(lysR R 1++lysR S 2)).map (·.1)=F.map (fun x=>(x,[]))++(R++S)∧((lysR R 1++lysR S 2)++lysF F).map (·.1)=(R++S)++F.map (fun x=>(x,[]))):=by
        rw [HM.out]
        refine ⟨by simp [lysF,lysR],by simp [lysF,lysR]; omega,?_,?_⟩
        ·simp [lysF,lysR,Function.comp_def]
        ·simp [lysF,lysR,Function.comp_def]
       have HFi:Hid (RulesIn w4 (.slice a F.length c) (F.map (fun x=>(x,[]))) xs):=hF4.rules
       have HRi:Hid (RulesIn w4 (.slice a3 M c3) (R++S) zs):=hR4'.rules
       have HFo:Hid (w4.ownsRow w.heap.size 53 4 (.slice a F.length c) F.length xs):=by have:=hF4.owns; rw [hFm] at this; exact this
       have HRo:Hid (w4.ownsRow w2.heap.size 53 4 (.slice a3 M c3) M zs):=by have:=hR4'.owns; rw [← HM.out] at this; exact this
       have HK4:Hid (Kept (only b) w w4∧RawIn w4 B b ra rl rc):=⟨HK2.out.1.trans hKw2,hR4⟩
       have Hnil:Hid (RulesIn w4 (.slice none 0 0) [] []):=⟨World.ownsRow_nil _ _ _ _,fun k x h=>by simp at h⟩
       clear hK4 hR4 HT4 hKw2 hF4 hR4' hFm hFok HFr Hrl3 HKs HRb HK3 HK2
       have noS:∀ j,¬ Zbl (.slice none 0 0) j:=fun j e=>by simp [Zbl,Value.ownBlock] at e
       rcases (by omega:fs=0∨fs=1) with rfl | rfl
       ·go_wp2_with (at_builtin; go_loud (refine Zff w4 rfl (.tmp 70) (.tmp 71) 26 rfl w4.heap.size w.heap.size 53 Tryz.infoRule Tryz.underlying26 rfl (by decide) (.slice none 0 0) 0 [] rfl (World.ownsRow_nil _ _ _ _) (.slice a F.length c) F.length xs rfl HFo.out (Zmg HFi.out) ?_ ?_ ?_))
        ·omega
        ·omega
        intro v5 w5 hA5
        have hE5:Ext w4 w5:=hA5.kept.below (Qe _) (fun j e=>absurd e (noS j))
        have h5:RulesIn w5 v5 (F.map (fun x=>(x,[]))) xs:=by
         have:=RulesIn.join (base:=w4.heap.size) Hnil.out HFi.out (World.ownsRow_nil _ _ _ _) (by simpa using hA5)
         simpa using this
        have hR5:=HRi.out.ext hE5
        have HRo5:Hid (w5.ownsRow w2.heap.size 53 4 (.slice a3 M c3) M zs):=Zah HRo.out (fun j hj=>hE5.block j (HRo.out.lt j hj).2)
        have H5o:Hid (w5.ownsRow w4.heap.size 53 4 v5 F.length xs):=hA5.owns
        obtain ⟨a5,c5,rfl⟩:=Zad H5o.out
        have H5:=Zac h5
        have HR5:=Zac hR5
        have HE5:=Zac hE5
        have hs5:=hE5.size
        clear hA5 hE5 h5 hR5
        go_wp2_with (at_builtin; go_loud (refine Zff w5 rfl (.tmp 73) (.tmp 74) 26 rfl w4.heap.size w2.heap.size 53 Tryz.infoRule Tryz.underlying26 rfl (by decide) (.slice a5 F.length c5) F.length xs rfl H5o.out (.slice a3 M c3) M zs rfl HRo5.out (Zmg HR5.out) ?_ ?_ ?_))
        ·omega
        ·omega
        intro v6 w6 hA6
        have Hend:Hid (∃ a6 c6,v6 = .slice a6 (lysF F++(lysR R 1++lysR S 2)).length c6∧RulesIn w6 (.slice a6 (lysF F++(lysR R 1++lysR S 2)).length c6) ((lysF F++(lysR R 1++lysR S 2)).map (·.1)) (xs++zs)∧Kept (only b) w w6∧RawIn w6 B b ra rl rc):=by
         have hj:=RulesIn.join (base:=w4.heap.size) H5.out HR5.out (by rw [Ql]; exact H5o.out) (by rw [Ql,← HM.out]; exact hA6)
         obtain ⟨g1,g2,g3,g4⟩:=HLl.out
         rw [← g3] at hj
         obtain ⟨a6,c6,e6⟩:=Zad hj.owns
         rw [Ql] at e6
         refine ⟨a6,c6,e6,e6 ▸ hj,?_,?_⟩
         ·exact (HK4.out.1.trans (Zgl HE5.out)).then hA6.kept (fun i hi e=>by have:=(H5o.out.lt i e).1; have:=HK4.out.1.size; omega)
         ·exact (HK4.out.2.ext HE5.out).keep (S:=Zbl (.slice a5 F.length c5)) hA6.kept (fun e=>by have:=(H5o.out.lt b e).1; omega) (fun j e=>by have:=(H5o.out.lt j e).1; omega)
        have Hl7:Hid ((lysF F++(lysR R 1++lysR S 2)).length≤7):=by show _≤7; rw [HLl.out.1]; omega
        clear hA6
        obtain ⟨a6,c6,e6,f1,f2,f3⟩:=Hend.out
        subst e6
        have Hf1:=Zac f1
        have Hf2:=Zac f2
        have Hf3:=Zac f3
        clear f1 f2 f3 Hend
        go_wp2
        go_ret
        exact ⟨a6,c6,_,_,Hl7.out,HLy.out,fun z=>(HLc.out z).1,rfl,Hf1.out,Hf2.out,Hf3.out⟩
       ·go_wp2_with (at_builtin; go_loud (refine Zff w4 rfl (.tmp 73) (.tmp 74) 26 rfl w4.heap.size w2.heap.size 53 Tryz.infoRule Tryz.underlying26 rfl (by decide) (.slice none 0 0) 0 [] rfl (World.ownsRow_nil _ _ _ _) (.slice a3 M c3) M zs rfl HRo.out (Zmg HRi.out) ?_ ?_ ?_))
        ·omega
        ·omega
        intro v5 w5 hA5
        have hE5:Ext w4 w5:=hA5.kept.below (Qe _) (fun j e=>absurd e (noS j))
        have h5:RulesIn w5 v5 (R++S) zs:=by
         have:=RulesIn.join (base:=w4.heap.size) Hnil.out HRi.out (World.ownsRow_nil _ _ _ _) (by rw [← HM.out]; simpa using hA5)
         simpa using this
        have hF5:=HFi.out.ext hE5
        have HFo5:Hid (w5.ownsRow w.heap.size 53 4 (.slice a F.length c) F.length xs):=Zah HFo.out (fun j hj=>hE5.block j (HFo.out.lt j hj).2)
        have H5o:Hid (w5.ownsRow w4.heap.size 53 4 v5 M zs):=hA5.owns
        obtain ⟨a5,c5,rfl⟩:=Zad H5o.out
        have H5:=Zac h5
        have HF5:=Zac hF5
        have HE5:=Zac hE5
        have hs5:=hE5.size
        clear hA5 hE5 h5 hF5
        go_wp2_with (at_builtin; go_loud (refine Zff w5 rfl (.tmp 78) (.tmp 79) 26 rfl w4.heap.size w.heap.size 53 Tryz.infoRule Tryz.underlying26 rfl (by decide) (.slice a5 M c5) M zs rfl H5o.out (.slice a F.length c) F.length xs rfl HFo5.out (Zmg HF5.out) ?_ ?_ ?_))
        ·omega
        ·omega
        intro v6 w6 hA6
        have Hend:Hid (∃ a6 c6,v6 = .slice a6 ((lysR R 1++lysR S 2)++lysF F).length c6∧RulesIn w6 (.slice a6 ((lysR R 1++lysR S 2)++lysF F).length c6) (((lysR R 1++lysR S 2)++lysF F).map (·.1)) (zs++xs)∧Kept (only b) w w6∧RawIn w6 B b ra rl rc):=by
         have hj:=RulesIn.join (base:=w4.heap.size) H5.out HF5.out (by rw [← HM.out]; exact H5o.out) (by rw [Ql,← HM.out]; exact hA6)
         obtain ⟨g1,g2,g3,g4⟩:=HLl.out
         rw [← g4] at hj
         obtain ⟨a6,c6,e6⟩:=Zad hj.owns
         rw [Ql] at e6
         refine ⟨a6,c6,e6,e6 ▸ hj,?_,?_⟩
         ·exact (HK4.out.1.trans (Zgl HE5.out)).then hA6.kept (fun i hi e=>by have:=(H5o.out.lt i e).1; have:=HK4.out.1.size; omega)
         ·exact (HK4.out.2.ext HE5.out).keep (S:=Zbl (.slice a5 M c5)) hA6.kept (fun e=>by have:=(H5o.out.lt b e).1; omega) (fun j e=>by have:=(H5o.out.lt j e).1; omega)
        have Hl7:Hid (((lysR R 1++lysR S 2)++lysF F).length≤7):=by show _≤7; rw [HLl.out.2.1]; omega
        have HLy2:Hid (∀ y ∈ (lysR R 1++lysR S 2)++lysF F,RlLay y.1 y.2):=fun y hy=>HLy.out y (by
         rcases Qk.1 hy with h | h
         ·exact List.mem_append_right _ h
         ·exact List.mem_append_left _ h)
        clear hA6
        obtain ⟨a6,c6,e6,f1,f2,f3⟩:=Hend.out
        subst e6
        have Hf1:=Zac f1
        have Hf2:=Zac f2
        have Hf3:=Zac f3
        clear f1 f2 f3 Hend
        go_wp2
        go_ret
        exact ⟨a6,c6,_,_,Hl7.out,HLy2.out,fun z=>(HLc.out z).2,rfl,Hf1.out,Hf2.out,Hf3.out⟩
      ·have hpos:(0:Int)<(k:Int):=by omega
       have HA1:=Zac (Zgb wr B b ra rl rc hRs 0 (by omega))
       clear hRs
       go_wp2_with fail
       refine HA1.out.mono ?_
       rintro e w4 ⟨x,hx,hxp,rfl,hK4,hR4⟩
       have Hxp:=Zac hxp
       have hs4:=hK4.size
       clear hxp
       have hE4:Ext w4 (w4.alloc (.cells #[.int .i64 x.1,.int .i64 x.2.1,.int .i64 x.2.2] 30)):=(Ext.of (by repeat' (first | with_reducible(first|exact Qx _ _|apply Kept.drew|apply Kept.drewN|apply Qz|refine Qy ?_ ?_ _)|exact fun h=>absurd h (by simp <;> omega))))
       have HA2:=Zac (Zgb (w4.alloc (.cells #[.int .i64 x.1,.int .i64 x.2.1,.int .i64 x.2.2] 30)) B b ra rl rc (hR4.ext hE4) 1 (by omega))
       have HK4:Hid (Kept (only b) wr (w4.alloc (.cells #[.int .i64 x.1,.int .i64 x.2.1,.int .i64 x.2.2] 30))):=hK4.trans (Zgl hE4)
       clear hK4 hR4 hE4 HA1
       go_wp2_with fail
       refine HA2.out.mono ?_
       rintro e w5 ⟨y,hy,hyp,rfl,hK5,hR5⟩
       have Hyp:=Zac hyp
       clear hyp
       have hs5:=hK5.size
       simp at hs5
       have hbx5:w5.heap[w4.heap.size]?=some (.cells #[.int .i64 x.1,.int .i64 x.2.1,.int .i64 x.2.2] 30 (0,0)):=(hK5.block _ (by simp) (fun e=>by have e:w4.heap.size=b:=e; omega)).trans (heap_alloc_new w4 _)
       have p0:=Zaa hbx5 0 _ rfl
       have p1:=Zaa hbx5 1 _ rfl
       have p2:=Zaa hbx5 2 _ rfl
       have pl:=Zab hbx5
       obtain ⟨U,hU⟩:∃ U,U=(w5.alloc (.cells #[.int .i64 y.1,.int .i64 y.2.1,.int .i64 y.2.2] 30)).alloc (.cells #[.int .i64 y.1,.int .i64 y.2.1,.int .i64 y.2.2] 30):=⟨_,rfl⟩
       have hEU:Ext w5 U:=by rw [hU]; exact (Ext.of (by repeat' (first | with_reducible(first|exact Qx _ _|apply Kept.drew|apply Kept.drewN|apply Qz|refine Qy ?_ ?_ _)|exact fun h=>absurd h (by simp <;> omega))))
       have hsU:U.heap.size=w5.heap.size+2:=by rw [hU]; simp
       have HKU:Hid (Kept (only b) wr U∧RawIn U B b ra rl rc):=⟨(HK4.out.trans hK5).trans (Zgl hEU),hR5.ext hEU⟩
       have HrU:Hid (RlsAt U w2.heap.size (.slice a3 M c3) (R++S) zs):=Hrl3.out.keep (fun i h1 h2=>HKU.out.1.block i h2 (fun e=>by have e:i=b:=e; omega))
       have HrO:Hid (U.ownsRow w2.heap.size 53 4 (.slice a3 M c3) M zs):=by have:=HrU.out.owns; rw [← HM.out] at this; exact this
       have HbU:Hid (U.ownsRow w2.heap.size 30 3 (.slice (some ⟨w5.heap.size+1,0,none⟩) [y].length 1) [y].length ([y].flatMap atC)):=by
        have:=World.ownsRow_lit (base:=w2.heap.size) (e:=30) (size:=3) (w5.alloc (.cells #[.int .i64 y.1,.int .i64 y.2.1,.int .i64 y.2.2] 30)) #[.int .i64 y.1,.int .i64 y.2.1,.int .i64 y.2.2] 1 (by simp; omega) (by simp [maxLen]) rfl
        show U.ownsRow _ _ _ _ _ _
        rw [hU]
        simpa [atC] using this
       have HU:=Zac hU
       have Hx:Hid (RlLay (x,[y]) 2):=⟨⟨hx,fun u hu=>by simp at hu; subst hu; exact hy,by simp⟩,by omega,Hxp.out,by simp [layB,Hyp.out]⟩
       clear hK5 hR5 hEU hU HA2 hx hy hbx5 HK4
       go_wp2_with (at_builtin; rw [← HU.out]; go_loud (refine Zam U rfl (.tmp 59) (.tmp 64) 26 rfl w2.heap.size 53 Tryz.infoRule Tryz.underlying26 rfl (by decide) (.slice a3 M c3) M zs rfl HrO.out #[.int .i64 x.1,.int .i64 x.2.1,.int .i64 x.2.2,.slice (some ⟨w5.heap.size+1,0,none⟩) 1 1] rfl (by rw [hsU]) rfl (by simp [Value.oneCell']) ?_ ?_ ?_))
       ·omega
       ·omega
       intro v6 w6 hA6
       have Hend:Hid (∃ a6 c6,v6 = .slice a6 (R++(S++[(x,[y])])).length c6∧RlsAt w6 w2.heap.size (.slice a6 (R++(S++[(x,[y])])).length c6) (R++(S++[(x,[y])])) (zs++[.int .i64 x.1,.int .i64 x.2.1,.int .i64 x.2.2,.slice (some ⟨w5.heap.size+1,0,none⟩) 1 1])∧Kept (only b) w2 w6∧RawIn w6 B b ra rl rc):=by
        have hA7:=hA6
        rw [HM.out] at hA7
        have hm:=HrU.out.more (x:=(x,[y])) HbU.out Hx.out.ok (by rw [HM.out]; exact hA7)
        rw [Qi] at hm
        obtain ⟨a6,c6,e6⟩:=Zad hm.owns
        exact ⟨a6,c6,e6,e6 ▸ hm,(HKs.out.trans HKU.out.1).then hA6.kept (fun i hi e=>by have:=(HrO.out.lt i e).1; omega),HKU.out.2.keep (S:=Zbl (.slice a3 M c3)) hA6.kept (fun e=>by have:=(HrO.out.lt b e).1; omega) (fun j e=>by have:=(HrO.out.lt j e).1; omega)⟩
       clear hA6 p0 p1 p2 pl
       go_wp2
       go_roundw
       case rel =>
        obtain ⟨a6,c6,e6,f1,f2,f3⟩:=Hend.out
        have hk1:((k - 1:Nat):Int)=(k:Int) - 1:=by omega
        refine ⟨k - 1,a6,c6,S++[(x,[y])],_,by simp; omega,by rw [hk1],e6,f1,fun u hu => ?_,f2,f3⟩
        rcases Qk.1 hu with hu | hu
        ·exact HSy.out u hu
        ·simp at hu
         subst hu
         exact Hx.out
       case measure=>simp [intOf]; omega
    ·have hpos:(0:Int)<(k:Int):=by omega
     have HA1:=Zac (Zgb wr B b ra rl rc hRr 1 (by omega))
     clear hRr
     go_wp2_with fail
     refine HA1.out.mono ?_
     rintro e w3 ⟨x,hx,hxp,rfl,hK3,hR3⟩
     have Hxp:=Zac hxp
     have hs3:=hK3.size
     clear hxp
     have hE3:Ext w3 (w3.alloc (.cells #[.int .i64 x.1,.int .i64 x.2.1,.int .i64 x.2.2] 30)):=(Ext.of (by repeat' (first | with_reducible(first|exact Qx _ _|apply Kept.drew|apply Kept.drewN|apply Qz|refine Qy ?_ ?_ _)|exact fun h=>absurd h (by simp <;> omega))))
     have HA2:=Zac (Zgb (w3.alloc (.cells #[.int .i64 x.1,.int .i64 x.2.1,.int .i64 x.2.2] 30)) B b ra rl rc (hR3.ext hE3) 2 (by omega))
     have HK3:Hid (Kept (only b) wr (w3.alloc (.cells #[.int .i64 x.1,.int .i64 x.2.1,.int .i64 x.2.2] 30))):=hK3.trans (Zgl hE3)
     clear hK3 hR3 hE3 HA1
     go_wp2_with fail
     refine HA2.out.mono ?_
     rintro e w4 ⟨y,hy,hyp,rfl,hK4,hR4⟩
     have Hyp:=Zac hyp
     clear hyp
     have hs4:=hK4.size
     simp at hs4
     have hbx4:w4.heap[w3.heap.size]?=some (.cells #[.int .i64 x.1,.int .i64 x.2.1,.int .i64 x.2.2] 30 (0,0)):=(hK4.block _ (by simp) (fun e=>by have e:w3.heap.size=b:=e; omega)).trans (heap_alloc_new w3 _)
     have hE4:Ext w4 (w4.alloc (.cells #[.int .i64 y.1,.int .i64 y.2.1,.int .i64 y.2.2] 30)):=(Ext.of (by repeat' (first | with_reducible(first|exact Qx _ _|apply Kept.drew|apply Kept.drewN|apply Qz|refine Qy ?_ ?_ _)|exact fun h=>absurd h (by simp <;> omega))))
     have HA3:=Zac (Zgb (w4.alloc (.cells #[.int .i64 y.1,.int .i64 y.2.1,.int .i64 y.2.2] 30)) B b ra rl rc (hR4.ext hE4) 2 (by omega))
     have HK4:Hid (Kept (only b) wr (w4.alloc (.cells #[.int .i64 y.1,.int .i64 y.2.1,.int .i64 y.2.2] 30))):=(HK3.out.trans hK4).trans (Zgl hE4)
     have hbx4':(w4.alloc (.cells #[.int .i64 y.1,.int .i64 y.2.1,.int .i64 y.2.2] 30)).heap[w3.heap.size]?=some (.cells #[.int .i64 x.1,.int .i64 x.2.1,.int .i64 x.2.2] 30 (0,0)):=(hE4.block _ (Zab hbx4)).trans hbx4
     clear hK4 hR4 hE4 HA2 HK3 hbx4
     have Hbx4:=Zac hbx4'
     clear hbx4'
     go_wp2_with fail
     refine HA3.out.mono ?_
     rintro e w5 ⟨z,hz,hzp,rfl,hK5,hR5⟩
     have Hzp:=Zac hzp
     clear hzp
     have hs5:=hK5.size
     simp at hs5
     have hbx5:w5.heap[w3.heap.size]?=some (.cells #[.int .i64 x.1,.int .i64 x.2.1,.int .i64 x.2.2] 30 (0,0)):=(hK5.block _ (by simp; omega) (fun e=>by have e:w3.heap.size=b:=e; omega)).trans Hbx4.out
     have hby5:w5.heap[w4.heap.size]?=some (.cells #[.int .i64 y.1,.int .i64 y.2.1,.int .i64 y.2.2] 30 (0,0)):=(hK5.block _ (by simp) (fun e=>by have e:w4.heap.size=b:=e; omega)).trans (heap_alloc_new w4 _)
     have p0:=Zaa hbx5 0 _ rfl
     have p1:=Zaa hbx5 1 _ rfl
     have p2:=Zaa hbx5 2 _ rfl
     have pl:=Zab hbx5
     have q0:=Zaa hby5 0 _ rfl
     have q1:=Zaa hby5 1 _ rfl
     have q2:=Zaa hby5 2 _ rfl
     have ql:=Zab hby5
     obtain ⟨U,hU⟩:∃ U,U=(w5.alloc (.cells #[.int .i64 z.1,.int .i64 z.2.1,.int .i64 z.2.2] 30)).alloc (.cells #[.int .i64 y.1,.int .i64 y.2.1,.int .i64 y.2.2,.int .i64 z.1,.int .i64 z.2.1,.int .i64 z.2.2] 30):=⟨_,rfl⟩
     have hEU:Ext w5 U:=by rw [hU]; exact (Ext.of (by repeat' (first | with_reducible(first|exact Qx _ _|apply Kept.drew|apply Kept.drewN|apply Qz|refine Qy ?_ ?_ _)|exact fun h=>absurd h (by simp <;> omega))))
     have hsU:U.heap.size=w5.heap.size+2:=by rw [hU]; simp
     have HKU:Hid (Kept (only b) wr U∧RawIn U B b ra rl rc):=⟨(HK4.out.trans hK5).trans (Zgl hEU),hR5.ext hEU⟩
     have HrU:Hid (RlsAt U w2.heap.size (.slice a2 R.length c2) R ys):=Hrl2.out.keep (fun i h1 h2=>HKU.out.1.block i h2 (fun e=>by have e:i=b:=e; omega))
     have HbU:Hid (U.ownsRow w2.heap.size 30 3 (.slice (some ⟨w5.heap.size+1,0,none⟩) [y,z].length 2) [y,z].length ([y,z].flatMap atC)):=by
      have:=World.ownsRow_lit (base:=w2.heap.size) (e:=30) (size:=3) (w5.alloc (.cells #[.int .i64 z.1,.int .i64 z.2.1,.int .i64 z.2.2] 30)) #[.int .i64 y.1,.int .i64 y.2.1,.int .i64 y.2.2,.int .i64 z.1,.int .i64 z.2.1,.int .i64 z.2.2] 2 (by simp; omega) (by simp [maxLen]) rfl
      show U.ownsRow _ _ _ _ _ _
      rw [hU]
      simpa [atC] using this
     have HU:=Zac hU
     have Hx:Hid (RlLay (x,[y,z]) 1):=⟨⟨hx,fun u hu=>by simp at hu; rcases hu with rfl | rfl; exact hy; exact hz,by simp⟩,by omega,Hxp.out,by simp [layB,Hyp.out,Hzp.out]⟩
     clear hK5 hR5 hEU hU HA3 hx hy hz hbx5 hby5 HK4 Hbx4
     go_wp2_with (at_builtin; rw [← HU.out]; go_loud (refine Zam U rfl (.tmp 41) (.tmp 47) 26 rfl w2.heap.size 53 Tryz.infoRule Tryz.underlying26 rfl (by decide) (.slice a2 R.length c2) R.length ys rfl HrU.out.owns #[.int .i64 x.1,.int .i64 x.2.1,.int .i64 x.2.2,.slice (some ⟨w5.heap.size+1,0,none⟩) 2 2] rfl (by rw [hsU]) rfl (by simp [Value.oneCell']) ?_ ?_ ?_))
     ·omega
     ·omega
     intro v6 w6 hA6
     have Hend:Hid (∃ a6 c6,v6 = .slice a6 (R++[(x,[y,z])]).length c6∧RlsAt w6 w2.heap.size (.slice a6 (R++[(x,[y,z])]).length c6) (R++[(x,[y,z])]) (ys++[.int .i64 x.1,.int .i64 x.2.1,.int .i64 x.2.2,.slice (some ⟨w5.heap.size+1,0,none⟩) 2 2])∧Kept (only b) w2 w6∧RawIn w6 B b ra rl rc):=by
      have hm:=HrU.out.more (x:=(x,[y,z])) HbU.out Hx.out.ok hA6
      obtain ⟨a6,c6,e6⟩:=Zad hm.owns
      exact ⟨a6,c6,e6,e6 ▸ hm,(HKr.out.trans HKU.out.1).then hA6.kept (fun i hi e=>by have:=(HrU.out.owns.lt i e).1; omega),HKU.out.2.keep (S:=Zbl (.slice a2 R.length c2)) hA6.kept (fun e=>by have:=(HrU.out.owns.lt b e).1; omega) (fun j e=>by have:=(HrU.out.owns.lt j e).1; omega)⟩
     clear hA6 p0 p1 p2 pl q0 q1 q2 ql
     go_wp2
     go_roundw
     case rel =>
      obtain ⟨a6,c6,e6,f1,f2,f3⟩:=Hend.out
      have hk1:((k - 1:Nat):Int)=(k:Int) - 1:=by omega
      refine ⟨k - 1,a6,c6,R++[(x,[y,z])],_,by simp; omega,by rw [hk1],e6,f1,fun u hu => ?_,f2,f3⟩
      rcases Qk.1 hu with hu | hu
      ·exact HRy.out u hu
      ·simp at hu
       subst hu
       exact Hx.out
     case measure=>simp [intOf]; omega
  ·have hpos:(0:Int)<(k:Int):=by omega
   have HA:=Zac (Zgb wr B b ra rl rc hRu 2 (by omega))
   clear hRu
   go_wp2_with fail
   refine HA.out.mono ?_
   rintro e w3 ⟨x,hx,hxp,rfl,hK3,hR3⟩
   have hs3:=hK3.size
   obtain ⟨U,hU⟩:∃ U,U=w3.alloc (.cells #[.int .i64 x.1,.int .i64 x.2.1,.int .i64 x.2.2] 30):=⟨_,rfl⟩
   have hEU:Ext w3 U:=by rw [hU]; exact (Ext.of (by repeat' (first | with_reducible(first|exact Qx _ _|apply Kept.drew|apply Kept.drewN|apply Qz|refine Qy ?_ ?_ _)|exact fun h=>absurd h (by simp <;> omega))))
   have HrU:Hid (RlsAt U w.heap.size (.slice a F.length c) (F.map (fun x=>(x,[]))) xs):=Hrls.out.keep (fun i h1 h2=>by
    have e1:=hK3.block i h2 (fun e=>by have e:i=b:=e; omega)
    have e2:=hEU.block i (by omega)
    rw [e2,e1])
   have HKU:Hid (Kept (only b) w U∧RawIn U B b ra rl rc):=⟨(HKu.out.trans hK3).trans (Zgl hEU),hR3.ext hEU⟩
   have hsU:=hEU.size
   have HU:=Zac hU
   have Hx:Hid (AtOk x∧x.1=2):=⟨hx,hxp⟩
   have hFl:F.length≤3:=by omega
   have hFm:(F.map (fun x=>((x,[]):At3 × List At3))).length=F.length:=by simp
   have HrO:Hid (U.ownsRow w.heap.size 53 4 (.slice a F.length c) F.length xs):=by have:=HrU.out.owns; rw [hFm] at this; exact this
   clear hK3 hR3 hEU HA hx hxp hFm
   go_wp2_with (at_builtin; rw [← HU.out]; go_loud (refine Zam U rfl (.tmp 24) (.tmp 27) 26 rfl w.heap.size 53 Tryz.infoRule Tryz.underlying26 rfl (by decide) (.slice a F.length c) F.length xs rfl HrO.out #[.int .i64 x.1,.int .i64 x.2.1,.int .i64 x.2.2,.slice none 0 0] rfl (by rw [HU.out]; simp) rfl (by simp [Value.oneCell']) ?_ ?_ ?_))
   ·omega
   ·omega
   intro v4 w4 hA4
   rw [← HU.out] at hA4
   have Hend:Hid (∃ a4 c4,v4 = .slice a4 (F++[x]).length c4∧RlsAt w4 w.heap.size (.slice a4 (F++[x]).length c4) ((F++[x]).map (fun x=>(x,[]))) (xs++[.int .i64 x.1,.int .i64 x.2.1,.int .i64 x.2.2,.slice none 0 0])∧Kept (only b) w w4∧RawIn w4 B b ra rl rc):=by
    have hm:=HrU.out.more (x:=(x,[])) (a:=none) (c:=0) (World.ownsRow_nil _ _ _ _) ⟨Hx.out.1,by simp,by simp⟩ (by simpa using hA4)
    obtain ⟨a4,c4,e4⟩:=Zad hm.owns
    refine ⟨a4,c4,by simpa using e4,?_,HKU.out.1.then hA4.kept (fun i hi e=>by have:=(HrO.out.lt i e).1; omega),HKU.out.2.keep (S:=Zbl (.slice a F.length c)) hA4.kept (fun e=>by have:=(HrO.out.lt b e).1; omega) (fun j e=>by have:=(HrO.out.lt j e).1; omega)⟩
    have:(F++[x]).map (fun x=>((x,[]):At3 × List At3))=F.map (fun x=>(x,[]))++[(x,[])]:=by simp
    rw [this]
    have e5:v4 = .slice a4 (F++[x]).length c4:=by simpa using e4
    rw [← e5]
    exact hm
   clear hA4
   go_wp2
   go_roundw
   case rel =>
    obtain ⟨a4,c4,e4,f1,f2,f3⟩:=Hend.out
    have hk1:((k - 1:Nat):Int)=(k:Int) - 1:=by omega
    refine ⟨k - 1,a4,c4,F++[x],_,by simp; omega,by rw [hk1],e4,f1,fun y hy => ?_,f2,f3⟩
    rcases Qk.1 hy with hy | hy
    ·exact HF2.out y hy
    ·simp at hy
     subst hy
     exact Hx.out.2
   case measure=>simp [intOf]; omega
def Zkr (l:List UInt8) (p:Nat):UInt8:=(l[p]?).getD 0
theorem Yid {s:ByteArray} {p:Nat} (h:p<s.size):Zkr s.data.toList p=s[p]:=by unfold Zkr; rw [Yjm h]; rfl
theorem Yie {s:ByteArray} {p:Nat} (h:s.size≤p):Zkr s.data.toList p=0:=by
 unfold Zkr
 rw [List.getElem?_eq_none (by simpa using h)]
 rfl
theorem Zxt {l:List UInt8} {p:Nat} {c:UInt8} (hc:c≠0):Zkr l p=c↔l[p]?=some c:=by
 unfold Zkr
 cases l[p]? with
 | none=>simp; exact fun h=>hc h.symm
 | some d=>simp
theorem Zts (s:ByteArray) (p:Nat) (w:World) (hs:s.size≤100000) (hp:p≤100000):Calls Tryz.prog 56 #[.string s,.int .i64 p] w fun e w'=>e = .returned (.int .u8 (Zkr s.data.toList p).toNat)∧w'=w:=by
 by_cases h:p<s.size
 ·have Hb:=Zac (Yid h)
  have h1:¬ ((s.size:Int)≤(p:Int)):=by omega
  go_enter Tryz.func56,Tryz.ntmps56
  go_wp2
  go_ret
  exact ⟨by rw [Hb.out]; rfl,rfl⟩
 ·have Hb:=Zac (Yie (Nat.le_of_not_lt h))
  have h1:((s.size:Int)≤(p:Int)):=by omega
  go_enter Tryz.func56,Tryz.ntmps56
  go_wp2
  go_ret
  exact ⟨by rw [Hb.out]; rfl,rfl⟩
theorem Zvy (w:World) (b:Nat) (o:Int) (due:Bool) (hb:w.heap[b]?=some (.cells #[.int .i64 o,.bool due] 108 (0,0))):Calls Tryz.prog 47 #[.pointer (some ⟨b,0,none⟩)] w fun e w'=>e = .returned (.bool (!due && (o == 0)))∧w'=w:=by
 obtain ⟨b0,b1,bf⟩:=box2 hb
 have hbl:=Zab hb
 clear hb
 cases due with
 | true =>
  go_enter Tryz.func47,Tryz.ntmps47
  go_wp2
  go_ret
  exact ⟨rfl,rfl⟩
 | false =>
  go_enter Tryz.func47,Tryz.ntmps47
  go_wp2
  go_ret
  exact ⟨rfl,rfl⟩
def Zfb (l:List UInt8) (p o:Nat) (due:Bool):Nat × Nat × Bool :=
 if due=true then (if Zkr l p=33 then (p+1,o,false) else if Zkr l p=40 then (p+1,o+1,false) else (p,o,true))
 else if Zkr l p=41 then (p+1,o - 1,false) else (p+(Zak (l.drop p)).2,o,decide (0<(Zak (l.drop p)).2))
def Zim (l:List UInt8) (p o:Nat) (due:Bool) (b:Nat) (w:World) (e:Ending) (w':World):Prop:=e = .returned (.int .i64 (Zfb l p o due).1)∧Kept (only b) w w'∧w'.heap[b]?=some (.cells #[.int .i64 (Zfb l p o due).2.1,.bool (Zfb l p o due).2.2] 108 (0,0))
theorem Yfn (s:ByteArray) (p o:Nat) (due:Bool) (b:Nat) (w:World) (hs:s.size≤20000) (hp:p≤20000) (ho:o≤20000) (ho1:due=false→0<o) (hb:w.heap[b]?=some (.cells #[.int .i64 o,.bool due] 108 (0,0))) :
  Calls Tryz.prog 48 #[.pointer (some ⟨b,0,none⟩),.string s,.int .i64 p] w (Zim s.data.toList p o due b w):=by
 obtain ⟨b0,b1,bf⟩:=box2 hb
 have hbl:=Zab hb
 have Hb:=Zac hb
 have HB:=Zac (Zts s p w (by omega) (by omega))
 obtain ⟨c,hc⟩:∃ c,c=Zkr s.data.toList p:=⟨_,rfl⟩
 rw [← hc] at HB
 clear hb
 cases due with
 | true =>
  by_cases h33:c=33
  ·have Hfin:Hid (Zfb s.data.toList p o true=(p+1,o,false)):=by show _=_; unfold Zfb; rw [if_pos rfl,if_pos (by rw [← hc]; exact h33)]
   have k1:((c.toNat:Int) != 33)=false:=by rw [h33]; rfl
   have k2:((c.toNat:Int) == 40)=false:=by rw [h33]; rfl
   clear hc h33 ho1
   go_enter Tryz.func48,Tryz.ntmps48
   go_wp2_with fail
   refine HB.out.mono ?_
   rintro e w1 ⟨rfl,rfl⟩
   go_wp2
   go_ret
   unfold Zim
   rw [Hfin.out]
   exact ⟨by simp,(Qx _ _).put 1 _,Zaf Hb.out 1 _⟩
  ·have k1:((c.toNat:Int) != 33)=true:=by rw [bne_iff_ne]; exact Ygr h33
   by_cases h40:c=40
   ·have Hfin:Hid (Zfb s.data.toList p o true=(p+1,o+1,false)):=by show _=_; unfold Zfb; rw [if_pos rfl,if_neg (by rw [← hc]; exact h33),if_pos (by rw [← hc]; exact h40)]
    have k2:((c.toNat:Int) != 40)=false:=by rw [h40]; rfl
    have k3:((c.toNat:Int) == 40)=true:=by rw [h40]; rfl
    clear hc h33 h40 ho1
    go_enter Tryz.func48,Tryz.ntmps48
    go_wp2_with fail
    refine HB.out.mono ?_
    rintro e w1 ⟨rfl,rfl⟩
    go_wp2
    go_ret
    unfold Zim
    rw [Hfin.out]
    exact ⟨by simp,((Qx _ _).put 0 _).put 1 _,Zaf (Zaf Hb.out 0 _) 1 _⟩
   ·have Hfin:Hid (Zfb s.data.toList p o true=(p,o,true)):=by show _=_; unfold Zfb; rw [if_pos rfl,if_neg (by rw [← hc]; exact h33),if_neg (by rw [← hc]; exact h40)]
    have k2:((c.toNat:Int) != 40)=true:=by rw [bne_iff_ne]; exact Ygr h40
    clear hc h33 h40 ho1
    go_enter Tryz.func48,Tryz.ntmps48
    go_wp2_with fail
    refine HB.out.mono ?_
    rintro e w1 ⟨rfl,rfl⟩
    go_wp2
    go_ret
    unfold Zim
    rw [Hfin.out]
    exact ⟨rfl,Qx _ _,Hb.out⟩
 | false =>
  have ho2:=ho1 rfl
  by_cases h41:c=41
  ·have Hfin:Hid (Zfb s.data.toList p o false=(p+1,o - 1,false)):=by show _=_; unfold Zfb; rw [if_neg (by simp),if_pos (by rw [← hc]; exact h41)]
   have k1:((c.toNat:Int) == 41)=true:=by rw [h41]; rfl
   clear hc h41 ho1
   go_enter Tryz.func48,Tryz.ntmps48
   go_wp2_with fail
   refine HB.out.mono ?_
   rintro e w1 ⟨rfl,rfl⟩
   go_wp2
   go_ret
   unfold Zim
   rw [Hfin.out]
   refine ⟨by simp,(Qx _ _).put 0 _,?_⟩
   rw [show ((p+1,o - 1,false):Nat × Nat × Bool).2.1=o - 1 from rfl,show ((o - 1:Nat):Int)=(o:Int) - 1 by omega]
   exact Zaf Hb.out 0 _
  ·obtain ⟨N,hN⟩:∃ N,N=(Zak (s.data.toList.drop p)).2:=⟨_,rfl⟩
   have Hfin:Hid (Zfb s.data.toList p o false=(p+N,o,decide (0<N))):=by show _=_; unfold Zfb; rw [if_neg (by simp),if_neg (by rw [← hc]; exact h41),← hN]
   have k1:((c.toNat:Int) == 41)=false:=by rw [Qu]; exact Ygr h41
   have HA:=Zac (Yet s p w (by omega) (by omega))
   obtain ⟨V,hV⟩:∃ V,V=(Zak (s.data.toList.drop p)).1:=⟨_,rfl⟩
   rw [← hN,← hV] at HA
   clear hc h41 ho1 hN hV
   go_enter Tryz.func48,Tryz.ntmps48
   go_wp2_with fail
   refine HB.out.mono ?_
   rintro e w1 ⟨rfl,rfl⟩
   go_wp2_with fail
   refine HA.out.mono ?_
   rintro e w1 ⟨rfl,rfl⟩
   by_cases h0:0<N
   ·have h2:(p:Int)<(p:Int)+(N:Int):=by omega
    go_wp2
    go_ret
    unfold Zim
    rw [Hfin.out]
    refine ⟨by simp,(Qx _ _).put 1 _,?_⟩
    rw [show ((p+N,o,decide (0<N)):Nat × Nat × Bool).2.2=true from decide_eq_true h0]
    exact Zaf Hb.out 1 _
   ·obtain rfl:N=0:=by omega
    go_wp2
    go_ret
    unfold Zim
    rw [Hfin.out]
    refine ⟨by simp,(Qx _ _).put 1 _,?_⟩
    exact Zaf Hb.out 1 _
def Zvz (l:List UInt8) (w:World) (e:Ending) (w':World):Prop:=Ext w w'∧e = .returned (match Zdi l with | none => .agg #[.int .i64 0,.int .i64 0] | some p => .agg #[.int .i64 6,.int .i64 p])
theorem Yba {l:List UInt8} {f p o:Nat} {due:Bool} (h:l.length≤p):Zcb l (f+1) p o due=if due=true∨0<o then some p else none:=by
 unfold Zcb
 rw [List.getElem?_eq_none h]
theorem Ztt {l:List UInt8} {f p:Nat} (h:p<l.length):Zcb l (f+1) p 0 false=some p:=by
 unfold Zcb
 rw [Qb h]
 simp
theorem Zwa {l:List UInt8} {f p o:Nat} {due:Bool} (h:p<l.length) (ho:due=false→0<o):Zcb l (f+1) p o due=if (Zfb l p o due).1=p then some p else Zcb l f (Zfb l p o due).1 (Zfb l p o due).2.1 (Zfb l p o due).2.2:=by
 have hb:Zkr l p=l[p]:=by unfold Zkr; rw [Qb h]; rfl
 rw [Zcb,Zfb,Qb h,hb]
 simp only
 cases due with
 | true =>
  simp only [if_true]
  split
  ·simp
  ·split
   ·simp
   ·simp
 | false =>
  have:=ho rfl
  simp only [Bool.false_eq_true,if_false]
  rw [if_neg (by omega)]
  split
  ·simp
  ·by_cases h0:(Zak (l.drop p)).2=0
   ·simp [h0]
   ·rw [if_neg h0,if_neg (by simp only; omega)]
    simp [show 0<(Zak (l.drop p)).2 by omega]
theorem Yif {l:List UInt8} {p o:Nat} {due:Bool} (h:p<l.length) (ho:o≤p):p≤(Zfb l p o due).1∧(Zfb l p o due).1≤l.length∧((Zfb l p o due).1≠p→(Zfb l p o due).2.1≤(Zfb l p o due).1):=by
 have hn:=Zds (l.drop p)
 simp only [List.length_drop] at hn
 unfold Zfb
 split
 ·split
  ·exact ⟨Nat.le_succ _,h,fun _=>by show o≤p+1; omega⟩
  ·split
   ·exact ⟨Nat.le_succ _,h,fun _=>by show o+1≤p+1; omega⟩
   ·exact ⟨Qe _,Nat.le_of_lt h,fun h=>absurd rfl h⟩
 ·split
  ·exact ⟨Nat.le_succ _,h,fun _=>by show o - 1≤p+1; omega⟩
  ·exact ⟨Nat.le_add_right _ _,by show p+_≤_; omega,fun _=>by show o≤p+_; omega⟩
theorem Zea {w w1 w2:World} {b:Nat} (h:Ext w w1) (hk:Kept (only b) w1 w2) (hb:w.heap.size≤b):Ext w w2 :=
 h.trans (hk.below h.size (fun k e=>by have e:k=b:=e; omega))
theorem Zqz (s:ByteArray) (w:World) (hs:s.size≤20000):Calls Tryz.prog 34 #[.string s] w (Zvz s.data.toList w):=by
 have hsl:s.data.toList.length=s.size:=by simp
 obtain ⟨l,hl⟩:∃ l,l=s.data.toList:=⟨_,rfl⟩
 have HT:=Zac (fun p o due b u (h1:p≤20000) (h2:o≤20000) h3 h4=>Yfn s p o due b u hs h1 h2 h3 h4)
 rw [← hl] at hsl HT ⊢
 have HW:=Zac (fun u b o due hb=>Zvy u b o due hb)
 have Hsl:=Zac hsl
 clear hsl
 go_enter Tryz.func34,Tryz.ntmps34
 go_wp2
 go_loopg [4] (s.size+1) (fun gk av wr=>∃ (p o f:Nat) (due:Bool),av = .int .i64 p∧p≤s.size∧s.size - p<gk∧o≤p∧s.size<f+p∧Zcb l f p o due=Zdi l∧Ext w wr∧wr.heap[w.heap.size]?=some (.cells #[.int .i64 0,.int .i64 0] 60 (0,0))∧wr.heap[w.heap.size+1]?=some (.cells #[.int .i64 o,.bool due] 108 (0,0)))
 case atStart=>exact ⟨0,0,s.size+1,true,by go_num,by omega,by omega,by omega,by omega,by unfold Zdi; rw [Hsl.out],(Ext.of (by repeat' (first | with_reducible(first|exact Qx _ _|apply Kept.drew|apply Kept.drewN|apply Qz|refine Qy ?_ ?_ _)|exact fun h=>absurd h (by simp <;> omega)))),Zar (heap_alloc_new w _) _,Zdn (by simp) _⟩
 case round =>
  obtain ⟨p,o,f,due,rfl,hp,hgk,hop,hf,hsh,hE,hb0,hb1⟩:=hrel
  obtain ⟨f,rfl⟩:∃ f',f=f'+1:=⟨f - 1,by omega⟩
  have hs1:=Zab hb1
  have HWr:=Zac (HW.out wr _ o due hb1)
  by_cases hgo:p<s.size∧¬ (due=false∧o=0)
  ·obtain ⟨hlt,hnw⟩:=hgo
   have how:due=false→0<o:=fun h=>Nat.pos_of_ne_zero (fun h'=>hnw ⟨h,h'⟩)
   have hw0:(!due && ((o:Int) == 0))=false:=by
    cases due with
    | true=>rfl
    | false =>
     have:=how rfl
     simp
     omega
   rw [hw0] at HWr
   have HTr:=Zac (HT.out p o due (w.heap.size+1) wr (by omega) (by omega) how hb1)
   rw [Zwa (by rw [Hsl.out]; exact hlt) how] at hsh
   obtain ⟨p2,hp2⟩:∃ p2,p2=(Zfb l p o due).1:=⟨_,rfl⟩
   obtain ⟨o2,ho2⟩:∃ o2,o2=(Zfb l p o due).2.1:=⟨_,rfl⟩
   obtain ⟨d2,hd2⟩:∃ d2,d2=(Zfb l p o due).2.2:=⟨_,rfl⟩
   unfold Zim at HTr
   rw [← hp2,← ho2,← hd2] at hsh HTr
   have hbd:=Yif (l:=l) (p:=p) (o:=o) (due:=due) (by rw [Hsl.out]; exact hlt) hop
   rw [← hp2,← ho2,Hsl.out] at hbd
   obtain ⟨hbd1,hbd2,hbd3⟩:=hbd
   have Hsh:=Zac hsh
   have HE:=Zac hE
   have Hb0:=Zac hb0
   have hlt':(p:Int)<(s.size:Int):=by omega
   clear hsh hE hb0 hb1 hw0 hp2 ho2 hd2
   go_wp2_with fail
   refine HWr.out.mono ?_
   rintro e w1 ⟨rfl,rfl⟩
   go_wp2_with fail
   refine HTr.out.mono ?_
   rintro e w2 ⟨rfl,hK2,hb2⟩
   have hb0':=(hK2.block w.heap.size (by omega) (fun e=>by have e:w.heap.size=w.heap.size+1:=e; omega)).trans Hb0.out
   have HE2:Hid (Ext w w2):=Zea HE.out hK2 (by omega)
   by_cases he:p2=p
   ·have Hn:Hid (Zdi l=some p):=by show _=_; rw [← Hsh.out,if_pos he]
    subst he
    obtain ⟨c0,c1,cf⟩:=box2 hb0'
    have hlb:=Zab hb0'
    clear hb0' hK2 hb2
    go_wp2
    refine bodyPost_ret (v := .agg #[.int .i64 6,.int .i64 p2]) (by simp [results,Tryz.results34,go_sem,c0,c1,cf]) rfl ?_
    exact ⟨Zea HE2.out (((Qx _ _).put 0 _).put 1 _) (Qe _),by rw [Hn.out]⟩
   ·have he2:((p2:Int) == (p:Int))=false:=by rw [Qu]; omega
    have Hn:Hid (Zcb l f p2 o2 d2=Zdi l):=by show _=_; rw [← Hsh.out,if_neg he]
    have Hb0':=Zac hb0'
    have Hb2:=Zac hb2
    have ho3:=hbd3 he
    clear hb0' hK2 hb2 Hsh
    go_wp2
    go_roundg (s.size - p)
    case measure=>omega
    case rel=>exact ⟨p2,o2,f,d2,rfl,hbd2,by omega,ho3,by omega,Hn.out,HE2.out,Hb0'.out,Hb2.out⟩
  ·have hend:¬ (((!(!due && ((o:Int) == 0))) && decide ((p:Int)<(s.size:Int)))=true):=fun h=>by
    rw [Bool.and_eq_true,decide_eq_true_iff] at h
    refine hgo ⟨by omega,fun ⟨h1,h2⟩ => ?_⟩
    rw [h1,h2] at h
    simp at h
   obtain ⟨c0,c1,cf⟩:=box2 hb0
   have HE:=Zac hE
   have hlb:=Zab hb0
   by_cases hlt:p<s.size
   ·have hwh:due=false∧o=0:=by
     by_cases h:due=false∧o=0
     ·exact h
     ·exact absurd ⟨hlt,h⟩ hgo
    obtain ⟨rfl,rfl⟩:=hwh
    have Hn:Hid (Zdi l=some p):=by show _=_; rw [← hsh]; exact Ztt (by rw [Hsl.out]; exact hlt)
    have hlt':(p:Int)<(s.size:Int):=by omega
    clear hsh hE hb0 hb1 hend hgo
    go_wp2_with fail
    refine HWr.out.mono ?_
    rintro e w1 ⟨rfl,rfl⟩
    go_wp2
    refine bodyPost_ret (v := .agg #[.int .i64 6,.int .i64 p]) (by simp [results,Tryz.results34,go_sem,c0,c1,cf]) rfl ?_
    exact ⟨Zea HE.out (((Qx _ _).put 0 _).put 1 _) (Qe _),by rw [Hn.out]⟩
   ·have hlt':¬ (p:Int)<(s.size:Int):=by omega
    have hn:=Yba (l:=l) (f:=f) (p:=p) (o:=o) (due:=due) (by rw [Hsl.out]; omega)
    rw [hsh] at hn
    by_cases hwh:due=false∧o=0
    ·obtain ⟨rfl,rfl⟩:=hwh
     have Hn:Hid (Zdi l=none):=by show _=_; rw [hn]; simp
     clear hsh hE hb0 hb1 hend hgo hn
     go_wp2_with fail
     refine HWr.out.mono ?_
     rintro e w1 ⟨rfl,rfl⟩
     go_wp2_with fail
     refine HWr.out.mono ?_
     rintro e w1 ⟨rfl,rfl⟩
     go_wp2
     refine bodyPost_ret (v := .agg #[.int .i64 0,.int .i64 0]) (by simp [results,Tryz.results34,go_sem,c0,c1,cf]) rfl ?_
     exact ⟨Zea HE.out (((Qx _ _).put 0 _).put 1 _) (Qe _),by rw [Hn.out]⟩
    ·have Hn:Hid (Zdi l=some p):=by
      show _=_
      rw [hn,if_pos]
      by_cases h:due=true
      ·exact Or.inl h
      ·refine Or.inr (Nat.pos_of_ne_zero (fun h'=>hwh ⟨by simpa using h,h'⟩))
     have hw0:(!due && ((o:Int) == 0))=false:=by
      cases due with
      | true=>rfl
      | false =>
       simp
       intro h
       exact hwh ⟨rfl,by omega⟩
     rw [hw0] at HWr
     clear hsh hE hb0 hb1 hend hgo hn hw0 hwh
     go_wp2_with fail
     refine HWr.out.mono ?_
     rintro e w1 ⟨rfl,rfl⟩
     go_wp2_with fail
     refine HWr.out.mono ?_
     rintro e w1 ⟨rfl,rfl⟩
     go_wp2
     refine bodyPost_ret (v := .agg #[.int .i64 6,.int .i64 p]) (by simp [results,Tryz.results34,go_sem,c0,c1,cf]) rfl ?_
     exact ⟨Zea HE.out (((Qx _ _).put 0 _).put 1 _) (Qe _),by rw [Hn.out]⟩
def HoTy (t:TypeId):Prop:=t=88∨t=126∨t=9
def FrT (w w':World):Prop:=∀ (k:Nat) (cl:Array Value) (t:TypeId) (fr:Nat × Nat),w.heap[k]?=some (.cells cl t fr)→¬ HoTy t→w'.heap[k]?=some (.cells cl t fr)
theorem FrT.trans {w1 w2 w3:World} (h:FrT w1 w2) (h':FrT w2 w3):FrT w1 w3:=fun k cl t fr e ht=>h' k cl t fr (h k cl t fr e ht) ht
theorem FrT.of_ext {w w':World} (h:Ext w w'):FrT w w':=fun k cl t fr e _=>(h.block k (Zab e)).trans e
theorem FrT.of_kept {S:Nat→Prop} {w w':World} (h:Kept S w w') (hS:∀ k,S k→∃ cl t fr,w.heap[k]?=some (.cells cl t fr)∧HoTy t):FrT w w':=fun k cl t fr e ht=>(h.block k (Zab e) (fun hs=>by
 obtain ⟨cl',t',fr',h1,h2⟩:=hS k hs
 rw [h1] at e
 simp at e
 exact ht (e.2.1 ▸ h2))).trans e
theorem FrT.own {w w':World} {B:Nat} {e:TypeId} {size n:Nat} {v:Value} {xs:List Value} (hF:FrT w w') (he:¬ HoTy e) (h:w.ownsRow B e size v n xs):w'.ownsRow B e size v n xs :=
 Zah h (fun k hj=>by
  rcases h.2 with ⟨rfl,_⟩ | ⟨g,cap,cur,rfl,_,hg,_⟩
  ·simp [Value.ownBlock] at hj
  ·simp [Value.ownBlock] at hj
   subst hj
   rw [hF _ _ _ _ hg he,hg])
theorem FrT.terms {w w':World} {v:Value} {ls:List (List Sym)} (hF:FrT w w') (h:TermsIn w v ls):TermsIn w' v ls:=by
 obtain ⟨vs,h⟩:=h
 exact ⟨vs,hF.own (by simp [HoTy]) h.owns,fun i l hl=>by
  obtain ⟨x,h1,h2⟩:=h.all i l hl
  exact ⟨x,h1,hF.own (by simp [HoTy]) h2⟩⟩
theorem CNode.fr {w w':World} {gv vv rv uv:Value} {n0:ND} (h:CNode w gv vv rv uv n0) (hF:FrT w w'):CNode w' gv vv rv uv n0:=by
 obtain ⟨n,h1,h2⟩:=h
 exact ⟨n,⟨hF.terms h1.goals,hF.terms h1.vals,hF.terms h1.done⟩,h2⟩
structure RowH (B:Nat) (w:World) (v:Value) (ds:List (ND × Nat)) (xs:List Value):Prop where
 owns:w.ownsRow B 126 5 v ds.length xs
 all:∀ (i:Nat) (d:ND × Nat),ds[i]?=some d→∃ x0 x1 x2 x3,xs[i * 5]?=some x0∧xs[i * 5+1]?=some x1∧xs[i * 5+2]?=some x2∧xs[i * 5+3]?=some x3∧xs[i * 5+4]?=some (.int .i64 d.2)∧CNode w x0 x1 x2 x3 d.1
theorem RowH.keep {B:Nat} {w w':World} {v:Value} {ds:List (ND × Nat)} {xs:List Value} (h:RowH B w v ds xs) (hF:FrT w w') (ho:∀ k,v.ownBlock=some k→w'.heap[k]?=w.heap[k]?):RowH B w' v ds xs :=
 ⟨Zah h.owns ho,fun i d hd=>by
  obtain ⟨x0,x1,x2,x3,y0,y1,y2,y3,y4,g⟩:=h.all i d hd
  exact ⟨x0,x1,x2,x3,y0,y1,y2,y3,y4,g.fr hF⟩⟩
theorem RowH.pop {B:Nat} {w:World} {g n cap:Nat} {ds:List (ND × Nat)} {d:ND × Nat} {xs:List Value} (h:RowH B w (.slice (some ⟨g,0,none⟩) (n+1) cap) (ds++[d]) xs) (hn:ds.length=n):RowH B w (.slice (some ⟨g,0,none⟩) n cap) ds (xs.take (n * 5)):=by
 have ho:=h.owns
 rw [Qg,Qn,hn] at ho
 refine ⟨by rw [hn]; exact Zsp ho,fun i x hx => ?_⟩
 have hi:=(Qa.1 hx).1
 obtain ⟨x0,x1,x2,x3,y0,y1,y2,y3,y4,g⟩:=h.all i x (by rw [Qc hi]; exact hx)
 exact ⟨x0,x1,x2,x3,by rw [List.getElem?_take_of_lt (by omega)]; exact y0,by rw [List.getElem?_take_of_lt (by omega)]; exact y1,by rw [List.getElem?_take_of_lt (by omega)]; exact y2,by rw [List.getElem?_take_of_lt (by omega)]; exact y3,by rw [List.getElem?_take_of_lt (by omega)]; exact y4,g⟩
structure CHo (w0 w:World) (b:Nat) (cv nv:Value) (s:ByteArray) (p:Nat) (way:List (ND × Nat)) (A:List (List UInt8)) (wa:Option Addr) (wc:Nat) (aa:Option Addr) (ac:Nat):Prop where
 ext:Ext w0 w
 low:w0.heap.size≤b
 box:w.heap[b]?=some (.cells #[cv,nv,.string s,.int .i64 p,.slice wa way.length wc,.slice aa A.length ac] 88 (0,0))
 row:∃ ys,RowH w0.heap.size w (.slice wa way.length wc) way.reverse ys
 ans:w.ownsRow w0.heap.size 9 1 (.slice aa A.length ac) A.length (strs A)
def HoIn (w0 w:World) (b:Nat) (cv nv:Value) (s:ByteArray) (p:Nat) (way:List (ND × Nat)) (A:List (List UInt8)):Prop:=∃ wa wc aa ac,CHo w0 w b cv nv s p way A wa wc aa ac
theorem Zfp {w:World} {B e size n:Nat} {v:Value} {xs:List Value} {b:Nat} {cl:Array Value} {t:TypeId} {fr:Nat × Nat} (h:w.ownsRow B e size v n xs) (hb:w.heap[b]?=some (.cells cl t fr)) (ht:e≠t):∀ k,v.ownBlock=some k→k≠b:=fun k hj e'=>by
 subst e'
 rcases h.2 with ⟨rfl,_⟩ | ⟨g,cap,cur,rfl,_,hg,_⟩
 ·simp [Value.ownBlock] at hj
 ·simp [Value.ownBlock] at hj
  subst hj
  rw [hg] at hb
  simp at hb
  exact ht hb.2.1
theorem CHo.grow {w0 w w':World} {b:Nat} {cv nv:Value} {s:ByteArray} {p:Nat} {way:List (ND × Nat)} {A:List (List UInt8)} {wa:Option Addr} {wc:Nat} {aa:Option Addr} {ac:Nat} (h:CHo w0 w b cv nv s p way A wa wc aa ac) (e:Ext w w'):CHo w0 w' b cv nv s p way A wa wc aa ac:=by
 obtain ⟨ys,h2⟩:=h.row
 exact ⟨h.ext.trans (e.mono h.ext.size),h.low,(e.block _ (Zab h.box)).trans h.box,⟨ys,h2.keep (FrT.of_ext e) (fun k hk=>e.block k (h2.owns.lt k hk).2)⟩,Zah h.ans (fun k hk=>e.block k (h.ans.lt k hk).2)⟩
theorem CHo.upd {w0 w w':World} {b:Nat} {cv nv:Value} {s:ByteArray} {p p':Nat} {way way':List (ND × Nat)} {A:List (List UInt8)} {wa wa':Option Addr} {wc wc':Nat} {aa:Option Addr} {ac:Nat} (h:CHo w0 w b cv nv s p way A wa wc aa ac) (hk:Kept (only b) w w') (hbox:w'.heap[b]?=some (.cells #[cv,nv,.string s,.int .i64 p',.slice wa' way'.length wc',.slice aa A.length ac] 88 (0,0)))
  (hrow:∃ ys,RowH w0.heap.size w (.slice wa' way'.length wc') way'.reverse ys):CHo w0 w' b cv nv s p' way' A wa' wc' aa ac∧FrT w w':=by
 obtain ⟨ys,h2⟩:=hrow
 have hF:FrT w w':=FrT.of_kept hk (fun k e=>by
  have e:k=b:=e
  subst e
  exact ⟨_,_,_,h.box,by simp [HoTy]⟩)
 refine ⟨⟨Zea h.ext hk h.low,h.low,hbox,⟨ys,h2.keep hF (fun k hj=>hk.block k (h2.owns.lt k hj).2 (Zfp h2.owns h.box (by decide) k hj))⟩,Zah h.ans (fun k hj=>hk.block k (h.ans.lt k hj).2 (Zfp h.ans h.box (by decide) k hj))⟩,hF⟩
theorem Zra (w0 w:World) (b:Nat) (cv nv:Value) (s:ByteArray) (p:Nat) (way:List (ND × Nat)) (A:List (List UInt8)) (c:UInt8) (hc:c≠0) (h:HoIn w0 w b cv nv s p way A) (hs:s.size≤20000) (hp:p≤s.size) :
  Calls Tryz.prog 57 #[.pointer (some ⟨b,0,none⟩),.int .u8 c.toNat] w fun e w'=>FrT w w'∧((s.data.toList[p]?=some c∧e = .returned (.bool true)∧HoIn w0 w' b cv nv s (p+1) way A)∨(s.data.toList[p]?≠some c∧e = .returned (.bool false)∧HoIn w0 w' b cv nv s p way A)):=by
 obtain ⟨wa,wc,aa,ac,h⟩:=h
 obtain ⟨b0,b1,b2,b3,b4,b5,bf⟩:=box6 h.box
 have hbl:=Zab h.box
 have H:=Zac h
 have HB:=Zac (fun u=>Zts s p u (by omega) (by omega))
 by_cases he:s.data.toList[p]?=some c
 ·rw [(Zxt hc).2 he] at HB
  have k1:((c.toNat:Int) != (c.toNat:Int))=false:=by simp
  clear h
  go_enter Tryz.func57,Tryz.ntmps57
  go_wp2_with fail
  go_quiet ((go_at_call 56; exact Calls.quiet_of_same (HB.out _)))
  go_wp2
  go_ret
  obtain ⟨g1,g2⟩:=H.out.upd (p':=p+1) (((Qx (only b) w).drewN nq).put 3 (.int .i64 ((p:Int)+1))) (Zaf (w:=w.drewN nq) H.out.box 3 _) H.out.row
  exact ⟨g2,Or.inl ⟨he,rfl,_,_,_,_,g1⟩⟩
 ·obtain ⟨d,hd⟩:∃ d,d=Zkr s.data.toList p:=⟨_,rfl⟩
  rw [← hd] at HB
  have k1:((d.toNat:Int) != (c.toNat:Int))=true:=by
   rw [bne_iff_ne]
   exact Ygr (fun e=>he ((Zxt hc).1 (hd ▸ e)))
  clear h hd
  go_enter Tryz.func57,Tryz.ntmps57
  go_wp2_with fail
  go_quiet ((go_at_call 56; exact Calls.quiet_of_same (HB.out _)))
  go_wp2
  go_ret
  have hE:Ext w (w.drewN nq):=Ext.of ((Qx _ w).drewN _)
  exact ⟨FrT.of_ext hE,Or.inr ⟨he,rfl,_,_,_,_,H.out.grow hE⟩⟩
theorem Ybb (w0 w:World) (b:Nat) (cv nv:Value) (s:ByteArray) (p:Nat) (d:ND × Nat) (r:List (ND × Nat)) (A:List (List UInt8)) (h:HoIn w0 w b cv nv s p (d::r) A) (hs:s.size≤20000) (hp:p≤s.size) (hr:r.length≤20000) :
  Calls Tryz.prog 59 #[.pointer (some ⟨b,0,none⟩)] w fun e w'=>FrT w w'∧((s.data.toList[p]?=some 41∧e = .returned (.bool true)∧HoIn w0 w' b cv nv s (p+1) r A)∨(s.data.toList[p]?≠some 41∧e = .returned (.bool false)∧HoIn w0 w' b cv nv s p (d::r) A)):=by
 have HP:=Zac (Zra w0 w b cv nv s p (d::r) A 41 (by decide) h hs hp)
 obtain ⟨wa,wc,aa,ac,h⟩:=h
 have hbx:=h.box
 simp only [Qf] at hbx
 obtain ⟨b0,b1,b2,b3,b4,b5,bf⟩:=box6 hbx
 have hbl:=Zab hbx
 have hgd:decide ((r.length:Int)<0)=false:=by rw [decide_eq_false_iff_not]; omega
 simp only [show ((41:UInt8).toNat:Int)=41 from rfl] at HP
 clear h hbx
 go_enter Tryz.func59,Tryz.ntmps59
 go_wp2_with fail
 refine HP.out.mono ?_
 rintro e w1 ⟨hF1,⟨hc,rfl,h1⟩ | ⟨hc,rfl,h1⟩⟩
 ·obtain ⟨wa1,wc1,aa1,ac1,h1⟩:=h1
  have hbx1:=h1.box
  simp only [Qf] at hbx1
  clear b0 b1 b2 b3 b4 b5 bf
  obtain ⟨b0,b1,b2,b3,b4,b5,bf⟩:=box6 hbx1
  obtain ⟨ys,hrow⟩:=h1.row
  simp only [Qf,List.reverse_cons] at hrow
  have ho:=hrow.owns
  rw [Qg,List.length_reverse,Qn] at ho
  obtain ⟨wb,wcap,wcur,hwe,_,hwb,hwcap⟩:=Zao ho (by omega)
  simp only [Value.slice.injEq] at hwe
  obtain ⟨rfl,_,rfl⟩:=hwe
  have hpop:=Zac (hrow.pop List.length_reverse)
  have hbl1:=Zab hbx1
  have H1:=Zac h1
  have HF1:=Zac hF1
  have Hbx1:=Zac hbx1
  have Hc:=Zac hc
  clear h1 hbx1 hrow ho hwb hF1 hc HP
  go_wp2
  go_ret
  obtain ⟨g1,g2⟩:=H1.out.upd (way':=r) ((Qx (only b) w1).put 4 (.slice (some ⟨wb,0,none⟩) r.length wc1)) (Zaf Hbx1.out 4 _) ⟨_,hpop.out⟩
  exact ⟨HF1.out.trans g2,Or.inl ⟨Hc.out,rfl,_,_,_,_,g1⟩⟩
 ·have H1:=Zac h1
  have HF1:=Zac hF1
  have Hc:=Zac hc
  clear h1 hF1 hc HP
  go_wp2
  go_ret
  exact ⟨HF1.out,Or.inr ⟨Hc.out,rfl,H1.out⟩⟩
end Go.Proofs.YtlmjilpjmgjjcabGreatDoor
