/-
  PROVED HERE: what the program's 'layOut' makes of two words that lie in memory (the conditions stand in each statement).
-/
import Derived.Test.YtlmjilpjmgjjcaaGreatDoorT5
import Derived.Lib.Strings
import Derived.BigQuiet
set_option linter.unusedSimpArgs false
set_option linter.unusedVariables false
set_option maxRecDepth 10000
set_option maxHeartbeats 4000000
namespace Go.Proofs.YtlmjilpjmgjjcaaGreatDoor
open Go.RowKit
theorem Zia {n:ND} {c:Cls} {k:Nat} (h:(tryN n c k).2=1∨(tryN n c k).2=2):(tryN n c k).2=2↔(tryN n c k).1.goals=[]:=by
 by_cases hex:∃ r:ND × Nat,∃ m,NOk m∧Same m n∧Out m c k r.2 r.1
 ·have e:tryN n c k=Classical.choose hex:=by unfold tryN; rw [dif_pos hex]
  obtain ⟨m,_,hS,g,gs,_,ho⟩:=Classical.choose_spec hex
  rw [e] at h ⊢
  rcases ho with ⟨h0,_⟩ | ⟨h0,_⟩ | ⟨σ,_,_,h3,h4⟩
  ·omega
  ·omega
  ·rw [h3,← h4] at h
   rw [h3,← h4]
   unfold Zdl at h ⊢
   split at h
   ·omega
   ·rename_i ho
    rw [if_neg ho]
    split
    ·rename_i hg; simp [hg]
    ·rename_i hg; simp [hg]
 ·have e:tryN n c k=(⟨[],[],[],[],0⟩,0):=by unfold tryN; rw [dif_neg hex]
  rw [e] at h
  simp at h
def Zfp (way:List (ND × Nat)):List Nat:=(way.map (fun x=>x.2 - 1)).reverse
theorem Zjx (n:ND) (k:Nat) (r:List (ND × Nat)):Zfp ((n,k+1)::r)=Zfp r++[k]:=by simp [Zfp]
def UsedW:List (ND × Nat)→Prop
 | []=>True
 | x::r=>x.1.used=Zfp r∧(∀ y ∈ r,1≤y.2)∧UsedW r
theorem UsedW.trim {N:Nat}:∀ {way:List (ND × Nat)},UsedW way→UsedW (Zhn N way):=by
 intro way
 induction way with
 | nil=>intro h; exact h
 | cons x r ih =>
  intro h
  simp only [Zhn]
  split
  ·exact ih h.2.2
  ·exact h
theorem Zrl {N:Nat}:∀ {way:List (ND × Nat)} {x:ND × Nat},x ∈ Zhn N way→x ∈ way:=by
 intro way
 induction way with
 | nil=>intro x h; exact h
 | cons y r ih =>
  intro x h
  simp only [Zhn] at h
  split at h
  ·exact List.mem_cons_of_mem _ (ih h)
  ·exact h
theorem Znu (cs:List Cls):∀ (way:List (ND × Nat)) (t:List UInt8),(Zdj cs way t).2.length+(Zdj cs way t).1.length=t.length+way.length:=by
 intro way
 induction way with
 | nil=>intro t; rfl
 | cons x r ih =>
  obtain ⟨n,k⟩:=x
  intro t
  simp only [Zdj]
  split
  ·rw [ih]; simp; omega
  ·rfl
structure InvN (cs:List Cls) (a:List (List Sym) × Names) (s:SN):Prop where
 way:∀ x ∈ s.way,x.1.goals≠[]∧x.1.vals.length=a.2.length∧x.2≤cs.length∧∀ k ∈ x.1.used,k<cs.length
 used:UsedW s.way
 tree:s.status≠3→PW cs (topN a) s.way s.tree
 trim:Zhn cs.length s.way=s.way
 found:s.status=1→s.found.goals=[]∧s.found.vals.length=a.2.length∧∀ k ∈ s.found.used,k<cs.length
 len:s.tree.length+s.way.length≤2+26 * s.tries
 tries:s.tries≤3000
 no:s.status=2→s.way=[]
 st:s.status≤3
theorem Zgx {cs:List Cls} {s:SN} {n:ND} {k:Nat} {r:List (ND × Nat)} {c:Cls} (hw:s.way=(n,k)::r) (hc:cs[k]?=some c) (h0:s.status=0) :
  (Zar cs s).way=Zhn cs.length (Zmj n c k r)∧(Zar cs s).status=Zho n c k∧(Zar cs s).tries=s.tries+1∧(Zho n c k=1→(Zar cs s).found=(tryN n c k).1):=by
 have hk:=Zhm n c k
 unfold Zar
 rw [hw]
 simp only [hc]
 by_cases h3:(tryN n c k).2=3
 ·rw [if_pos h3]
  simp [Zcw,Zdv,Zmj,Zho,h3]
 ·rw [if_neg h3]
  by_cases h12:(tryN n c k).2=1∨(tryN n c k).2=2
  ·rw [if_pos h12]
   by_cases hg:(tryN n c k).1.goals=[]
   ·have h2:=(Zia h12).2 hg
    simp [Zcw,Zbw,hg,Zdv,Zmj,Zho,h2]
   ·have h2:(tryN n c k).2≠2:=fun h=>hg ((Zia h12).1 h)
    have h1:(tryN n c k).2=1:=by omega
    simp [Zcw,Zbw,hg,Zdv,Zmj,Zho,h1,h0]
  ·rw [if_neg h12]
   have h00:(tryN n c k).2=0:=by omega
   simp [Zcw,Zdv,Zmj,Zho,h00,h0]
theorem Zrm {cs:List Cls} {s:SN} {n:ND} {k:Nat} {r:List (ND × Nat)} {c:Cls} (hw:s.way=(n,k)::r) (hc:cs[k]?=some c) (hk:k<24):(Zar cs s).tree.length+(Zar cs s).way.length≤s.tree.length+s.way.length+26:=by
 have hd:(Lib.decDigits k).length≤24:=by
  have:=Zjp k
  omega
 unfold Zar
 rw [hw]
 simp only [hc,Zcw,Znu]
 split
 ·simp
 ·split
  ·unfold Zbw
   split
   ·simp; omega
   ·simp; omega
  ·simp
theorem InvN.try' {cs:List Cls} {a:List (List Sym) × Names} {s:SN} (h:InvN cs a s) (hcl:cs.length≤24) (h0:s.status=0) {n:ND} {k:Nat} {r:List (ND × Nat)} {c:Cls} (hw:s.way=(n,k)::r) (hc:cs[k]?=some c) (ht:s.tries<3000):InvN cs a (Zar cs s):=by
 obtain ⟨e1,e2,e3,e4⟩:=Zgx hw hc h0
 have hkk:=Zhm n c k
 have hklt:=(Qa.1 hc).1
 obtain ⟨w1,w2,w3,w4⟩:=h.way (n,k) (by rw [hw]; simp)
 have hu:=h.used
 rw [hw] at hu
 have hr:∀ x ∈ r,x.1.goals≠[]∧x.1.vals.length=a.2.length∧x.2≤cs.length∧∀ k ∈ x.1.used,k<cs.length:=fun x hx=>h.way x (by rw [hw]; simp [hx])
 have hchild:(tryN n c k).2=1∨(tryN n c k).2=2→(tryN n c k).1.vals.length=a.2.length∧∀ j ∈ (tryN n c k).1.used,j<cs.length:=fun hq=>by
  refine ⟨by rw [Yaz hq]; exact w2,fun j hj => ?_⟩
  rw [Zfl hq] at hj
  rcases Qk.1 hj with hj | hj
  ·exact w4 j hj
  ·simp at hj; omega
 refine ⟨?_,?_,?_,?_,?_,?_,?_,?_,?_⟩
 ·intro x hx
  rw [e1] at hx
  have hx:=Zrl hx
  unfold Zmj at hx
  split at hx
  ·rename_i h1
   rcases Qp.1 hx with rfl | hx
   ·have h2:¬ (tryN n c k).1.goals=[]:=fun hg=>by have:=(Zia (Or.inl h1)).2 hg; omega
    exact ⟨h2,(hchild (Or.inl h1)).1,Qm _,(hchild (Or.inl h1)).2⟩
   ·rcases Qp.1 hx with rfl | hx
    ·exact ⟨w1,w2,by show k+1≤_; omega,w4⟩
    ·exact hr x hx
  ·rcases Qp.1 hx with rfl | hx
   ·exact ⟨w1,w2,by show k+1≤_; omega,w4⟩
   ·exact hr x hx
 ·rw [e1]
  apply UsedW.trim
  unfold Zmj
  split
  ·rename_i h1
   exact ⟨by rw [Zjx,Zfl (Or.inl h1),hu.1],fun y hy=>by
    rcases Qp.1 hy with rfl | hy
    ·exact Nat.succ_le_succ (Qm _)
    ·exact hu.2.1 y hy,hu.1,hu.2⟩
  ·exact ⟨hu.1,hu.2⟩
 ·intro h3
  exact PW.try' (h.tree (by omega)) h3
 ·rw [e1,Znt]
 ·intro h1
  rw [e2] at h1
  rw [e4 h1]
  have hq2:(tryN n c k).2=2:=by
   unfold Zho at h1
   split at h1
   ·assumption
   ·split at h1 <;> omega
  exact ⟨(Zia (Or.inr hq2)).1 hq2,(hchild (Or.inr hq2)).1,(hchild (Or.inr hq2)).2⟩
 ·have:=Zrm hw hc (by omega)
  have:=h.len
  omega
 ·omega
 ·intro h2
  rw [e2] at h2
  unfold Zho at h2
  split at h2
  ·omega
  ·split at h2 <;> omega
 ·rw [e2]
  unfold Zho
  split
  ·omega
  ·split <;> omega
noncomputable def Zcc (cs:List Cls):Nat→SN→SN × Nat
 | 0,s=>(s,0)
 | n+1,s=>open Classical in if s.status=0∧s.way≠[]∧s.tries<3000 then ((Zcc cs n (Zar cs s)).1,(Zcc cs n (Zar cs s)).2+1) else (s,0)
def Zgk (s:SN):SN := { s with way:=[],tree:=[],status:=3 }
noncomputable def endN (s:SN):SN:=open Classical in if s.status=3 then Zgk s else if s.status=0 then (if s.way=[] then { s with status:=2 } else if 3000≤s.tries then Zgk s else s) else s
noncomputable def Zce (cs:List Cls) (n:Nat) (s:SN):SN × Nat:=if s.status=2∨s.status=3 then (s,0) else (endN (Zcc cs n { s with status:=0 }).1,(Zcc cs n { s with status:=0 }).2)
theorem InvN.full {cs:List Cls} {a:List (List Sym) × Names} {s:SN} (h:InvN cs a s):InvN cs a (Zgk s) :=
 ⟨fun x hx=>by simp [Zgk] at hx,trivial,fun h3=>absurd rfl h3,rfl,fun h1=>by simp [Zgk] at h1,by simp [Zgk],h.tries,fun _=>rfl,by simp [Zgk]⟩
theorem InvN.end' {cs:List Cls} {a:List (List Sym) × Names} {s:SN} (h:InvN cs a s):InvN cs a (endN s):=by
 unfold endN
 split
 ·exact h.full
 ·split
  ·rename_i h3 h0
   split
   ·rename_i hw
    exact ⟨h.way,h.used,fun _=>h.tree (by omega),h.trim,fun h1=>by simp at h1,h.len,h.tries,fun _=>hw,by simp⟩
   ·split
    ·exact h.full
    ·exact h
  ·exact h
theorem InvN.seek {cs:List Cls} {a:List (List Sym) × Names} {s:SN} (h:InvN cs a s) (h3:s.status≠3):InvN cs a { s with status:=0 } :=
 ⟨h.way,h.used,fun _=>h.tree h3,h.trim,fun h1=>by simp at h1,h.len,h.tries,fun h2=>by simp at h2,by simp⟩
theorem InvN.head {cs:List Cls} {a:List (List Sym) × Names} {s:SN} (h:InvN cs a s) (hw:s.way≠[]):∃ n k r c,s.way=(n,k)::r∧cs[k]?=some c∧n.goals≠[]:=by
 cases e:s.way with
 | nil=>exact absurd e hw
 | cons x r =>
  obtain ⟨n,k⟩:=x
  have ht:=h.trim
  rw [e] at ht
  have hk:=Zns ht
  exact ⟨n,k,r,_,rfl,Qb hk,(h.way (n,k) (by rw [e]; simp)).1⟩
theorem InvN.loop {cs:List Cls} {a:List (List Sym) × Names} (hcl:cs.length≤24):∀ {n:Nat} {s:SN},InvN cs a s→InvN cs a (Zcc cs n s).1:=by
 intro n
 induction n with
 | zero=>intro s h; exact h
 | succ n ih =>
  intro s h
  unfold Zcc
  split
  ·rename_i hc
   obtain ⟨n',k,r,c,h1,h2,h3⟩:=h.head hc.2.1
   exact ih (h.try' hcl hc.1 h1 h2 hc.2.2)
  ·exact h
theorem InvN.step {cs:List Cls} {a:List (List Sym) × Names} (hcl:cs.length≤24) {n:Nat} {s:SN} (h:InvN cs a s):InvN cs a (Zce cs n s).1:=by
 unfold Zce
 split
 ·exact h
 ·rename_i h3
  exact ((h.seek (by omega)).loop hcl).end'
noncomputable def newN (cs:List Cls) (a:List (List Sym) × Names):SN:=Zcw cs (Zbw ⟨[],0,0,⟨[],[],[],[],0⟩,[]⟩ (topN a))
theorem Zel {a:List (List Sym) × Names} (h:a.1≠[]):(topN a).goals≠[]:=by simpa [topN] using h
theorem InvN.new (cs:List Cls) {a:List (List Sym) × Names} (ha:a.1≠[]):InvN cs a (newN cs a):=by
 have hg:=Zel ha
 have hp:PW cs (topN a) [(topN a,0)] [40]:=⟨rfl,hg,Qm _,[],.zero _,by simp⟩
 unfold newN Zbw
 rw [if_neg hg]
 refine ⟨?_,?_,?_,?_,?_,?_,?_,?_,?_⟩
 ·intro x hx
  simp only [Zcw,Zdv] at hx
  have hx:=Zrl hx
  simp at hx
  subst hx
  exact ⟨hg,by simp [topN],Qm _,fun k hk=>by simp [topN] at hk⟩
 ·simp only [Zcw,Zdv]
  exact UsedW.trim ⟨rfl,fun y hy=>by simp at hy,trivial⟩
 ·intro _
  exact hp.leave
 ·simp only [Zcw,Zdv]
  exact Znt _ _
 ·intro h; simp [Zcw] at h
 ·simp only [Zcw,Znu]
  simp
 ·simp [Zcw]
 ·intro h; simp [Zcw] at h
 ·simp [Zcw]
structure HN where
 at':Nat
 wrong:Bool
 ans:List (List UInt8)
structure HM where
 ok:Bool
 at':Nat
 way:List (ND × Nat)
 ans:List (List UInt8)
def Zfu (s:SN):Prop:=s.status=1→s.found.used≠[]
theorem Zrn {s:SN} {n:ND} (h:s.status≠1) (hn:n.used≠[]):Zfu (Zbw s n):=by
 unfold Zbw
 split
 ·exact fun _=>hn
 ·exact fun e=>absurd e h
theorem Zxl {cs:List Cls} {s:SN} (h0:s.status=0):Zfu (Zar cs s):=by
 unfold Zar
 split
 ·exact fun e=>by omega
 ·split
  ·exact fun e=>by omega
  ·rename_i n k r _ c hc
   show Zfu (Zcw cs _)
   have hl:∀ u:SN,Zfu u→Zfu (Zcw cs u):=fun u h e=>h e
   apply hl
   split
   ·exact fun e=>by simp at e
   ·split
    ·rename_i h12
     exact Zrn (by simp only; omega) (by rw [Zfl h12]; simp)
    ·exact fun e=>by simp only at e; omega
theorem Ztk {cs:List Cls}:∀ {n:Nat} {s:SN},Zfu s→Zfu (Zcc cs n s).1:=by
 intro n
 induction n with
 | zero=>intro s h; exact h
 | succ n ih =>
  intro s h
  unfold Zcc
  split
  ·rename_i hc
   exact ih (Zxl hc.1)
  ·exact h
theorem Ztl {cs:List Cls} {n:Nat} {s:SN} (h:Zfu s):Zfu (Zce cs n s).1:=by
 unfold Zce
 split
 ·exact h
 ·have h1:Zfu (Zcc cs n { s with status:=0 }).1:=Ztk (fun e=>by simp at e)
  show Zfu (endN _)
  unfold endN
  split
  ·exact fun e=>by simp [Zgk] at e
  ·split
   ·split
    ·exact fun e=>by simp at e
    ·split
     ·exact fun e=>by simp [Zgk] at e
     ·exact h1
   ·exact h1
theorem Yek {cs:List Cls}:∀ {n:Nat} {s:SN},(Zcc cs n s).2≤n:=by
 intro n
 induction n with
 | zero=>intro s; simp [Zcc]
 | succ n ih=>intro s; unfold Zcc; split <;> simp [ih]
theorem Zpm {cs:List Cls} {n:Nat} {s:SN}:(Zce cs n s).2≤n:=by
 unfold Zce
 split
 ·simp
 ·exact Yek
theorem Zxm {cs:List Cls}:∀ {n:Nat} {s:SN},(Zcc cs n s).2<n→¬ ((Zcc cs n s).1.status=0∧(Zcc cs n s).1.way≠[]∧(Zcc cs n s).1.tries<3000):=by
 intro n
 induction n with
 | zero=>intro s h; omega
 | succ n ih =>
  intro s h
  unfold Zcc at h ⊢
  split at h
  ·rename_i hc
   rw [if_pos hc]
   exact ih (by simpa using h)
  ·rename_i hc
   rw [if_neg hc]
   exact hc
theorem Zxn {cs:List Cls} {n:Nat} {s:SN} (h:(Zce cs n s).2<n):(Zce cs n s).1.status≠0:=by
 unfold Zce at h ⊢
 split at h
 ·rename_i hc
  rw [if_pos hc]
  simp only; omega
 ·rename_i hc
  rw [if_neg hc]
  have h1:=Zxm h
  simp only
  unfold endN
  split
  ·simp [Zgk]
  ·split
   ·rename_i h3 h0
    split
    ·simp
    ·split
     ·simp [Zgk]
     ·rename_i hw ht
      exact absurd ⟨h0,hw,by omega⟩ h1
   ·rename_i h0
    exact h0
theorem Zjy {cs:List Cls} {n:Nat} {s:SN} (hn:0<n) (hs:s.status≠2∧s.status≠3) (h:(Zce cs n s).1.status=0∨(Zce cs n s).1.status=1):(Zce cs n s).2≠0:=by
 intro h0
 unfold Zce at h h0
 rw [if_neg (by omega)] at h h0
 simp only at h h0
 obtain ⟨m,rfl⟩:∃ m,n=m+1:=⟨n - 1,by omega⟩
 unfold Zcc at h h0
 split at h
 ·rename_i hc
  rw [if_pos hc] at h0
  simp at h0
 ·rename_i hc
  simp only at h
  unfold endN at h
  simp only at h hc
  rw [if_neg (by omega),if_pos trivial] at h
  split at h
  ·simp at h
  ·rename_i hw
   split at h
   ·simp [Zgk] at h
   ·rename_i ht
    exact hc ⟨trivial,hw,by omega⟩
theorem Zro (k:Nat):Lib.decDigits k≠[]:=by
 rw [Lib.decDigits]
 split <;> simp
theorem Zxo {names:Names} {n:ND} (h:n.vals.length=names.length):Zdf names n≠[]:=by
 unfold Zdf
 split
 ·simp
 ·rename_i hn
  have hl:=Zfa n.vals []
  cases names with
  | nil=>exact absurd rfl hn
  | cons x xs =>
   cases hc:(Zau n.vals []).1 with
   | nil=>rw [hc] at hl; simp at hl h; omega
   | cons t ts=>simp [Zgj]
theorem Ztm {n:ND} (h:n.used≠[]):Zja n≠[]:=by
 unfold Zja
 cases hu:n.used with
 | nil=>exact absurd hu h
 | cons k ks =>
  simp only [Zfi]
  intro e
  have h1:=List.append_eq_nil_iff.1 e
  exact Zro k (List.append_eq_nil_iff.1 h1.2).1
theorem Yel {cs:List Cls} {n:ND} {t:List UInt8} (h:TreeR cs n t):t≠[]:=by
 cases h <;> simp
theorem Zjz {cs:List Cls} {a:List (List Sym) × Names} {s:SN} (hI:InvN cs a s) (hF:Zfu s) :
  ((Zcx a s.status s.found s.tree).1=[]↔s.status≠1)∧((Zcx a s.status s.found s.tree).2.1=[]↔s.status≠1)∧((Zcx a s.status s.found s.tree).2.2=[]↔s.status≠2):=by
 unfold Zcx
 by_cases h1:s.status=1
 ·rw [if_pos h1]
  have ha:=Zxo (hI.found h1).2.1
  have hw:=Ztm (hF h1)
  simp [h1,ha,hw]
 ·rw [if_neg h1]
  by_cases h2:s.status=2
  ·rw [if_pos h2]
   have ht:=hI.tree (by omega)
   rw [hI.no h2] at ht
   have:=Yel ht
   simp [h1,h2,this]
  ·rw [if_neg h2]
   simp [h1,h2]
structure Tr where
 ans:List (List UInt8)
 wts:List (List UInt8)
 tries:Nat
 status:Nat
def Zdo (size left:Nat):Nat:=if left<size then left else size
noncomputable def addN (a:List (List Sym) × Names) (t:Tr) (r:SN × Nat):Tr :=
 if r.1.status=1 then ⟨t.ans++[(Zcx a r.1.status r.1.found r.1.tree).1],t.wts++[(Zcx a r.1.status r.1.found r.1.tree).2.1],t.tries+r.2,r.1.status⟩ else ⟨t.ans,t.wts,t.tries+r.2,r.1.status⟩
noncomputable def aftN (cs:List Cls) (a:List (List Sym) × Names) (tries size:Nat):Nat→SN→Tr→SN × Tr
 | 0,m,t=>(m,t)
 | f+1,m,t=>if t.tries<tries then
   (if (Zce cs (Zdo size (tries - t.tries)) m).1.status=2∨(Zce cs (Zdo size (tries - t.tries)) m).1.status=3 then ((Zce cs (Zdo size (tries - t.tries)) m).1,addN a t (Zce cs (Zdo size (tries - t.tries)) m))
    else aftN cs a tries size f (Zce cs (Zdo size (tries - t.tries)) m).1 (addN a t (Zce cs (Zdo size (tries - t.tries)) m)))
   else (m,t)
theorem Zgl {a:List (List Sym) × Names} {t:Tr} {r:SN × Nat}:(addN a t r).tries=t.tries+r.2:=by
 unfold addN
 split <;> rfl
def Reach (cs:List Cls):ND→List Nat→ND→Prop
 | n,[],m=>m=n
 | n,k::ks,m=>∃ c,cs[k]?=some c∧n.goals≠[]∧((tryN n c k).2=1∨(tryN n c k).2=2)∧Reach cs (tryN n c k).1 ks m
theorem Reach.snoc {cs:List Cls}:∀ {ks:List Nat} {n m:ND} {k:Nat} {c:Cls},Reach cs n ks m→cs[k]?=some c→m.goals≠[]→((tryN m c k).2=1∨(tryN m c k).2=2)→Reach cs n (ks++[k]) (tryN m c k).1:=by
 intro ks
 induction ks with
 | nil=>intro n m k c h hc hg hq; obtain rfl:m=n:=h; exact ⟨c,hc,hg,hq,rfl⟩
 | cons j ks ih =>
  intro n m k c h hc hg hq
  obtain ⟨d,h1,h2,h3,h4⟩:=h
  exact ⟨d,h1,h2,h3,ih h4 hc hg hq⟩
theorem Reach.follow {cs:List Cls}:∀ {ks:List Nat} {n m:ND} (i:Nat),Reach cs n ks m→m.goals=[]→Zfj cs n ks i=(m,0,0):=by
 intro ks
 induction ks with
 | nil =>
  intro n m i h hg
  obtain rfl:m=n:=h
  unfold Zfj
  rw [if_pos hg]
 | cons k ks ih =>
  intro n m i h hg
  obtain ⟨c,h1,h2,h3,h4⟩:=h
  unfold Zfj
  rw [h1]
  simp only
  rw [if_neg h2,if_pos h3]
  exact ih _ h4 hg
theorem Ybb {cs:List Cls} {top:ND}:∀ {r:List (ND × Nat)} {n:ND} {k:Nat} {T:List UInt8},PH cs top r n k T→Reach cs top (Zfp r) n:=by
 intro r
 induction r with
 | nil=>intro n k T h; obtain ⟨h1,_⟩:=h; exact h1
 | cons x r ih =>
  intro n k T h
  obtain ⟨m,j⟩:=x
  obtain ⟨h1,h2,t,j',c,T',h3,h4,h5,h6,h7,h8,h9⟩:=h
  simp only at h3 h5 h6 h7
  subst h3
  rw [Zjx,h6]
  have hg:m.goals≠[]:=by
   cases r with
   | nil=>exact h7.2.1
   | cons y r=>exact h7.1
  exact (ih h7).snoc h4 hg h5
def Znv (cs:List Cls) (top:ND) (s:SN):Prop:=s.status=1→Reach cs top s.found.used s.found∧s.found.goals=[]∧s.found.used≠[]∧s.found.used.length≤100
theorem Yem {n:ND} {c:Cls} {k:Nat} (h:(tryN n c k).2=1∨(tryN n c k).2=2):(tryN n c k).1.used.length≤100:=by
 by_cases hex:∃ r:ND × Nat,∃ m,NOk m∧Same m n∧Out m c k r.2 r.1
 ·have e:tryN n c k=Classical.choose hex:=by unfold tryN; rw [dif_pos hex]
  obtain ⟨m,_,hS,g,gs,_,ho⟩:=Classical.choose_spec hex
  rw [e] at h ⊢
  rcases ho with ⟨h0,_⟩ | ⟨h0,_⟩ | ⟨σ,_,_,h3,h4⟩
  ·omega
  ·omega
  ·rw [h3,← h4] at h
   unfold Zdl at h
   split at h
   ·omega
   ·rename_i ho
    unfold Zlw at ho
    simp only [Bool.or_eq_true,decide_eq_true_eq,not_or] at ho
    omega
 ·have e:tryN n c k=(⟨[],[],[],[],0⟩,0):=by unfold tryN; rw [dif_neg hex]
  rw [e]
  simp
theorem Zxp {cs:List Cls} {a:List (List Sym) × Names} {s:SN} (hI:InvN cs a s) (h0:s.status=0):Znv cs (topN a) (Zar cs s):=by
 unfold Zar
 split
 ·exact fun e=>by omega
 ·split
  ·exact fun e=>by omega
  ·rename_i n k r hw _ c hc
   show Znv cs (topN a) (Zcw cs _)
   have hl:∀ u:SN,Znv cs (topN a) u→Znv cs (topN a) (Zcw cs u):=fun u h e=>h e
   apply hl
   split
   ·exact fun e=>by simp at e
   ·split
    ·rename_i h12
     intro e
     unfold Zbw at e ⊢
     split
     ·rename_i hg
      have hp:=hI.tree (by omega)
      rw [hw] at hp
      have hu:=hI.used
      rw [hw] at hu
      have hr:=Ybb hp
      have hgn:n.goals≠[]:=(hI.way (n,k) (by rw [hw]; simp)).1
      have e1:n.used=Zfp r:=hu.1
      simp only
      rw [Zfl h12,e1]
      refine ⟨hr.snoc hc hgn h12,hg,by simp,?_⟩
      rw [← e1,← Zfl h12]
      exact Yem h12
     ·rename_i hg
      rw [if_neg hg] at e
      simp only at e
      omega
    ·exact fun e=>by simp only at e; omega
mutual
inductive TreeA (cs:List Cls) (names:Names):ND→List UInt8→List (List UInt8)→Prop
 | leaf (n:ND) (h:n.goals=[]):TreeA cs names n [33] [Zdf names n]
 | node (n:ND) (t:List UInt8) (A:List (List UInt8)) (h:n.goals≠[]) (hp:PartA cs names n cs.length t A):TreeA cs names n ([40]++t++[41]) A
inductive PartA (cs:List Cls) (names:Names):ND→Nat→List UInt8→List (List UInt8)→Prop
 | zero (n:ND):PartA cs names n 0 [] []
 | miss (n:ND) (k:Nat) (t:List UInt8) (A:List (List UInt8)) (c:Cls) (h:PartA cs names n k t A) (hc:cs[k]?=some c) (hq:(tryN n c k).2=0):PartA cs names n (k+1) t A
 | kid (n:ND) (k:Nat) (t u:List UInt8) (A B:List (List UInt8)) (c:Cls) (h:PartA cs names n k t A) (hc:cs[k]?=some c) (hq:(tryN n c k).2=1∨(tryN n c k).2=2) (hu:TreeA cs names (tryN n c k).1 u B):PartA cs names n (k+1) (t++Lib.decDigits k++u) (A++B)
end
def PHA (cs:List Cls) (names:Names) (top:ND):List (ND × Nat)→ND→Nat→List UInt8→List (List UInt8)→Prop
 | [],n,k,T,A=>n=top∧n.goals≠[]∧k≤cs.length∧∃ t,PartA cs names n k t A∧T=[40]++t
 | x::r,n,k,T,A=>n.goals≠[]∧k≤cs.length∧∃ t j' c T' A' B,x.2=j'+1∧cs[j']?=some c∧((tryN x.1 c j').2=1∨(tryN x.1 c j').2=2)∧n=(tryN x.1 c j').1∧PHA cs names top r x.1 j' T' A'∧PartA cs names n k t B∧T=T'++Lib.decDigits j'++([40]++t)∧A=A'++B
def PWA (cs:List Cls) (names:Names) (top:ND):List (ND × Nat)→List UInt8→List (List UInt8)→Prop
 | [],T,A=>TreeA cs names top T A
 | (n,k)::r,T,A=>PHA cs names top r n k T A
theorem PWA.part {cs:List Cls} {names:Names} {top n:ND} {k:Nat} {r:List (ND × Nat)} {T:List UInt8} {A:List (List UInt8)} (h:PWA cs names top ((n,k)::r) T A):n.goals≠[]∧k≤cs.length∧∃ t0 t A0 B,PartA cs names n k t B∧T=t0++([40]++t)∧A=A0++B∧∀ k' t' B',PartA cs names n k' t' B'→k'≤cs.length→PWA cs names top ((n,k')::r) (t0++([40]++t')) (A0++B'):=by
 cases r with
 | nil =>
  obtain ⟨h1,h2,h3,t,h4,h5⟩:=h
  exact ⟨h2,h3,[],t,[],A,h4,by simpa using h5,by simp,fun k' t' B' hp hk=>⟨h1,h2,hk,t',by simpa using hp,by simp⟩⟩
 | cons m r =>
  obtain ⟨m,j⟩:=m
  obtain ⟨h1,h2,t,j',c,T',A',B,h3,h4,h5,h6,h7,h8,h9,h10⟩:=h
  exact ⟨h1,h2,T'++Lib.decDigits j',t,A',B,h8,h9,h10,fun k' t' B' hp hk=>⟨h1,hk,t',j',c,T',A',B',h3,h4,h5,h6,h7,hp,rfl,rfl⟩⟩
theorem PWA.miss {cs:List Cls} {names:Names} {top n:ND} {k:Nat} {r:List (ND × Nat)} {T:List UInt8} {A:List (List UInt8)} {c:Cls} (h:PWA cs names top ((n,k)::r) T A) (hc:cs[k]?=some c) (hq:(tryN n c k).2=0):PWA cs names top ((n,k+1)::r) T A:=by
 obtain ⟨h1,h2,t0,t,A0,B,h3,h4,h6,h5⟩:=h.part
 rw [h4,h6]
 exact h5 (k+1) t B (.miss n k t B c h3 hc hq) (by have:=(Qa.1 hc).1; omega)
theorem PWA.kid {cs:List Cls} {names:Names} {top n:ND} {k:Nat} {r:List (ND × Nat)} {T u:List UInt8} {A B':List (List UInt8)} {c:Cls} (h:PWA cs names top ((n,k)::r) T A) (hc:cs[k]?=some c) (hq:(tryN n c k).2=1∨(tryN n c k).2=2) (hu:TreeA cs names (tryN n c k).1 u B'):PWA cs names top ((n,k+1)::r) (T++Lib.decDigits k++u) (A++B'):=by
 obtain ⟨h1,h2,t0,t,A0,B,h3,h4,h6,h5⟩:=h.part
 rw [h4,h6]
 have:=h5 (k+1) (t++Lib.decDigits k++u) (B++B') (.kid n k t u B B' c h3 hc hq hu) (by have:=(Qa.1 hc).1; omega)
 simpa using this
theorem PWA.down {cs:List Cls} {names:Names} {top n:ND} {k:Nat} {r:List (ND × Nat)} {T:List UInt8} {A:List (List UInt8)} {c:Cls} (h:PWA cs names top ((n,k)::r) T A) (hc:cs[k]?=some c) (hq:(tryN n c k).2=1∨(tryN n c k).2=2) (hg:(tryN n c k).1.goals≠[]):PWA cs names top (((tryN n c k).1,0)::(n,k+1)::r) (T++Lib.decDigits k++[40]) A :=
 ⟨hg,Qm _,[],k,c,T,A,[],rfl,hc,hq,rfl,h,.zero _,by simp,by simp⟩
theorem PWA.up {cs:List Cls} {names:Names} {top n:ND} {k:Nat} {r:List (ND × Nat)} {T:List UInt8} {A:List (List UInt8)} (h:PWA cs names top ((n,k)::r) T A) (hk:cs.length≤k):PWA cs names top r (T++[41]) A:=by
 cases r with
 | nil =>
  obtain ⟨h1,h2,h3,t,h4,h5⟩:=h
  have e:k=cs.length:=by omega
  subst e h1 h5
  exact .node n t A h2 h4
 | cons m r =>
  obtain ⟨m,j⟩:=m
  obtain ⟨h1,h2,t,j',c,T',A',B,h3,h4,h5,h6,h7,h8,h9,h10⟩:=h
  have e:k=cs.length:=by omega
  simp only at h3 h5 h6 h7
  subst e h3 h6 h9 h10
  have h7':PWA cs names top ((m,j')::r) T' A':=h7
  have:=h7'.kid h4 h5 (.node _ t B h1 h8)
  simpa using this
theorem PWA.leave {cs:List Cls} {names:Names} {top:ND} {A:List (List UInt8)}:∀ {way:List (ND × Nat)} {T:List UInt8},PWA cs names top way T A→PWA cs names top (Zdj cs way T).1 (Zdj cs way T).2 A:=by
 intro way
 induction way with
 | nil=>intro T h; exact h
 | cons x r ih =>
  obtain ⟨n,k⟩:=x
  intro T h
  unfold Zdj
  split
  ·rename_i hk
   exact ih (h.up hk)
  ·exact h
noncomputable def ansB (names:Names) (A:List (List UInt8)) (s:SN):List (List UInt8):=if s.status=1 then A++[Zdf names s.found] else A
theorem PWA.try' {cs:List Cls} {names:Names} {top:ND} {s:SN} {A:List (List UInt8)} (h0:s.status=0) (h:PWA cs names top s.way s.tree A) (hf:(Zar cs s).status≠3):PWA cs names top (Zar cs s).way (Zar cs s).tree (ansB names A (Zar cs s)):=by
 unfold Zar at hf ⊢
 cases hw:s.way with
 | nil =>
  rw [hw] at h
  unfold ansB
  simp only [hw,h0]
  simpa using h
 | cons x r =>
  obtain ⟨n,k⟩:=x
  rw [hw] at hf h
  simp only at hf ⊢
  have h':PWA cs names top ((n,k)::r) s.tree A:=h
  cases hc:cs[k]? with
  | none =>
   rw [hc] at hf
   unfold ansB
   simp only [hw,h0]
   simpa using h
  | some c =>
   rw [hc] at hf
   simp only at hf ⊢
   by_cases h3:(tryN n c k).2=3
   ·rw [if_pos h3] at hf
    exact absurd rfl hf
   ·rw [if_neg h3]
    by_cases h12:(tryN n c k).2=1∨(tryN n c k).2=2
    ·rw [if_pos h12]
     by_cases hg:(tryN n c k).1.goals=[]
     ·simp only [Zbw,if_pos hg,Zcw,ansB,if_true]
      exact (h'.kid hc h12 (.leaf _ hg)).leave
     ·simp only [Zbw,if_neg hg,Zcw,ansB,h0]
      exact (h'.down hc h12 hg).leave
    ·rw [if_neg h12]
     simp only [Zcw,ansB,h0]
     have hq0:(tryN n c k).2=0:=by have:=Zhm n c k; omega
     exact (h'.miss hc hq0).leave
theorem Ybc {cs:List Cls} {a:List (List Sym) × Names} (hcl:cs.length≤24):∀ {n:Nat} {s:SN} {A:List (List UInt8)},InvN cs a s→(s.status=0→PWA cs a.2 (topN a) s.way s.tree A)→s.status=0→((Zcc cs n s).1.status≠3→PWA cs a.2 (topN a) (Zcc cs n s).1.way (Zcc cs n s).1.tree (ansB a.2 A (Zcc cs n s).1))∧Znv cs (topN a) (Zcc cs n s).1:=by
 intro n
 induction n with
 | zero =>
  intro s A hI h h0
  simp only [Zcc]
  exact ⟨fun _=>by unfold ansB; rw [if_neg (by omega)]; exact h h0,fun e=>by omega⟩
 | succ n ih =>
  intro s A hI h h0
  simp only [Zcc]
  split
  ·rename_i hgo
   simp only
   obtain ⟨m,k,r,c,hw,hc,_⟩:=hI.head hgo.2.1
   have hI1:InvN cs a (Zar cs s):=hI.try' hcl h0 hw hc hgo.2.2
   have hF:=Zxp hI h0
   by_cases h1:(Zar cs s).status=0
   ·refine ih hI1 (fun _ => ?_) h1
    have:=PWA.try' h0 (h h0) (by omega)
    unfold ansB at this
    rw [if_neg (by omega)] at this
    exact this
   ·have e:Zcc cs n (Zar cs s)=(Zar cs s,0):=by
     cases n with
     | zero=>rfl
     | succ n=>simp only [Zcc]; rw [if_neg (fun h=>h1 h.1)]
    rw [e]
    exact ⟨fun h3=>PWA.try' h0 (h h0) h3,hF⟩
  ·refine ⟨fun _ => ?_,fun e => ?_⟩
   ·show PWA cs a.2 (topN a) s.way s.tree (ansB a.2 A s)
    unfold ansB
    rw [if_neg (by omega)]
    exact h h0
   ·have e:s.status=1:=e
    omega
theorem Ybd {cs:List Cls} {a:List (List Sym) × Names} (hcl:cs.length≤24) {n:Nat} {s:SN} {A:List (List UInt8)} (hI:InvN cs a s) (h:PWA cs a.2 (topN a) s.way s.tree A) (hs:s.status≠2∧s.status≠3):((Zce cs n s).1.status≠3→PWA cs a.2 (topN a) (Zce cs n s).1.way (Zce cs n s).1.tree (ansB a.2 A (Zce cs n s).1))∧Znv cs (topN a) (Zce cs n s).1:=by
 unfold Zce
 rw [if_neg (by omega)]
 simp only
 obtain ⟨h1,h2⟩:=Ybc (n:=n) hcl (hI.seek (by omega)) (fun _=>h) rfl
 generalize (Zcc cs n { s with status:=0 }).1=z at h1 h2
 unfold endN
 split
 ·exact ⟨fun h3=>absurd rfl h3,fun e=>by simp [Zgk] at e⟩
 ·rename_i h3
  split
  ·rename_i h0
   split
   ·refine ⟨fun _ => ?_,fun e=>by simp at e⟩
    have:=h1 h3
    unfold ansB at this ⊢
    rw [if_neg (by omega)] at this
    simpa using this
   ·split
    ·exact ⟨fun h3=>absurd rfl h3,fun e=>by simp [Zgk] at e⟩
    ·exact ⟨fun _=>h1 h3,h2⟩
  ·exact ⟨fun _=>h1 h3,h2⟩
structure Told (cs:List Cls) (a:List (List Sym) × Names) (m:SN) (t:Tr):Prop where
 tree:m.status≠3→PWA cs a.2 (topN a) m.way m.tree t.ans
 len:t.ans.length=t.wts.length
 each:∀ (i:Nat) (A W:List UInt8),t.ans[i]?=some A→t.wts[i]?=some W→∃ n,Reach cs (topN a) n.used n∧n.goals=[]∧n.used≠[]∧n.used.length≤100∧(∀ k ∈ n.used,k<cs.length)∧A=Zdf a.2 n∧W=Zja n
theorem Told.new (cs:List Cls) {a:List (List Sym) × Names} (ha:a.1≠[]):Told cs a (newN cs a) ⟨[],[],0,0⟩:=by
 refine ⟨fun _ => ?_,rfl,fun i A W h=>by simp at h⟩
 have hg:=Zel ha
 unfold newN Zbw
 rw [if_neg hg]
 have hp:PWA cs a.2 (topN a) [(topN a,0)] [40] []:=⟨rfl,hg,Qm _,[],.zero _,by simp⟩
 simp only [Zcw]
 exact hp.leave
theorem Told.step {cs:List Cls} {a:List (List Sym) × Names} (hcl:cs.length≤24) {n:Nat} {m:SN} {t:Tr} (h:Told cs a m t) (hI:InvN cs a m) (hs:m.status≠2∧m.status≠3):Told cs a (Zce cs n m).1 (addN a t (Zce cs n m)):=by
 obtain ⟨h1,h2⟩:=Ybd (n:=n) hcl hI (h.tree hs.2) hs
 have hI2:=hI.step hcl (n:=n)
 generalize Zce cs n m=z at h1 h2 hI2
 unfold addN
 split
 ·rename_i e
  obtain ⟨g1,g2,g3,g4⟩:=h2 e
  refine ⟨fun h3 => ?_,by simp [h.len],fun i A W hA hW => ?_⟩
  ·have:=h1 h3
   unfold ansB at this
   rw [if_pos e] at this
   simpa [Zcx,e] using this
  ·simp only at hA hW
   rcases Nat.lt_or_ge i t.ans.length with hi | hi
   ·rw [Qc hi] at hA
    rw [Qc (by rw [← h.len]; exact hi)] at hW
    exact h.each i A W hA hW
   ·have hl:=h.len
    have:i=t.ans.length:=by
     have:=(Qa.1 hA).1
     simp at this
     omega
    subst this
    simp only [Qd (Qe _),Nat.sub_self,List.getElem?_cons_zero,Qo] at hA
    rw [hl,Qd (Qe _)] at hW
    simp only [Nat.sub_self,List.getElem?_cons_zero,Qo] at hW
    refine ⟨z.1.found,g1,g2,g3,g4,(hI2.found e).2.2,?_,?_⟩
    ·rw [← hA]; simp [Zcx,e]
    ·rw [← hW]; simp [Zcx,e]
 ·rename_i e
  refine ⟨fun h3 => ?_,h.len,h.each⟩
  have:=h1 h3
  unfold ansB at this
  rw [if_neg e] at this
  exact this
theorem Told.aft {cs:List Cls} {a:List (List Sym) × Names} (hcl:cs.length≤24) {tries size:Nat}:∀ {f:Nat} {m:SN} {t:Tr},Told cs a m t→InvN cs a m→(m.status=0∨m.status=1)→Told cs a (aftN cs a tries size f m t).1 (aftN cs a tries size f m t).2:=by
 intro f
 induction f with
 | zero=>intro m t h _ _; exact h
 | succ f ih =>
  intro m t h hI hm
  rw [aftN]
  split
  ·have h1:=h.step hcl (n:=Zdo size (tries - t.tries)) hI (by omega)
   have hI1:=hI.step hcl (n:=Zdo size (tries - t.tries))
   split
   ·exact h1
   ·rename_i h23
    exact ih h1 hI1 (by have:=hI1.st; omega)
  ·exact h
def AbcN (s:List UInt8):Prop:=s=[97]∨s=[98]∨s=[99]
structure ArgS (s:Sym):Prop where
 args:s.args=0
 name:s.name=[]∨AbcN s.name
def FA (l:List Sym):Prop:=∃ (P:Sym) (x y:Sym),l=[P,x,y]∧P.name≠[]∧P.args=2∧ArgS x∧ArgS y
def F1 (l:List Sym):Prop:=∃ s,l=[s]∧ArgS s
def cstS:Sym:=⟨[97],0,0⟩
open Classical in
noncomputable def toC (l:List Sym):List Sym:=match l with
 | [s]=>if AbcN s.name then [s] else [cstS]
 | _=>[cstS]
theorem Zve {l:List Sym} (h:Wf 1 l):Wf 1 (toC l)∧(toC l).length=1:=by
 have hc:Wf 1 [cstS]:=⟨by omega,fun h=>absurd h (by decide),fun _=>rfl,rfl⟩
 unfold toC
 split
 ·split
  ·exact ⟨h,rfl⟩
  ·exact ⟨hc,rfl⟩
 ·exact ⟨hc,rfl⟩
theorem Zin {θ:Nat→List Sym} {x:Sym} (hx:ArgS x):ap1 (fun n=>toC (θ n)) x=toC (ap1 θ x):=by
 unfold ap1
 by_cases h:x.name=[]
 ·rw [if_pos h,if_pos h]
 ·rw [if_neg h,if_neg h]
  have hn:AbcN x.name:=by
   rcases hx.name with e | e
   ·exact absurd e h
   ·exact e
  simp [toC,hn]
theorem Zjk (σ:Nat→List Sym) {P x y:Sym} (hP:P.name≠[]):ap σ [P,x,y]=P::(ap1 σ x++ap1 σ y):=by
 rw [Zay,Zay,Zay,Zer]
 simp [ap1,hP]
theorem Zkr {σ:Nat→List Sym} (hσ:Ts σ) {x:Sym} (hx:ArgS x) (hn:x.name≠[]→x.num=0):Wf 1 (ap1 σ x):=by
 unfold ap1
 split
 ·exact hσ _
 ·rename_i h
  exact ⟨by omega,fun e=>absurd e h,fun _=>hn h,by simp [hx.args,Wf]⟩
theorem Zka {P x y:Sym} (h:Wf 1 [P,x,y]) (hP:P.args=2) (hx:ArgS x) (hy:ArgS y):(x.name≠[]→x.num=0)∧(y.name≠[]→y.num=0):=by
 obtain ⟨_,_,_,h⟩:=h
 obtain ⟨_,_,h1,h⟩:=h
 obtain ⟨_,_,h2,_⟩:=h
 exact ⟨h1,h2⟩
theorem Zrp {a b:List Sym} (ha:FA a) (hb:FA b) (wa:Wf 1 a) (wb:Wf 1 b) {θ:Nat→List Sym} (hθ:Ts θ) (hu:ap θ a=ap θ b):Ts (fun n=>toC (θ n))∧ap (fun n=>toC (θ n)) a=ap (fun n=>toC (θ n)) b∧(ap (fun n=>toC (θ n)) a).length=3:=by
 obtain ⟨P,x,y,rfl,hP,hP2,hx,hy⟩:=ha
 obtain ⟨P',x',y',rfl,hP',hP2',hx',hy'⟩:=hb
 obtain ⟨nx,ny⟩:=Zka wa hP2 hx hy
 obtain ⟨nx',ny'⟩:=Zka wb hP2' hx' hy'
 rw [Zjk θ hP,Zjk θ hP'] at hu
 simp only [List.cons.injEq] at hu
 obtain ⟨rfl,hu⟩:=hu
 obtain ⟨u1,u2⟩:=Zlr (Zkr hθ hx nx) (Zkr hθ hx' nx') hu
 refine ⟨fun n=>(Zve (hθ n)).1,?_,?_⟩
 ·rw [Zjk _ hP,Zjk _ hP',Zin hx,Zin hy,Zin hx',Zin hy',u1,u2]
 ·rw [Zjk _ hP,Zin hx,Zin hy,Qf,Qg,(Zve (Zkr hθ hx nx)).2,(Zve (Zkr hθ hy ny)).2]
theorem Zmk {s:Sym} (h:Wf 1 [s]):s.args=0:=by
 obtain ⟨_,_,_,h⟩:=h
 simpa [Wf] using h
theorem Zvf {a b:List Sym} (ha:FA a) (hb:FA b) (wa:Wf 1 a) (wb:Wf 1 b) {σ:Nat→List Sym} (h:Mgu σ a b) (n:Nat):F1 (σ n):=by
 obtain ⟨ht,hu,_⟩:=Zrp ha hb wa wb h.ts h.unif
 have hw:=h.wide _ ht hu n
 have hl:=Zfr ht (σ n)
 rw [hw,(Zve (h.ts n)).2] at hl
 have hl1:=Zdy (h.ts n)
 obtain ⟨s,hs⟩:∃ s,σ n=[s]:=List.length_eq_one_iff.1 (by omega)
 have hwf:=h.ts n
 rw [hs] at hwf hw
 refine ⟨s,hs,Zmk hwf,?_⟩
 by_cases hn:s.name=[]
 ·exact Or.inl hn
 ·refine Or.inr ?_
  have e:ap (fun n=>toC (σ n)) [s]=[s]:=by rw [Zay,Zer]; simp [ap1,hn]
  rw [e] at hw
  by_cases hA:AbcN s.name
  ·exact hA
  ·rw [show toC [s]=[cstS] by simp [toC,hA]] at hw
   simp only [List.cons.injEq,and_true] at hw
   rw [hw]
   exact Or.inl rfl
theorem Ybe {σ:Nat→List Sym} (hσ:∀ n,F1 (σ n)) {x:Sym} (hx:ArgS x):F1 (ap1 σ x):=by
 unfold ap1
 split
 ·exact hσ _
 ·exact ⟨x,rfl,hx⟩
theorem FA.apF {σ:Nat→List Sym} (hσ:∀ n,F1 (σ n)) {l:List Sym} (h:FA l):FA (YtlmjilpjmgjjcaaGreatDoor.ap σ l):=by
 obtain ⟨P,x,y,rfl,hP,hP2,hx,hy⟩:=h
 obtain ⟨s,e1,hs⟩:=Ybe hσ hx
 obtain ⟨t,e2,ht⟩:=Ybe hσ hy
 exact ⟨P,s,t,by rw [Zjk _ hP,e1,e2]; rfl,hP,hP2,hs,ht⟩
theorem F1.apF {σ:Nat→List Sym} (hσ:∀ n,F1 (σ n)) {l:List Sym} (h:F1 l):F1 (YtlmjilpjmgjjcaaGreatDoor.ap σ l):=by
 obtain ⟨x,rfl,hx⟩:=h
 rw [Zay,Zer,Qs]
 exact Ybe hσ hx
theorem FA.len {l:List Sym} (h:FA l):l.length=3:=by obtain ⟨P,x,y,rfl,_⟩:=h; rfl
theorem Zml (n:Nat):F1 (vr n):=⟨_,rfl,rfl,Or.inl rfl⟩
structure FFn (n:ND):Prop where
 goals:∀ g ∈ n.goals,FA g.1
 vals:∀ v ∈ n.vals,F1 v
 done:∀ g ∈ n.done,FA g.1
def FFc (c:Cls):Prop:=FA c.head∧∀ t ∈ c.body,FA t
theorem Zpn {τ τ':Nat→List Sym} {x s:Sym} (hx:ArgS x) (h1:ap1 τ x=[s]) (hw:Wf 1 [s]) (h2:ap1 τ' s=[x]):ArgS s:=by
 by_cases hn:s.name=[]
 ·exact ⟨Zmk hw,Or.inl hn⟩
 ·have:ap1 τ' s=[s]:=by simp [ap1,hn]
  rw [this] at h2
  simp only [List.cons.injEq,and_true] at h2
  rw [h2]
  exact hx
theorem Zkb {τ:Nat→List Sym} (hτ:Ts τ) (x:Sym):1≤(ap1 τ x).length:=by
 unfold ap1
 split
 ·exact Zdy (hτ _)
 ·simp
theorem FA.back {τ τ':Nat→List Sym} (hτ:Ts τ) (hτ':Ts τ') {l m:List Sym} (h:FA l) (wl:Wf 1 l) (e1:m=ap τ l) (e2:l=ap τ' m):FA m:=by
 have hlen:m.length=3:=by
  have a1:=Zfr hτ l
  have a2:=Zfr hτ' m
  rw [← e1] at a1
  rw [← e2] at a2
  rw [h.len] at a1 a2
  omega
 obtain ⟨P,x,y,rfl,hP,hP2,hx,hy⟩:=h
 obtain ⟨nx,ny⟩:=Zka wl hP2 hx hy
 rw [Zjk τ hP] at e1
 have l1:=Zkb hτ x
 have l2:=Zkb hτ y
 rw [e1,Qf,Qg] at hlen
 obtain ⟨s,hs⟩:∃ s,ap1 τ x=[s]:=List.length_eq_one_iff.1 (by omega)
 obtain ⟨t,ht⟩:∃ t,ap1 τ y=[t]:=List.length_eq_one_iff.1 (by omega)
 have ws:=Zkr hτ hx nx
 have wt:=Zkr hτ hy ny
 rw [hs] at ws
 rw [ht] at wt
 rw [e1,hs,ht] at e2
 have e3:ap τ' [P,s,t]=P::(ap1 τ' s++ap1 τ' t):=Zjk τ' hP
 rw [show P::([s]++[t])=[P,s,t] from rfl,e3] at e2
 simp only [List.cons.injEq,true_and] at e2
 have k1:=Zkb hτ' s
 have k2:=Zkb hτ' t
 have k3:=congrArg List.length e2
 simp only [Qg,Qf,Jt] at k3
 obtain ⟨s',hs'⟩:∃ s',ap1 τ' s=[s']:=List.length_eq_one_iff.1 (by omega)
 obtain ⟨t',ht'⟩:∃ t',ap1 τ' t=[t']:=List.length_eq_one_iff.1 (by omega)
 rw [hs',ht'] at e2
 simp only [List.cons_append,List.nil_append,List.cons.injEq,and_true] at e2
 obtain ⟨rfl,rfl⟩:=e2
 exact ⟨P,s,t,by rw [e1,hs,ht]; rfl,hP,hP2,Zpn hx hs ws hs',Zpn hy ht wt ht'⟩
theorem F1.back {τ τ':Nat→List Sym} (hτ:Ts τ) (hτ':Ts τ') {l m:List Sym} (h:F1 l) (wl:Wf 1 l) (e1:m=ap τ l) (e2:l=ap τ' m):F1 m:=by
 obtain ⟨x,rfl,hx⟩:=h
 have a1:=Zfr hτ [x]
 have a2:=Zfr hτ' m
 rw [← e1] at a1
 rw [← e2] at a2
 obtain ⟨s,rfl⟩:∃ s,m=[s]:=List.length_eq_one_iff.1 (by simp at a1 a2; omega)
 have h1:ap1 τ x=[s]:=by rw [e1,Zay,Zer,Qs]
 have h2:ap1 τ' s=[x]:=by rw [e2,Zay,Zer,Qs]
 have ws:Wf 1 [s]:=by rw [e1]; exact Zhj hτ wl
 exact ⟨s,rfl,Zpn hx h1 ws h2⟩
theorem FFn.same {n m:ND} (h:FFn n) (hn:∀ t ∈ n.terms,Wf 1 t) (hs:Same m n):FFn m:=by
 obtain ⟨τ',hτ',e'⟩:=hs.al.1
 obtain ⟨τ,hτ,e⟩:=hs.al.2
 have hback:∀ (i:Nat) (x y:List Sym),n.terms[i]?=some x→m.terms[i]?=some y→y=ap τ x∧x=ap τ' y:=fun i x y hx hy=>by
  have h1:=congrArg (fun l=>l[i]?) e
  have h2:=congrArg (fun l=>l[i]?) e'
  simp only [Qj,hx,hy,Option.map_some,Qo] at h1 h2
  exact ⟨h1,h2⟩
 have lg:=hs.gl
 have ld:=hs.dl
 have lv:=hs.vl
 have tn:n.terms=n.goals.map (·.1)++(n.vals++n.done.map (·.1)):=rfl
 have tm:m.terms=m.goals.map (·.1)++(m.vals++m.done.map (·.1)):=rfl
 refine ⟨fun g hg => ?_,fun v hv => ?_,fun g hg => ?_⟩
 ·obtain ⟨i,hi⟩:=List.mem_iff_getElem?.1 hg
  have hil:=(Qa.1 hi).1
  obtain ⟨g',hg'⟩:∃ g',n.goals[i]?=some g':=⟨_,Qb (by omega)⟩
  have y1:m.terms[i]?=some g.1:=by rw [tm,Qc (by simpa using hil),Qj,hi]; rfl
  have x1:n.terms[i]?=some g'.1:=by rw [tn,Qc (by simp; omega),Qj,hg']; rfl
  obtain ⟨b1,b2⟩:=hback i _ _ x1 y1
  exact (h.goals g' (Qh hg')).back hτ hτ' (hn _ (Qh x1)) b1 b2
 ·obtain ⟨i,hi⟩:=List.mem_iff_getElem?.1 hv
  have hil:=(Qa.1 hi).1
  obtain ⟨v',hv'⟩:∃ v',n.vals[i]?=some v':=⟨_,Qb (by omega)⟩
  have y1:m.terms[m.goals.length+i]?=some v:=by
   rw [tm,Qd (by simp),Ql,Nat.add_sub_cancel_left,Qc hil]
   exact hi
  have x1:n.terms[m.goals.length+i]?=some v':=by
   rw [tn,lg,Qd (by simp),Ql,Nat.add_sub_cancel_left,Qc (by omega)]
   exact hv'
  obtain ⟨b1,b2⟩:=hback _ _ _ x1 y1
  exact (h.vals v' (Qh hv')).back hτ hτ' (hn _ (Qh x1)) b1 b2
 ·obtain ⟨i,hi⟩:=List.mem_iff_getElem?.1 hg
  have hil:=(Qa.1 hi).1
  obtain ⟨g',hg'⟩:∃ g',n.done[i]?=some g':=⟨_,Qb (by omega)⟩
  have y1:m.terms[m.goals.length+(m.vals.length+i)]?=some g.1:=by
   rw [tm,Qd (by simp),Ql,Nat.add_sub_cancel_left,Qd (by omega),Nat.add_sub_cancel_left,Qj,hi]
   rfl
  have x1:n.terms[m.goals.length+(m.vals.length+i)]?=some g'.1:=by
   rw [tn,lg,lv,Qd (by simp),Ql,Nat.add_sub_cancel_left,Qd (by omega),Nat.add_sub_cancel_left,Qj,hg']
   rfl
  obtain ⟨b1,b2⟩:=hback _ _ _ x1 y1
  exact (h.done g' (Qh hg')).back hτ hτ' (hn _ (Qh x1)) b1 b2
theorem FFn.child {n:ND} (hn:NOk n) (h:FFn n) {c:Cls} (hc:COk c) (hf:FFc c) {k q:Nat} {ch:ND} (ho:Out n c k q ch) (hq:q=1∨q=2):FFn ch:=by
 obtain ⟨g,gs,hg,ho⟩:=ho
 rcases ho with ⟨rfl,_⟩ | ⟨rfl,_⟩ | ⟨σ,h1,_,_,rfl⟩
 ·omega
 ·omega
 ·have hga:FA g.1:=h.goals g (by rw [hg]; simp)
  have hha:FA (ap (Zcb n.vars) c.head):=hf.1.apF (fun _=>Zml _)
  have wg:Wf 1 g.1:=hn.wf g.1 (by unfold ND.terms; rw [hg]; simp)
  have wh:Wf 1 (ap (Zcb n.vars) c.head):=Zhj (fun m=>Zmx _) hc.wfh
  have hσ:=Zvf hga hha wg wh h1
  refine ⟨fun x hx => ?_,fun v hv => ?_,fun x hx => ?_⟩
  ·simp only [Zan,carr,List.mem_map,Qk] at hx
   obtain ⟨y,hy,rfl⟩:=hx
   rcases hy with ⟨t,ht,rfl⟩ | hy
   ·exact ((hf.2 t ht).apF (fun _=>Zml _)).apF hσ
   ·exact (h.goals y (by rw [hg]; simp [hy])).apF hσ
  ·simp only [Zan,List.mem_map] at hv
   obtain ⟨u,hu,rfl⟩:=hv
   exact (h.vals u hu).apF hσ
  ·simp only [Zan,carr,List.mem_map,Qk,List.mem_singleton] at hx
   obtain ⟨y,hy,rfl⟩:=hx
   rcases hy with hy | rfl
   ·exact (h.done y hy).apF hσ
   ·exact hga.apF hσ
theorem Yhg {n:ND} (hn:NOk n) (h:FFn n) {c:Cls} (hc:COk c) (hf:FFc c) {k q:Nat} {ch:ND} (hg40:n.goals.length+c.body.length≤40) (hu:n.used.length<100) (ho:Out n c k q ch):q≠3:=by
 have ho':=ho
 obtain ⟨g,gs,hg,ho⟩:=ho
 have hga:FA g.1:=h.goals g (by rw [hg]; simp)
 have hha:FA (ap (Zcb n.vars) c.head):=hf.1.apF (fun _=>Zml _)
 have wg:Wf 1 g.1:=hn.wf g.1 (by unfold ND.terms; rw [hg]; simp)
 have wh:Wf 1 (ap (Zcb n.vars) c.head):=Zhj (fun m=>Zmx _) hc.wfh
 rcases ho with ⟨rfl,_⟩ | ⟨rfl,hv⟩ | ⟨σ,h1,_,rfl,rfl⟩
 ·omega
 ·obtain ⟨⟨θ,hθ,hu'⟩,hall⟩:=hv
  obtain ⟨t1,t2,t3⟩:=Zrp hga hha wg wh hθ hu'
  have:=hall _ t1 t2
  omega
 ·intro h3
  have hσ:=Zvf hga hha wg wh h1
  unfold Zdl at h3
  split at h3
  ·rename_i hov
   unfold Zlw at hov
   have hgl:(Zan σ n c k g gs).goals.length≤40:=by
    rw [hg] at hg40
    simp [Zan,carr] at hg40 ⊢
    omega
   have hul:(Zan σ n c k g gs).used.length≤100:=by simp [Zan]; omega
   simp only [Bool.or_eq_true,decide_eq_true_eq,List.any_eq_true] at hov
   rcases hov with ((h4 | h4) | ⟨x,hx,hb⟩) | ⟨x,hx,hb⟩
   ·omega
   ·omega
   ·simp only [Zan,carr,List.mem_map,Qk] at hx
    obtain ⟨y,hy,rfl⟩:=hx
    have:FA (ap σ y.1):=by
     rcases hy with ⟨t,ht,rfl⟩ | hy
     ·exact ((hf.2 t ht).apF (fun _=>Zml _)).apF hσ
     ·exact (h.goals y (by rw [hg]; simp [hy])).apF hσ
    simp only [bigG,decide_eq_true_eq,this.len] at hb
    omega
   ·simp only [Zan,carr,List.mem_map,Qk,List.mem_singleton] at hx
    obtain ⟨y,hy,rfl⟩:=hx
    have:FA (ap σ y.1):=by
     rcases hy with hy | rfl
     ·exact (h.done y hy).apF hσ
     ·exact hga.apF hσ
    simp only [bigG,decide_eq_true_eq,this.len] at hb
    omega
  ·split at h3 <;> omega
theorem Zmm {S:ByteArray} {k:Nat} {c:UInt8} (h:S.data.toList[k]?=some c):∃ hk:k<S.size,S[k]=c:=by
 have hk:=(Qa.1 h).1
 refine ⟨by simpa using hk,?_⟩
 exact (Qa.1 h).2
theorem Zpo {n:ND} {c:Cls} {k:Nat} (hc:COk c) (h:(tryN n c k).2=1∨(tryN n c k).2=2):NOk (tryN n c k).1:=by
 by_cases hex:∃ r:ND × Nat,∃ m,NOk m∧Same m n∧Out m c k r.2 r.1
 ·have e:tryN n c k=Classical.choose hex:=by unfold tryN; rw [dif_pos hex]
  obtain ⟨m,hm,hS,ho⟩:=Classical.choose_spec hex
  rw [e] at h ⊢
  exact ((Zup hm hm (Same.refl hm) hc ho ho).2 h).1
 ·have e:tryN n c k=(⟨[],[],[],[],0⟩,0):=by unfold tryN; rw [dif_neg hex]
  rw [e] at h
  simp at h
end Go.Proofs.YtlmjilpjmgjjcaaGreatDoor
namespace Go.Proofs.YtlmjilpjmgjjcaaGreatDoor
def skip:Nat→List Sym→Nat
 | 0,_=>0
 | _+1,[]=>0
 | k+1,s::r=>skip (k+s.args) r+1
theorem Zkc:∀ {a:List Sym} {j:Nat} (r:List Sym),Wf j a→skip j (a++r)=a.length:=by
 intro a
 induction a with
 | nil=>intro j r h; have h:j=0:=h; subst h; simp [skip]
 | cons s a ih =>
  intro j r h
  obtain ⟨h1,_,_,h2⟩:=h
  obtain ⟨k,rfl⟩:∃ k,j=k+1:=⟨j - 1,by omega⟩
  simp only [List.cons_append,skip,Qf]
  rw [ih r (by simpa using h2)]
theorem Yhh:∀ {l:List Sym} {k:Nat} (i:Nat),Wf k l→i≤l.length→∃ k',Wf k' (l.drop i):=by
 intro l
 induction l with
 | nil=>intro k i h hi; simp at hi; subst hi; exact ⟨k,h⟩
 | cons s l ih =>
  intro k i h hi
  cases i with
  | zero=>exact ⟨k,h⟩
  | succ i =>
   obtain ⟨_,_,_,h2⟩:=h
   simp only [List.drop_succ_cons]
   exact ih i h2 (by simpa using hi)
def Zbf (l:List Sym) (i:Nat):Nat:=i+skip 1 (l.drop i)
def tmAt (l:List Sym) (i:Nat):List Sym:=(l.drop i).take (skip 1 (l.drop i))
def Zba (l:List Sym):Nat→Nat→List Nat
 | _,0=>[]
 | p,m+1=>p::Zba l (Zbf l p) m
def Zas (l:List Sym):Nat→Nat→Nat
 | p,0=>p
 | p,m+1=>Zas l (Zbf l p) m
theorem Zcr (l:List Sym) (p m:Nat):(Zba l p m).length=m:=by
 induction m generalizing p with
 | zero=>rfl
 | succ m ih=>simp [Zba,ih]
theorem Zbz (l:List Sym) (p m:Nat):Zas l p (m+1)=Zbf l (Zas l p m):=by
 induction m generalizing p with
 | zero=>rfl
 | succ m ih=>rw [Zas,ih]; rfl
theorem Zbx (l:List Sym) (p m i:Nat) (hi:i<m):(Zba l p m)[i]?=some (Zas l p i):=by
 induction m generalizing p i with
 | zero=>omega
 | succ m ih =>
  cases i with
  | zero=>rfl
  | succ i=>simp only [Zba,List.getElem?_cons_succ,Zas]; exact ih _ _ (by omega)
theorem Zem {l:List Sym} {k i:Nat} (h:Wf k l) (hi:i<l.length):Wf 1 (tmAt l i)∧∃ r,l.drop i=tmAt l i++r∧r=l.drop (Zbf l i)∧i<Zbf l i∧Zbf l i≤l.length∧(tmAt l i).length=skip 1 (l.drop i):=by
 obtain ⟨k',hk⟩:=Yhh i h (by omega)
 have hpos:0<k':=by
  rcases Nat.eq_zero_or_pos k' with rfl | hp
  ·cases hd:l.drop i with
   | nil=>have:=congrArg List.length hd; simp at this; omega
   | cons s r=>rw [hd] at hk; obtain ⟨h1,_⟩:=hk; omega
  ·exact hp
 obtain ⟨a,b,e,ha,hb⟩:=Zky (j:=1) (k:=k' - 1) (l:=l.drop i) (by rw [show 1+(k' - 1)=k' by omega]; exact hk)
 have hs:skip 1 (l.drop i)=a.length:=by rw [e]; exact Zkc b ha
 have ht:tmAt l i=a:=by unfold tmAt; rw [hs,e]; simp
 have hl:a.length+b.length=l.length - i:=by
  have:=congrArg List.length e
  simp at this; omega
 have ha1:=Zdy ha
 refine ⟨by rw [ht]; exact ha,b,by rw [ht]; exact e,?_,by unfold Zbf; omega,by unfold Zbf; omega,by rw [ht,hs]⟩
 unfold Zbf
 rw [hs,← List.drop_drop,e]; simp
theorem Yhi {l:List Sym} {k0:Nat} (h:Wf k0 l):∀ (m:Nat) {p:Nat} {a b:List Sym},l.drop p=a++b→Wf m a→p≤l.length →
  a=((Zba l p m).map (tmAt l)).flatten∧(∀ x ∈ Zba l p m,p≤x∧x<p+a.length)∧Zas l p m=p+a.length:=by
 intro m
 induction m with
 | zero =>
  intro p a b e hw _
  have:a=[]:=by
   cases a with
   | nil=>rfl
   | cons s a=>obtain ⟨h1,_⟩:=hw; omega
  subst this
  exact ⟨rfl,by simp [Zba],rfl⟩
 | succ m ih =>
  intro p a b e hw hp
  obtain ⟨a1,a2,rfl,h1,h2⟩:=Zky (j:=1) (k:=m) (l:=a) (by rw [Nat.add_comm]; exact hw)
  have hl1:=Zdy h1
  have hpl:p<l.length:=by
   have:=congrArg List.length e
   simp at this; omega
  have hs:skip 1 (l.drop p)=a1.length:=by rw [e,Qi]; exact Zkc _ h1
  have ht:tmAt l p=a1:=by unfold tmAt; rw [hs,e]; simp
  have hb:Zbf l p=p+a1.length:=by unfold Zbf; rw [hs]
  have e2:l.drop (Zbf l p)=a2++b:=by rw [hb,← List.drop_drop,e]; simp
  have hbl:Zbf l p≤l.length:=by
   have:=congrArg List.length e
   simp at this; omega
  obtain ⟨g1,g2,g3⟩:=ih e2 h2 hbl
  refine ⟨?_,?_,?_⟩
  ·simp only [Zba,List.map_cons,List.flatten_cons,ht]
   rw [← g1]
  ·intro x hx
   simp only [Zba,Qp] at hx
   simp only [Qg]
   rcases hx with rfl | hx
   ·omega
   ·have:=g2 x hx; omega
  ·rw [Zas,g3,hb,Qg]; omega
theorem Zio:∀ {l:List Sym} {k i:Nat} {s:Sym},Wf k l→l[i]?=some s→(s.name=[]→s.args=0)∧(s.name≠[]→s.num=0):=by
 intro l
 induction l with
 | nil=>intro k i s _ hs; simp at hs
 | cons t l ih =>
  intro k i s h hs
  obtain ⟨_,h1,h2,h3⟩:=h
  cases i with
  | zero=>simp at hs; subst hs; exact ⟨h1,h2⟩
  | succ i=>exact ih h3 (by simpa using hs)
def Zat (l:List Sym) (i:Nat):Sym:=l.getD i ⟨[],0,0⟩
def grOf (l:List Sym):Gr:=⟨l.length,Zat l,fun i=>Zba l (i+1) (Zat l i).args⟩
theorem Zgy {l:List Sym} {k i:Nat} (h:Wf k l) (hi:i<l.length):tmAt l i=Zat l i::((Zba l (i+1) (Zat l i).args).map (tmAt l)).flatten∧(∀ x ∈ Zba l (i+1) (Zat l i).args,i<x∧x<Zbf l i)∧Zas l (i+1) (Zat l i).args=Zbf l i:=by
 obtain ⟨hw,r,e,hr,hb1,hb2,hb3⟩:=Zem h hi
 obtain ⟨s,q,e2,hq,_⟩:=Zul hw
 have hd:l.drop i=l[i]::l.drop (i+1):=List.drop_eq_getElem_cons hi
 rw [e2] at e
 rw [hd] at e
 simp only [List.cons_append,List.cons.injEq] at e
 have hs:Zat l i=s:=by unfold Zat; simp [hi,e.1]
 obtain ⟨g1,g2,g3⟩:=Yhi h s.args e.2 hq (by omega)
 rw [e2] at hb3
 have hlen:Zbf l i=i+1+q.length:=by unfold Zbf; rw [← hb3]; simp; omega
 rw [hs]
 refine ⟨by rw [e2,← g1],fun x hx => ?_,by rw [g3,hlen]⟩
 have:=g2 x hx
 omega
theorem Zkd {a b:List Sym} (h:Wf 1 a):tmAt (a++b) 0=a:=by
 unfold tmAt; rw [List.drop_zero,Zkc b h]; simp
theorem Zip {a b:List Sym} (h:Wf 1 b):tmAt (a++b) a.length=b:=by
 unfold tmAt
 have e:(a++b).drop a.length=b++[]:=by simp
 rw [e,Zkc [] h]; simp
theorem Ybf {a b:List Sym} (ha:Wf 1 a) (hb:Wf 1 b):Lay (grOf (a++b)) (tmAt (a++b)) a b:=by
 have hw:Wf 2 (a++b):=Zff ha hb
 refine ⟨⟨?_,?_,?_,?_⟩,?_,?_⟩
 ·intro i hi x hx
  have:=(Zgy hw hi).2.1 x hx
  obtain ⟨_,_,_,_,_,h2,_⟩:=Zem hw hi
  show x<(a++b).length
  omega
 ·intro i hi; exact (Zcr _ _ _).symm
 ·intro i hi hn
  have hs:(a++b)[i]?=some (Zat (a++b) i):=by
   have hi:i<(a++b).length:=hi
   unfold Zat; simp only [List.getD_eq_getElem?_getD]; rw [Qb hi]; rfl
  have:=(Zio hw hs).1 hn
  show Zba _ _ (Zat (a++b) i).args=[]
  rw [this]; rfl
 ·intro i hi hn
  have hs:(a++b)[i]?=some (Zat (a++b) i):=by
   have hi:i<(a++b).length:=hi
   unfold Zat; simp only [List.getD_eq_getElem?_getD]; rw [Qb hi]; rfl
  exact (Zio hw hs).2 hn
 ·intro i hi; exact (Zgy hw hi).1
 ·intro i hi hn
  have hi:i<(a++b).length:=hi
  have hm:Zat (a++b) i ∈ a++b:=by
   unfold Zat; simp only [List.getD_eq_getElem?_getD]; rw [Qb hi]; exact List.getElem_mem hi
  rcases Qk.1 hm with hm | hm
  ·exact Or.inl ⟨_,hm,hn,rfl⟩
  ·exact Or.inr ⟨_,hm,hn,rfl⟩
def Zbc (l:List Sym) (i:Nat):Nat:=if (Zat l i).name=[] then l.findIdx (fun s=>s.name.isEmpty && s.num == (Zat l i).num) else i
theorem Zjl (l:List Sym) {k:Nat} (hw:Wf k l):Firsts (grOf l) (Zbc l):=by
 have key:∀ i,i<l.length→(Zat l i).name=[]→Zbc l i<l.length∧(Zat l (Zbc l i)).name=[]∧(Zat l (Zbc l i)).num=(Zat l i).num:=by
  intro i hi hn
  unfold Zbc
  rw [if_pos hn]
  have hex:∃ x ∈ l,(x.name.isEmpty && x.num == (Zat l i).num)=true:=by
   refine ⟨Zat l i,?_,by simp [hn]⟩
   unfold Zat; simp only [List.getD_eq_getElem?_getD]; rw [Qb hi]; exact List.getElem_mem hi
  have hlt:=List.findIdx_lt_length_of_exists hex
  refine ⟨hlt,?_⟩
  have:=List.findIdx_getElem (w:=hlt)
  have e:Zat l (l.findIdx (fun s=>s.name.isEmpty && s.num == (Zat l i).num))=l[l.findIdx (fun s=>s.name.isEmpty && s.num == (Zat l i).num)]:=by
   generalize l.findIdx (fun s=>s.name.isEmpty && s.num == (Zat l i).num)=z at hlt
   unfold Zat; simp only [List.getD_eq_getElem?_getD]; rw [Qb hlt]; rfl
  rw [e]
  simpa using this
 refine ⟨⟨?_,?_⟩,?_,?_,?_⟩
 ·intro i hi
  by_cases hn:(Zat l i).name=[]
  ·exact (key i hi hn).1
  ·show Zbc l i<_
   unfold Zbc; rw [if_neg hn]; exact hi
 ·intro i hi
  by_cases hn:(Zat l i).name=[]
  ·obtain ⟨h1,h2,h3⟩:=key i hi hn
   show Zbc l (Zbc l i)=Zbc l i
   have e1:Zbc l (Zbc l i)=l.findIdx (fun s=>s.name.isEmpty && s.num == (Zat l (Zbc l i)).num):=by
    generalize Zbc l i=z at h2
    unfold Zbc; rw [if_pos h2]
   have e2:Zbc l i=l.findIdx (fun s=>s.name.isEmpty && s.num == (Zat l i).num):=by unfold Zbc; rw [if_pos hn]
   rw [e1,h3,← e2]
  ·have e:Zbc l i=i:=by unfold Zbc; rw [if_neg hn]
   rw [e,e]
 ·intro i j hi hj h1 h2 e
  show Zbc l i=Zbc l j
  have h1:(Zat l i).name=[]:=h1
  have h2:(Zat l j).name=[]:=h2
  have e:(Zat l i).num=(Zat l j).num:=e
  unfold Zbc; rw [if_pos h1,if_pos h2,e]
 ·intro i hi hn
  have hn:(Zat l i).name≠[]:=hn
  show Zbc l i=i
  unfold Zbc; rw [if_neg hn]
 ·intro i hi hn
  exact (key i hi hn).2
end Go.Proofs.YtlmjilpjmgjjcaaGreatDoor
namespace Go.Proofs.YtlmjilpjmgjjcaaGreatDoor
open Go.RowKit
structure GC where
 sym:Sym
 behind:Nat
 leader:Nat
 size:Int
def gcV (c:GC):List Value:=[.string ⟨c.sym.name.toArray⟩,.int .i64 c.sym.num,.int .i64 c.sym.args,.int .i64 c.behind,.int .i64 c.leader,.int .i64 c.size]
def gcs (l:List GC):List Value:=l.flatMap gcV
theorem Yjd {l:List GC} {i:Nat} {c:GC} (h:l[i]?=some c) (j:Nat) (hj:j<6):(gcs l)[i * 6+j]?=(gcV c)[j]?:=by
 induction l generalizing i with
 | nil=>simp at h
 | cons a l ih =>
  have hl:(gcV a).length=6:=rfl
  cases i with
  | zero =>
   simp at h; subst h
   show (gcV a++gcs l)[_]?=_
   rw [Qc (by omega)]
   simp
  | succ i =>
   show (gcV a++gcs l)[_]?=_
   rw [Qd (by omega),← ih (by simpa using h),hl]
   congr 1; omega
theorem Yen (l:List GC) (c:GC):gcs (l++[c])=gcs l++gcV c:=by simp [gcs]
theorem Zxq {l:List GC} {x:Nat} {c:GC} {f:GC→GC} {j:Nat} {u:Value} (h:l[x]?=some c) (hj:j<6) (hf:gcV (f c)=(gcV c).set j u):gcs (l.modify x f)=(gcs l).set (x * 6+j) u:=by
 induction l generalizing x with
 | nil=>simp at h
 | cons a l ih =>
  have hl:(gcV a).length=6:=rfl
  cases x with
  | zero =>
   simp at h; subst h
   show gcV (f a)++gcs l=(gcV a++gcs l).set _ _
   rw [List.set_append_left _ _ (by omega),hf]
   simp
  | succ x =>
   show gcV a++gcs (l.modify x f)=(gcV a++gcs l).set _ _
   rw [List.set_append_right _ _ (by omega),ih (by simpa using h),hl]
   congr 2; omega
structure GAt (w:World) (gb:Nat) (v:Value) (gs:List GC):Prop where
 box:w.heap[gb]?=some (.cells #[v] 266 (0,0))
 owns:w.ownsRow 0 292 6 v gs.length (gcs gs)
theorem Zvg {w:World} {B:Nat} {e:TypeId} {size n g cap:Nat} {xs:List Value} (h:w.ownsRow B e size (.slice (some ⟨g,0,none⟩) n cap) n xs) (i:Nat) (u:Value):(w.setCell ⟨g,i,none⟩ u).ownsRow B e size (.slice (some ⟨g,0,none⟩) n cap) n (xs.set i u):=by
 refine ⟨by simpa using h.1,?_⟩
 rcases h.2 with ⟨h1,_⟩ | ⟨g',cap',cur,h1,hb,hg,hn,hc,hs,ht⟩
 ·simp at h1
 ·simp at h1
  obtain ⟨rfl,rfl⟩:=h1
  refine .inr ⟨g,cap,cur.setIfInBounds i u,rfl,hb,Zai hg _ _,hn,hc,by simpa using hs,?_⟩
  rw [← ht]
  simp [List.take_set]
theorem GAt.shape {w:World} {gb:Nat} {v:Value} {gs:List GC} (h:GAt w gb v gs) (hi:0<gs.length):∃ cb cap,v = .slice (some ⟨cb,0,none⟩) gs.length cap∧cb<w.heap.size∧gs.length≤cap∧cb≠gb∧(∀ j,w.frozen? ⟨cb,j,none⟩=false):=by
 obtain ⟨g,cap,cur,rfl,hB,hb,hc⟩:=Zaw h.owns hi
 refine ⟨g,cap,rfl,Zab hb,hc,fun e => ?_,fun j=>Zae hb j⟩
 subst e
 rw [h.box] at hb
 simp at hb
theorem GAt.cell {w:World} {gb cb cap:Nat} {gs:List GC} (h:GAt w gb (.slice (some ⟨cb,0,none⟩) gs.length cap) gs) {i:Nat} {c:GC} (hc:gs[i]?=some c) :
  w.cell? ⟨cb,i * 6,none⟩=some (.string ⟨c.sym.name.toArray⟩)∧w.cell? ⟨cb,i * 6+1,none⟩=some (.int .i64 c.sym.num)∧w.cell? ⟨cb,i * 6+2,none⟩=some (.int .i64 c.sym.args)∧w.cell? ⟨cb,i * 6+3,none⟩=some (.int .i64 c.behind)∧w.cell? ⟨cb,i * 6+4,none⟩=some (.int .i64 c.leader)∧w.cell? ⟨cb,i * 6+5,none⟩=some (.int .i64 c.size):=by
 have e:=fun j hj=>Yjd hc j hj
 refine ⟨Zag h.owns _ _ ?_,Zag h.owns _ _ (by rw [e 1 (by omega)]; rfl),Zag h.owns _ _ (by rw [e 2 (by omega)]; rfl),Zag h.owns _ _ (by rw [e 3 (by omega)]; rfl),Zag h.owns _ _ (by rw [e 4 (by omega)]; rfl),Zag h.owns _ _ (by rw [e 5 (by omega)]; rfl)⟩
 have:=e 0 (by omega)
 simp only [Nat.add_zero] at this
 rw [this]; rfl
theorem GAt.on {w w':World} {gb:Nat} {v:Value} {gs:List GC} (h:GAt w gb v gs) (hk:∀ k,k<w.heap.size→w'.heap[k]?=w.heap[k]?):GAt w' gb v gs :=
 ⟨(hk gb (Zab h.box)).trans h.box,Zal h.owns (fun k e=>hk k (h.owns.lt k e).2)⟩
theorem GAt.ext {w w':World} {gb:Nat} {v:Value} {gs:List GC} (h:GAt w gb v gs) (e:Ext w w'):GAt w' gb v gs:=h.on (fun k hk=>e.block k hk)
theorem GAt.put {w:World} {gb cb cap:Nat} {gs:List GC} (h:GAt w gb (.slice (some ⟨cb,0,none⟩) gs.length cap) gs) {x:Nat} {c:GC} (hc:gs[x]?=some c) {f:GC→GC} {j:Nat} {u:Value} (hj:j<6) (hf:gcV (f c)=(gcV c).set j u) :
  GAt (w.setCell ⟨cb,x * 6+j,none⟩ u) gb (.slice (some ⟨cb,0,none⟩) gs.length cap) (gs.modify x f):=by
 have hne:cb≠gb:=by
  obtain ⟨cb',cap',e,_,_,hne,_⟩:=h.shape (by have:=(Qa.1 hc).1; omega)
  simp at e
  rw [e.1]; exact hne
 refine ⟨(Below.heap_setCell _ _ _ _ (fun e=>hne e.symm)).trans h.box,?_⟩
 rw [Zxq hc hj hf,List.length_modify]
 exact Zvg h.owns _ _
def GC.up (c:GC):CellS:=⟨c.sym,[],c.leader⟩
def Zhg (gs:List GC) (x y:Nat):List GC:=gs.modify x (fun c => { c with leader:=y })
theorem Zvh (gs:List GC) (x y:Nat):(Zhg gs x y).map GC.up=turn (gs.map GC.up) x y:=by
 apply List.ext_getElem?
 intro i
 rw [Zpg,Qj,Zhg,List.getElem?_modify,Qj]
 cases gs[i]? with
 | none=>rfl
 | some c=>simp; split <;> simp_all [GC.up]
theorem Zhp (gs:List GC) (x y:Nat):(Zhg gs x y).length=gs.length:=by simp [Zhg]
structure CellsOf (gs:List GC) (l:List Sym):Prop where
 len:gs.length=l.length
 all:∀ i c,gs[i]?=some c→c.sym=Zat l i∧c.behind=Zbf l i
theorem CellsOf.lead {gs:List GC} {l:List Sym} (h:CellsOf gs l) (x y:Nat):CellsOf (Zhg gs x y) l :=
 ⟨by rw [Zhp]; exact h.len,fun i c hc=>by
  rw [Zhg,List.getElem?_modify] at hc
  cases hd:gs[i]? with
  | none=>rw [hd] at hc; simp at hc
  | some d =>
   rw [hd] at hc
   obtain ⟨h1,h2⟩:=h.all i d hd
   simp only [Option.map_eq_map,Option.map_some,Qo] at hc
   subst hc
   split <;> exact ⟨h1,h2⟩⟩
theorem Zfv (w:World) (gb:Nat) (v:Value) (gs:List GC) (ρ rk:Nat→Nat) (i:Nat) (h:GAt w gb v gs) (hu:UpOk (gs.map GC.up) ρ rk) (hi:i<gs.length) (hl:gs.length≤4000) :
  Calls Tryz.prog 189 #[.pointer (some ⟨gb,0,none⟩),.int .i64 i] w fun e w'=>e = .returned (.int .i64 (ρ i))∧w'=w:=by
 obtain ⟨cb,cap,rfl,hcb,hcap,_,_⟩:=h.shape (by omega)
 have b0:w.cell? ⟨gb,0,none⟩=some (.slice (some ⟨cb,0,none⟩) gs.length cap):=Zaa h.box 0 _ rfl
 have hgb:=Zab h.box
 have H:=Zac h
 have Hu:=Zac hu
 clear h hu
 go_enter Tryz.func189,Tryz.ntmps189
 go_wp2
 go_loopg [1] (rk i+1) (fun gk iv wr=>∃ (k:Nat),iv = .int .i64 k∧k<gs.length∧rk k<gk∧ρ k=ρ i∧wr=w)
 case atStart=>exact ⟨i,rfl,hi,by omega,rfl,rfl⟩
 case round =>
  obtain ⟨k,rfl,hk,hg,hρ,rfl⟩:=hrel
  obtain ⟨c,hc⟩:∃ c,gs[k]?=some c:=⟨_,Qb hk⟩
  obtain ⟨c0,c1,c2,c3,c4,c5⟩:=H.out.cell hc
  obtain ⟨h1,h2,h3,h4⟩:=Hu.out k c.up (by rw [Qj,hc]; rfl)
  have h1:c.leader<gs.length:=by simpa [GC.up] using h1
  have h2:ρ c.leader=ρ k:=h2
  by_cases e:c.leader=k
  ·have e':((c.leader:Int) != (k:Int))=false:=by rw [e]; simp
   have Hr:=Zac (h3 e)
   have Hρ:=Zac hρ
   clear hc h2 h3 h4 hρ
   go_wp2
   go_ret
   exact ⟨by rw [← Hρ.out,Hr.out]; rfl,rfl⟩
  ·have e':((c.leader:Int) != (k:Int))=true:=by rw [bne_iff_ne]; omega
   have Hr:=Zac (h2.trans hρ)
   have h4':=h4 e
   clear hc h2 h3 h4 hρ
   go_wp2
   go_roundg (rk k)
   case measure=>omega
   case rel=>exact ⟨c.leader,rfl,h1,h4',Hr.out,rfl⟩
theorem Zig (w:World) (gb:Nat) (v:Value) (gs:List GC) (i:Nat) (c:GC) (h:GAt w gb v gs) (hc:gs[i]?=some c) (hl:gs.length≤4000) :
  Calls Tryz.prog 190 #[.pointer (some ⟨gb,0,none⟩),.int .i64 i] w fun e w'=>e = .returned (.bool c.sym.name.isEmpty)∧w'=w:=by
 have hi:=(Qa.1 hc).1
 obtain ⟨cb,cap,rfl,hcb,hcap,_,_⟩:=h.shape (by omega)
 have b0:w.cell? ⟨gb,0,none⟩=some (.slice (some ⟨cb,0,none⟩) gs.length cap):=Zaa h.box 0 _ rfl
 have hgb:=Zab h.box
 obtain ⟨c0,c1,c2,c3,c4,c5⟩:=h.cell hc
 clear h hc
 go_enter Tryz.func190,Tryz.ntmps190
 go_wp2
 go_ret
 exact ⟨by simp,rfl⟩
def Zdw (s t:Sym):Bool:=s.name.isEmpty && (t.name.isEmpty && s.num == t.num)
theorem Zxr (w:World) (s t:Sym) :
  Calls Tryz.prog 207 #[.agg #[.string ⟨s.name.toArray⟩,.int .i64 s.num,.int .i64 s.args],.agg #[.string ⟨t.name.toArray⟩,.int .i64 t.num,.int .i64 t.args]] w fun e w'=>e = .returned (.bool (Zdw s t))∧Ext w w':=by
 have Hs:Hid (∀ a b c,a=s.name.isEmpty→b=t.name.isEmpty→c=(s.num == t.num)→Zdw s t=(a && (b && c))):=fun a b c h1 h2 h3=>by rw [h1,h2,h3]; rfl
 cases h1:s.name.isEmpty with
 | false =>
  go_enter Tryz.func207,Tryz.ntmps207
  go_wp2
  go_ret
  refine ⟨?_,(Ext.of (by repeat' (first | with_reducible(first|exact Qx _ _|apply Kept.drew|apply Kept.drewN|apply Qz|refine Qy ?_ ?_ _)|exact fun h=>absurd h (by simp <;> omega))))⟩
  rw [Hs.out false _ _ h1.symm rfl rfl]; rfl
 | true =>
  cases h2:t.name.isEmpty with
  | false =>
   go_enter Tryz.func207,Tryz.ntmps207
   go_wp2
   go_ret
   refine ⟨?_,(Ext.of (by repeat' (first | with_reducible(first|exact Qx _ _|apply Kept.drew|apply Kept.drewN|apply Qz|refine Qy ?_ ?_ _)|exact fun h=>absurd h (by simp <;> omega))))⟩
   rw [Hs.out true false _ h1.symm h2.symm rfl]; rfl
  | true =>
   have Hn:Hid (((s.num:Int) == (t.num:Int))=(s.num == t.num)):=by
    show _=_
    rw [Bool.eq_iff_iff,beq_iff_eq,beq_iff_eq]; omega
   go_enter Tryz.func207,Tryz.ntmps207
   go_wp2
   go_ret
   refine ⟨?_,(Ext.of (by repeat' (first | with_reducible(first|exact Qx _ _|apply Kept.drew|apply Kept.drewN|apply Qz|refine Qy ?_ ?_ _)|exact fun h=>absurd h (by simp <;> omega))))⟩
   rw [Hs.out true true _ h1.symm h2.symm rfl,← Hn.out]; rfl
theorem Joined.swap {G:Gr} {ρ ρ':Nat→Nat} {xs ys:List Nat} (h:Joined G ρ ρ' xs ys):Joined G ρ ρ' ys xs:=⟨h.rt,h.grow,h.eq.symm,h.cg,fun val hv hc e=>h.con val hv hc e.symm⟩
theorem Clash.swap {G:Gr} {ρ:Nat→Nat} {xs ys:List Nat} (h:Clash G ρ xs ys):Clash G ρ ys xs:=fun val hv hc e=>h val hv hc e.symm
theorem Yhj {l:List Sym} (hw:Wf 2 l):∃ a b,l=a++b∧Wf 1 a∧Wf 1 b∧Lay (grOf l) (tmAt l) a b:=by
  obtain ⟨a,b,e,ha,hb⟩:=Zky (j:=1) (k:=1) hw
  exact ⟨a,b,e,ha,hb,by rw [e]; exact Ybf ha hb⟩
theorem Yeo {l:List Sym} (hw:Wf 2 l):(grOf l).Ok:=by
  obtain ⟨a,b,_,_,_,h⟩:=Yhj hw
  exact h.ok
structure JoinLeft (gb:Nat) (v:Value) (gs:List GC) (l:List Sym) (w w':World) (gs':List GC):Prop where
  at':GAt w' gb v gs'
  cells:CellsOf gs' l
  sizes:gs'.map (·.size)=gs.map (·.size)
  kept:Kept (Zbl v) w w'
  roots:Zgd (gs'.map GC.up)≤Zgd (gs.map GC.up)
def Yhk (gb:Nat) (v:Value) (gs:List GC) (l:List Sym) (ρ:Nat→Nat) (a b:Nat) (w:World) (e:Ending) (w':World):Prop:=∃ gs',JoinLeft gb v gs l w w' gs'∧∃ ρ' rk',UpOk (gs'.map GC.up) ρ' rk' ∧
  ((e = .returned (.bool true)∧Joined (grOf l) ρ ρ' [a] [b])∨(e = .returned (.bool false)∧Clash (grOf l) ρ [a] [b]))
def Zpp (m:Nat):Prop:=∀ (w:World) (gb:Nat) (v:Value) (gs:List GC) (l:List Sym) (ρ rk:Nat→Nat) (a b:Nat),GAt w gb v gs→CellsOf gs l→Wf 2 l→UpOk (gs.map GC.up) ρ rk→Zgd (gs.map GC.up)≤m→a<gs.length→b<gs.length→gs.length≤4000 →
  Calls Tryz.prog 158 #[.pointer (some ⟨gb,0,none⟩),.int .i64 a,.int .i64 b] w fun e w'=>Yhk gb v gs l ρ a b w e w'
abbrev kidsAt (l:List Sym) (x:Nat):List Nat:=(grOf l).kids x
def Zrq (gb:Nat) (v:Value) (gs:List GC) (l:List Sym) (ρ:Nat→Nat) (x y:Nat) (w:World) (e:Ending) (w':World):Prop:=∃ gs',JoinLeft gb v gs l w w' gs'∧∃ ρ' rk',UpOk (gs'.map GC.up) ρ' rk' ∧
    ((e = .returned (.bool true)∧(Zat l x).name=(Zat l y).name∧(Zat l x).args=(Zat l y).args∧Joined (grOf l) ρ ρ' (kidsAt l x) (kidsAt l y)) ∨
     (e = .returned (.bool false)∧((Zat l x).name≠(Zat l y).name∨(Zat l x).args≠(Zat l y).args∨Clash (grOf l) ρ (kidsAt l x) (kidsAt l y))))
def Znw (m:Nat):Prop:=∀ (w:World) (gb:Nat) (v:Value) (gs:List GC) (l:List Sym) (ρ rk:Nat→Nat) (x y:Nat),GAt w gb v gs→CellsOf gs l→Wf 2 l→UpOk (gs.map GC.up) ρ rk→Zgd (gs.map GC.up)≤m→x<gs.length→y<gs.length→gs.length≤4000 →
  Calls Tryz.prog 191 #[.pointer (some ⟨gb,0,none⟩),.int .i64 x,.int .i64 y] w fun e w'=>Zrq gb v gs l ρ x y w e w'
theorem JoinLeft.trans {gb:Nat} {v:Value} {gs gs1 gs2:List GC} {l:List Sym} {w w1 w2:World} (h:JoinLeft gb v gs l w w1 gs1) (k:JoinLeft gb v gs1 l w1 w2 gs2):JoinLeft gb v gs l w w2 gs2 :=
  ⟨k.at',k.cells,k.sizes.trans h.sizes,h.kept.trans k.kept,Qq k.roots h.roots⟩
theorem JoinLeft.len {gb:Nat} {v:Value} {gs:List GC} {l:List Sym} {w w':World} {gs':List GC} (h:JoinLeft gb v gs l w w' gs'):gs'.length=gs.length:=by simpa using congrArg List.length h.sizes
theorem Ybg {l:List Sym} {x k m:Nat} (h:k≤m):(Zba l x m).take k=Zba l x k:=by
  induction m generalizing x k with
  | zero =>
    have:k=0:=by omega
    subst this; rfl
  | succ m ih =>
    cases k with
    | zero=>rfl
    | succ k=>simp only [Zba,List.take_succ_cons]; rw [ih (by omega)]
theorem Zrr (l:List Sym) (x k:Nat):Zba l x (k+1)=Zba l x k++[Zas l x k]:=by
  induction k generalizing x with
  | zero=>rfl
  | succ k ih =>
    have e:Zba l x (k+1+1)=x::Zba l (Zbf l x) (k+1):=rfl
    rw [e,ih]
    rfl
theorem Zmn {l:List Nat} {k n:Nat} (h:l[k]?=some n):l=l.take k++n::l.drop (k+1):=by
  obtain ⟨hk,e⟩:=Qa.1 h
  have:=List.drop_eq_getElem_cons hk
  rw [e] at this
  rw [← this,List.take_append_drop]
theorem Znx {l:List Sym} {x k m:Nat} (h:k<m):Zba l x m=Zba l x k++Zas l x k::(Zba l x m).drop (k+1):=by
  have h2:=Zbx l x m k h
  have:=Zmn h2
  rw [Ybg (by omega)] at this
  exact this
theorem Ztn (m:Nat) (IH:Zpp m):Znw m:=by
  intro w gb v gs l ρ rk x y h hc hw hu hm hx hy hl
  obtain ⟨cx,hcx⟩:∃ c,gs[x]?=some c:=⟨_,Qb hx⟩
  obtain ⟨cy,hcy⟩:∃ c,gs[y]?=some c:=⟨_,Qb hy⟩
  obtain ⟨cb,cap,rfl,hcb,hcap,hne,hfz⟩:=h.shape (by omega)
  have b0:w.cell? ⟨gb,0,none⟩=some (.slice (some ⟨cb,0,none⟩) gs.length cap):=Zaa h.box 0 _ rfl
  have hgb:=Zab h.box
  obtain ⟨x0,x1,x2,_,_,_⟩:=h.cell hcx
  obtain ⟨y0,y1,y2,_,_,_⟩:=h.cell hcy
  obtain ⟨sx,_⟩:=hc.all x cx hcx
  obtain ⟨sy,_⟩:=hc.all y cy hcy
  have hlen:=hc.len
  obtain ⟨ex1,ex2,ex3⟩:=Zgy hw (i:=x) (by omega)
  obtain ⟨ey1,ey2,ey3⟩:=Zgy hw (i:=y) (by omega)
  obtain ⟨_,_,_,_,_,hbx,_⟩:=Zem hw (i:=x) (by omega)
  obtain ⟨_,_,_,_,_,hby,_⟩:=Zem hw (i:=y) (by omega)
  have hkl:∀ k,k<(Zat l x).args→Zas l (x+1) k<gs.length:=fun k hk=>by
    have:=ex2 _ (Qh (Zbx l (x+1) _ k hk))
    omega
  have hkr:∀ k,k<(Zat l y).args→Zas l (y+1) k<gs.length:=fun k hk=>by
    have:=ey2 _ (Qh (Zbx l (y+1) _ k hk))
    omega
  have hargs:(Zat l x).args≤4000:=by
    have h1:=congrArg List.length ex1
    have h2:=Zcr l (x+1) (Zat l x).args
    rcases Nat.lt_or_ge 4000 (Zat l x).args with h3 | h3
    · exfalso
      have h4:=hkl 4000 h3
      have mono:∀ k,k≤(Zat l x).args→x+1+k≤Zas l (x+1) k:=by
        intro k
        induction k with
        | zero=>intro _; simp [Zas]
        | succ k ih =>
          intro hk
          have:=ih (by omega)
          rw [Zbz]
          have:=hkl k (by omega)
          obtain ⟨_,_,_,_,h6,_⟩:=Zem hw (i:=Zas l (x+1) k) (by omega)
          omega
      have:=mono 4000 (by omega)
      omega
    · exact h3
  rw [sx] at x0 x1 x2
  rw [sy] at y0 y1 y2
  obtain ⟨s,hs⟩:∃ s,s=Zat l x:=⟨_,rfl⟩
  obtain ⟨t,ht⟩:∃ t,t=Zat l y:=⟨_,rfl⟩
  rw [← hs] at x0 x1 x2 hkl hargs
  rw [← ht] at y0 y1 y2 hkr
  have Hs:=Zac hs
  have Ht:=Zac ht
  have H:=Zac h
  have Hc:=Zac hc
  have Hw:=Zac hw
  have Hu:=Zac hu
  have Hm:=Zac hm
  have Hih:=Zac IH
  have Hkl:=Zac hkl
  have Hkr:=Zac hkr
  have Hkx:Hid (kidsAt l x=Zba l (x+1) s.args):=by show _=_; rw [hs]; rfl
  have Hky:Hid (kidsAt l y=Zba l (y+1) t.args):=by show _=_; rw [ht]; rfl
  have hxl:x<l.length:=by omega
  have hyl:y<l.length:=by omega
  clear h hc hw hu hm IH hkl hkr hcx hcy sx sy ex1 ex2 ex3 ey1 ey2 ey3 hbx hby hlen hs ht
  have Hno:Hid (∀ w',Kept Zcu w w'→(s.name≠t.name∨s.args≠t.args)→Zrq gb (.slice (some ⟨cb,0,none⟩) gs.length cap) gs l ρ x y w (.returned (.bool false)) w'):=fun w' hk hd=>by
    refine ⟨gs,⟨H.out.on (fun k hk'=>hk.block k hk' (fun h=>h)),Hc.out,rfl,hk.mono (fun _ _ h=>h.elim),Qe _⟩,ρ,rk,Hu.out,Or.inr ⟨rfl,?_⟩⟩
    rw [← Hs.out,← Ht.out]
    rcases hd with hd | hd
    · exact Or.inl hd
    · exact Or.inr (Or.inl hd)
  by_cases hnm:s.name=t.name
  · by_cases har:s.args=t.args
    · have hnb:(s.name != t.name)=false:=by rw [hnm]; simp
      have hab:((s.args:Int) != (t.args:Int))=false:=by rw [har]; simp
      have Hnm:=Zac hnm
      have Har:=Zac har
      clear hnm har
      go_enter Tryz.func191,Tryz.ntmps191
      go_wp2
      go_loopg [9,10,11] (s.args+1) (fun gk av bv nv wr=>∃ (k:Nat) (gs':List GC) (ρ' rk':Nat→Nat),av = .int .i64 (Zas l (x+1) k:Nat)∧bv = .int .i64 (Zas l (y+1) k:Nat)∧nv = .int .i64 k∧k≤s.args∧s.args - k<gk∧JoinLeft gb (.slice (some ⟨cb,0,none⟩) gs.length cap) gs l w wr gs'∧UpOk (gs'.map GC.up) ρ' rk' ∧
        Joined (grOf l) ρ ρ' (Zba l (x+1) k) (Zba l (y+1) k)∧wr.heap[w.heap.size]?=some (.cells #[.string ⟨t.name.toArray⟩,.int .i64 s.num,.int .i64 s.args] 133 (0,0)))
      case atStart =>
        have hrt:=Hu.out.rt
        rw [Ql,Hc.out.len] at hrt
        refine ⟨0,gs,ρ,rk,by simp [Zas],by simp [Zas],by go_num,Qm _,by omega,⟨H.out.ext (Ext.of (by repeat' (first | with_reducible(first|exact Qx _ _|apply Kept.drew|apply Kept.drewN|apply Qz|refine Qy ?_ ?_ _)|exact fun h=>absurd h (by simp <;> omega)))),Hc.out,rfl,((Qx _ w).alloc _).alloc _,Qe _⟩,Hu.out,Joined.nil hrt,?_⟩
        have:=Zav (heap_alloc_new w (.cells #[.string ⟨t.name.toArray⟩,.int .i64 s.num,.int .i64 s.args] 133)) (.cells #[.string ⟨t.name.toArray⟩,.int .i64 t.num,.int .i64 t.args] 133)
        simpa using this
      case round =>
        obtain ⟨k,gs',ρ',rk',rfl,rfl,rfl,hk,hgk,hJ,hup,hj,hbox⟩:=hrel
        obtain ⟨s0,s1,s2,sf⟩:=box3 hbox
        have hsr:=hJ.kept.size
        have hl':=hJ.len
        have b0:wr.cell? ⟨gb,0,none⟩=some (.slice (some ⟨cb,0,none⟩) gs.length cap):=Zaa hJ.at'.box 0 _ rfl
        have hgb':=Zab hJ.at'.box
        have hwb:=Zab hbox
        have HJ:=Zac hJ
        have Hup:=Zac hup
        have Hj:=Zac hj
        have Hbox:=Zac hbox
        clear hJ hup hj hbox
        by_cases hlt:k<s.args
        · have ha:=Hkl.out k hlt
          have hb:=Hkr.out k (by have:=Har.out; omega)
          obtain ⟨ak,hak⟩:∃ a,a=Zas l (x+1) k:=⟨_,rfl⟩
          obtain ⟨bk,hbk⟩:∃ b,b=Zas l (y+1) k:=⟨_,rfl⟩
          rw [← hak] at ha ⊢
          rw [← hbk] at hb ⊢
          have hna:¬ ((gs.length:Int)≤(ak:Int)):=by omega
          have hnb2:¬ ((gs.length:Int)≤(bk:Int)):=by omega
          have HI:=Zac (Hih.out wr gb (.slice (some ⟨cb,0,none⟩) gs.length cap) gs' l ρ' rk' ak bk HJ.out.at' HJ.out.cells Hw.out Hup.out (Qq HJ.out.roots Hm.out) (by omega) (by omega) (by omega))
          have Hak:=Zac hak
          have Hbk:=Zac hbk
          clear hak hbk
          go_wp2_with fail
          refine HI.out.mono ?_
          rintro e w1 ⟨gs2,hJ2,ρ2,rk2,hup2,hres⟩
          have hl2:=hJ2.len
          have hbox2:=(hJ2.kept.block _ hwb (fun e=>by
            have e:cb=w.heap.size:=by simpa [Zbl,Value.ownBlock] using e
            omega)).trans Hbox.out
          have b0:w1.cell? ⟨gb,0,none⟩=some (.slice (some ⟨cb,0,none⟩) gs.length cap):=Zaa hJ2.at'.box 0 _ rfl
          have hgb2:=Zab hJ2.at'.box
          have hs2:=hJ2.kept.size
          obtain ⟨ca,hca⟩:∃ c,gs2[ak]?=some c:=⟨_,Qb (by omega)⟩
          obtain ⟨cb2,hcb2⟩:∃ c,gs2[bk]?=some c:=⟨_,Qb (by omega)⟩
          have hat2:GAt w1 gb (.slice (some ⟨cb,0,none⟩) gs2.length cap) gs2:=by rw [hl2,hl']; exact hJ2.at'
          obtain ⟨_,_,_,a3,_,_⟩:=hat2.cell hca
          obtain ⟨_,_,_,b3,_,_⟩:=hat2.cell hcb2
          rw [(hJ2.cells.all _ _ hca).2] at a3
          rw [(hJ2.cells.all _ _ hcb2).2] at b3
          have HJ2:=Zac hJ2
          have Hup2:=Zac hup2
          have Hbox2:=Zac hbox2
          clear hJ2 hup2 hbox2 hat2 hca hcb2
          rcases hres with ⟨rfl,hj2⟩ | ⟨rfl,hcl⟩
          · have Hj2:=Zac hj2
            clear hj2
            go_wp2
            go_roundg (s.args - k)
            case measure=>omega
            case rel =>
              refine ⟨k+1,gs2,ρ2,rk2,by rw [Zbz,← Hak.out],by rw [Zbz,← Hbk.out],by go_num,by omega,by omega,HJ.out.trans HJ2.out,Hup2.out,?_,Hbox2.out⟩
              rw [Zrr,Zrr,← Hak.out,← Hbk.out]
              have hG:=Yeo Hw.out
              refine Joined.snoc hG Hj.out Hj2.out (fun j hj => ?_) (fun j hj => ?_)
              · obtain ⟨i,hi⟩:=List.mem_iff_getElem?.1 hj
                have hi2:=(Qa.1 hi).1
                rw [Zcr] at hi2
                rw [Zbx l (x+1) k i hi2] at hi
                simp at hi
                subst hi
                have:=Hkl.out i (by omega)
                show _<l.length
                have:=Hc.out.len; omega
              · obtain ⟨i,hi⟩:=List.mem_iff_getElem?.1 hj
                have hi2:=(Qa.1 hi).1
                rw [Zcr] at hi2
                rw [Zbx l (y+1) k i hi2] at hi
                simp at hi
                subst hi
                have:=Hkr.out i (by have:=Har.out; omega)
                show _<l.length
                have:=Hc.out.len; omega
          · have Hcl:=Zac hcl
            clear hcl
            go_wp2
            go_ret
            refine ⟨gs2,HJ.out.trans HJ2.out,ρ2,rk2,Hup2.out,Or.inr ⟨rfl,Or.inr (Or.inr ?_)⟩⟩
            have hc1:=Hcl.out
            rw [Hak.out,Hbk.out] at hc1
            have:=Clash.snoc Hj.out hc1 ((Zba l (x+1) s.args).drop (k+1)) ((Zba l (y+1) t.args).drop (k+1))
            rw [← Znx hlt,← Znx (by have:=Har.out; omega)] at this
            rw [Hkx.out,Hky.out]; exact this
        · have hek:k=s.args:=by omega
          subst hek
          go_wp2
          go_ret
          refine ⟨gs',HJ.out,ρ',rk',Hup.out,Or.inl ⟨rfl,?_,?_,?_⟩⟩
          · rw [← Hs.out,← Ht.out]; exact Hnm.out
          · rw [← Hs.out,← Ht.out]; exact Har.out
          · rw [Hkx.out,Hky.out,← Har.out]; exact Hj.out
    · have hnb:(s.name != t.name)=false:=by rw [hnm]; simp
      have hab:((s.args:Int) != (t.args:Int))=true:=by rw [bne_iff_ne]; omega
      have Hd:=Zac har
      clear hnm har
      go_enter Tryz.func191,Tryz.ntmps191
      go_wp2
      all_goals
        go_ret
        exact Hno.out _ (((Qx _ w).alloc _).alloc _) (Or.inr Hd.out)
  · have hnb:(s.name == t.name)=false:=by simpa using hnm
    have Hd:=Zac hnm
    clear hnm
    go_enter Tryz.func191,Tryz.ntmps191
    go_wp2
    all_goals
      go_ret
      exact Hno.out _ (((Qx _ w).alloc _).alloc _) (Or.inl Hd.out)
theorem Ybh (m:Nat) (IH:∀ k,k<m→Znw k):Zpp m:=by
  intro w gb v gs l ρ rk a b h hc hw hu hm ha hb hl
  have hrt:=hu.rt
  rw [Ql] at hrt
  have hx:=hrt.lt a ha
  have hy:=hrt.lt b hb
  have rx:=hrt.idem a ha
  have ry:=hrt.idem b hb
  obtain ⟨x,hxe⟩:∃ x,x=ρ a:=⟨_,rfl⟩
  obtain ⟨y,hye⟩:∃ y,y=ρ b:=⟨_,rfl⟩
  rw [← hxe] at hx rx
  rw [← hye] at hy ry
  obtain ⟨cx,hcx⟩:∃ c,gs[x]?=some c:=⟨_,Qb hx⟩
  obtain ⟨cy,hcy⟩:∃ c,gs[y]?=some c:=⟨_,Qb hy⟩
  obtain ⟨cb,cap,rfl,hcb,hcap,hne,hfz⟩:=h.shape (by omega)
  have b0:w.cell? ⟨gb,0,none⟩=some (.slice (some ⟨cb,0,none⟩) gs.length cap):=Zaa h.box 0 _ rfl
  have hgb:=Zab h.box
  have x4:=(h.cell hcx).2.2.2.2.1
  have y4:=(h.cell hcy).2.2.2.2.1
  obtain ⟨sx,_⟩:=hc.all x cx hcx
  obtain ⟨sy,_⟩:=hc.all y cy hcy
  have hlen:=hc.len
  rw [hlen] at hrt
  have hG:=Yeo hw
  have Hra:=Zac (Zfv w gb _ gs ρ rk a h hu ha hl)
  have Hrb:=Zac (Zfv w gb _ gs ρ rk b h hu hb hl)
  rw [← hxe] at Hra
  rw [← hye] at Hrb
  have HVx:=Zac (Zig w gb _ gs x cx h hcx hl)
  have hax:a<(grOf l).n:=by show a<l.length; omega
  have hbx:b<(grOf l).n:=by show b<l.length; omega
  have hul:∀ x y,x<gs.length→y<gs.length→ρ x=x→ρ y=y→x≠y→UpOk ((Zhg gs x y).map GC.up) (mg ρ x y) (fun i=>if ρ i=x then rk i+rk y+1 else rk i):=fun x y h1 h2 h3 h4 h5=>by
    rw [Zvh]
    exact hu.turn (by simpa using h1) (by simpa using h2) h3 h4 h5
  have hro:∀ x y,x<gs.length→ρ x=x→x≠y→Zgd ((Zhg gs x y).map GC.up)<Zgd (gs.map GC.up):=fun x y h1 h3 h5=>by
    rw [Zvh]
    obtain ⟨c',e1,e2,_⟩:=hu.root _ x _ (Qe _) (Qb (by simpa using h1))
    rw [h3] at e1 e2
    exact Zra e1 e2 h5
  have hla:∀ (x y:Nat) c,gs[x]?=some c→GAt (w.setCell ⟨cb,x * 6+4,none⟩ (.int .i64 y)) gb (.slice (some ⟨cb,0,none⟩) gs.length cap) (Zhg gs x y):=fun x y c h1=>h.put h1 (f:=fun c => { c with leader:=y }) (by omega) rfl
  have hsz:∀ x y,(Zhg gs x y).map (·.size)=gs.map (·.size):=fun x y=>by
    apply List.ext_getElem?
    intro i
    rw [Qj,Qj,Zhg,List.getElem?_modify]
    cases gs[i]? with
    | none=>rfl
    | some c=>simp; split <;> rfl
  have hkp:∀ i u,Kept (Zbl (.slice (some ⟨cb,0,none⟩) gs.length cap)) w (w.setCell ⟨cb,i,none⟩ u):=fun i u=>(Qx _ w).setCell (p:=⟨cb,i,none⟩) (fun _=>(rfl:some cb=some cb)) u
  have H:=Zac h
  have Hc:=Zac hc
  have Hw:=Zac hw
  have Hu:=Zac hu
  have Hm:=Zac hm
  have Hrt:=Zac hrt
  have HG:=Zac hG
  have Hih:=Zac IH
  have Hxe:=Zac hxe
  have Hye:=Zac hye
  have Hrx:=Zac rx
  have Hry:=Zac ry
  have Hcx:=Zac hcx
  have Hcy:=Zac hcy
  have Hul:=Zac hul
  have Hro:=Zac hro
  have Hla:=Zac hla
  have Hsz:=Zac hsz
  have Hkp:=Zac hkp
  have Hsx:=Zac sx
  have Hsy:=Zac sy
  clear h hc hw hu hm hrt hG IH hxe hye rx ry hcx hcy hul hro hla hsz hkp sx sy
  by_cases hxy:x=y
  · have hxy':((x:Int) == (y:Int))=true:=by rw [beq_iff_eq]; omega
    have Hxy:=Zac hxy
    clear hxy
    go_enter Tryz.func158,Tryz.ntmps158
    go_wp2_with fail
    refine Hra.out.mono ?_
    rintro e w1 ⟨rfl,rfl⟩
    go_wp2_with fail
    refine Hrb.out.mono ?_
    rintro e w1 ⟨rfl,rfl⟩
    go_wp2
    go_ret
    exact ⟨gs,⟨H.out,Hc.out,rfl,Qx _ _,Qe _⟩,ρ,rk,Hu.out,Or.inl ⟨rfl,Joined.same Hrt.out (Hxe.out.symm.trans (Hxy.out.trans Hye.out))⟩⟩
  · have hxy':((x:Int) == (y:Int))=false:=by rw [Qu]; omega
    have Hxy:=Zac hxy
    clear hxy
    by_cases hvx:cx.sym.name=[]
    · have hv:cx.sym.name.isEmpty=true:=by simpa using hvx
      rw [hv] at HVx
      go_enter Tryz.func158,Tryz.ntmps158
      go_wp2_with fail
      refine Hra.out.mono ?_
      rintro e w1 ⟨rfl,rfl⟩
      go_wp2_with fail
      refine Hrb.out.mono ?_
      rintro e w1 ⟨rfl,rfl⟩
      go_wp2_with fail
      refine HVx.out.mono ?_
      rintro e w1 ⟨rfl,rfl⟩
      go_wp2
      go_ret
      exact ⟨Zhg gs x y,⟨Hla.out x y cx Hcx.out,Hc.out.lead _ _,Hsz.out _ _,Hkp.out _ _,Nat.le_of_lt (Hro.out x y hx Hrx.out Hxy.out)⟩,_,_,Hul.out x y hx hy Hrx.out Hry.out Hxy.out,
        Or.inl ⟨rfl,Joined.var Hrt.out hax hbx (Or.inl ⟨Hxe.out,Hye.out⟩) Hxy.out (by show (Zat l x).name=[]; rw [← Hsx.out]; exact hvx)⟩⟩
    · have hv:cx.sym.name.isEmpty=false:=by simpa using hvx
      rw [hv] at HVx
      obtain ⟨W1,hW1⟩:∃ W,W=w.setCell ⟨cb,y * 6+4,none⟩ (.int .i64 x):=⟨_,rfl⟩
      have hA1:=Hla.out y x cy Hcy.out
      rw [← hW1] at hA1
      have hyx:y≠x:=fun e=>Hxy.out e.symm
      have hcy1:(Zhg gs y x)[y]?=some { cy with leader:=x }:=by
        rw [Zhg,List.getElem?_modify,Hcy.out]; simp
      have HVy:=Zac (Zig W1 gb _ (Zhg gs y x) y _ hA1 hcy1 (by rw [Zhp]; exact hl))
      have HK1:Hid (Kept (Zbl (.slice (some ⟨cb,0,none⟩) gs.length cap)) w W1):=by rw [hW1]; exact Hkp.out _ _
      have HA1:=Zac hA1
      have HW1:=Zac hW1
      clear hA1 hW1 hcy1
      by_cases hvy:cy.sym.name=[]
      · have hv2:cy.sym.name.isEmpty=true:=by simpa using hvy
        rw [hv2] at HVy
        go_enter Tryz.func158,Tryz.ntmps158
        go_wp2_with fail
        refine Hra.out.mono ?_
        rintro e w1 ⟨rfl,rfl⟩
        go_wp2_with fail
        refine Hrb.out.mono ?_
        rintro e w1 ⟨rfl,rfl⟩
        go_wp2_with fail
        refine HVx.out.mono ?_
        rintro e w1 ⟨rfl,rfl⟩
        go_wp2_with fail
        rw [← HW1.out]
        refine HVy.out.mono ?_
        rintro e w2 ⟨rfl,rfl⟩
        go_wp2
        go_ret
        exact ⟨Zhg gs y x,⟨HA1.out,Hc.out.lead _ _,Hsz.out _ _,HK1.out,Nat.le_of_lt (Hro.out y x hy Hry.out hyx)⟩,_,_,Hul.out y x hy hx Hry.out Hrx.out hyx,
          Or.inl ⟨rfl,Joined.var Hrt.out hax hbx (Or.inr ⟨Hye.out,Hxe.out⟩) hyx (by show (Zat l y).name=[]; rw [← Hsy.out]; exact hvy)⟩⟩
      · have hv2:cy.sym.name.isEmpty=false:=by simpa using hvy
        rw [hv2] at HVy
        have hro1:=Hro.out y x hy Hry.out hyx
        have HI:=Zac (Hih.out (Zgd ((Zhg gs y x).map GC.up)) (by have:=Hm.out; omega) W1 gb (.slice (some ⟨cb,0,none⟩) gs.length cap) (Zhg gs y x) l (mg ρ y x) _ x y HA1.out (Hc.out.lead _ _) Hw.out (Hul.out y x hy hx Hry.out Hrx.out hyx) (Qe _) (by rw [Zhp]; exact hx) (by rw [Zhp]; exact hy) (by rw [Zhp]; exact hl))
        have Hnx:Hid ((Zat l x).name≠[]):=by show _≠_; rw [← Hsx.out]; exact hvx
        have Hny:Hid ((Zat l y).name≠[]):=by show _≠_; rw [← Hsy.out]; exact hvy
        have Hrl:=Zac hro1
        clear hvx hvy hro1
        go_enter Tryz.func158,Tryz.ntmps158
        go_wp2_with fail
        refine Hra.out.mono ?_
        rintro e w1 ⟨rfl,rfl⟩
        go_wp2_with fail
        refine Hrb.out.mono ?_
        rintro e w1 ⟨rfl,rfl⟩
        go_wp2_with fail
        refine HVx.out.mono ?_
        rintro e w1 ⟨rfl,rfl⟩
        go_wp2_with fail
        rw [← HW1.out]
        refine HVy.out.mono ?_
        rintro e w2 ⟨rfl,rfl⟩
        go_wp2_with fail
        refine HI.out.mono ?_
        rintro e w2 ⟨gs2,hJ2,ρ2,rk2,hup2,hres⟩
        have Hout:Hid (JoinLeft gb (.slice (some ⟨cb,0,none⟩) gs.length cap) gs l w1 w2 gs2):=⟨hJ2.at',hJ2.cells,hJ2.sizes.trans (Hsz.out _ _),HK1.out.trans hJ2.kept,Qq hJ2.roots (Nat.le_of_lt Hrl.out)⟩
        have Hup2:=Zac hup2
        clear hJ2 hup2
        rcases hres with ⟨rfl,h1,h2,h3⟩ | ⟨rfl,h1⟩
        · have Hj:Hid (Joined (grOf l) ρ ρ2 [a] [b]):=Joined.name HG.out Hrt.out hax hbx (Or.inr ⟨Hye.out,Hxe.out⟩) hyx Hny.out h1.symm h3.swap
          clear h1 h2 h3
          go_wp2
          go_ret
          exact ⟨gs2,Hout.out,ρ2,rk2,Hup2.out,Or.inl ⟨rfl,Hj.out⟩⟩
        · have Hcl:Hid (Clash (grOf l) ρ [a] [b]):=by
            by_cases hn:(Zat l x).name=(Zat l y).name
            · rcases h1 with h1 | h1 | h1
              · exact absurd hn h1
              · exact Zlt HG.out Hrt.out hax hbx (Or.inr ⟨Hye.out,Hxe.out⟩) Hny.out Hnx.out (Or.inr (fun e=>h1 e.symm))
              · exact Zwg HG.out Hrt.out hax hbx (Or.inr ⟨Hye.out,Hxe.out⟩) Hny.out hn.symm h1.swap
            · exact Zlt HG.out Hrt.out hax hbx (Or.inr ⟨Hye.out,Hxe.out⟩) Hny.out Hnx.out (Or.inl (fun e=>hn e.symm))
          clear h1
          go_wp2
          go_ret
          exact ⟨gs2,Hout.out,ρ2,rk2,Hup2.out,Or.inr ⟨rfl,Hcl.out⟩⟩
theorem Yep (m:Nat):Zpp m:=by
  induction m using Nat.strongRecOn with
  | _ m ih=>exact Ybh m (fun k hk=>Ztn k (ih k hk))
def Zfm (l:List Sym) (gs:List GC) (p:Nat):List GC:=gs.mapIdx (fun i c=>if p≤i then { c with behind:=Zbf l i } else c)
theorem Zfw (l:List Sym) (gs:List GC) (p i:Nat):(Zfm l gs p)[i]?=(gs[i]?).map (fun c=>if p≤i then { c with behind:=Zbf l i } else c):=by
 unfold Zfm; rw [List.getElem?_mapIdx]
theorem Zfn (l:List Sym) (gs:List GC) (p:Nat):(Zfm l gs p).length=gs.length:=by simp [Zfm]
theorem Zxs {l:List Sym} {gs:List GC} {p:Nat}:(Zfm l gs (p+1)).modify p (fun c => { c with behind:=Zbf l p })=Zfm l gs p:=by
 apply List.ext_getElem?
 intro i
 rw [List.getElem?_modify,Zfw,Zfw]
 cases gs[i]? with
 | none=>rfl
 | some c =>
  simp
  by_cases e:p=i
  ·subst e
   have h1:¬ p+1≤p:=by omega
   simp [h1]
  ·rw [if_neg e]
   by_cases h:p+1≤i
   ·rw [if_pos h,if_pos (by omega)]
   ·rw [if_neg h,if_neg (by omega)]
theorem Ybi (l:List Sym) (gs:List GC) (p:Nat) (h:gs.length≤p):Zfm l gs p=gs:=by
 apply List.ext_getElem?
 intro i
 rw [Zfw]
 cases hc:gs[i]? with
 | none=>rfl
 | some c =>
  have:=(Qa.1 hc).1
  simp
  omega
theorem Zrs (w:World) (gb:Nat) (v:Value) (gs:List GC) (l:List Sym) (h:GAt w gb v gs) (hlen:gs.length=l.length) (hs:∀ i c,gs[i]?=some c→c.sym=Zat l i) (hw:Wf 2 l) (hl:gs.length≤4000) :
  Calls Tryz.prog 188 #[.pointer (some ⟨gb,0,none⟩)] w fun e w'=>e = .returned (.tuple #[])∧GAt w' gb v (Zfm l gs 0)∧Kept (Zbl v) w w':=by
 have hpos:0<gs.length:=by have:=Zdy hw; omega
 obtain ⟨cb,cap,rfl,hcb,hcap,hne,hfz⟩:=h.shape hpos
 have b0:w.cell? ⟨gb,0,none⟩=some (.slice (some ⟨cb,0,none⟩) gs.length cap):=Zaa h.box 0 _ rfl
 have hgb:=Zab h.box
 have H:=Zac h
 have Hs:=Zac hs
 have Hw:=Zac hw
 have Hlen:=Zac hlen
 clear h hs hw hlen
 go_enter Tryz.func188,Tryz.ntmps188
 go_wp2
 go_loopg [2] (gs.length+1) (fun gk iv wr=>∃ (p:Nat),iv = .int .i64 ((p:Int) - 1)∧p≤gs.length∧p<gk∧GAt wr gb (.slice (some ⟨cb,0,none⟩) gs.length cap) (Zfm l gs p)∧Kept (Zbl (.slice (some ⟨cb,0,none⟩) gs.length cap)) w wr)
 case atStart=>exact ⟨gs.length,rfl,Qe _,by omega,by rw [Ybi _ _ _ (Qe _)]; exact H.out,Qx _ _⟩
 case round =>
  obtain ⟨p,rfl,hp,hgk,hG,hkp⟩:=hrel
  have hsr:=hkp.size
  have b0:wr.cell? ⟨gb,0,none⟩=some (.slice (some ⟨cb,0,none⟩) gs.length cap):=Zaa hG.box 0 _ rfl
  have hgb':=Zab hG.box
  have hcb':cb<wr.heap.size:=by omega
  have hfz':∀ j,wr.frozen? ⟨cb,j,none⟩=false:=by
   obtain ⟨cb',cap',e,_,_,_,hf⟩:=hG.shape (by rw [Zfn]; exact hpos)
   simp at e
   obtain ⟨rfl,_⟩:=e
   exact hf
  have HG:=Zac hG
  have Hkp:=Zac hkp
  clear hG hkp
  cases p with
  | zero =>
   have hneg:¬ ((0:Int)≤((0:Nat):Int) - 1):=by omega
   go_wp2
   go_end0
   exact ⟨rfl,HG.out,Hkp.out⟩
  | succ p =>
   have hpi:(((p+1:Nat):Int) - 1)=(p:Int):=by omega
   have hpos':(0:Int)≤(p:Int):=by omega
   have hpl:p<gs.length:=by omega
   obtain ⟨c,hc⟩:∃ c,gs[p]?=some c:=⟨_,Qb hpl⟩
   have hcm:(Zfm l gs (p+1))[p]?=some c:=by rw [Zfw,hc]; simp; intro h; omega
   have hG':GAt wr gb (.slice (some ⟨cb,0,none⟩) (Zfm l gs (p+1)).length cap) (Zfm l gs (p+1)):=by rw [Zfn]; exact HG.out
   obtain ⟨_,_,c2,c3,_,_⟩:=hG'.cell hcm
   have hsy:=Hs.out p c hc
   have hlen:=Hlen.out
   obtain ⟨ex1,ex2,ex3⟩:=Zgy Hw.out (i:=p) (by omega)
   obtain ⟨_,_,_,_,_,hbx,_⟩:=Zem Hw.out (i:=p) (by omega)
   rw [← hsy] at ex1 ex2 ex3
   have hkl:∀ k,k<c.sym.args→p<Zas l (p+1) k∧Zas l (p+1) k<gs.length:=fun k hk=>by
    have:=ex2 _ (Qh (Zbx l (p+1) _ k hk))
    omega
   have hargs:c.sym.args≤4000:=by
    rcases Nat.lt_or_ge 4000 c.sym.args with h3 | h3
    ·exfalso
     have mono:∀ k,k≤c.sym.args→p+1+k≤Zas l (p+1) k:=by
      intro k
      induction k with
      | zero=>intro _; simp [Zas]
      | succ k ih =>
       intro hk
       have:=ih (by omega)
       rw [Zbz]
       have:=hkl k (by omega)
       obtain ⟨_,_,_,_,h6,_⟩:=Zem Hw.out (i:=Zas l (p+1) k) (by omega)
       omega
     have:=mono 4000 (by omega)
     have:=hkl 4000 h3
     omega
    ·exact h3
   have Hkl:=Zac hkl
   have Hex3:=Zac ex3
   have Hcm:=Zac hcm
   have Hg':=Zac hG'
   have Hbx:=Zac hbx
   clear hkl ex1 ex2 ex3 hcm hG' hbx hsy hc hlen
   obtain ⟨wo,hwo⟩:∃ x,x=wr:=⟨_,rfl⟩
   subst hwo
   rw [hpi]
   go_wp2
   go_loopg [3,4] (c.sym.args+1) (fun gk ev nv wr=>∃ (k:Nat),ev = .int .i64 (Zas l (p+1) k:Nat)∧nv = .int .i64 k∧k≤c.sym.args∧c.sym.args - k<gk∧wr=wo)
   case atStart=>exact ⟨0,by simp [Zas],by go_num,Qm _,by omega,rfl⟩
   case round =>
    obtain ⟨k,rfl,rfl,hk,hgk2,rfl⟩:=hrel
    by_cases hlt:k<c.sym.args
    ·obtain ⟨h1,h2⟩:=Hkl.out k hlt
     obtain ⟨q,hq⟩:∃ q,q=Zas l (p+1) k:=⟨_,rfl⟩
     rw [← hq] at h1 h2 ⊢
     obtain ⟨cq,hcq⟩:∃ c,(Zfm l gs (p+1))[q]?=some c:=⟨_,Qb (by rw [Zfn]; exact h2)⟩
     obtain ⟨_,_,_,q3,_,_⟩:=Hg'.out.cell hcq
     have hbq:cq.behind=Zbf l q:=by
      rw [Zfw] at hcq
      cases hd:gs[q]? with
      | none=>rw [hd] at hcq; simp at hcq
      | some d =>
       rw [hd] at hcq
       simp at hcq
       rw [if_pos (by omega)] at hcq
       rw [← hcq]
     rw [hbq] at q3
     have Hq:=Zac hq
     clear hcq hbq hq
     go_wp2
     go_roundg (c.sym.args - k)
     case measure=>omega
     case rel=>exact ⟨k+1,by rw [Zbz,← Hq.out],by go_num,by omega,by omega,rfl⟩
    ·have hek:k=c.sym.args:=by omega
     subst hek
     obtain ⟨q,hq⟩:∃ q,q=Zas l (p+1) c.sym.args:=⟨_,rfl⟩
     rw [← hq]
     have Hq:=Zac hq
     clear hq
     go_wp2
     go_roundg (p+1)
     case measure=>omega
     case rel =>
      refine ⟨p,by rfl,by omega,by omega,?_,Hkp.out.trans ((Qx _ wr).setCell (p:=⟨cb,p * 6+3,none⟩) (fun _=>(rfl:some cb=some cb)) _)⟩
      have:=Hg'.out.put Hcm.out (f:=fun c => { c with behind:=Zbf l p }) (j:=3) (u := .int .i64 (Zbf l p:Nat)) (by omega) rfl
      rw [Zxs,Zfn] at this
      rw [Hq.out,Hex3.out]
      exact this
theorem Tryz.infoGC:(Tryz.prog.info? 292).map (fun i=>(i.zero,i.size,i.bytes))=some (some (.agg #[.string ⟨#[]⟩,.int .i64 0,.int .i64 0,.int .i64 0,.int .i64 0,.int .i64 0]),6,56):=by kernel_rfl
def Zjm (gs:List GC) (s:Sym):Nat:=gs.findIdx (fun c=>Zdw c.sym s)
theorem Zxt {gs:List GC} {s:Sym} {k:Nat} {c:GC} (hc:gs[k]?=some c) (h:Zdw c.sym s=true) (hb:∀ i d,i<k→gs[i]?=some d→Zdw d.sym s=false):Zjm gs s=k:=by
 unfold Zjm
 obtain ⟨hk,rfl⟩:=Qa.1 hc
 rw [List.findIdx_eq hk]
 exact ⟨h,fun j hj=>hb j _ hj (Qb (by omega))⟩
theorem Zto {gs:List GC} {s:Sym} (hb:∀ i d,i<gs.length→gs[i]?=some d→Zdw d.sym s=false):Zjm gs s=gs.length:=by
 unfold Zjm
 rw [List.findIdx_eq_length]
 intro c hc
 obtain ⟨i,hi,rfl⟩:=List.getElem_of_mem hc
 exact hb i _ hi (Qb hi)
theorem Ygg {s:ByteArray} {a b c d e:Int}:∀ u ∈ (#[Value.string s,.int .i64 a,.int .i64 b,.int .i64 c,.int .i64 d,.int .i64 e]:Array Value).toList,u.oneCell'=true:=by
 intro u hu
 simp at hu
 rcases hu with rfl | rfl | rfl | rfl | rfl | rfl <;> rfl
def notV:Value→Value
 | .bool b => .bool (!b)
 | v=>v
theorem Zhq {P:Program} {W w':World} {a:Act} {o:Oper} {v x' v':Value} (s x:Operand) (t:TypeId) (ho:o.op = .call { callee := .builtin .append,args:=#[s,x],argTypes:=#[t,t] }) (hs:a.eval s=v) (hx:a.eval x=x') (hr:(Builtin.append_ #[t,t] o.type #[v,x']).run P W = .ok v' w'):(execOp a.eval o).run P W = .ok (.value v') w':=by
 unfold execOp
 simp only [ho,resolve,invoke,builtin,Sem.run_bind,Sem.run_pure,Result.andThen_ok,List.map_toArray,List.map_cons,List.map_nil,hs,hx,hr]
def Ybj (gb:Nat) (v:Value) (gs:List GC) (s:Sym) (w w':World):Prop:=∃ v',GAt w' gb v' (gs++[⟨s,0,Zjm gs s,0⟩])∧Kept (fun k=>k=gb∨Zbl v k) w w'∧∀ k,Zbl v' k→Zbl v k∨w.heap.size≤k
theorem Zmo (w:World) (gb:Nat) (v:Value) (gs:List GC) (s:Sym) (h:GAt w gb v gs) (hl:gs.length≤4000) :
  Calls Tryz.prog 187 #[.pointer (some ⟨gb,0,none⟩),.agg #[.string ⟨s.name.toArray⟩,.int .i64 s.num,.int .i64 s.args]] w fun e w'=>e = .returned (.tuple #[])∧Ybj gb v gs s w w':=by
 obtain ⟨va,vcap,rfl⟩:=Zad h.owns
 have hgb:=Zab h.box
 have H:=Zac h
 clear h
 go_enter Tryz.func187,Tryz.ntmps187
 go_wp2
 go_loopg [4] (gs.length+1) (fun gk iv wr=>∃ (k:Nat),iv = .int .i64 k∧k≤gs.length∧gs.length - k<gk∧Ext w wr∧wr.heap[w.heap.size]?=some (.cells #[.string ⟨s.name.toArray⟩,.int .i64 s.num,.int .i64 s.args] 133 (0,0))∧∀ i d,i<k→gs[i]?=some d→Zdw d.sym s=false)
 case atStart=>exact ⟨0,by go_num,Qm _,by omega,(Ext.of (by repeat' (first | with_reducible(first|exact Qx _ _|apply Kept.drew|apply Kept.drewN|apply Qz|refine Qy ?_ ?_ _)|exact fun h=>absurd h (by simp <;> omega)))),heap_alloc_new w _,fun i d h=>by omega⟩
 case round =>
  obtain ⟨k,rfl,hk,hgk,hext,hbox,hbef⟩:=hrel
  have hsr:=hext.size
  have hG:=H.out.ext hext
  have b0:wr.cell? ⟨gb,0,none⟩=some (.slice va gs.length vcap):=Zaa hG.box 0 _ rfl
  have hgb':=Zab hG.box
  obtain ⟨s0,s1,s2,sf⟩:=box3 hbox
  have hwb:=Zab hbox
  have gf:=fun i=>Zae hG.box i
  have HG:=Zac hG
  have Hext:=Zac hext
  have Hbox:=Zac hbox
  have Hbef:=Zac hbef
  clear hG hext hbox hbef
  have Hdone:Hid (∀ (u:World) (v':Value) (w2:World),Ext wr u→Zjm gs s=k→Appended u 0 292 6 (.slice va gs.length vcap) (gs.length+1) (gcs gs++[.string ⟨s.name.toArray⟩,.int .i64 s.num,.int .i64 s.args,.int .i64 0,.int .i64 k,.int .i64 0]) v' w2→Ybj gb (.slice va gs.length vcap) gs s w (w2.setCell ⟨gb,0,none⟩ v')):=fun u v' w2 hu hpl hap=>by
   have hGu:=HG.out.ext hu
   have hsu:=hu.size
   have hblk:=(hap.kept.block gb (Zab hGu.box) (Zaf hGu.owns (by decide) hGu.box)).trans hGu.box
   have hK:Kept (fun j=>j=gb) w2 (w2.setCell ⟨gb,0,none⟩ v'):=(Qx (only gb) w2).put 0 _
   refine ⟨v',⟨Zai hblk 0 _,?_⟩,?_,fun j hj => ?_⟩
   ·have:=Zep hap.owns hblk (by decide) hK
    rw [Yen,hpl]
    simpa [gcV] using this
   ·have k1:Kept (fun k=>k=gb∨Zbl (.slice va gs.length vcap) k) w u:=(Kept.of_below (Hext.out.trans (hu.mono hsr))).mono (fun i hi h=>by omega)
    exact (k1.then hap.kept (fun i _ h=>Or.inr h)).then hK (fun i _ h=>Or.inl h)
   ·rcases hap.where_ with hw | ⟨g,hw,hg⟩
    ·exact Or.inl (hw.symm.trans hj)
    ·have:some g=some j:=hw.symm.trans hj
     simp at this
     exact Or.inr (by omega)
  by_cases hlt:k<gs.length
  ·obtain ⟨c,hc⟩:∃ c,gs[k]?=some c:=⟨_,Qb hlt⟩
   obtain ⟨cb,cap',he,hcb,hcap,_,_⟩:=HG.out.shape (by omega)
   simp only [Value.slice.injEq] at he
   obtain ⟨rfl,_,rfl⟩:=he
   obtain ⟨c0,c1,c2,_,_,_⟩:=HG.out.cell hc
   have HS:=Zac (Zxr wr.drew c.sym s)
   have Hc:=Zac hc
   clear hc
   go_wp2_with fail
   refine Zrf (by kernel_rfl) [.pur (.int .i64 k),.pur (.pointer (some ⟨gb,0,none⟩)),.pur (.pointer (some ⟨gb,0,none⟩)),.pur (.pointer (some ⟨gb,0,none⟩)),.pur (.slice (some ⟨cb,0,none⟩) gs.length vcap),.pur (.int .i64 gs.length),.pur (.bool true),.pur (.bool true),
    .pur (.pointer (some ⟨gb,0,none⟩)),.pur (.pointer (some ⟨gb,0,none⟩)),.pur (.pointer (some ⟨gb,0,none⟩)),.pur (.slice (some ⟨cb,0,none⟩) gs.length vcap),.pur (.int .i64 k),.pur (.pointer (some ⟨cb,k * 6,none⟩)),.pur (.pointer (some ⟨cb,k * 6,none⟩)),.pur (.agg #[.string ⟨c.sym.name.toArray⟩,.int .i64 c.sym.num,.int .i64 c.sym.args]),.pur (.agg #[.string ⟨s.name.toArray⟩,.int .i64 s.num,.int .i64 s.args]),
    .cal,.post notV,.post notV] 17 20 (by kernel_rfl)
    (fun r u=>r = .bool (Zdw c.sym s)∧Ext wr u) (fun r u=>r = .bool (Zdw c.sym s)∧Ext wr u) 207
    #[.agg #[.string ⟨c.sym.name.toArray⟩,.int .i64 c.sym.num,.int .i64 c.sym.args],.agg #[.string ⟨s.name.toArray⟩,.int .i64 s.num,.int .i64 s.args]] ?_ ?_ rfl (by decide) (Or.inr ⟨by decide,fun _ _ h=>h⟩) ?_
   ·refine HS.out.mono ?_
    rintro e u ⟨rfl,he⟩
    exact ⟨_,rfl,rfl,he.undrew⟩
   ·refine ⟨fun vc => ?_,fun vc => ?_,fun vc => ?_,fun vc => ?_,fun vc => ?_,fun vc => ?_,fun vc => ?_,fun vc => ?_,fun vc => ?_,fun vc => ?_,fun vc => ?_,fun vc => ?_,fun vc => ?_,fun vc => ?_,fun vc => ?_,fun vc => ?_,fun vc => ?_,fun vc => ?_,?_,?_,trivial⟩
    all_goals try (simp [pa,Kd.val,go_sem,b0,s0,s1,s2,c0,c1,c2,hlt]; done)
    all_goals
     rintro vc u (⟨rfl,_⟩ | ⟨rfl,_⟩) <;> simp [pa,Kd.val,go_sem,notV]
   rintro vc u ⟨rfl,hu⟩
   simp only [paAll,pa,Kd.val,if_true,Act.put,notV]
   have hsu:=hu.size
   have hgu0:=HG.out.ext hu
   have hbu:=(hu.block _ hwb).trans Hbox.out
   obtain ⟨s0,s1,s2,sf⟩:=box3 hbu
   have b0:u.cell? ⟨gb,0,none⟩=some (.slice (some ⟨cb,0,none⟩) gs.length vcap):=Zaa hgu0.box 0 _ rfl
   have hgu:gb<u.heap.size:=Zab hgu0.box
   have HGu:Hid (GAt (u.drewN 1) gb (.slice (some ⟨cb,0,none⟩) gs.length vcap) gs):=hgu0.on (fun _ _=>rfl)
   have Hrow:Hid ((u.drewN 1).ownsRow 0 292 6 (.slice (some ⟨cb,0,none⟩) gs.length vcap) gs.length (gcs gs)):=HGu.out.owns
   have Hu:=Zac hu
   have Hbu:=Zac hbu
   clear hu hgu0 hbu c0 c1 c2
   cases hsv:Zdw c.sym s with
   | false =>
    have Hsv:=Zac hsv
    clear hsv
    simp only [List.setIfInBounds_toArray,Bool.not_false,Bool.not_true,List.set_cons_succ,List.set_cons_zero]
    go_wp2
    go_roundg (gs.length - k)
    case measure=>omega
    case rel =>
     refine ⟨k+1,by go_num,by omega,by omega,Hext.out.trans (Hu.out.mono hsr),Hbu.out,fun i d hi hd => ?_⟩
     by_cases e:i=k
     ·subst e
      rw [Hc.out] at hd
      simp at hd
      subst hd
      exact Hsv.out
     ·exact Hbef.out i d (by omega) hd
   | true =>
    have Hpl:=Zac (Zxt Hc.out hsv Hbef.out)
    clear hsv
    simp only [List.setIfInBounds_toArray,Bool.not_false,Bool.not_true,List.set_cons_succ,List.set_cons_zero]
    go_wp2_with fail
    have Hu':Hid (Ext wr u.drew):=Hu.out.trans ⟨rfl,rfl,rfl,Qe _,fun _ _=>rfl⟩
    have hwu:w.heap.size<u.heap.size:=by omega
    go_region_law (refine Zct (u.drewN 1) rfl (.tmp 31) (.tmp 35) 264 rfl 0 292 Tryz.infoGC Tryz.underlying264 rfl (by decide) (.slice (some ⟨cb,0,none⟩) gs.length vcap) gs.length (gcs gs) rfl Hrow.out #[.string ⟨s.name.toArray⟩,.int .i64 s.num,.int .i64 s.args,.int .i64 0,.int .i64 k,.int .i64 0] rfl (by simp) rfl Ygg (by omega) (Qm _) rfl ?_; intro v' w2 hap; obtain ⟨va2,vc2,rfl⟩:=Zad hap.owns; have hblk2:=(hap.kept.block gb hgu (Zaf Hrow.out (by decide) HGu.out.box)).trans HGu.out.box; have d0:=Zaa hblk2 0 _ rfl; have df:=fun i=>Zae hblk2 i; have Hout:=Zac (Hdone.out (u.drewN 1) _ w2 Hu'.out Hpl.out (by simpa using hap)); clear hap hblk2)
    all_goals
     go_wp2
     go_end0
     exact ⟨rfl,Hout.out⟩
  ·have hek:k=gs.length:=by omega
   subst hek
   have hd:decide (((gs.length:Nat):Int)<((gs.length:Nat):Int))=false:=by simp
   have Hpl:=Zac (Zto (fun i d hi hd'=>Hbef.out i d hi hd'))
   have HGu:Hid (∀ n,GAt (wr.drewN n) gb (.slice va gs.length vcap) gs):=fun n=>HG.out.on (fun _ _=>rfl)
   go_wp2_with fail
   go_quiet (fail)
   obtain ⟨u,hqu⟩:∃ u,u=wr.drewN nq:=⟨_,rfl⟩
   rw [← hqu]
   have b0:u.cell? ⟨gb,0,none⟩=some (.slice va gs.length vcap):=by rw [hqu]; exact b0
   have s0:u.cell? ⟨w.heap.size,0,none⟩=some (.string ⟨s.name.toArray⟩):=by rw [hqu]; exact s0
   have s1:u.cell? ⟨w.heap.size,1,none⟩=some (.int .i64 s.num):=by rw [hqu]; exact s1
   have s2:u.cell? ⟨w.heap.size,2,none⟩=some (.int .i64 s.args):=by rw [hqu]; exact s2
   have hgu:gb<u.heap.size:=by rw [hqu]; exact hgb'
   have hwu:w.heap.size<u.heap.size:=by rw [hqu]; exact hwb
   have HGu:Hid (GAt u.drew gb (.slice va gs.length vcap) gs):=by rw [hqu]; exact HGu.out (nq+1)
   have Hrow:Hid (u.drew.ownsRow 0 292 6 (.slice va gs.length vcap) gs.length (gcs gs)):=HGu.out.owns
   have Hu:Hid (Ext wr u):=by rw [hqu]; exact ⟨rfl,rfl,rfl,Qe _,fun _ _=>rfl⟩
   clear hqu
   go_wp2_with fail
   have Hu':Hid (Ext wr u.drew):=Hu.out.trans ⟨rfl,rfl,rfl,Qe _,fun _ _=>rfl⟩
   have hwu:w.heap.size<u.heap.size:=by omega
   go_region_law (refine Zct u.drew rfl (.tmp 31) (.tmp 35) 264 rfl 0 292 Tryz.infoGC Tryz.underlying264 rfl (by decide) (.slice va gs.length vcap) gs.length (gcs gs) rfl Hrow.out #[.string ⟨s.name.toArray⟩,.int .i64 s.num,.int .i64 s.args,.int .i64 0,.int .i64 gs.length,.int .i64 0] rfl (by simp) rfl Ygg (by omega) (Qm _) rfl ?_; intro v' w2 hap; obtain ⟨va2,vc2,rfl⟩:=Zad hap.owns; have hblk2:=(hap.kept.block gb hgu (Zaf Hrow.out (by decide) HGu.out.box)).trans HGu.out.box; have d0:=Zaa hblk2 0 _ rfl; have df:=fun i=>Zae hblk2 i; have Hout:=Zac (Hdone.out u.drew _ w2 Hu'.out Hpl.out (by simpa using hap)); clear hap hblk2)
   all_goals
    go_wp2
    go_end0
    exact ⟨rfl,Hout.out⟩
def Zdk (l:List Sym):List GC:=(List.range l.length).map (fun i=>⟨Zat l i,0,Zbc l i,0⟩)
theorem Zbq (l:List Sym):(Zdk l).length=l.length:=by simp [Zdk]
theorem Zfx {l:List Sym} {i:Nat} (h:i<l.length):(Zdk l)[i]?=some ⟨Zat l i,0,Zbc l i,0⟩:=by
 simp [Zdk,h]
theorem Zxu (l:List Sym):(Zdk l).map GC.sym=l:=by
 apply List.ext_getElem?
 intro i
 rw [Qj]
 by_cases h:i<l.length
 ·rw [Zfx h]; simp [Zat,h]
 ·rw [List.getElem?_eq_none (by rw [Zbq]; omega),List.getElem?_eq_none (by omega)]; rfl
theorem Zny {l:List Sym} {i:Nat} (r:List Sym) (h:i<l.length):Zat (l++r) i=Zat l i:=by
 simp [Zat,List.getD_eq_getElem?_getD,Qc h]
theorem Zrt {l:List Sym} {i:Nat} (s:Sym) (h:i<l.length):Zbc (l++[s]) i=Zbc l i:=by
 unfold Zbc
 rw [Zny _ h]
 split
 ·rename_i hn
  rw [List.findIdx_append,if_pos]
  rw [List.findIdx_lt_length]
  refine ⟨Zat l i,?_,by simp [hn]⟩
  simp only [Zat,List.getD_eq_getElem?_getD,Qb h,Option.getD_some]
  exact List.getElem_mem h
 ·rfl
theorem Zru (l:List Sym) (s:Sym):Zbc (l++[s]) l.length=Zjm (Zdk l) s:=by
 have h1:Zjm (Zdk l) s=l.findIdx (fun t=>Zdw t s):=by
  have:=List.findIdx_map (Zdk l) GC.sym (fun t=>Zdw t s)
  rw [Zxu] at this
  exact this.symm
 have h2:Zat (l++[s]) l.length=s:=by simp [Zat]
 rw [h1]
 unfold Zbc
 rw [h2]
 split
 ·rename_i hn
  have hp:(fun t:Sym=>Zdw t s)=(fun t=>t.name.isEmpty && t.num == s.num):=by
   funext t; simp [Zdw,hn]
  rw [hp,List.findIdx_append]
  split
  ·rfl
  ·rename_i hh
   have:=List.findIdx_le_length (p:=fun t:Sym=>t.name.isEmpty && t.num == s.num) (xs:=l)
   have h0:[s].findIdx (fun t:Sym=>t.name.isEmpty && t.num == s.num)=0:=by simp [List.findIdx_cons,hn]
   omega
 ·rename_i hn
  refine (List.findIdx_eq_length.2 ?_).symm
  intro t _
  have:s.name.isEmpty=false:=by
   cases h:s.name with
   | nil=>exact absurd h hn
   | cons _ _=>rfl
  simp [Zdw,this]
theorem Zxv (l:List Sym) (s:Sym):Zdk (l++[s])=Zdk l++[⟨s,0,Zjm (Zdk l) s,0⟩]:=by
 apply List.ext_getElem?
 intro i
 by_cases h:i<l.length
 ·rw [Qc (by rw [Zbq]; exact h),Zfx h,Zfx (by simp; omega),Zny _ h,Zrt _ h]
 ·by_cases e:i=l.length
  ·subst e
   rw [Zfx (by simp),Qd (by rw [Zbq]; omega),Zbq,Zru]
   simp [Zat]
  ·rw [List.getElem?_eq_none (by rw [Zbq]; simp; omega),List.getElem?_eq_none (by simp [Zbq]; omega)]
def LayAt (w:World) (l:List Sym) (wr:World):Prop:=∃ v,GAt wr (w.heap.size+1) v (Zdk l)∧Ext w wr∧(∀ j,Zbl v j→w.heap.size≤j)∧wr.heap[w.heap.size]?=some (.cells #[.slice none 0 0] 266 (0,0))
theorem LayAt.add {w wr w1:World} {l:List Sym} {s:Sym} {v:Value} (h1:GAt wr (w.heap.size+1) v (Zdk l)) (h2:Ext w wr) (h3:∀ j,Zbl v j→w.heap.size≤j) (h4:wr.heap[w.heap.size]?=some (.cells #[.slice none 0 0] 266 (0,0))) (ha:Ybj (w.heap.size+1) v (Zdk l) s wr w1):LayAt w (l++[s]) w1:=by
 obtain ⟨v',g1,g2,g3⟩:=ha
 have hs:=h2.size
 refine ⟨v',by rw [Zxv]; exact g1,h2.trans (g2.below hs (fun k hk => ?_)),fun j hj => ?_,(g2.block _ (Zab h4) ?_).trans h4⟩
 ·rcases hk with rfl | hk
  ·omega
  ·exact h3 k hk
 ·rcases g3 j hj with h | h
  ·exact h3 j h
  ·omega
 ·rintro (h | h)
  ·omega
  ·exact Zaf h1.owns (by decide) h4 h
def LaidG (w:World) (l:List Sym) (e:Ending) (w':World):Prop:=∃ v,e = .returned (.agg #[v])∧w'.ownsRow 0 292 6 v l.length (gcs (Zfm l (Zdk l) 0))∧Ext w w'∧∀ j,Zbl v j→w.heap.size≤j
theorem Zxw (w:World) (v1 v2:Value) (a b:List Sym) (h1:w.ownsRow 0 133 3 v1 a.length (Zah a)) (h2:w.ownsRow 0 133 3 v2 b.length (Zah b)) (ha:Wf 1 a) (hb:Wf 1 b) (hal:a.length≤1000) (hbl:b.length≤1000) :
  Calls Tryz.prog 157 #[v1,v2] w (LaidG w (a++b)):=by
 have hapos:=Zdy ha
 have hbpos:=Zdy hb
 obtain ⟨g1,cap1,cur1,rfl,_,hg1,hc1⟩:=Zaw h1 (by omega)
 obtain ⟨g2,cap2,cur2,rfl,_,hg2,hc2⟩:=Zaw h2 (by omega)
 have hgl1:=Zab hg1
 have hgl2:=Zab hg2
 have H1:=Zac h1
 have H2:=Zac h2
 have Ha:=Zac ha
 have Hb:=Zac hb
 clear h1 h2 ha hb hg1 hg2
 go_enter Tryz.func157,Tryz.ntmps157
 go_wp2
 go_loopg [12] (a.length+1) (fun gk iv wr=>∃ (k:Nat),iv = .int .i64 k∧k≤a.length∧a.length - k<gk∧LayAt w (a.take k) wr)
 case atStart=>exact ⟨0,by go_num,Qm _,by omega,.slice none 0 0,⟨by have:=heap_alloc_new (w.alloc (.cells #[.slice none 0 0] 266)) (.cells #[.slice none 0 0] 266); simpa using this,World.ownsRow_nil _ _ _ _⟩,(Ext.of (by repeat' (first | with_reducible(first|exact Qx _ _|apply Kept.drew|apply Kept.drewN|apply Qz|refine Qy ?_ ?_ _)|exact fun h=>absurd h (by simp <;> omega)))),fun j hj=>by simp [Zbl,Value.ownBlock] at hj,(Below.heap_alloc _ _ _ (by simp)).trans (heap_alloc_new w _)⟩
 case round =>
  obtain ⟨k,rfl,hk,hgk,hL⟩:=hrel
  obtain ⟨v,hG,hext,hown,hblk⟩:=hL
  have hsr:=hext.size
  have hgb:=Zab hG.box
  have HG:=Zac hG
  have Hext:=Zac hext
  have Hown:=Zac hown
  have Hblk:=Zac hblk
  clear hG hext hown hblk
  by_cases hlt:k<a.length
  ·obtain ⟨s,hs⟩:∃ s,a[k]?=some s:=⟨_,Qb hlt⟩
   have ho:=Zal H1.out (fun j hj=>Hext.out.block j (H1.out.lt j hj).2)
   have hgr:g1<wr.heap.size:=by omega
   have e0:wr.cell? ⟨g1,k * 3,none⟩=some (.string ⟨s.name.toArray⟩):=Zag ho _ _ (by have:=Zax a k s hs 0 (by omega); rw [Nat.add_zero] at this; rw [this]; rfl)
   have e1:wr.cell? ⟨g1,k * 3+1,none⟩=some (.int .i64 s.num):=Zag ho _ _ (by rw [Zax a k s hs 1 (by omega)]; rfl)
   have e2:wr.cell? ⟨g1,k * 3+2,none⟩=some (.int .i64 s.args):=Zag ho _ _ (by rw [Zax a k s hs 2 (by omega)]; rfl)
   have hnx:a.take (k+1)=a.take k++[s]:=by rw [List.take_add_one,hs]; rfl
   have Hnx:=Zac hnx
   clear hs ho hnx
   go_wp2_with fail
   have hE:Ext wr (wr.alloc (.cells #[.string ⟨s.name.toArray⟩,.int .i64 s.num,.int .i64 s.args] 133)):=(Ext.of (by repeat' (first | with_reducible(first|exact Qx _ _|apply Kept.drew|apply Kept.drewN|apply Qz|refine Qy ?_ ?_ _)|exact fun h=>absurd h (by simp <;> omega))))
   refine (Zmo _ (w.heap.size+1) v (Zdk (a.take k)) s (HG.out.ext hE) (by rw [Zbq]; simp; omega)).mono ?_
   rintro e w1 ⟨rfl,hout⟩
   have hL1:=LayAt.add (HG.out.ext hE) (Hext.out.trans (hE.mono hsr)) Hown.out ((hE.block _ (Zab Hblk.out)).trans Hblk.out) hout
   have HL1:=Zac hL1
   clear hout hL1 hE
   go_wp2
   go_roundg (a.length - k)
   case measure=>omega
   case rel=>exact ⟨k+1,by go_num,by omega,by omega,by rw [Hnx.out]; exact HL1.out⟩
  ·have hek:k=a.length:=by omega
   subst hek
   rw [List.take_length] at HG
   have HLa:Hid (LayAt w a wr):=⟨v,HG.out,Hext.out,Hown.out,Hblk.out⟩
   clear HG Hext Hown Hblk
   go_wp2
   go_loopg [21] (b.length+1) (fun gk iv wr=>∃ (k:Nat),iv = .int .i64 k∧k≤b.length∧b.length - k<gk∧LayAt w ((a++b.take k)) wr)
   case atStart=>exact ⟨0,by go_num,Qm _,by omega,by have:=HLa.out; simpa using this⟩
   case round =>
    obtain ⟨k,rfl,hk,hgk,hL⟩:=hrel
    obtain ⟨v,hG,hext,hown,hblk⟩:=hL
    have hsr:=hext.size
    have hgb:=Zab hG.box
    have HG:=Zac hG
    have Hext:=Zac hext
    have Hown:=Zac hown
    have Hblk:=Zac hblk
    clear hG hext hown hblk
    by_cases hlt:k<b.length
    ·obtain ⟨s,hs⟩:∃ s,b[k]?=some s:=⟨_,Qb hlt⟩
     have ho:=Zal H2.out (fun j hj=>Hext.out.block j (H2.out.lt j hj).2)
     have hgr:g2<wr.heap.size:=by omega
     have e0:wr.cell? ⟨g2,k * 3,none⟩=some (.string ⟨s.name.toArray⟩):=Zag ho _ _ (by have:=Zax b k s hs 0 (by omega); rw [Nat.add_zero] at this; rw [this]; rfl)
     have e1:wr.cell? ⟨g2,k * 3+1,none⟩=some (.int .i64 s.num):=Zag ho _ _ (by rw [Zax b k s hs 1 (by omega)]; rfl)
     have e2:wr.cell? ⟨g2,k * 3+2,none⟩=some (.int .i64 s.args):=Zag ho _ _ (by rw [Zax b k s hs 2 (by omega)]; rfl)
     have hnx:b.take (k+1)=b.take k++[s]:=by rw [List.take_add_one,hs]; rfl
     have Hnx:=Zac hnx
     clear hs ho hnx
     go_wp2_with fail
     have hE:Ext wr (wr.alloc (.cells #[.string ⟨s.name.toArray⟩,.int .i64 s.num,.int .i64 s.args] 133)):=(Ext.of (by repeat' (first | with_reducible(first|exact Qx _ _|apply Kept.drew|apply Kept.drewN|apply Qz|refine Qy ?_ ?_ _)|exact fun h=>absurd h (by simp <;> omega))))
     refine (Zmo _ (w.heap.size+1) v (Zdk ((a++b.take k))) s (HG.out.ext hE) (by rw [Zbq]; simp; omega)).mono ?_
     rintro e w1 ⟨rfl,hout⟩
     have hL1:=LayAt.add (HG.out.ext hE) (Hext.out.trans (hE.mono hsr)) Hown.out ((hE.block _ (Zab Hblk.out)).trans Hblk.out) hout
     have HL1:=Zac hL1
     clear hout hL1 hE
     go_wp2
     go_roundg (b.length - k)
     case measure=>omega
     case rel=>exact ⟨k+1,by go_num,by omega,by omega,by rw [Hnx.out,← Qi]; exact HL1.out⟩
    ·have hek:k=b.length:=by omega
     subst hek
     rw [List.take_length] at HG
     obtain ⟨cb,cap,rfl,hcb,hcap,hne,hfz⟩:=HG.out.shape (by rw [Zbq]; simp; omega)
     have HG2:=Zac HG.out
     have hll:(Zdk (a++b)).length=a.length+b.length:=by rw [Zbq]; simp
     have Hll:=Zac hll
     clear hll
     go_wp2_with fail
     refine (Zrs wr (w.heap.size+1) _ (Zdk (a++b)) (a++b) HG.out (Zbq _) (fun i c hc => ?_) (Zff Ha.out Hb.out) (by rw [Zbq]; simp; omega)).mono ?_
     ·have hi:=(Qa.1 hc).1
      rw [Zbq] at hi
      rw [Zfx hi] at hc
      simp at hc
      rw [← hc]
     rintro e w1 ⟨rfl,hG1,hk1⟩
     have hblk1:=(hk1.block _ (Zab Hblk.out) (Zaf HG2.out.owns (by decide) Hblk.out)).trans Hblk.out
     have b1:w1.cell? ⟨w.heap.size+1,0,none⟩=some (.slice (some ⟨cb,0,none⟩) (Zdk (a++b)).length cap):=Zaa hG1.box 0 _ rfl
     have b2:w1.cell? ⟨w.heap.size,0,none⟩=some (.slice none 0 0):=Zaa hblk1 0 _ rfl
     have bf:=fun i=>Zae hblk1 i
     have hs1:=hk1.size
     have HG1:=Zac hG1
     have Hk1:=Zac hk1
     have Hblk1:=Zac hblk1
     clear hG1 hk1 hblk1
     go_wp2
     have hK:Kept (fun j=>j=w.heap.size) w1 (w1.setCell ⟨w.heap.size,0,none⟩ (.slice (some ⟨cb,0,none⟩) (Zdk (a++b)).length cap)):=(Qx (only w.heap.size) w1).put 0 _
     have h0:(w1.setCell ⟨w.heap.size,0,none⟩ (.slice (some ⟨cb,0,none⟩) (Zdk (a++b)).length cap)).cell? ⟨w.heap.size,0,none⟩=some (.slice (some ⟨cb,0,none⟩) (Zdk (a++b)).length cap):=Zaa (Zai Hblk1.out 0 _) 0 _ rfl
     refine bodyPost_ret (v := .agg #[.slice (some ⟨cb,0,none⟩) (Zdk (a++b)).length cap]) (by simp [results,Tryz.results157,go_sem,h0]) rfl ⟨_,rfl,?_,?_,Hown.out⟩
     ·have:=Zep HG1.out.owns Hblk1.out (by decide) hK
      rw [Zfn,Zbq] at this
      rw [Zbq]
      exact this
     ·exact (Hext.out.trans (Hk1.out.below hsr Hown.out)).trans (hK.below (by omega) (fun k hk=>by omega))
end Go.Proofs.YtlmjilpjmgjjcaaGreatDoor
