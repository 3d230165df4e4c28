/-
  PROVED HERE: plain facts on the program's cells that lie in memory; what its 'leaderOf', 'isVariable' and 'isSameVariable' tell (the conditions stand in each statement).
-/
import Derived.Test.YtlmjilpjmgjjcabGreatDoorT4
import Derived.Deep.QuietTactic
import Derived.BigQuiet
import Derived.Lib.Strings
set_option linter.unusedSimpArgs false
set_option linter.unusedVariables false
set_option maxRecDepth 10000
set_option maxHeartbeats 4000000
namespace Go.Proofs.YtlmjilpjmgjjcabGreatDoor
open Go.RowKit
mutual
inductive TreeR (cs:List Cls):ND→List UInt8→Prop
 | leaf (n:ND) (h:n.goals=[]):TreeR cs n [33]
 | node (n:ND) (t:List UInt8) (h:n.goals≠[]) (hp:Part cs n cs.length t):TreeR cs n ([40]++t++[41])
inductive Part (cs:List Cls):ND→Nat→List UInt8→Prop
 | zero (n:ND):Part cs n 0 []
 | miss (n:ND) (k:Nat) (t:List UInt8) (c:Cls) (h:Part cs n k t) (hc:cs[k]?=some c) (hq:(tryN n c k).2=0):Part cs n (k+1) t
 | kid (n:ND) (k:Nat) (t u:List UInt8) (c:Cls) (h:Part cs n k t) (hc:cs[k]?=some c) (hq:(tryN n c k).2=1∨(tryN n c k).2=2) (hu:TreeR cs (tryN n c k).1 u):Part cs n (k+1) (t++Lib.decDigits k++u)
end
structure SN where
 way:List (ND × Nat)
 tries:Nat
 status:Nat
 found:ND
 tree:List UInt8
def Zdw (cs:List Cls):List (ND × Nat)→List UInt8→List (ND × Nat) × List UInt8
 | (n,k)::r,t=>if cs.length≤k then Zdw cs r (t++[41]) else ((n,k)::r,t)
 | [],t=>([],t)
noncomputable def Zbz (s:SN) (n:ND):SN:=open Classical in if n.goals=[] then { s with tree:=s.tree++[33],status:=1,found:=n } else { s with way:=(n,0)::s.way,tree:=s.tree++[40] }
noncomputable def Zdf (cs:List Cls) (s:SN):SN := { s with way:=(Zdw cs s.way s.tree).1,tree:=(Zdw cs s.way s.tree).2 }
noncomputable def Zas (cs:List Cls) (s:SN):SN:=match s.way with
 | []=>s
 | (n,k)::r=>match cs[k]? with
  | none=>s
  | some c=>Zdf cs (if (tryN n c k).2=3 then { s with way:=(n,k+1)::r,tries:=s.tries+1,status:=3 }
    else if (tryN n c k).2=1∨(tryN n c k).2=2 then Zbz { s with way:=(n,k+1)::r,tries:=s.tries+1,tree:=s.tree++Lib.decDigits k } (tryN n c k).1
    else { s with way:=(n,k+1)::r,tries:=s.tries+1 })
def PH (cs:List Cls) (top:ND):List (ND × Nat)→ND→Nat→List UInt8→Prop
 | [],n,k,T=>n=top∧n.goals≠[]∧k≤cs.length∧∃ t,Part cs n k t∧T=[40]++t
 | x::r,n,k,T=>n.goals≠[]∧k≤cs.length∧∃ t j' c T',x.2=j'+1∧cs[j']?=some c∧((tryN x.1 c j').2=1∨(tryN x.1 c j').2=2)∧n=(tryN x.1 c j').1∧PH cs top r x.1 j' T'∧Part cs n k t∧T=T'++Lib.decDigits j'++([40]++t)
def PW (cs:List Cls) (top:ND):List (ND × Nat)→List UInt8→Prop
 | [],T=>TreeR cs top T
 | (n,k)::r,T=>PH cs top r n k T
theorem PW.part {cs:List Cls} {top n:ND} {k:Nat} {r:List (ND × Nat)} {T:List UInt8} (h:PW cs top ((n,k)::r) T):n.goals≠[]∧k≤cs.length∧∃ t0 t,Part cs n k t∧T=t0++([40]++t)∧∀ k' t',Part cs n k' t'→k'≤cs.length→PW cs top ((n,k')::r) (t0++([40]++t')):=by
 cases r with
 | nil =>
  obtain ⟨h1,h2,h3,t,h4,h5⟩:=h
  exact ⟨h2,h3,[],t,h4,by simpa using h5,fun k' t' hp hk=>⟨h1,h2,hk,t',hp,by simp⟩⟩
 | cons m r =>
  obtain ⟨m,j⟩:=m
  obtain ⟨h1,h2,t,j',c,T',h3,h4,h5,h6,h7,h8,h9⟩:=h
  exact ⟨h1,h2,T'++Lib.decDigits j',t,h8,h9,fun k' t' hp hk=>⟨h1,hk,t',j',c,T',h3,h4,h5,h6,h7,hp,rfl⟩⟩
theorem PW.miss {cs:List Cls} {top n:ND} {k:Nat} {r:List (ND × Nat)} {T:List UInt8} {c:Cls} (h:PW cs top ((n,k)::r) T) (hc:cs[k]?=some c) (hq:(tryN n c k).2=0):PW cs top ((n,k+1)::r) T:=by
 obtain ⟨h1,h2,t0,t,h3,h4,h5⟩:=h.part
 rw [h4]
 exact h5 (k+1) t (.miss n k t c h3 hc hq) (by have:=(Qa.1 hc).1; omega)
theorem PW.kid {cs:List Cls} {top n:ND} {k:Nat} {r:List (ND × Nat)} {T u:List UInt8} {c:Cls} (h:PW cs top ((n,k)::r) T) (hc:cs[k]?=some c) (hq:(tryN n c k).2=1∨(tryN n c k).2=2) (hu:TreeR cs (tryN n c k).1 u):PW cs top ((n,k+1)::r) (T++Lib.decDigits k++u):=by
 obtain ⟨h1,h2,t0,t,h3,h4,h5⟩:=h.part
 rw [h4]
 have:=h5 (k+1) (t++Lib.decDigits k++u) (.kid n k t u c h3 hc hq hu) (by have:=(Qa.1 hc).1; omega)
 simpa using this
theorem PW.down {cs:List Cls} {top n:ND} {k:Nat} {r:List (ND × Nat)} {T:List UInt8} {c:Cls} (h:PW cs top ((n,k)::r) T) (hc:cs[k]?=some c) (hq:(tryN n c k).2=1∨(tryN n c k).2=2) (hg:(tryN n c k).1.goals≠[]):PW cs top (((tryN n c k).1,0)::(n,k+1)::r) (T++Lib.decDigits k++[40]) :=
 ⟨hg,Qm _,[],k,c,T,rfl,hc,hq,rfl,h,.zero _,by simp⟩
theorem PW.up {cs:List Cls} {top n:ND} {k:Nat} {r:List (ND × Nat)} {T:List UInt8} (h:PW cs top ((n,k)::r) T) (hk:cs.length≤k):PW cs top r (T++[41]):=by
 cases r with
 | nil =>
  obtain ⟨h1,h2,h3,t,h4,h5⟩:=h
  have e:k=cs.length:=by omega
  subst e h1 h5
  exact .node n t h2 h4
 | cons m r =>
  obtain ⟨m,j⟩:=m
  obtain ⟨h1,h2,t,j',c,T',h3,h4,h5,h6,h7,h8,h9⟩:=h
  have e:k=cs.length:=by omega
  simp only at h3 h5 h6 h7
  subst e h3 h6 h9
  have h7':PW cs top ((m,j')::r) T':=h7
  have:=h7'.kid h4 h5 (.node _ t h1 h8)
  simpa using this
theorem PW.leave {cs:List Cls} {top:ND}:∀ {way:List (ND × Nat)} {T:List UInt8},PW cs top way T→PW cs top (Zdw cs way T).1 (Zdw cs way T).2:=by
 intro way
 induction way with
 | nil=>intro T h; exact h
 | cons x r ih =>
  obtain ⟨n,k⟩:=x
  intro T h
  unfold Zdw
  split
  ·rename_i hk
   exact ih (h.up hk)
  ·exact h
theorem Zgd (n:ND) (c:Cls) (k:Nat):(tryN n c k).2=0∨(tryN n c k).2=1∨(tryN n c k).2=2∨(tryN n c k).2=3:=by
 by_cases hex:∃ r:ND × Nat,∃ m,NOk m∧Same m n∧Out m c k r.2 r.1
 ·have e:tryN n c k=Classical.choose hex:=by unfold tryN; rw [dif_pos hex]
  obtain ⟨m,_,_,g,gs,_,ho⟩:=Classical.choose_spec hex
  rw [e]
  rcases ho with ⟨h0,_⟩ | ⟨h0,_⟩ | ⟨σ,_,_,h3,_⟩
  ·exact Or.inl h0
  ·exact Or.inr (Or.inr (Or.inr h0))
  ·rw [h3]
   unfold Zfg
   split
   ·simp
   ·split <;> simp
 ·have e:tryN n c k=(⟨[],[],[],[],0⟩,0):=by unfold tryN; rw [dif_neg hex]
  rw [e]; simp
theorem PW.try' {cs:List Cls} {top:ND} {s:SN} (h:PW cs top s.way s.tree) (hf:(Zas cs s).status≠3):PW cs top (Zas cs s).way (Zas cs s).tree:=by
 unfold Zas at hf ⊢
 cases hw:s.way with
 | nil=>rw [hw] at hf h; simpa [hw] using h
 | cons x r =>
  obtain ⟨n,k⟩:=x
  rw [hw] at hf h
  simp only at hf ⊢
  cases hc:cs[k]? with
  | none=>rw [hc] at hf; simp only [hw]; exact h
  | some c =>
   rw [hc] at hf
   simp only at hf ⊢
   by_cases h3:(tryN n c k).2=3
   ·rw [if_pos h3] at hf
    exact absurd rfl hf
   ·rw [if_neg h3]
    by_cases h12:(tryN n c k).2=1∨(tryN n c k).2=2
    ·rw [if_pos h12]
     by_cases hg:(tryN n c k).1.goals=[]
     ·simp only [Zbz,if_pos hg,Zdf]
      have h':PW cs top ((n,k)::r) s.tree:=h
      exact (h'.kid hc h12 (.leaf _ hg)).leave
     ·simp only [Zbz,if_neg hg,Zdf]
      have h':PW cs top ((n,k)::r) s.tree:=h
      exact (h'.down hc h12 hg).leave
    ·rw [if_neg h12]
     simp only [Zdf]
     have h0:(tryN n c k).2=0:=by have:=Zgd n c k; omega
     have h':PW cs top ((n,k)::r) s.tree:=h
     exact (h'.miss hc h0).leave
theorem Zsp {w:World} {B:Nat} {e:TypeId} {s g n cap:Nat} {xs:List Value} (h:w.ownsRow B e s (.slice (some ⟨g,0,none⟩) (n+1) cap) (n+1) xs) :
  w.ownsRow B e s (.slice (some ⟨g,0,none⟩) n cap) n (xs.take (n * s)):=by
 have hm:(n+1) * s=n * s+s:=Nat.succ_mul n s
 refine ⟨by have:=h.1; rw [List.length_take]; omega,?_⟩
 rcases h.2 with ⟨h1,_⟩ | ⟨g',cap',cur,h1,hb,hg,hn,hc,hs,ht⟩
 ·simp at h1
 ·simp at h1
  obtain ⟨rfl,rfl⟩:=h1
  refine .inr ⟨g,cap,cur,rfl,hb,hg,by omega,hc,hs,?_⟩
  rw [← ht,List.take_take]
  congr 1
  omega
def Zie (N:Nat):List (ND × Nat)→List (ND × Nat)
 | []=>[]
 | x::r=>if N≤x.2 then Zie N r else x::r
theorem Zei (cs:List Cls):∀ (way:List (ND × Nat)) (t:List UInt8),(Zdw cs way t).1=Zie cs.length way:=by
 intro way
 induction way with
 | nil=>intro t; rfl
 | cons x r ih =>
  obtain ⟨n,k⟩:=x
  intro t
  simp only [Zdw,Zie]
  split
  ·exact ih _
  ·rfl
theorem Zom {N:Nat}:∀ {way:List (ND × Nat)} {x:ND × Nat} {r:List (ND × Nat)},Zie N way=x::r→x.2<N:=by
 intro way
 induction way with
 | nil=>intro x r h; simp [Zie] at h
 | cons y s ih =>
  intro x r h
  simp only [Zie] at h
  split at h
  ·exact ih h
  ·rename_i hn
   simp at h
   rw [← h.1]; omega
theorem Zon (N:Nat) (way:List (ND × Nat)):Zie N (Zie N way)=Zie N way:=by
 cases h:Zie N way with
 | nil=>rfl
 | cons x r =>
  have:=Zom h
  simp only [Zie]
  rw [if_neg (by omega)]
noncomputable def Zdb (a:List (List Sym) × Names) (st:Nat) (found:ND) (T:List UInt8):List UInt8 × List UInt8 × List UInt8 :=
 if st=1 then (Zbu a.2 found,Zbp found,[]) else if st=2 then ([],[],T) else ([],[],[])
theorem box6 {w:World} {b:Nat} {u0 u1 u2 u3 u4 u5:Value} {t:TypeId} (h:w.heap[b]?=some (.cells #[u0,u1,u2,u3,u4,u5] t (0,0))) :
  w.cell? ⟨b,0,none⟩=some u0∧w.cell? ⟨b,1,none⟩=some u1∧w.cell? ⟨b,2,none⟩=some u2∧w.cell? ⟨b,3,none⟩=some u3∧w.cell? ⟨b,4,none⟩=some u4∧w.cell? ⟨b,5,none⟩=some u5∧∀ i,w.frozen? ⟨b,i,none⟩=false :=
 ⟨Zaa h 0 _ rfl,Zaa h 1 _ rfl,Zaa h 2 _ rfl,Zaa h 3 _ rfl,Zaa h 4 _ rfl,Zaa h 5 _ rfl,fun i=>Zae h i⟩
noncomputable def Zna (n:ND) (c:Cls) (k:Nat) (r:List (ND × Nat)):List (ND × Nat):=if (tryN n c k).2=1 then ((tryN n c k).1,0)::(n,k+1)::r else (n,k+1)::r
noncomputable def Zif (n:ND) (c:Cls) (k:Nat):Nat:=if (tryN n c k).2=2 then 1 else if (tryN n c k).2=3 then 3 else 0
theorem Ziv {n:ND} {c:Cls} {k:Nat} (h:(tryN n c k).2=1∨(tryN n c k).2=2):(tryN n c k).2=2↔(tryN n c k).1.goals=[]:=by
 by_cases hex:∃ r:ND × Nat,∃ m,NOk m∧Same m n∧Out m c k r.2 r.1
 ·have e:tryN n c k=Classical.choose hex:=by unfold tryN; rw [dif_pos hex]
  obtain ⟨m,_,hS,g,gs,_,ho⟩:=Classical.choose_spec hex
  rw [e] at h ⊢
  rcases ho with ⟨h0,_⟩ | ⟨h0,_⟩ | ⟨σ,_,_,h3,h4⟩
  ·omega
  ·omega
  ·rw [h3,← h4] at h
   rw [h3,← h4]
   unfold Zfg at h ⊢
   split at h
   ·omega
   ·rename_i ho
    rw [if_neg ho]
    split
    ·rename_i hg; simp [hg]
    ·rename_i hg; simp [hg]
 ·have e:tryN n c k=(⟨[],[],[],[],0⟩,0):=by unfold tryN; rw [dif_neg hex]
  rw [e] at h
  simp at h
def Zgh (way:List (ND × Nat)):List Nat:=(way.map (fun x=>x.2 - 1)).reverse
theorem Zlb (n:ND) (k:Nat) (r:List (ND × Nat)):Zgh ((n,k+1)::r)=Zgh r++[k]:=by simp [Zgh]
def UsedW:List (ND × Nat)→Prop
 | []=>True
 | x::r=>x.1.used=Zgh r∧(∀ y ∈ r,1≤y.2)∧UsedW r
theorem UsedW.trim {N:Nat}:∀ {way:List (ND × Nat)},UsedW way→UsedW (Zie N way):=by
 intro way
 induction way with
 | nil=>intro h; exact h
 | cons x r ih =>
  intro h
  simp only [Zie]
  split
  ·exact ih h.2.2
  ·exact h
theorem Zsq {N:Nat}:∀ {way:List (ND × Nat)} {x:ND × Nat},x ∈ Zie N way→x ∈ way:=by
 intro way
 induction way with
 | nil=>intro x h; exact h
 | cons y r ih =>
  intro x h
  simp only [Zie] at h
  split at h
  ·exact List.mem_cons_of_mem _ (ih h)
  ·exact h
theorem Zoo (cs:List Cls):∀ (way:List (ND × Nat)) (t:List UInt8),(Zdw cs way t).2.length+(Zdw cs way t).1.length=t.length+way.length:=by
 intro way
 induction way with
 | nil=>intro t; rfl
 | cons x r ih =>
  obtain ⟨n,k⟩:=x
  intro t
  simp only [Zdw]
  split
  ·rw [ih]; simp; omega
  ·rfl
structure InvN (cs:List Cls) (a:List (List Sym) × Names) (s:SN):Prop where
 way:∀ x ∈ s.way,x.1.goals≠[]∧x.1.vals.length=a.2.length∧x.2≤cs.length∧∀ k ∈ x.1.used,k<cs.length
 used:UsedW s.way
 tree:s.status≠3→PW cs (topN a) s.way s.tree
 trim:Zie cs.length s.way=s.way
 found:s.status=1→s.found.goals=[]∧s.found.vals.length=a.2.length∧∀ k ∈ s.found.used,k<cs.length
 len:s.tree.length+s.way.length≤2+26 * s.tries
 tries:s.tries≤3000
 no:s.status=2→s.way=[]
 st:s.status≤3
theorem Zho {cs:List Cls} {s:SN} {n:ND} {k:Nat} {r:List (ND × Nat)} {c:Cls} (hw:s.way=(n,k)::r) (hc:cs[k]?=some c) (h0:s.status=0) :
  (Zas cs s).way=Zie cs.length (Zna n c k r)∧(Zas cs s).status=Zif n c k∧(Zas cs s).tries=s.tries+1∧(Zif n c k=1→(Zas cs s).found=(tryN n c k).1):=by
 have hk:=Zgd n c k
 unfold Zas
 rw [hw]
 simp only [hc]
 by_cases h3:(tryN n c k).2=3
 ·rw [if_pos h3]
  simp [Zdf,Zei,Zna,Zif,h3]
 ·rw [if_neg h3]
  by_cases h12:(tryN n c k).2=1∨(tryN n c k).2=2
  ·rw [if_pos h12]
   by_cases hg:(tryN n c k).1.goals=[]
   ·have h2:=(Ziv h12).2 hg
    simp [Zdf,Zbz,hg,Zei,Zna,Zif,h2]
   ·have h2:(tryN n c k).2≠2:=fun h=>hg ((Ziv h12).1 h)
    have h1:(tryN n c k).2=1:=by omega
    simp [Zdf,Zbz,hg,Zei,Zna,Zif,h1,h0]
  ·rw [if_neg h12]
   have h00:(tryN n c k).2=0:=by omega
   simp [Zdf,Zei,Zna,Zif,h00,h0]
theorem Zsr {cs:List Cls} {s:SN} {n:ND} {k:Nat} {r:List (ND × Nat)} {c:Cls} (hw:s.way=(n,k)::r) (hc:cs[k]?=some c) (hk:k<24):(Zas cs s).tree.length+(Zas cs s).way.length≤s.tree.length+s.way.length+26:=by
 have hd:(Lib.decDigits k).length≤24:=by
  have:=Zkt k
  omega
 unfold Zas
 rw [hw]
 simp only [hc,Zdf,Zoo]
 split
 ·simp
 ·split
  ·unfold Zbz
   split
   ·simp; omega
   ·simp; omega
  ·simp
theorem InvN.try' {cs:List Cls} {a:List (List Sym) × Names} {s:SN} (h:InvN cs a s) (hcl:cs.length≤24) (h0:s.status=0) {n:ND} {k:Nat} {r:List (ND × Nat)} {c:Cls} (hw:s.way=(n,k)::r) (hc:cs[k]?=some c) (ht:s.tries<3000):InvN cs a (Zas cs s):=by
 obtain ⟨e1,e2,e3,e4⟩:=Zho hw hc h0
 have hkk:=Zgd n c k
 have hklt:=(Qa.1 hc).1
 obtain ⟨w1,w2,w3,w4⟩:=h.way (n,k) (by rw [hw]; simp)
 have hu:=h.used
 rw [hw] at hu
 have hr:∀ x ∈ r,x.1.goals≠[]∧x.1.vals.length=a.2.length∧x.2≤cs.length∧∀ k ∈ x.1.used,k<cs.length:=fun x hx=>h.way x (by rw [hw]; simp [hx])
 have hchild:(tryN n c k).2=1∨(tryN n c k).2=2→(tryN n c k).1.vals.length=a.2.length∧∀ j ∈ (tryN n c k).1.used,j<cs.length:=fun hq=>by
  refine ⟨by rw [Zkh hq]; exact w2,fun j hj => ?_⟩
  rw [Zgc hq] at hj
  rcases Qk.1 hj with hj | hj
  ·exact w4 j hj
  ·simp at hj; omega
 refine ⟨?_,?_,?_,?_,?_,?_,?_,?_,?_⟩
 ·intro x hx
  rw [e1] at hx
  have hx:=Zsq hx
  unfold Zna at hx
  split at hx
  ·rename_i h1
   rcases Qp.1 hx with rfl | hx
   ·have h2:¬ (tryN n c k).1.goals=[]:=fun hg=>by have:=(Ziv (Or.inl h1)).2 hg; omega
    exact ⟨h2,(hchild (Or.inl h1)).1,Qm _,(hchild (Or.inl h1)).2⟩
   ·rcases Qp.1 hx with rfl | hx
    ·exact ⟨w1,w2,by show k+1≤_; omega,w4⟩
    ·exact hr x hx
  ·rcases Qp.1 hx with rfl | hx
   ·exact ⟨w1,w2,by show k+1≤_; omega,w4⟩
   ·exact hr x hx
 ·rw [e1]
  apply UsedW.trim
  unfold Zna
  split
  ·rename_i h1
   exact ⟨by rw [Zlb,Zgc (Or.inl h1),hu.1],fun y hy=>by
    rcases Qp.1 hy with rfl | hy
    ·exact Nat.succ_le_succ (Qm _)
    ·exact hu.2.1 y hy,hu.1,hu.2⟩
  ·exact ⟨hu.1,hu.2⟩
 ·intro h3
  exact PW.try' (h.tree (by omega)) h3
 ·rw [e1,Zon]
 ·intro h1
  rw [e2] at h1
  rw [e4 h1]
  have hq2:(tryN n c k).2=2:=by
   unfold Zif at h1
   split at h1
   ·assumption
   ·split at h1 <;> omega
  exact ⟨(Ziv (Or.inr hq2)).1 hq2,(hchild (Or.inr hq2)).1,(hchild (Or.inr hq2)).2⟩
 ·have:=Zsr hw hc (by omega)
  have:=h.len
  omega
 ·omega
 ·intro h2
  rw [e2] at h2
  unfold Zif at h2
  split at h2
  ·omega
  ·split at h2 <;> omega
 ·rw [e2]
  unfold Zif
  split
  ·omega
  ·split <;> omega
noncomputable def Zcf (cs:List Cls):Nat→SN→SN × Nat
 | 0,s=>(s,0)
 | n+1,s=>open Classical in if s.status=0∧s.way≠[]∧s.tries<3000 then ((Zcf cs n (Zas cs s)).1,(Zcf cs n (Zas cs s)).2+1) else (s,0)
def Zhb (s:SN):SN := { s with way:=[],tree:=[],status:=3 }
noncomputable def endN (s:SN):SN:=open Classical in if s.status=3 then Zhb s else if s.status=0 then (if s.way=[] then { s with status:=2 } else if 3000≤s.tries then Zhb s else s) else s
noncomputable def Zch (cs:List Cls) (n:Nat) (s:SN):SN × Nat:=if s.status=2∨s.status=3 then (s,0) else (endN (Zcf cs n { s with status:=0 }).1,(Zcf cs n { s with status:=0 }).2)
theorem InvN.full {cs:List Cls} {a:List (List Sym) × Names} {s:SN} (h:InvN cs a s):InvN cs a (Zhb s) :=
 ⟨fun x hx=>by simp [Zhb] at hx,trivial,fun h3=>absurd rfl h3,rfl,fun h1=>by simp [Zhb] at h1,by simp [Zhb],h.tries,fun _=>rfl,by simp [Zhb]⟩
theorem InvN.end' {cs:List Cls} {a:List (List Sym) × Names} {s:SN} (h:InvN cs a s):InvN cs a (endN s):=by
 unfold endN
 split
 ·exact h.full
 ·split
  ·rename_i h3 h0
   split
   ·rename_i hw
    exact ⟨h.way,h.used,fun _=>h.tree (by omega),h.trim,fun h1=>by simp at h1,h.len,h.tries,fun _=>hw,by simp⟩
   ·split
    ·exact h.full
    ·exact h
  ·exact h
theorem InvN.seek {cs:List Cls} {a:List (List Sym) × Names} {s:SN} (h:InvN cs a s) (h3:s.status≠3):InvN cs a { s with status:=0 } :=
 ⟨h.way,h.used,fun _=>h.tree h3,h.trim,fun h1=>by simp at h1,h.len,h.tries,fun h2=>by simp at h2,by simp⟩
theorem InvN.head {cs:List Cls} {a:List (List Sym) × Names} {s:SN} (h:InvN cs a s) (hw:s.way≠[]):∃ n k r c,s.way=(n,k)::r∧cs[k]?=some c∧n.goals≠[]:=by
 cases e:s.way with
 | nil=>exact absurd e hw
 | cons x r =>
  obtain ⟨n,k⟩:=x
  have ht:=h.trim
  rw [e] at ht
  have hk:=Zom ht
  exact ⟨n,k,r,_,rfl,Qb hk,(h.way (n,k) (by rw [e]; simp)).1⟩
theorem InvN.loop {cs:List Cls} {a:List (List Sym) × Names} (hcl:cs.length≤24):∀ {n:Nat} {s:SN},InvN cs a s→InvN cs a (Zcf cs n s).1:=by
 intro n
 induction n with
 | zero=>intro s h; exact h
 | succ n ih =>
  intro s h
  unfold Zcf
  split
  ·rename_i hc
   obtain ⟨n',k,r,c,h1,h2,h3⟩:=h.head hc.2.1
   exact ih (h.try' hcl hc.1 h1 h2 hc.2.2)
  ·exact h
theorem InvN.step {cs:List Cls} {a:List (List Sym) × Names} (hcl:cs.length≤24) {n:Nat} {s:SN} (h:InvN cs a s):InvN cs a (Zch cs n s).1:=by
 unfold Zch
 split
 ·exact h
 ·rename_i h3
  exact ((h.seek (by omega)).loop hcl).end'
noncomputable def newN (cs:List Cls) (a:List (List Sym) × Names):SN:=Zdf cs (Zbz ⟨[],0,0,⟨[],[],[],[],0⟩,[]⟩ (topN a))
theorem Zey {a:List (List Sym) × Names} (h:a.1≠[]):(topN a).goals≠[]:=by simpa [topN] using h
theorem InvN.new (cs:List Cls) {a:List (List Sym) × Names} (ha:a.1≠[]):InvN cs a (newN cs a):=by
 have hg:=Zey ha
 have hp:PW cs (topN a) [(topN a,0)] [40]:=⟨rfl,hg,Qm _,[],.zero _,by simp⟩
 unfold newN Zbz
 rw [if_neg hg]
 refine ⟨?_,?_,?_,?_,?_,?_,?_,?_,?_⟩
 ·intro x hx
  simp only [Zdf,Zei] at hx
  have hx:=Zsq hx
  simp at hx
  subst hx
  exact ⟨hg,by simp [topN],Qm _,fun k hk=>by simp [topN] at hk⟩
 ·simp only [Zdf,Zei]
  exact UsedW.trim ⟨rfl,fun y hy=>by simp at hy,trivial⟩
 ·intro _
  exact hp.leave
 ·simp only [Zdf,Zei]
  exact Zon _ _
 ·intro h; simp [Zdf] at h
 ·simp only [Zdf,Zoo]
  simp
 ·simp [Zdf]
 ·intro h; simp [Zdf] at h
 ·simp [Zdf]
def Zcb (l:List UInt8):Nat→Nat→Nat→Bool→Option Nat
 | 0,p,_,_=>some p
 | f+1,p,o,due=>match l[p]? with
  | none=>if due=true∨0<o then some p else none
  | some c=>if due=true then (if c=33 then Zcb l f (p+1) o false else if c=40 then Zcb l f (p+1) (o+1) false else some p)
    else if o=0 then some p
    else if c=41 then Zcb l f (p+1) (o - 1) false
    else if (Zak (l.drop p)).2=0 then some p else Zcb l f (p+(Zak (l.drop p)).2) o true
def Zdi (l:List UInt8):Option Nat:=Zcb l (l.length+1) 0 0 true
def Sh (l:List UInt8) (p o:Nat) (due:Bool):Prop:=∃ f,l.length<f+p∧Zcb l f p o due=none
theorem Sh.start {l:List UInt8} (h:Zdi l=none):Sh l 0 0 true:=⟨l.length+1,by omega,h⟩
theorem Sh.due {l:List UInt8} {p o:Nat} (h:Sh l p o true):(l[p]?=some 33∧Sh l (p+1) o false)∨(l[p]?=some 40∧Sh l (p+1) (o+1) false):=by
 obtain ⟨f,h1,h2⟩:=h
 cases f with
 | zero=>simp [Zcb] at h2
 | succ f =>
  unfold Zcb at h2
  cases hc:l[p]? with
  | none=>rw [hc] at h2; simp at h2
  | some c =>
   rw [hc] at h2
   simp only [if_true] at h2
   split at h2
   ·rename_i e; subst e; exact Or.inl ⟨rfl,f,by omega,h2⟩
   ·split at h2
    ·rename_i e; subst e; exact Or.inr ⟨rfl,f,by omega,h2⟩
    ·simp at h2
theorem Sh.open {l:List UInt8} {p o:Nat} (h:Sh l p (o+1) false):(l[p]?=some 41∧Sh l (p+1) o false)∨(∃ c,l[p]?=some c∧c≠41∧(Zak (l.drop p)).2≠0∧Sh l (p+(Zak (l.drop p)).2) (o+1) true):=by
 obtain ⟨f,h1,h2⟩:=h
 cases f with
 | zero=>simp [Zcb] at h2
 | succ f =>
  unfold Zcb at h2
  cases hc:l[p]? with
  | none=>rw [hc] at h2; simp at h2
  | some c =>
   rw [hc] at h2
   simp only [Bool.false_eq_true,if_false,Nat.add_one_ne_zero,Nat.add_sub_cancel] at h2
   split at h2
   ·rename_i e; subst e; exact Or.inl ⟨rfl,f,by omega,h2⟩
   ·rename_i e
    split at h2
    ·simp at h2
    ·rename_i e2
     exact Or.inr ⟨c,rfl,e,e2,f,by omega,h2⟩
structure HN where
 at':Nat
 wrong:Bool
 ans:List (List UInt8)
mutual
inductive HoldR (cs:List Cls) (names:Names) (l:List UInt8):ND→Nat→List (List UInt8)→HN→Prop
 | leaf (n:ND) (p:Nat) (A:List (List UInt8)) (hc:l[p]?=some 33) (h:n.goals=[]):HoldR cs names l n p A ⟨p+1,false,A++[Zbu names n]⟩
 | noleaf (n:ND) (p:Nat) (A:List (List UInt8)) (hc:l[p]?=some 33) (h:n.goals≠[]):HoldR cs names l n p A ⟨p,true,A⟩
 | nonode (n:ND) (p:Nat) (A:List (List UInt8)) (hc:l[p]?=some 40) (h:n.goals=[]):HoldR cs names l n p A ⟨p,true,A⟩
 | node (n:ND) (p:Nat) (A:List (List UInt8)) (R:HN) (hc:l[p]?=some 40) (h:n.goals≠[]) (hk:KidsR cs names l n cs.length 0 (p+1) A R):HoldR cs names l n p A R
inductive KidsR (cs:List Cls) (names:Names) (l:List UInt8):ND→Nat→Nat→Nat→List (List UInt8)→HN→Prop
 | shut (n:ND) (k p:Nat) (A:List (List UInt8)) (hc:l[p]?=some 41):KidsR cs names l n 0 k p A ⟨p+1,false,A⟩
 | noshut (n:ND) (k p:Nat) (A:List (List UInt8)) (c:UInt8) (hc:l[p]?=some c) (hn:c≠41):KidsR cs names l n 0 k p A ⟨p,true,A⟩
 | miss (n:ND) (f k p:Nat) (A:List (List UInt8)) (c:Cls) (R:HN) (hc:cs[k]?=some c) (hq:(tryN n c k).2=0) (h:KidsR cs names l n f (k+1) p A R):KidsR cs names l n (f+1) k p A R
 | off (n:ND) (f k p:Nat) (A:List (List UInt8)) (c:Cls) (hc:cs[k]?=some c) (hq:(tryN n c k).2≠0) (hw:(Zak (l.drop p)).2=0∨(Zak (l.drop p)).1≠k∨(tryN n c k).2=3):KidsR cs names l n (f+1) k p A ⟨p,true,A⟩
 | bad (n:ND) (f k p:Nat) (A:List (List UInt8)) (c:Cls) (R:HN) (hc:cs[k]?=some c) (hq:(tryN n c k).2=1∨(tryN n c k).2=2) (hs:(Zak (l.drop p)).2≠0) (hv:(Zak (l.drop p)).1=k) (h:HoldR cs names l (tryN n c k).1 (p+(Zak (l.drop p)).2) A R) (hw:R.wrong=true):KidsR cs names l n (f+1) k p A R
 | kid (n:ND) (f k p:Nat) (A:List (List UInt8)) (c:Cls) (R R2:HN) (hc:cs[k]?=some c) (hq:(tryN n c k).2=1∨(tryN n c k).2=2) (hs:(Zak (l.drop p)).2≠0) (hv:(Zak (l.drop p)).1=k) (h:HoldR cs names l (tryN n c k).1 (p+(Zak (l.drop p)).2) A R) (hw:R.wrong=false) (h2:KidsR cs names l n f (k+1) R.at' R.ans R2):KidsR cs names l n (f+1) k p A R2
end
theorem Yjl (cs:List Cls) (names:Names) (l:List UInt8):∀ (d:Nat) (n:ND) (p o:Nat) (A:List (List UInt8)),l.length - p≤d→Sh l p o true→∃ R,HoldR cs names l n p A R∧(R.wrong=false→p<R.at'∧Sh l R.at' o false):=by
 intro d
 induction d with
 | zero =>
  intro n p o A hd hs
  exfalso
  rcases hs.due with ⟨h,_⟩ | ⟨h,_⟩
  ·have:=(Qa.1 h).1; omega
  ·have:=(Qa.1 h).1; omega
 | succ d ih =>
  intro n p o A hd hs
  rcases hs.due with ⟨hc,hs1⟩ | ⟨hc,hs1⟩
  ·by_cases hg:n.goals=[]
   ·exact ⟨_,.leaf n p A hc hg,fun _=>⟨Nat.lt_succ_self _,hs1⟩⟩
   ·exact ⟨_,.noleaf n p A hc hg,fun h=>by simp at h⟩
  ·have hpl:=(Qa.1 hc).1
   by_cases hg:n.goals=[]
   ·exact ⟨_,.nonode n p A hc hg,fun h=>by simp at h⟩
   ·have kids:∀ (f k p':Nat) (A:List (List UInt8)),f+k=cs.length→p<p'→Sh l p' (o+1) false→∃ R,KidsR cs names l n f k p' A R∧(R.wrong=false→p<R.at'∧Sh l R.at' o false):=by
     intro f
     induction f with
     | zero =>
      intro k p' A hk hp hs
      rcases hs.open with ⟨h1,h2⟩ | ⟨c,h1,h2,_⟩
      ·exact ⟨_,.shut n k p' A h1,fun _=>⟨by show p<p'+1; omega,h2⟩⟩
      ·exact ⟨_,.noshut n k p' A c h1 h2,fun h=>by simp at h⟩
     | succ f ihf =>
      intro k p' A hk hp hs
      obtain ⟨c,hc⟩:∃ c,cs[k]?=some c:=⟨_,Qb (by omega)⟩
      by_cases hq0:(tryN n c k).2=0
      ·obtain ⟨R,h1,h2⟩:=ihf (k+1) p' A (by omega) hp hs
       exact ⟨R,.miss n f k p' A c R hc hq0 h1,h2⟩
      ·by_cases hw:(Zak (l.drop p')).2=0∨(Zak (l.drop p')).1≠k∨(tryN n c k).2=3
       ·exact ⟨_,.off n f k p' A c hc hq0 hw,fun h=>by simp at h⟩
       ·have hsz:(Zak (l.drop p')).2≠0:=fun h=>hw (Or.inl h)
        have hv:(Zak (l.drop p')).1=k:=by
         by_cases h:(Zak (l.drop p')).1=k
         ·exact h
         ·exact absurd (Or.inr (Or.inl h)) hw
        have hq:(tryN n c k).2=1∨(tryN n c k).2=2:=by
         have:=Zgd n c k
         have h3:(tryN n c k).2≠3:=fun h=>hw (Or.inr (Or.inr h))
         omega
        rcases hs.open with ⟨h1,_⟩ | ⟨c',h1,h2,_,h4⟩
        ·exfalso
         have hl:p'<l.length:=(Qa.1 h1).1
         have e:l.drop p'=41::l.drop (p'+1):=by rw [List.drop_eq_getElem_cons hl,(Qa.1 h1).2]
         rw [e] at hsz
         simp [Zak,figB] at hsz
        ·obtain ⟨R,g1,g2⟩:=ih (tryN n c k).1 (p'+(Zak (l.drop p')).2) (o+1) A (by omega) h4
         cases hRw:R.wrong with
         | true=>exact ⟨R,.bad n f k p' A c R hc hq hsz hv g1 hRw,fun h=>by rw [hRw] at h; simp at h⟩
         | false =>
          obtain ⟨g3,g4⟩:=g2 hRw
          obtain ⟨R2,k1,k2⟩:=ihf (k+1) R.at' R.ans (by omega) (by omega) g4
          exact ⟨R2,.kid n f k p' A c R R2 hc hq hsz hv g1 hRw k1,k2⟩
    obtain ⟨R,h1,h2⟩:=kids cs.length 0 (p+1) A (by omega) (by omega) hs1
    exact ⟨R,.node n p A R hc hg h1,h2⟩
theorem Yjm {s:ByteArray} {p:Nat} (h:p<s.size):s.data.toList[p]?=some s[p]:=by
 have hl:p<s.data.toList.length:=by simpa using h
 rw [Qb hl]
 rfl
theorem Ygr {c d:UInt8} (h:c≠d):(c.toNat:Int)≠(d.toNat:Int):=fun e=>h (UInt8.toNat.inj (by omega))
def Ydp (P:ND→Nat→List (List UInt8)→HN→Prop) (cs:List Cls) (l:List UInt8) (n:ND):Nat→Nat→Nat→List (List UInt8)→HN→Prop
 | 0,k,p,A,R=>(l[p]?=some 41∧R=⟨p+1,false,A⟩)∨(∃ c,l[p]?=some c∧c≠41∧R=⟨p,true,A⟩)
 | f+1,k,p,A,R=>∃ c,cs[k]?=some c∧(((tryN n c k).2=0∧Ydp P cs l n f (k+1) p A R) ∨
   ((tryN n c k).2≠0∧((Zak (l.drop p)).2=0∨(Zak (l.drop p)).1≠k∨(tryN n c k).2=3)∧R=⟨p,true,A⟩) ∨
   (((tryN n c k).2=1∨(tryN n c k).2=2)∧(Zak (l.drop p)).2≠0∧(Zak (l.drop p)).1=k∧∃ R1,P (tryN n c k).1 (p+(Zak (l.drop p)).2) A R1∧((R1.wrong=true∧R=R1)∨(R1.wrong=false∧Ydp P cs l n f (k+1) R1.at' R1.ans R))))
theorem HoldR.ind {cs:List Cls} {names:Names} {l:List UInt8} {P:ND→Nat→List (List UInt8)→HN→Prop}
  (h1:∀ n p A,l[p]?=some 33→n.goals=[]→P n p A ⟨p+1,false,A++[Zbu names n]⟩) (h2:∀ n p A,l[p]?=some 33→n.goals≠[]→P n p A ⟨p,true,A⟩) (h3:∀ n p A,l[p]?=some 40→n.goals=[]→P n p A ⟨p,true,A⟩)
  (h4:∀ n p A R,l[p]?=some 40→n.goals≠[]→Ydp P cs l n cs.length 0 (p+1) A R→P n p A R) {n:ND} {p:Nat} {A:List (List UInt8)} {R:HN} (h:HoldR cs names l n p A R):P n p A R:=by
 refine HoldR.rec (motive_1:=fun n p A R _=>P n p A R) (motive_2:=fun n f k p A R _=>Ydp P cs l n f k p A R) ?_ ?_ ?_ ?_ ?_ ?_ ?_ ?_ ?_ ?_ h
 ·intro n p A hc hg; exact h1 n p A hc hg
 ·intro n p A hc hg; exact h2 n p A hc hg
 ·intro n p A hc hg; exact h3 n p A hc hg
 ·intro n p A R hc hg _ ih; exact h4 n p A R hc hg ih
 ·intro n k p A hc; exact Or.inl ⟨hc,rfl⟩
 ·intro n k p A c hc hn; exact Or.inr ⟨c,hc,hn,rfl⟩
 ·intro n f k p A c R hc hq _ ih; exact ⟨c,hc,Or.inl ⟨hq,ih⟩⟩
 ·intro n f k p A c hc hq hw; exact ⟨c,hc,Or.inr (Or.inl ⟨hq,hw,rfl⟩)⟩
 ·intro n f k p A c R hc hq hs hv _ hw ih; exact ⟨c,hc,Or.inr (Or.inr ⟨hq,hs,hv,R,ih,Or.inl ⟨hw,rfl⟩⟩)⟩
 ·intro n f k p A c R R2 hc hq hs hv _ hw _ ih ih2; exact ⟨c,hc,Or.inr (Or.inr ⟨hq,hs,hv,R,ih,Or.inr ⟨hw,ih2⟩⟩)⟩
theorem box3' {w:World} {b:Nat} {u0 u1 u2:Value} {t:TypeId} (h:w.heap[b]?=some (.cells #[u0,u1,u2] t (0,0))) :
  w.cell? ⟨b,0,none⟩=some u0∧w.cell? ⟨b,1,none⟩=some u1∧w.cell? ⟨b,2,none⟩=some u2∧∀ i,w.frozen? ⟨b,i,none⟩=false :=
 ⟨Zaa h 0 _ rfl,Zaa h 1 _ rfl,Zaa h 2 _ rfl,fun i=>Zae h i⟩
open Classical in
noncomputable def Zhp (cs:List Cls) (a:List (List Sym) × Names) (l:List UInt8):HN:=if h:∃ R,HoldR cs a.2 l (topN a) 0 [] R then Classical.choose h else ⟨0,true,[]⟩
theorem Ygs (cs:List Cls) (a:List (List Sym) × Names) {l:List UInt8} (h:Zdi l=none):HoldR cs a.2 l (topN a) 0 [] (Zhp cs a l):=by
 obtain ⟨R,hR,_⟩:=Yjl cs a.2 l l.length (topN a) 0 0 [] (by omega) (Sh.start h)
 have hex:∃ R,HoldR cs a.2 l (topN a) 0 [] R:=⟨R,hR⟩
 unfold Zhp
 rw [dif_pos hex]
 exact Classical.choose_spec hex
noncomputable def allN (p q t:ByteArray):List (List UInt8) × Nat × Nat :=
 match Zcl p with
 | none=>([],4,0)
 | some cs=>match Zdx q with
  | none=>([],5,0)
  | some a=>if 20000<t.size then ([],1,0) else match Zdi t.data.toList with
   | some pl=>([],6,pl)
   | none=>if (Zhp cs a t.data.toList).wrong=true then ([],7,(Zhp cs a t.data.toList).at') else ((Zhp cs a t.data.toList).ans,0,0)
def Zss (p q t:ByteArray) (w:World) (e:Ending) (w':World):Prop:=Ext w w'∧∃ va vc,e = .returned (.tuple #[.slice va (allN p q t).1.length vc,.int .i64 (allN p q t).2.1,.int .i64 (allN p q t).2.2])∧w'.ownsRow w.heap.size 9 1 (.slice va (allN p q t).1.length vc) (allN p q t).1.length (strs (allN p q t).1)
theorem Ydq {p q t:ByteArray} {w w':World} {er pl:Nat} (h:allN p q t=([],er,pl)) (hE:Ext w w'):Zss p q t w (.returned (.tuple #[.slice none 0 0,.int .i64 er,.int .i64 pl])) w':=by
 refine ⟨hE,none,0,?_,?_⟩
 ·rw [h]; rfl
 ·rw [h]; exact World.ownsRow_nil _ _ _ _
noncomputable def Zfn (cs:List Cls) (n:ND):Nat→Nat→Option (Nat × Cls)
 | 0,_=>none
 | f+1,k=>match cs[k]? with
  | none=>none
  | some c=>if (tryN n c k).2=0 then Zfn cs n f (k+1) else some (k,c)
structure HM where
 ok:Bool
 at':Nat
 way:List (ND × Nat)
 ans:List (List UInt8)
def Zcc (names:Names) (l:List UInt8) (n:ND) (p:Nat) (way:List (ND × Nat)) (A:List (List UInt8)):HM :=
 if n.goals=[] then (if l[p]?=some 33 then ⟨true,p+1,way,A++[Zbu names n]⟩ else ⟨false,p,way,A⟩)
 else if l[p]?=some 40 then ⟨true,p+1,(n,0)::way,A⟩ else ⟨false,p,way,A⟩
noncomputable def goM (cs:List Cls) (names:Names) (l:List UInt8) (n:ND) (k p:Nat) (r:List (ND × Nat)) (A:List (List UInt8)):HM :=
 match Zfn cs n (cs.length - k) k with
 | none=>if l[p]?=some 41 then ⟨true,p+1,r,A⟩ else ⟨false,p,(n,cs.length)::r,A⟩
 | some (j,c)=>if (tryN n c j).2=3∨(Zak (l.drop p)).2=0∨(Zak (l.drop p)).1≠j then ⟨false,p,(n,j+1)::r,A⟩ else Zcc names l (tryN n c j).1 (p+(Zak (l.drop p)).2) ((n,j+1)::r) A
inductive Goes (cs:List Cls) (names:Names) (l:List UInt8):Nat→List (ND × Nat)→List (List UInt8)→HN→Prop
 | done (p:Nat) (A:List (List UInt8)):Goes cs names l p [] A ⟨p,false,A⟩
 | wrong (n:ND) (k p:Nat) (r:List (ND × Nat)) (A:List (List UInt8)) (R:HN) (h:(goM cs names l n k p r A).ok=false) (hw:R.wrong=true) (ha:R.at'=(goM cs names l n k p r A).at'):Goes cs names l p ((n,k)::r) A R
 | step (n:ND) (k p:Nat) (r:List (ND × Nat)) (A:List (List UInt8)) (R:HN) (h:(goM cs names l n k p r A).ok=true) (hg:Goes cs names l (goM cs names l n k p r A).at' (goM cs names l n k p r A).way (goM cs names l n k p r A).ans R):Goes cs names l p ((n,k)::r) A R
def Znb (cs:List Cls) (names:Names) (l:List UInt8) (M:HM) (R:HN):Prop:=(M.ok=true→Goes cs names l M.at' M.way M.ans R)∧(M.ok=false→R.wrong=true∧R.at'=M.at')
theorem Zlc {cs:List Cls} {names:Names} {l:List UInt8} {n:ND} {k p:Nat} {r:List (ND × Nat)} {A:List (List UInt8)} {R:HN} (h:Znb cs names l (goM cs names l n k p r A) R):Goes cs names l p ((n,k)::r) A R:=by
 cases hk:(goM cs names l n k p r A).ok with
 | true=>exact .step n k p r A R hk (h.1 hk)
 | false=>exact .wrong n k p r A R hk (h.2 hk).1 (h.2 hk).2
theorem Zig {cs:List Cls} {names:Names} {l:List UInt8} {n:ND} {k p:Nat} {r:List (ND × Nat)} {A:List (List UInt8)} {R:HN} (h:Goes cs names l p ((n,k)::r) A R):Znb cs names l (goM cs names l n k p r A) R:=by
 cases h with
 | wrong _ _ _ _ _ _ h hw ha=>exact ⟨fun e=>by rw [h] at e; simp at e,fun _=>⟨hw,ha⟩⟩
 | step _ _ _ _ _ _ h hg=>exact ⟨fun _=>hg,fun e=>by rw [h] at e; simp at e⟩
theorem Zxa {cs:List Cls} {names:Names} {l:List UInt8} {p:Nat} {A:List (List UInt8)} {R:HN} (h:Goes cs names l p [] A R):R=⟨p,false,A⟩:=by
 cases h; rfl
theorem Zqe {cs:List Cls} {names:Names} {l:List UInt8} {n:ND} {k p:Nat} {r:List (ND × Nat)} {A:List (List UInt8)} {c:Cls} (hc:cs[k]?=some c) (hq:(tryN n c k).2=0):goM cs names l n k p r A=goM cs names l n (k+1) p r A:=by
 have hk:=(Qa.1 hc).1
 unfold goM
 rw [show cs.length - k=(cs.length - (k+1))+1 by omega,Zfn,hc]
 simp only [hq,if_true]
theorem Ydr {cs:List Cls} {names:Names} {l:List UInt8} {n:ND} {p:Nat} {A:List (List UInt8)} {R:HN} (h:HoldR cs names l n p A R):∀ (way:List (ND × Nat)) (Rf:HN),(R.wrong=false→Goes cs names l R.at' way R.ans Rf)→(R.wrong=true→Rf.wrong=true∧Rf.at'=R.at')→Znb cs names l (Zcc names l n p way A) Rf:=by
 refine HoldR.ind (P:=fun n p A R=>∀ (way:List (ND × Nat)) (Rf:HN),(R.wrong=false→Goes cs names l R.at' way R.ans Rf)→(R.wrong=true→Rf.wrong=true∧Rf.at'=R.at')→Znb cs names l (Zcc names l n p way A) Rf) ?_ ?_ ?_ ?_ h
 ·intro n p A hc hg way Rf h1 _
  unfold Zcc
  rw [if_pos hg,if_pos hc]
  exact ⟨fun _=>h1 rfl,fun e=>by simp at e⟩
 ·intro n p A hc hg way Rf _ h2
  unfold Zcc
  rw [if_neg hg,if_neg (by rw [hc]; simp)]
  exact ⟨fun e=>by simp at e,fun _=>h2 rfl⟩
 ·intro n p A hc hg way Rf _ h2
  unfold Zcc
  rw [if_pos hg,if_neg (by rw [hc]; simp)]
  exact ⟨fun e=>by simp at e,fun _=>h2 rfl⟩
 ·intro n p A R hc hg hk way Rf h1 h2
  unfold Zcc
  rw [if_neg hg,if_pos hc]
  refine ⟨fun _ => ?_,fun e=>by simp at e⟩
  show Goes cs names l (p+1) ((n,0)::way) A Rf
  have key:∀ (f k p:Nat) (A:List (List UInt8)),f+k=cs.length→Ydp (fun n p A R=>∀ (way:List (ND × Nat)) (Rf:HN),(R.wrong=false→Goes cs names l R.at' way R.ans Rf)→(R.wrong=true→Rf.wrong=true∧Rf.at'=R.at')→Znb cs names l (Zcc names l n p way A) Rf) cs l n f k p A R→Goes cs names l p ((n,k)::way) A Rf:=by
   intro f
   induction f with
   | zero =>
    intro k p A hf hs
    refine Zlc ?_
    unfold goM
    rw [show cs.length - k=0 by omega,Zfn]
    simp only
    rcases hs with ⟨h3,rfl⟩ | ⟨c,h3,h4,rfl⟩
    ·rw [if_pos h3]
     exact ⟨fun _=>h1 rfl,fun e=>by simp at e⟩
    ·rw [if_neg (by rw [h3]; simpa using h4)]
     exact ⟨fun e=>by simp at e,fun _=>h2 rfl⟩
   | succ f ih =>
    intro k p A hf hs
    obtain ⟨c,hc,h⟩:=hs
    rcases h with ⟨hq,h⟩ | ⟨hq,hw,rfl⟩ | ⟨hq,hs,hv,R1,hP,h⟩
    ·have:=Zig (ih (k+1) p A (by omega) h)
     rw [← Zqe hc hq] at this
     exact Zlc this
    ·refine Zlc ?_
     unfold goM
     rw [show cs.length - k=f+1 by omega,Zfn,hc]
     simp only
     rw [if_neg hq]
     simp only
     rw [if_pos (by rcases hw with h | h | h <;> simp [h])]
     exact ⟨fun e=>by simp at e,fun _=>h2 rfl⟩
    ·refine Zlc ?_
     unfold goM
     rw [show cs.length - k=f+1 by omega,Zfn,hc]
     simp only
     rw [if_neg (by omega)]
     simp only
     rw [if_neg (by rintro (h | h | h); omega; exact hs h; exact h hv)]
     refine hP _ Rf (fun hw => ?_) (fun hw => ?_)
     ·rcases h with ⟨h,_⟩ | ⟨_,h⟩
      ·rw [hw] at h; simp at h
      ·exact ih (k+1) _ _ (by omega) h
     ·rcases h with ⟨_,rfl⟩ | ⟨h,_⟩
      ·exact h2 hw
      ·rw [hw] at h; simp at h
  exact key cs.length 0 (p+1) A (by omega) hk
theorem Znc (cs:List Cls) (a:List (List Sym) × Names) {l:List UInt8} (h:Zdi l=none):Znb cs a.2 l (Zcc a.2 l (topN a) 0 [] []) (Zhp cs a l) :=
 Ydr (Ygs cs a h) [] _ (fun hw=>by
  have:Zhp cs a l=⟨(Zhp cs a l).at',false,(Zhp cs a l).ans⟩:=by
   rw [← hw]
  rw [this]
  exact .done _ _) (fun hw=>⟨hw,rfl⟩)
def Zgm (s:SN):Prop:=s.status=1→s.found.used≠[]
theorem Zst {s:SN} {n:ND} (h:s.status≠1) (hn:n.used≠[]):Zgm (Zbz s n):=by
 unfold Zbz
 split
 ·exact fun _=>hn
 ·exact fun e=>absurd e h
theorem Zzq {cs:List Cls} {s:SN} (h0:s.status=0):Zgm (Zas cs s):=by
 unfold Zas
 split
 ·exact fun e=>by omega
 ·split
  ·exact fun e=>by omega
  ·rename_i n k r _ c hc
   show Zgm (Zdf cs _)
   have hl:∀ u:SN,Zgm u→Zgm (Zdf cs u):=fun u h e=>h e
   apply hl
   split
   ·exact fun e=>by simp at e
   ·split
    ·rename_i h12
     exact Zst (by simp only; omega) (by rw [Zgc h12]; simp)
    ·exact fun e=>by simp only at e; omega
theorem Zuw {cs:List Cls}:∀ {n:Nat} {s:SN},Zgm s→Zgm (Zcf cs n s).1:=by
 intro n
 induction n with
 | zero=>intro s h; exact h
 | succ n ih =>
  intro s h
  unfold Zcf
  split
  ·rename_i hc
   exact ih (Zzq hc.1)
  ·exact h
theorem Zux {cs:List Cls} {n:Nat} {s:SN} (h:Zgm s):Zgm (Zch cs n s).1:=by
 unfold Zch
 split
 ·exact h
 ·have h1:Zgm (Zcf cs n { s with status:=0 }).1:=Zuw (fun e=>by simp at e)
  show Zgm (endN _)
  unfold endN
  split
  ·exact fun e=>by simp [Zhb] at e
  ·split
   ·split
    ·exact fun e=>by simp at e
    ·split
     ·exact fun e=>by simp [Zhb] at e
     ·exact h1
   ·exact h1
theorem Ygt {cs:List Cls}:∀ {n:Nat} {s:SN},(Zcf cs n s).2≤n:=by
 intro n
 induction n with
 | zero=>intro s; simp [Zcf]
 | succ n ih=>intro s; unfold Zcf; split <;> simp [ih]
theorem Zqf {cs:List Cls} {n:Nat} {s:SN}:(Zch cs n s).2≤n:=by
 unfold Zch
 split
 ·simp
 ·exact Ygt
theorem Zzr {cs:List Cls}:∀ {n:Nat} {s:SN},(Zcf cs n s).2<n→¬ ((Zcf cs n s).1.status=0∧(Zcf cs n s).1.way≠[]∧(Zcf cs n s).1.tries<3000):=by
 intro n
 induction n with
 | zero=>intro s h; omega
 | succ n ih =>
  intro s h
  unfold Zcf at h ⊢
  split at h
  ·rename_i hc
   rw [if_pos hc]
   exact ih (by simpa using h)
  ·rename_i hc
   rw [if_neg hc]
   exact hc
theorem Zzs {cs:List Cls} {n:Nat} {s:SN} (h:(Zch cs n s).2<n):(Zch cs n s).1.status≠0:=by
 unfold Zch at h ⊢
 split at h
 ·rename_i hc
  rw [if_pos hc]
  simp only; omega
 ·rename_i hc
  rw [if_neg hc]
  have h1:=Zzr h
  simp only
  unfold endN
  split
  ·simp [Zhb]
  ·split
   ·rename_i h3 h0
    split
    ·simp
    ·split
     ·simp [Zhb]
     ·rename_i hw ht
      exact absurd ⟨h0,hw,by omega⟩ h1
   ·rename_i h0
    exact h0
theorem Zld {cs:List Cls} {n:Nat} {s:SN} (hn:0<n) (hs:s.status≠2∧s.status≠3) (h:(Zch cs n s).1.status=0∨(Zch cs n s).1.status=1):(Zch cs n s).2≠0:=by
 intro h0
 unfold Zch at h h0
 rw [if_neg (by omega)] at h h0
 simp only at h h0
 obtain ⟨m,rfl⟩:∃ m,n=m+1:=⟨n - 1,by omega⟩
 unfold Zcf at h h0
 split at h
 ·rename_i hc
  rw [if_pos hc] at h0
  simp at h0
 ·rename_i hc
  simp only at h
  unfold endN at h
  simp only at h hc
  rw [if_neg (by omega),if_pos trivial] at h
  split at h
  ·simp at h
  ·rename_i hw
   split at h
   ·simp [Zhb] at h
   ·rename_i ht
    exact hc ⟨trivial,hw,by omega⟩
theorem Zlv (k:Nat):Lib.decDigits k≠[]:=by
 rw [Lib.decDigits]
 split <;> simp
theorem Zzt {names:Names} {n:ND} (h:n.vals.length=names.length):Zbu names n≠[]:=by
 unfold Zbu
 split
 ·simp
 ·rename_i hn
  have hl:=Zfr n.vals []
  cases names with
  | nil=>exact absurd rfl hn
  | cons x xs =>
   cases hc:(Zay n.vals []).1 with
   | nil=>rw [hc] at hl; simp at hl h; omega
   | cons t ts=>simp [Ziz]
theorem Zuy {n:ND} (h:n.used≠[]):Zbp n≠[]:=by
 unfold Zbp
 cases hu:n.used with
 | nil=>exact absurd hu h
 | cons k ks =>
  simp only [Zax]
  intro e
  have h1:=List.append_eq_nil_iff.1 e
  exact Zlv k (List.append_eq_nil_iff.1 h1.2).1
theorem Ygu {cs:List Cls} {n:ND} {t:List UInt8} (h:TreeR cs n t):t≠[]:=by
 cases h <;> simp
theorem Zle {cs:List Cls} {a:List (List Sym) × Names} {s:SN} (hI:InvN cs a s) (hF:Zgm s) :
  ((Zdb a s.status s.found s.tree).1=[]↔s.status≠1)∧((Zdb a s.status s.found s.tree).2.1=[]↔s.status≠1)∧((Zdb a s.status s.found s.tree).2.2=[]↔s.status≠2):=by
 unfold Zdb
 by_cases h1:s.status=1
 ·rw [if_pos h1]
  have ha:=Zzt (hI.found h1).2.1
  have hw:=Zuy (hF h1)
  simp [h1,ha,hw]
 ·rw [if_neg h1]
  by_cases h2:s.status=2
  ·rw [if_pos h2]
   have ht:=hI.tree (by omega)
   rw [hI.no h2] at ht
   have:=Ygu ht
   simp [h1,h2,this]
  ·rw [if_neg h2]
   simp [h1,h2]
structure Tr where
 ans:List (List UInt8)
 wts:List (List UInt8)
 tries:Nat
 status:Nat
def Zee (size left:Nat):Nat:=if left<size then left else size
noncomputable def addN (a:List (List Sym) × Names) (t:Tr) (r:SN × Nat):Tr :=
 if r.1.status=1 then ⟨t.ans++[(Zdb a r.1.status r.1.found r.1.tree).1],t.wts++[(Zdb a r.1.status r.1.found r.1.tree).2.1],t.tries+r.2,r.1.status⟩ else ⟨t.ans,t.wts,t.tries+r.2,r.1.status⟩
noncomputable def aftN (cs:List Cls) (a:List (List Sym) × Names) (tries size:Nat):Nat→SN→Tr→SN × Tr
 | 0,m,t=>(m,t)
 | f+1,m,t=>if t.tries<tries then
   (if (Zch cs (Zee size (tries - t.tries)) m).1.status=2∨(Zch cs (Zee size (tries - t.tries)) m).1.status=3 then ((Zch cs (Zee size (tries - t.tries)) m).1,addN a t (Zch cs (Zee size (tries - t.tries)) m))
    else aftN cs a tries size f (Zch cs (Zee size (tries - t.tries)) m).1 (addN a t (Zch cs (Zee size (tries - t.tries)) m)))
   else (m,t)
theorem Zhc {a:List (List Sym) × Names} {t:Tr} {r:SN × Nat}:(addN a t r).tries=t.tries+r.2:=by
 unfold addN
 split <;> rfl
theorem Zes:∀ k<10,Lib.decDigits k=[UInt8.ofNat (48+k)]:=by decide +kernel
theorem Zqg:∀ k<100,10≤k→Lib.decDigits k=[UInt8.ofNat (48+k / 10),UInt8.ofNat (48+k % 10)]:=by decide +kernel
theorem Zcu:∀ k<10,figB (UInt8.ofNat (48+k))=true∧(UInt8.ofNat (48+k)).toNat=48+k:=by decide +kernel
def Yds (r:List UInt8):Prop:=∀ b r',r=b::r'→figB b=false
theorem Zez {k:Nat} (hk:k<100) {r:List UInt8} (hr:Yds r):Zak (Lib.decDigits k++r)=(k,(Lib.decDigits k).length):=by
 rcases Nat.lt_or_ge k 10 with h | h
 ·obtain ⟨f1,f2⟩:=Zcu k h
  rw [Zes k h]
  simp only [List.singleton_append,Zak,f1,if_true,Qn]
  by_cases h0:k=0
  ·subst h0
   rw [if_pos (by rw [f2])]
  ·rw [if_neg (by rw [f2]; omega)]
   cases r with
   | nil=>simp only; rw [f2]; simp
   | cons b r' =>
    simp only
    rw [hr b r' rfl]
    simp only [Bool.false_eq_true,if_false]
    rw [f2]
    simp
 ·obtain ⟨f1,f2⟩:=Zcu (k / 10) (by omega)
  obtain ⟨g1,g2⟩:=Zcu (k % 10) (by omega)
  rw [Zqg k hk h]
  simp only [List.cons_append,List.nil_append,Zak,f1,if_true]
  rw [if_neg (by rw [f2]; omega)]
  simp only [g1,if_true]
  rw [f2,g2]
  simp
  omega
theorem Zdg {k:Nat}:0<(Lib.decDigits k).length:=by
 have:=Zlv k
 cases h:Lib.decDigits k with
 | nil=>exact absurd h this
 | cons a l=>simp
theorem Zxb {k:Nat} (hk:k<100):(Lib.decDigits k).length≤2:=by
 rcases Nat.lt_or_ge k 10 with h | h
 ·rw [Zes k h]; simp
 ·rw [Zqg k hk h]; simp
theorem Zki {l:List UInt8} {k m f p:Nat} {acc:List Nat} (hn:Zak l=(k,m)) (hm:m≠0):Zde (f+1) l p acc=match l.drop m with
   | []=>(some (acc++[k]),0)
   | c::r=>if c=46 then Zde f r (p+m+1) (acc++[k]) else (none,p+m):=by
 rw [Zde]
 simp only [hn,hm,if_false]
 cases List.drop m l <;> rfl
theorem Znv:∀ (ks:List Nat) (k f p:Nat) (acc:List Nat),k<100→(∀ j ∈ ks,j<100)→ks.length<f→(Zde f (Lib.decDigits k++Zax [46] ks) p acc).1=some (acc++k::ks):=by
 intro ks
 induction ks with
 | nil =>
  intro k f p acc hk _ hf
  obtain ⟨g,rfl⟩:∃ g,f=g+1:=⟨f - 1,by omega⟩
  have hn:=Zez hk (r:=[]) (fun b r' e=>by simp at e)
  have e0:Zax [46] []=[]:=rfl
  rw [e0,Zki hn (by have := @Zdg k; omega),List.drop_left]
 | cons j ks ih =>
  intro k f p acc hk hj hf
  simp only [Qf] at hf
  obtain ⟨g,rfl⟩:∃ g,f=g+1:=⟨f - 1,by omega⟩
  have hn:=Zez hk (r:=Zax [46] (j::ks)) (fun b r' e=>by
   simp only [Zax,List.cons_append,List.nil_append,List.cons.injEq] at e
   rw [← e.1]
   decide)
  rw [Zki hn (by have := @Zdg k; omega),List.drop_left]
  have e:Zax [46] (j::ks)=46::(Lib.decDigits j++Zax [46] ks):=rfl
  rw [e]
  simp only [if_true]
  rw [ih j g _ _ (hj j (by simp)) (fun i hi=>hj i (by simp [hi])) (by omega)]
  simp
theorem Ydt:∀ (ks:List Nat),(∀ j ∈ ks,j<100)→(Zax [46] ks).length≤3 * ks.length∧ks.length≤(Zax [46] ks).length:=by
 intro ks
 induction ks with
 | nil=>intro _; simp [Zax]
 | cons k ks ih =>
  intro h
  have h1:=ih (fun j hj=>h j (by simp [hj]))
  have h2:=Zxb (h k (by simp))
  have h3 := @Zdg k
  simp only [Zax,Qg,Qf,Jt]
  omega
theorem Zih (ks:List Nat) (h0:ks≠[]) (h:∀ j ∈ ks,j<100):(Zcj ⟨(Zax [] ks).toArray⟩).1=some ks:=by
 cases ks with
 | nil=>exact absurd rfl h0
 | cons k ks =>
  unfold Zcj
  have:=Znv ks k ((⟨(Zax [] (k::ks)).toArray⟩:ByteArray).size+1) 0 [] (h k (by simp)) (fun j hj=>h j (by simp [hj])) (by
   have h1:=(Ydt ks (fun j hj=>h j (by simp [hj]))).2
   simp only [ByteArray.size,List.size_toArray,Zax,List.nil_append,Qg]
   omega)
  simpa [Zax] using this
theorem Zjn (ks:List Nat) (h:∀ j ∈ ks,j<100):(Zax [] ks).length≤3 * ks.length:=by
 cases ks with
 | nil=>simp [Zax]
 | cons k ks =>
  have h1:=(Ydt ks (fun j hj=>h j (by simp [hj]))).1
  have h2:=Zxb (h k (by simp))
  simp only [Zax,List.nil_append,Qg,Qf]
  omega
def Reach (cs:List Cls):ND→List Nat→ND→Prop
 | n,[],m=>m=n
 | n,k::ks,m=>∃ c,cs[k]?=some c∧n.goals≠[]∧((tryN n c k).2=1∨(tryN n c k).2=2)∧Reach cs (tryN n c k).1 ks m
theorem Reach.snoc {cs:List Cls}:∀ {ks:List Nat} {n m:ND} {k:Nat} {c:Cls},Reach cs n ks m→cs[k]?=some c→m.goals≠[]→((tryN m c k).2=1∨(tryN m c k).2=2)→Reach cs n (ks++[k]) (tryN m c k).1:=by
 intro ks
 induction ks with
 | nil=>intro n m k c h hc hg hq; obtain rfl:m=n:=h; exact ⟨c,hc,hg,hq,rfl⟩
 | cons j ks ih =>
  intro n m k c h hc hg hq
  obtain ⟨d,h1,h2,h3,h4⟩:=h
  exact ⟨d,h1,h2,h3,ih h4 hc hg hq⟩
theorem Ydu {cs:List Cls} {top:ND}:∀ {r:List (ND × Nat)} {n:ND} {k:Nat} {T:List UInt8},PH cs top r n k T→Reach cs top (Zgh r) n:=by
 intro r
 induction r with
 | nil=>intro n k T h; obtain ⟨h1,_⟩:=h; exact h1
 | cons x r ih =>
  intro n k T h
  obtain ⟨m,j⟩:=x
  obtain ⟨h1,h2,t,j',c,T',h3,h4,h5,h6,h7,h8,h9⟩:=h
  simp only at h3 h5 h6 h7
  subst h3
  rw [Zlb,h6]
  have hg:m.goals≠[]:=by
   cases r with
   | nil=>exact h7.2.1
   | cons y r=>exact h7.1
  exact (ih h7).snoc h4 hg h5
def Zop (cs:List Cls) (top:ND) (s:SN):Prop:=s.status=1→Reach cs top s.found.used s.found∧s.found.goals=[]∧s.found.used≠[]∧s.found.used.length≤100
theorem Ygv {n:ND} {c:Cls} {k:Nat} (h:(tryN n c k).2=1∨(tryN n c k).2=2):(tryN n c k).1.used.length≤100:=by
 by_cases hex:∃ r:ND × Nat,∃ m,NOk m∧Same m n∧Out m c k r.2 r.1
 ·have e:tryN n c k=Classical.choose hex:=by unfold tryN; rw [dif_pos hex]
  obtain ⟨m,_,hS,g,gs,_,ho⟩:=Classical.choose_spec hex
  rw [e] at h ⊢
  rcases ho with ⟨h0,_⟩ | ⟨h0,_⟩ | ⟨σ,_,_,h3,h4⟩
  ·omega
  ·omega
  ·rw [h3,← h4] at h
   unfold Zfg at h
   split at h
   ·omega
   ·rename_i ho
    unfold Zmp at ho
    simp only [Bool.or_eq_true,decide_eq_true_eq,not_or] at ho
    omega
 ·have e:tryN n c k=(⟨[],[],[],[],0⟩,0):=by unfold tryN; rw [dif_neg hex]
  rw [e]
  simp
theorem Zzu {cs:List Cls} {a:List (List Sym) × Names} {s:SN} (hI:InvN cs a s) (h0:s.status=0):Zop cs (topN a) (Zas cs s):=by
 unfold Zas
 split
 ·exact fun e=>by omega
 ·split
  ·exact fun e=>by omega
  ·rename_i n k r hw _ c hc
   show Zop cs (topN a) (Zdf cs _)
   have hl:∀ u:SN,Zop cs (topN a) u→Zop cs (topN a) (Zdf cs u):=fun u h e=>h e
   apply hl
   split
   ·exact fun e=>by simp at e
   ·split
    ·rename_i h12
     intro e
     unfold Zbz at e ⊢
     split
     ·rename_i hg
      have hp:=hI.tree (by omega)
      rw [hw] at hp
      have hu:=hI.used
      rw [hw] at hu
      have hr:=Ydu hp
      have hgn:n.goals≠[]:=(hI.way (n,k) (by rw [hw]; simp)).1
      have e1:n.used=Zgh r:=hu.1
      simp only
      rw [Zgc h12,e1]
      refine ⟨hr.snoc hc hgn h12,hg,by simp,?_⟩
      rw [← e1,← Zgc h12]
      exact Ygv h12
     ·rename_i hg
      rw [if_neg hg] at e
      simp only at e
      omega
    ·exact fun e=>by simp only at e; omega
mutual
inductive TreeA (cs:List Cls) (names:Names):ND→List UInt8→List (List UInt8)→Prop
 | leaf (n:ND) (h:n.goals=[]):TreeA cs names n [33] [Zbu names n]
 | node (n:ND) (t:List UInt8) (A:List (List UInt8)) (h:n.goals≠[]) (hp:PartA cs names n cs.length t A):TreeA cs names n ([40]++t++[41]) A
inductive PartA (cs:List Cls) (names:Names):ND→Nat→List UInt8→List (List UInt8)→Prop
 | zero (n:ND):PartA cs names n 0 [] []
 | miss (n:ND) (k:Nat) (t:List UInt8) (A:List (List UInt8)) (c:Cls) (h:PartA cs names n k t A) (hc:cs[k]?=some c) (hq:(tryN n c k).2=0):PartA cs names n (k+1) t A
 | kid (n:ND) (k:Nat) (t u:List UInt8) (A B:List (List UInt8)) (c:Cls) (h:PartA cs names n k t A) (hc:cs[k]?=some c) (hq:(tryN n c k).2=1∨(tryN n c k).2=2) (hu:TreeA cs names (tryN n c k).1 u B):PartA cs names n (k+1) (t++Lib.decDigits k++u) (A++B)
end
def PHA (cs:List Cls) (names:Names) (top:ND):List (ND × Nat)→ND→Nat→List UInt8→List (List UInt8)→Prop
 | [],n,k,T,A=>n=top∧n.goals≠[]∧k≤cs.length∧∃ t,PartA cs names n k t A∧T=[40]++t
 | x::r,n,k,T,A=>n.goals≠[]∧k≤cs.length∧∃ t j' c T' A' B,x.2=j'+1∧cs[j']?=some c∧((tryN x.1 c j').2=1∨(tryN x.1 c j').2=2)∧n=(tryN x.1 c j').1∧PHA cs names top r x.1 j' T' A'∧PartA cs names n k t B∧T=T'++Lib.decDigits j'++([40]++t)∧A=A'++B
def PWA (cs:List Cls) (names:Names) (top:ND):List (ND × Nat)→List UInt8→List (List UInt8)→Prop
 | [],T,A=>TreeA cs names top T A
 | (n,k)::r,T,A=>PHA cs names top r n k T A
theorem PWA.part {cs:List Cls} {names:Names} {top n:ND} {k:Nat} {r:List (ND × Nat)} {T:List UInt8} {A:List (List UInt8)} (h:PWA cs names top ((n,k)::r) T A):n.goals≠[]∧k≤cs.length∧∃ t0 t A0 B,PartA cs names n k t B∧T=t0++([40]++t)∧A=A0++B∧∀ k' t' B',PartA cs names n k' t' B'→k'≤cs.length→PWA cs names top ((n,k')::r) (t0++([40]++t')) (A0++B'):=by
 cases r with
 | nil =>
  obtain ⟨h1,h2,h3,t,h4,h5⟩:=h
  exact ⟨h2,h3,[],t,[],A,h4,by simpa using h5,by simp,fun k' t' B' hp hk=>⟨h1,h2,hk,t',by simpa using hp,by simp⟩⟩
 | cons m r =>
  obtain ⟨m,j⟩:=m
  obtain ⟨h1,h2,t,j',c,T',A',B,h3,h4,h5,h6,h7,h8,h9,h10⟩:=h
  exact ⟨h1,h2,T'++Lib.decDigits j',t,A',B,h8,h9,h10,fun k' t' B' hp hk=>⟨h1,hk,t',j',c,T',A',B',h3,h4,h5,h6,h7,hp,rfl,rfl⟩⟩
theorem PWA.miss {cs:List Cls} {names:Names} {top n:ND} {k:Nat} {r:List (ND × Nat)} {T:List UInt8} {A:List (List UInt8)} {c:Cls} (h:PWA cs names top ((n,k)::r) T A) (hc:cs[k]?=some c) (hq:(tryN n c k).2=0):PWA cs names top ((n,k+1)::r) T A:=by
 obtain ⟨h1,h2,t0,t,A0,B,h3,h4,h6,h5⟩:=h.part
 rw [h4,h6]
 exact h5 (k+1) t B (.miss n k t B c h3 hc hq) (by have:=(Qa.1 hc).1; omega)
theorem PWA.kid {cs:List Cls} {names:Names} {top n:ND} {k:Nat} {r:List (ND × Nat)} {T u:List UInt8} {A B':List (List UInt8)} {c:Cls} (h:PWA cs names top ((n,k)::r) T A) (hc:cs[k]?=some c) (hq:(tryN n c k).2=1∨(tryN n c k).2=2) (hu:TreeA cs names (tryN n c k).1 u B'):PWA cs names top ((n,k+1)::r) (T++Lib.decDigits k++u) (A++B'):=by
 obtain ⟨h1,h2,t0,t,A0,B,h3,h4,h6,h5⟩:=h.part
 rw [h4,h6]
 have:=h5 (k+1) (t++Lib.decDigits k++u) (B++B') (.kid n k t u B B' c h3 hc hq hu) (by have:=(Qa.1 hc).1; omega)
 simpa using this
theorem PWA.down {cs:List Cls} {names:Names} {top n:ND} {k:Nat} {r:List (ND × Nat)} {T:List UInt8} {A:List (List UInt8)} {c:Cls} (h:PWA cs names top ((n,k)::r) T A) (hc:cs[k]?=some c) (hq:(tryN n c k).2=1∨(tryN n c k).2=2) (hg:(tryN n c k).1.goals≠[]):PWA cs names top (((tryN n c k).1,0)::(n,k+1)::r) (T++Lib.decDigits k++[40]) A :=
 ⟨hg,Qm _,[],k,c,T,A,[],rfl,hc,hq,rfl,h,.zero _,by simp,by simp⟩
theorem PWA.up {cs:List Cls} {names:Names} {top n:ND} {k:Nat} {r:List (ND × Nat)} {T:List UInt8} {A:List (List UInt8)} (h:PWA cs names top ((n,k)::r) T A) (hk:cs.length≤k):PWA cs names top r (T++[41]) A:=by
 cases r with
 | nil =>
  obtain ⟨h1,h2,h3,t,h4,h5⟩:=h
  have e:k=cs.length:=by omega
  subst e h1 h5
  exact .node n t A h2 h4
 | cons m r =>
  obtain ⟨m,j⟩:=m
  obtain ⟨h1,h2,t,j',c,T',A',B,h3,h4,h5,h6,h7,h8,h9,h10⟩:=h
  have e:k=cs.length:=by omega
  simp only at h3 h5 h6 h7
  subst e h3 h6 h9 h10
  have h7':PWA cs names top ((m,j')::r) T' A':=h7
  have:=h7'.kid h4 h5 (.node _ t B h1 h8)
  simpa using this
theorem PWA.leave {cs:List Cls} {names:Names} {top:ND} {A:List (List UInt8)}:∀ {way:List (ND × Nat)} {T:List UInt8},PWA cs names top way T A→PWA cs names top (Zdw cs way T).1 (Zdw cs way T).2 A:=by
 intro way
 induction way with
 | nil=>intro T h; exact h
 | cons x r ih =>
  obtain ⟨n,k⟩:=x
  intro T h
  unfold Zdw
  split
  ·rename_i hk
   exact ih (h.up hk)
  ·exact h
noncomputable def ansB (names:Names) (A:List (List UInt8)) (s:SN):List (List UInt8):=if s.status=1 then A++[Zbu names s.found] else A
theorem PWA.try' {cs:List Cls} {names:Names} {top:ND} {s:SN} {A:List (List UInt8)} (h0:s.status=0) (h:PWA cs names top s.way s.tree A) (hf:(Zas cs s).status≠3):PWA cs names top (Zas cs s).way (Zas cs s).tree (ansB names A (Zas cs s)):=by
 unfold Zas at hf ⊢
 cases hw:s.way with
 | nil =>
  rw [hw] at h
  unfold ansB
  simp only [hw,h0]
  simpa using h
 | cons x r =>
  obtain ⟨n,k⟩:=x
  rw [hw] at hf h
  simp only at hf ⊢
  have h':PWA cs names top ((n,k)::r) s.tree A:=h
  cases hc:cs[k]? with
  | none =>
   rw [hc] at hf
   unfold ansB
   simp only [hw,h0]
   simpa using h
  | some c =>
   rw [hc] at hf
   simp only at hf ⊢
   by_cases h3:(tryN n c k).2=3
   ·rw [if_pos h3] at hf
    exact absurd rfl hf
   ·rw [if_neg h3]
    by_cases h12:(tryN n c k).2=1∨(tryN n c k).2=2
    ·rw [if_pos h12]
     by_cases hg:(tryN n c k).1.goals=[]
     ·simp only [Zbz,if_pos hg,Zdf,ansB,if_true]
      exact (h'.kid hc h12 (.leaf _ hg)).leave
     ·simp only [Zbz,if_neg hg,Zdf,ansB,h0]
      exact (h'.down hc h12 hg).leave
    ·rw [if_neg h12]
     simp only [Zdf,ansB,h0]
     have hq0:(tryN n c k).2=0:=by have:=Zgd n c k; omega
     exact (h'.miss hc hq0).leave
theorem Ydv {cs:List Cls} {a:List (List Sym) × Names} (hcl:cs.length≤24):∀ {n:Nat} {s:SN} {A:List (List UInt8)},InvN cs a s→(s.status=0→PWA cs a.2 (topN a) s.way s.tree A)→s.status=0→((Zcf cs n s).1.status≠3→PWA cs a.2 (topN a) (Zcf cs n s).1.way (Zcf cs n s).1.tree (ansB a.2 A (Zcf cs n s).1))∧Zop cs (topN a) (Zcf cs n s).1:=by
 intro n
 induction n with
 | zero =>
  intro s A hI h h0
  simp only [Zcf]
  exact ⟨fun _=>by unfold ansB; rw [if_neg (by omega)]; exact h h0,fun e=>by omega⟩
 | succ n ih =>
  intro s A hI h h0
  simp only [Zcf]
  split
  ·rename_i hgo
   simp only
   obtain ⟨m,k,r,c,hw,hc,_⟩:=hI.head hgo.2.1
   have hI1:InvN cs a (Zas cs s):=hI.try' hcl h0 hw hc hgo.2.2
   have hF:=Zzu hI h0
   by_cases h1:(Zas cs s).status=0
   ·refine ih hI1 (fun _ => ?_) h1
    have:=PWA.try' h0 (h h0) (by omega)
    unfold ansB at this
    rw [if_neg (by omega)] at this
    exact this
   ·have e:Zcf cs n (Zas cs s)=(Zas cs s,0):=by
     cases n with
     | zero=>rfl
     | succ n=>simp only [Zcf]; rw [if_neg (fun h=>h1 h.1)]
    rw [e]
    exact ⟨fun h3=>PWA.try' h0 (h h0) h3,hF⟩
  ·refine ⟨fun _ => ?_,fun e => ?_⟩
   ·show PWA cs a.2 (topN a) s.way s.tree (ansB a.2 A s)
    unfold ansB
    rw [if_neg (by omega)]
    exact h h0
   ·have e:s.status=1:=e
    omega
theorem Ydw {cs:List Cls} {a:List (List Sym) × Names} (hcl:cs.length≤24) {n:Nat} {s:SN} {A:List (List UInt8)} (hI:InvN cs a s) (h:PWA cs a.2 (topN a) s.way s.tree A) (hs:s.status≠2∧s.status≠3):((Zch cs n s).1.status≠3→PWA cs a.2 (topN a) (Zch cs n s).1.way (Zch cs n s).1.tree (ansB a.2 A (Zch cs n s).1))∧Zop cs (topN a) (Zch cs n s).1:=by
 unfold Zch
 rw [if_neg (by omega)]
 simp only
 obtain ⟨h1,h2⟩:=Ydv (n:=n) hcl (hI.seek (by omega)) (fun _=>h) rfl
 generalize (Zcf cs n { s with status:=0 }).1=z at h1 h2
 unfold endN
 split
 ·exact ⟨fun h3=>absurd rfl h3,fun e=>by simp [Zhb] at e⟩
 ·rename_i h3
  split
  ·rename_i h0
   split
   ·refine ⟨fun _ => ?_,fun e=>by simp at e⟩
    have:=h1 h3
    unfold ansB at this ⊢
    rw [if_neg (by omega)] at this
    simpa using this
   ·split
    ·exact ⟨fun h3=>absurd rfl h3,fun e=>by simp [Zhb] at e⟩
    ·exact ⟨fun _=>h1 h3,h2⟩
  ·exact ⟨fun _=>h1 h3,h2⟩
structure Told (cs:List Cls) (a:List (List Sym) × Names) (m:SN) (t:Tr):Prop where
 tree:m.status≠3→PWA cs a.2 (topN a) m.way m.tree t.ans
 len:t.ans.length=t.wts.length
 each:∀ (i:Nat) (A W:List UInt8),t.ans[i]?=some A→t.wts[i]?=some W→∃ n,Reach cs (topN a) n.used n∧n.goals=[]∧n.used≠[]∧n.used.length≤100∧(∀ k ∈ n.used,k<cs.length)∧A=Zbu a.2 n∧W=Zbp n
theorem Told.new (cs:List Cls) {a:List (List Sym) × Names} (ha:a.1≠[]):Told cs a (newN cs a) ⟨[],[],0,0⟩:=by
 refine ⟨fun _ => ?_,rfl,fun i A W h=>by simp at h⟩
 have hg:=Zey ha
 unfold newN Zbz
 rw [if_neg hg]
 have hp:PWA cs a.2 (topN a) [(topN a,0)] [40] []:=⟨rfl,hg,Qm _,[],.zero _,by simp⟩
 simp only [Zdf]
 exact hp.leave
theorem Told.step {cs:List Cls} {a:List (List Sym) × Names} (hcl:cs.length≤24) {n:Nat} {m:SN} {t:Tr} (h:Told cs a m t) (hI:InvN cs a m) (hs:m.status≠2∧m.status≠3):Told cs a (Zch cs n m).1 (addN a t (Zch cs n m)):=by
 obtain ⟨h1,h2⟩:=Ydw (n:=n) hcl hI (h.tree hs.2) hs
 have hI2:=hI.step hcl (n:=n)
 generalize Zch cs n m=z at h1 h2 hI2
 unfold addN
 split
 ·rename_i e
  obtain ⟨g1,g2,g3,g4⟩:=h2 e
  refine ⟨fun h3 => ?_,by simp [h.len],fun i A W hA hW => ?_⟩
  ·have:=h1 h3
   unfold ansB at this
   rw [if_pos e] at this
   simpa [Zdb,e] using this
  ·simp only at hA hW
   rcases Nat.lt_or_ge i t.ans.length with hi | hi
   ·rw [Qc hi] at hA
    rw [Qc (by rw [← h.len]; exact hi)] at hW
    exact h.each i A W hA hW
   ·have hl:=h.len
    have:i=t.ans.length:=by
     have:=(Qa.1 hA).1
     simp at this
     omega
    subst this
    simp only [Qd (Qe _),Nat.sub_self,List.getElem?_cons_zero,Qo] at hA
    rw [hl,Qd (Qe _)] at hW
    simp only [Nat.sub_self,List.getElem?_cons_zero,Qo] at hW
    refine ⟨z.1.found,g1,g2,g3,g4,(hI2.found e).2.2,?_,?_⟩
    ·rw [← hA]; simp [Zdb,e]
    ·rw [← hW]; simp [Zdb,e]
 ·rename_i e
  refine ⟨fun h3 => ?_,h.len,h.each⟩
  have:=h1 h3
  unfold ansB at this
  rw [if_neg e] at this
  exact this
theorem Told.aft {cs:List Cls} {a:List (List Sym) × Names} (hcl:cs.length≤24) {tries size:Nat}:∀ {f:Nat} {m:SN} {t:Tr},Told cs a m t→InvN cs a m→(m.status=0∨m.status=1)→Told cs a (aftN cs a tries size f m t).1 (aftN cs a tries size f m t).2:=by
 intro f
 induction f with
 | zero=>intro m t h _ _; exact h
 | succ f ih =>
  intro m t h hI hm
  rw [aftN]
  split
  ·have h1:=h.step hcl (n:=Zee size (tries - t.tries)) hI (by omega)
   have hI1:=hI.step hcl (n:=Zee size (tries - t.tries))
   split
   ·exact h1
   ·rename_i h23
    exact ih h1 hI1 (by have:=hI1.st; omega)
  ·exact h
theorem Yin (c:UInt8) (h:c=33∨c=40∨c=41):figB c=false:=by rcases h with rfl | rfl | rfl <;> decide
theorem Zzv {cs:List Cls} {names:Names} {n:ND} {t:List UInt8} {A:List (List UInt8)} (h:TreeA cs names n t A):∃ c r,t=c::r∧(c=33∨c=40):=by
 cases h with
 | leaf _ h=>exact ⟨33,[],rfl,Or.inl rfl⟩
 | node _ t A h hp=>exact ⟨40,t++[41],rfl,Or.inr rfl⟩
theorem Zlf (l:List UInt8):∀ (f g p o:Nat) (due:Bool),p≤l.length→l.length<f+p→l.length<g+p→Zcb l f p o due=Zcb l g p o due:=by
 intro f
 induction f with
 | zero=>intro g p o due h1 h2 _; omega
 | succ f ih =>
  intro g p o due h1 h2 h3
  obtain ⟨g,rfl⟩:∃ g',g=g'+1:=⟨g - 1,by omega⟩
  unfold Zcb
  cases hc:l[p]? with
  | none=>rfl
  | some c =>
   have hp:=(Qa.1 hc).1
   have hz:=(Zds (l.drop p)).1
   rw [List.length_drop] at hz
   simp only
   rw [ih g (p+1) o false (by omega) (by omega) (by omega),ih g (p+1) (o+1) false (by omega) (by omega) (by omega),ih g (p+1) (o - 1) false (by omega) (by omega) (by omega)]
   by_cases h0:(Zak (l.drop p)).2=0
   ·rw [if_pos h0,if_pos h0]
   ·rw [if_neg h0,if_neg h0,ih g (p+(Zak (l.drop p)).2) o true (by omega) (by omega) (by omega)]
theorem Zzw {l:List UInt8} (h:Sh l 0 0 true):Zdi l=none:=by
 obtain ⟨f,h1,h2⟩:=h
 unfold Zdi
 rw [Zlf l (l.length+1) f 0 0 true (by omega) (by omega) (by omega)]
 exact h2
theorem Yjn {l:List UInt8} {p o:Nat} (hc:l[p]?=some 33) (h:Sh l (p+1) o false):Sh l p o true:=by
 obtain ⟨f,h1,h2⟩:=h
 refine ⟨f+1,by omega,?_⟩
 unfold Zcb
 rw [hc]
 simpa using h2
theorem Yjo {l:List UInt8} {p o:Nat} (hc:l[p]?=some 40) (h:Sh l (p+1) (o+1) false):Sh l p o true:=by
 obtain ⟨f,h1,h2⟩:=h
 refine ⟨f+1,by omega,?_⟩
 unfold Zcb
 rw [hc]
 simpa using h2
theorem Yjp {l:List UInt8} {p o:Nat} (hc:l[p]?=some 41) (h:Sh l (p+1) o false):Sh l p (o+1) false:=by
 obtain ⟨f,h1,h2⟩:=h
 refine ⟨f+1,by omega,?_⟩
 unfold Zcb
 rw [hc]
 simpa using h2
theorem Ylh {l:List UInt8} {p o k m:Nat} {c:UInt8} (hc:l[p]?=some c) (h41:c≠41) (hn:Zak (l.drop p)=(k,m)) (hm:m≠0) (h:Sh l (p+m) (o+1) true):Sh l p (o+1) false:=by
 obtain ⟨f,h1,h2⟩:=h
 refine ⟨f+m,by omega,?_⟩
 have hf:Zcb l (f+m - 1) (p+m) (o+1) true=none:=by
  rw [Zlf l (f+m - 1) f (p+m) (o+1) true ?_ (by omega) h1]
  ·exact h2
  ·have hz:=(Zds (l.drop p)).1
   rw [hn,List.length_drop] at hz
   have hp:=(Qa.1 hc).1
   simp only at hz
   omega
 obtain ⟨g,hg⟩:∃ g,f+m=g+1:=⟨f+m - 1,by omega⟩
 rw [hg] at hf ⊢
 unfold Zcb
 rw [hc]
 simp only [hn,hm,h41,if_false,Bool.false_eq_true,Nat.add_one_ne_zero]
 simpa using hf
theorem Zkj {pre post:List UInt8} {c:UInt8} {r:List UInt8}:(pre++(c::r)++post)[pre.length]?=some c:=by
 rw [Qi,Qd (Qe _)]
 simp
theorem Zxc {pre t post:List UInt8}:(pre++([40]++t++[41])++post)[(pre++[40]).length+t.length]?=some 41:=by
 have h:=Zkj (pre:=pre++[40]++t) (c:=41) (r:=[]) (post:=post)
 have e:(pre++[40]++t).length=(pre++[40]).length+t.length:=Qg
 rw [e] at h
 rw [show pre++([40]++t++[41])++post=pre++[40]++t++[41]++post by simp]
 exact h
theorem Zxd {k:Nat} (hk:k<100):∃ c r,Lib.decDigits k=c::r∧c≠41:=by
 rcases Nat.lt_or_ge k 10 with h | h
 ·refine ⟨_,_,Zes k h,fun e => ?_⟩
  have:=(Zcu k h).1
  rw [e] at this
  exact absurd this (by decide)
 ·refine ⟨_,_,Zqg k hk h,fun e => ?_⟩
  have:=(Zcu (k / 10) (by omega)).1
  rw [e] at this
  exact absurd this (by decide)
theorem Ydx {k:Nat} (hk:k<100) {cs:List Cls} {names:Names} {n:ND} {u:List UInt8} {B:List (List UInt8)} (hu:TreeA cs names n u B) (pre post:List UInt8):Zak ((pre++(Lib.decDigits k++u)++post).drop pre.length)=(k,(Lib.decDigits k).length):=by
 rw [Qi,List.drop_left,Qi]
 refine Zez hk (fun b r' e => ?_)
 obtain ⟨c,r,rfl,hc⟩:=Zzv hu
 simp only [List.cons_append,List.cons.injEq] at e
 rw [← e.1]
 exact Yin c (by rcases hc with h | h <;> simp [h])
theorem Yjq {cs:List Cls} {names:Names} (hcl:cs.length≤24) {n:ND} {t:List UInt8} {A:List (List UInt8)} (h:TreeA cs names n t A):∀ (l pre post:List UInt8) (o:Nat),l=pre++t++post→Sh l (pre.length+t.length) o false→Sh l pre.length o true:=by
 refine TreeA.rec (cs:=cs) (names:=names) (motive_1:=fun n t A _=>∀ (l pre post:List UInt8) (o:Nat),l=pre++t++post→Sh l (pre.length+t.length) o false→Sh l pre.length o true)
  (motive_2:=fun n k t A _=>∀ (l pre post:List UInt8) (o:Nat),l=pre++t++post→Sh l (pre.length+t.length) (o+1) false→Sh l pre.length (o+1) false) ?_ ?_ ?_ ?_ ?_ h
 ·intro n hg l pre post o hl hs
  exact Yjn (by rw [hl]; exact Zkj) hs
 ·intro n t A hg hp ih l pre post o hl hs
  refine Yjo (by rw [hl]; exact Zkj) ?_
  have h1:Sh l ((pre++[40]).length+t.length) (o+1) false:=by
   refine Yjp ?_ ?_
   ·rw [hl]
    exact Zxc
   ·simp only [Qg,Qf,Jt] at hs ⊢
    rw [show pre.length+(0+1)+t.length+1=pre.length+(0+1+t.length+(0+1)) by omega]
    exact hs
  have:=ih l (pre++[40]) ([41]++post) o (by rw [hl]; simp) h1
  simpa using this
 ·intro n l pre post o hl hs
  simpa using hs
 ·intro n k t A c hp hc hq ih l pre post o hl hs
  exact ih l pre post o hl hs
 ·intro n k t u A B c hp hc hq hu ihp ihu l pre post o hl hs
  have hk:k<100:=by have:=(Qa.1 hc).1; omega
  have h1:Sh l ((pre++t++Lib.decDigits k).length+u.length) (o+1) false:=by
   simp only [Qg] at hs ⊢
   rw [show pre.length+t.length+(Lib.decDigits k).length+u.length=pre.length+(t.length+(Lib.decDigits k).length+u.length) by omega]
   exact hs
  have h2:=ihu l (pre++t++Lib.decDigits k) post (o+1) (by rw [hl]; simp) h1
  obtain ⟨d,r,hd,h41⟩:=Zxd hk
  have hl2:l=(pre++t)++(Lib.decDigits k++u)++post:=by rw [hl]; simp
  have h3:Sh l (pre++t).length (o+1) false:=by
   refine Ylh (c:=d) (k:=k) (m:=(Lib.decDigits k).length) ?_ h41 ?_ (by have := @Zdg k; omega) ?_
   ·rw [hl2,hd,List.cons_append]
    exact Zkj
   ·rw [hl2]
    exact Ydx hk hu _ _
   ·rw [← Qg]
    exact h2
  refine ihp l pre (Lib.decDigits k++u++post) o (by rw [hl]; simp) ?_
  simpa using h3
theorem Zsu {cs:List Cls} {names:Names} (hcl:cs.length≤24) {l:List UInt8} {Rf:HN} {n:ND} {t:List UInt8} {B:List (List UInt8)} (h:TreeA cs names n t B):∀ (pre post:List UInt8) (way:List (ND × Nat)) (A:List (List UInt8)),l=pre++t++post→Znb cs names l (Zcc names l n pre.length way A) Rf→Goes cs names l (pre.length+t.length) way (A++B) Rf:=by
 refine TreeA.rec (cs:=cs) (names:=names) (motive_1:=fun n t B _=>∀ (pre post:List UInt8) (way:List (ND × Nat)) (A:List (List UInt8)),l=pre++t++post→Znb cs names l (Zcc names l n pre.length way A) Rf→Goes cs names l (pre.length+t.length) way (A++B) Rf)
  (motive_2:=fun n k t B _=>∀ (pre post:List UInt8) (way:List (ND × Nat)) (A:List (List UInt8)),l=pre++t++post→Goes cs names l pre.length ((n,0)::way) A Rf→Goes cs names l (pre.length+t.length) ((n,k)::way) (A++B) Rf) ?_ ?_ ?_ ?_ ?_ h
 ·intro n hg pre post way A hl hG
  unfold Zcc at hG
  rw [if_pos hg,if_pos (by rw [hl]; exact Zkj)] at hG
  exact hG.1 rfl
 ·intro n t B hg hp ih pre post way A hl hG
  unfold Zcc at hG
  rw [if_neg hg,if_pos (by rw [hl]; exact Zkj)] at hG
  have h1:=ih (pre++[40]) ([41]++post) way A (by rw [hl]; simp) (by simpa using hG.1 rfl)
  have h2:=Zig h1
  unfold goM at h2
  rw [Nat.sub_self,Zfn] at h2
  simp only at h2
  rw [if_pos (by rw [hl]; exact Zxc)] at h2
  have h3:=h2.1 rfl
  simp only [Qg,Qf,Jt] at h3 ⊢
  rw [show pre.length+(0+1+t.length+(0+1))=pre.length+(0+1)+t.length+1 by omega]
  exact h3
 ·intro n pre post way A hl hG
  simpa using hG
 ·intro n k t B c hp hc hq ih pre post way A hl hG
  have h1:=Zig (ih pre post way A hl hG)
  rw [Zqe hc hq] at h1
  exact Zlc h1
 ·intro n k t u A' B c hp hc hq hu ihp ihu pre post way A hl hG
  have hkl:=(Qa.1 hc).1
  have hk:k<100:=by omega
  have hl2:l=(pre++t)++(Lib.decDigits k++u)++post:=by rw [hl]; simp
  have h1:=Zig (ihp pre (Lib.decDigits k++u++post) way A (by rw [hl]; simp) hG)
  have hn:Zak (l.drop (pre.length+t.length))=(k,(Lib.decDigits k).length):=by
   have:=Ydx hk hu (pre++t) post
   rw [← hl2] at this
   simpa using this
  unfold goM at h1
  rw [show cs.length - k=(cs.length - (k+1))+1 by omega,Zfn,hc] at h1
  simp only at h1
  rw [if_neg (by omega)] at h1
  simp only [hn] at h1
  rw [if_neg (by have := @Zdg k; omega)] at h1
  have h2:=ihu (pre++t++Lib.decDigits k) post ((n,k+1)::way) (A++A') (by rw [hl]; simp) (by rw [Qg,Qg]; exact h1)
  simp only [Qg] at h2 ⊢
  rw [show pre.length+(t.length+(Lib.decDigits k).length+u.length)=pre.length+t.length+(Lib.decDigits k).length+u.length by omega,← Qi]
  exact h2
theorem Ygw {p q:ByteArray} {cs:List Cls} {a:List (List Sym) × Names} {T:List UInt8} {A:List (List UInt8)} (hp:Zcl p=some cs) (hq:Zdx q=some a) (hcl:cs.length≤24) (h:TreeA cs a.2 (topN a) T A) (hT:T.length≤20000):allN p q ⟨T.toArray⟩=(A,0,0):=by
 have hsh:Zdi T=none:=by
  refine Zzw ?_
  have:=Yjq hcl h T [] [] 0 (by simp) ⟨1,by simp,by simp [Zcb]⟩
  simpa using this
 have hG:=Znc cs a hsh
 have h1:=Zsu (l:=T) hcl h [] [] [] [] (by simp) hG
 have h2:=Zxa h1
 unfold allN
 rw [hp]
 simp only
 rw [hq]
 simp only
 rw [if_neg (by simp [ByteArray.size]; omega)]
 show (match Zdi T with
  | some pl=>([],6,pl)
  | none=>if (Zhp cs a T).wrong=true then ([],7,(Zhp cs a T).at') else ((Zhp cs a T).ans,0,0))=_
 rw [hsh]
 simp only
 rw [h2]
 simp
def AbcN (s:List UInt8):Prop:=s=[97]∨s=[98]∨s=[99]
structure ArgS (s:Sym):Prop where
 args:s.args=0
 name:s.name=[]∨AbcN s.name
def FA (l:List Sym):Prop:=∃ (P:Sym) (x y:Sym),l=[P,x,y]∧P.name≠[]∧P.args=2∧ArgS x∧ArgS y
def F1 (l:List Sym):Prop:=∃ s,l=[s]∧ArgS s
def cstS:Sym:=⟨[97],0,0⟩
open Classical in
noncomputable def toC (l:List Sym):List Sym:=match l with
 | [s]=>if AbcN s.name then [s] else [cstS]
 | _=>[cstS]
theorem Zxe {l:List Sym} (h:Wf 1 l):Wf 1 (toC l)∧(toC l).length=1:=by
 have hc:Wf 1 [cstS]:=⟨by omega,fun h=>absurd h (by decide),fun _=>rfl,rfl⟩
 unfold toC
 split
 ·split
  ·exact ⟨h,rfl⟩
  ·exact ⟨hc,rfl⟩
 ·exact ⟨hc,rfl⟩
theorem Zlg {θ:Nat→List Sym} {x:Sym} (hx:ArgS x):ap1 (fun n=>toC (θ n)) x=toC (ap1 θ x):=by
 unfold ap1
 by_cases h:x.name=[]
 ·rw [if_pos h,if_pos h]
 ·rw [if_neg h,if_neg h]
  have hn:AbcN x.name:=by
   rcases hx.name with e | e
   ·exact absurd e h
   ·exact e
  simp [toC,hn]
theorem Zqh (σ:Nat→List Sym) {P x y:Sym} (hP:P.name≠[]):ap σ [P,x,y]=P::(ap1 σ x++ap1 σ y):=by
 rw [Zbs,Zbs,Zbs,Zjw]
 simp [ap1,hP]
theorem Zoq {σ:Nat→List Sym} (hσ:Ts σ) {x:Sym} (hx:ArgS x) (hn:x.name≠[]→x.num=0):Wf 1 (ap1 σ x):=by
 unfold ap1
 split
 ·exact hσ _
 ·rename_i h
  exact ⟨by omega,fun e=>absurd e h,fun _=>hn h,by simp [hx.args,Wf]⟩
theorem Zuz {P x y:Sym} (h:Wf 1 [P,x,y]) (hP:P.args=2) (hx:ArgS x) (hy:ArgS y):(x.name≠[]→x.num=0)∧(y.name≠[]→y.num=0):=by
 obtain ⟨_,_,_,h⟩:=h
 obtain ⟨_,_,h1,h⟩:=h
 obtain ⟨_,_,h2,_⟩:=h
 exact ⟨h1,h2⟩
theorem Zsv {a b:List Sym} (ha:FA a) (hb:FA b) (wa:Wf 1 a) (wb:Wf 1 b) {θ:Nat→List Sym} (hθ:Ts θ) (hu:ap θ a=ap θ b):Ts (fun n=>toC (θ n))∧ap (fun n=>toC (θ n)) a=ap (fun n=>toC (θ n)) b∧(ap (fun n=>toC (θ n)) a).length=3:=by
 obtain ⟨P,x,y,rfl,hP,hP2,hx,hy⟩:=ha
 obtain ⟨P',x',y',rfl,hP',hP2',hx',hy'⟩:=hb
 obtain ⟨nx,ny⟩:=Zuz wa hP2 hx hy
 obtain ⟨nx',ny'⟩:=Zuz wb hP2' hx' hy'
 rw [Zqh θ hP,Zqh θ hP'] at hu
 simp only [List.cons.injEq] at hu
 obtain ⟨rfl,hu⟩:=hu
 obtain ⟨u1,u2⟩:=Zrk (Zoq hθ hx nx) (Zoq hθ hx' nx') hu
 refine ⟨fun n=>(Zxe (hθ n)).1,?_,?_⟩
 ·rw [Zqh _ hP,Zqh _ hP',Zlg hx,Zlg hy,Zlg hx',Zlg hy',u1,u2]
 ·rw [Zqh _ hP,Zlg hx,Zlg hy,Qf,Qg,(Zxe (Zoq hθ hx nx)).2,(Zxe (Zoq hθ hy ny)).2]
theorem Zsw {s:Sym} (h:Wf 1 [s]):s.args=0:=by
 obtain ⟨_,_,_,h⟩:=h
 simpa [Wf] using h
theorem Yio {a b:List Sym} (ha:FA a) (hb:FA b) (wa:Wf 1 a) (wb:Wf 1 b) {σ:Nat→List Sym} (h:Mgu σ a b) (n:Nat):F1 (σ n):=by
 obtain ⟨ht,hu,_⟩:=Zsv ha hb wa wb h.ts h.unif
 have hw:=h.wide _ ht hu n
 have hl:=Zgj ht (σ n)
 rw [hw,(Zxe (h.ts n)).2] at hl
 have hl1:=Zel (h.ts n)
 obtain ⟨s,hs⟩:∃ s,σ n=[s]:=List.length_eq_one_iff.1 (by omega)
 have hwf:=h.ts n
 rw [hs] at hwf hw
 refine ⟨s,hs,Zsw hwf,?_⟩
 by_cases hn:s.name=[]
 ·exact Or.inl hn
 ·refine Or.inr ?_
  have e:ap (fun n=>toC (σ n)) [s]=[s]:=by rw [Zbs,Zjw]; simp [ap1,hn]
  rw [e] at hw
  by_cases hA:AbcN s.name
  ·exact hA
  ·rw [show toC [s]=[cstS] by simp [toC,hA]] at hw
   simp only [List.cons.injEq,and_true] at hw
   rw [hw]
   exact Or.inl rfl
theorem Ydy {σ:Nat→List Sym} (hσ:∀ n,F1 (σ n)) {x:Sym} (hx:ArgS x):F1 (ap1 σ x):=by
 unfold ap1
 split
 ·exact hσ _
 ·exact ⟨x,rfl,hx⟩
theorem FA.apF {σ:Nat→List Sym} (hσ:∀ n,F1 (σ n)) {l:List Sym} (h:FA l):FA (YtlmjilpjmgjjcabGreatDoor.ap σ l):=by
 obtain ⟨P,x,y,rfl,hP,hP2,hx,hy⟩:=h
 obtain ⟨s,e1,hs⟩:=Ydy hσ hx
 obtain ⟨t,e2,ht⟩:=Ydy hσ hy
 exact ⟨P,s,t,by rw [Zqh _ hP,e1,e2]; rfl,hP,hP2,hs,ht⟩
theorem F1.apF {σ:Nat→List Sym} (hσ:∀ n,F1 (σ n)) {l:List Sym} (h:F1 l):F1 (YtlmjilpjmgjjcabGreatDoor.ap σ l):=by
 obtain ⟨x,rfl,hx⟩:=h
 rw [Zbs,Zjw,Qs]
 exact Ydy hσ hx
theorem FA.len {l:List Sym} (h:FA l):l.length=3:=by obtain ⟨P,x,y,rfl,_⟩:=h; rfl
theorem Zsx (n:Nat):F1 (vr n):=⟨_,rfl,rfl,Or.inl rfl⟩
structure FFn (n:ND):Prop where
 goals:∀ g ∈ n.goals,FA g.1
 vals:∀ v ∈ n.vals,F1 v
 done:∀ g ∈ n.done,FA g.1
def FFc (c:Cls):Prop:=FA c.head∧∀ t ∈ c.body,FA t
theorem Zqi {τ τ':Nat→List Sym} {x s:Sym} (hx:ArgS x) (h1:ap1 τ x=[s]) (hw:Wf 1 [s]) (h2:ap1 τ' s=[x]):ArgS s:=by
 by_cases hn:s.name=[]
 ·exact ⟨Zsw hw,Or.inl hn⟩
 ·have:ap1 τ' s=[s]:=by simp [ap1,hn]
  rw [this] at h2
  simp only [List.cons.injEq,and_true] at h2
  rw [h2]
  exact hx
theorem Zqj {τ:Nat→List Sym} (hτ:Ts τ) (x:Sym):1≤(ap1 τ x).length:=by
 unfold ap1
 split
 ·exact Zel (hτ _)
 ·simp
theorem FA.back {τ τ':Nat→List Sym} (hτ:Ts τ) (hτ':Ts τ') {l m:List Sym} (h:FA l) (wl:Wf 1 l) (e1:m=ap τ l) (e2:l=ap τ' m):FA m:=by
 have hlen:m.length=3:=by
  have a1:=Zgj hτ l
  have a2:=Zgj hτ' m
  rw [← e1] at a1
  rw [← e2] at a2
  rw [h.len] at a1 a2
  omega
 obtain ⟨P,x,y,rfl,hP,hP2,hx,hy⟩:=h
 obtain ⟨nx,ny⟩:=Zuz wl hP2 hx hy
 rw [Zqh τ hP] at e1
 have l1:=Zqj hτ x
 have l2:=Zqj hτ y
 rw [e1,Qf,Qg] at hlen
 obtain ⟨s,hs⟩:∃ s,ap1 τ x=[s]:=List.length_eq_one_iff.1 (by omega)
 obtain ⟨t,ht⟩:∃ t,ap1 τ y=[t]:=List.length_eq_one_iff.1 (by omega)
 have ws:=Zoq hτ hx nx
 have wt:=Zoq hτ hy ny
 rw [hs] at ws
 rw [ht] at wt
 rw [e1,hs,ht] at e2
 have e3:ap τ' [P,s,t]=P::(ap1 τ' s++ap1 τ' t):=Zqh τ' hP
 rw [show P::([s]++[t])=[P,s,t] from rfl,e3] at e2
 simp only [List.cons.injEq,true_and] at e2
 have k1:=Zqj hτ' s
 have k2:=Zqj hτ' t
 have k3:=congrArg List.length e2
 simp only [Qg,Qf,Jt] at k3
 obtain ⟨s',hs'⟩:∃ s',ap1 τ' s=[s']:=List.length_eq_one_iff.1 (by omega)
 obtain ⟨t',ht'⟩:∃ t',ap1 τ' t=[t']:=List.length_eq_one_iff.1 (by omega)
 rw [hs',ht'] at e2
 simp only [List.cons_append,List.nil_append,List.cons.injEq,and_true] at e2
 obtain ⟨rfl,rfl⟩:=e2
 exact ⟨P,s,t,by rw [e1,hs,ht]; rfl,hP,hP2,Zqi hx hs ws hs',Zqi hy ht wt ht'⟩
theorem F1.back {τ τ':Nat→List Sym} (hτ:Ts τ) (hτ':Ts τ') {l m:List Sym} (h:F1 l) (wl:Wf 1 l) (e1:m=ap τ l) (e2:l=ap τ' m):F1 m:=by
 obtain ⟨x,rfl,hx⟩:=h
 have a1:=Zgj hτ [x]
 have a2:=Zgj hτ' m
 rw [← e1] at a1
 rw [← e2] at a2
 obtain ⟨s,rfl⟩:∃ s,m=[s]:=List.length_eq_one_iff.1 (by simp at a1 a2; omega)
 have h1:ap1 τ x=[s]:=by rw [e1,Zbs,Zjw,Qs]
 have h2:ap1 τ' s=[x]:=by rw [e2,Zbs,Zjw,Qs]
 have ws:Wf 1 [s]:=by rw [e1]; exact Zml hτ wl
 exact ⟨s,rfl,Zqi hx h1 ws h2⟩
theorem FFn.same {n m:ND} (h:FFn n) (hn:∀ t ∈ n.terms,Wf 1 t) (hs:Same m n):FFn m:=by
 obtain ⟨τ',hτ',e'⟩:=hs.al.1
 obtain ⟨τ,hτ,e⟩:=hs.al.2
 have hback:∀ (i:Nat) (x y:List Sym),n.terms[i]?=some x→m.terms[i]?=some y→y=ap τ x∧x=ap τ' y:=fun i x y hx hy=>by
  have h1:=congrArg (fun l=>l[i]?) e
  have h2:=congrArg (fun l=>l[i]?) e'
  simp only [Qj,hx,hy,Option.map_some,Qo] at h1 h2
  exact ⟨h1,h2⟩
 have lg:=hs.gl
 have ld:=hs.dl
 have lv:=hs.vl
 have tn:n.terms=n.goals.map (·.1)++(n.vals++n.done.map (·.1)):=rfl
 have tm:m.terms=m.goals.map (·.1)++(m.vals++m.done.map (·.1)):=rfl
 refine ⟨fun g hg => ?_,fun v hv => ?_,fun g hg => ?_⟩
 ·obtain ⟨i,hi⟩:=List.mem_iff_getElem?.1 hg
  have hil:=(Qa.1 hi).1
  obtain ⟨g',hg'⟩:∃ g',n.goals[i]?=some g':=⟨_,Qb (by omega)⟩
  have y1:m.terms[i]?=some g.1:=by rw [tm,Qc (by simpa using hil),Qj,hi]; rfl
  have x1:n.terms[i]?=some g'.1:=by rw [tn,Qc (by simp; omega),Qj,hg']; rfl
  obtain ⟨b1,b2⟩:=hback i _ _ x1 y1
  exact (h.goals g' (Qh hg')).back hτ hτ' (hn _ (Qh x1)) b1 b2
 ·obtain ⟨i,hi⟩:=List.mem_iff_getElem?.1 hv
  have hil:=(Qa.1 hi).1
  obtain ⟨v',hv'⟩:∃ v',n.vals[i]?=some v':=⟨_,Qb (by omega)⟩
  have y1:m.terms[m.goals.length+i]?=some v:=by
   rw [tm,Qd (by simp),Ql,Nat.add_sub_cancel_left,Qc hil]
   exact hi
  have x1:n.terms[m.goals.length+i]?=some v':=by
   rw [tn,lg,Qd (by simp),Ql,Nat.add_sub_cancel_left,Qc (by omega)]
   exact hv'
  obtain ⟨b1,b2⟩:=hback _ _ _ x1 y1
  exact (h.vals v' (Qh hv')).back hτ hτ' (hn _ (Qh x1)) b1 b2
 ·obtain ⟨i,hi⟩:=List.mem_iff_getElem?.1 hg
  have hil:=(Qa.1 hi).1
  obtain ⟨g',hg'⟩:∃ g',n.done[i]?=some g':=⟨_,Qb (by omega)⟩
  have y1:m.terms[m.goals.length+(m.vals.length+i)]?=some g.1:=by
   rw [tm,Qd (by simp),Ql,Nat.add_sub_cancel_left,Qd (by omega),Nat.add_sub_cancel_left,Qj,hi]
   rfl
  have x1:n.terms[m.goals.length+(m.vals.length+i)]?=some g'.1:=by
   rw [tn,lg,lv,Qd (by simp),Ql,Nat.add_sub_cancel_left,Qd (by omega),Nat.add_sub_cancel_left,Qj,hg']
   rfl
  obtain ⟨b1,b2⟩:=hback _ _ _ x1 y1
  exact (h.done g' (Qh hg')).back hτ hτ' (hn _ (Qh x1)) b1 b2
theorem FFn.child {n:ND} (hn:NOk n) (h:FFn n) {c:Cls} (hc:COk c) (hf:FFc c) {k q:Nat} {ch:ND} (ho:Out n c k q ch) (hq:q=1∨q=2):FFn ch:=by
 obtain ⟨g,gs,hg,ho⟩:=ho
 rcases ho with ⟨rfl,_⟩ | ⟨rfl,_⟩ | ⟨σ,h1,_,_,rfl⟩
 ·omega
 ·omega
 ·have hga:FA g.1:=h.goals g (by rw [hg]; simp)
  have hha:FA (ap (Zcx n.vars) c.head):=hf.1.apF (fun _=>Zsx _)
  have wg:Wf 1 g.1:=hn.wf g.1 (by unfold ND.terms; rw [hg]; simp)
  have wh:Wf 1 (ap (Zcx n.vars) c.head):=Zml (fun m=>Zua _) hc.wfh
  have hσ:=Yio hga hha wg wh h1
  refine ⟨fun x hx => ?_,fun v hv => ?_,fun x hx => ?_⟩
  ·simp only [Zaq,carr,List.mem_map,Qk] at hx
   obtain ⟨y,hy,rfl⟩:=hx
   rcases hy with ⟨t,ht,rfl⟩ | hy
   ·exact ((hf.2 t ht).apF (fun _=>Zsx _)).apF hσ
   ·exact (h.goals y (by rw [hg]; simp [hy])).apF hσ
  ·simp only [Zaq,List.mem_map] at hv
   obtain ⟨u,hu,rfl⟩:=hv
   exact (h.vals u hu).apF hσ
  ·simp only [Zaq,carr,List.mem_map,Qk,List.mem_singleton] at hx
   obtain ⟨y,hy,rfl⟩:=hx
   rcases hy with hy | rfl
   ·exact (h.done y hy).apF hσ
   ·exact hga.apF hσ
theorem Yjr {n:ND} (hn:NOk n) (h:FFn n) {c:Cls} (hc:COk c) (hf:FFc c) {k q:Nat} {ch:ND} (hg40:n.goals.length+c.body.length≤40) (hu:n.used.length<100) (ho:Out n c k q ch):q≠3:=by
 have ho':=ho
 obtain ⟨g,gs,hg,ho⟩:=ho
 have hga:FA g.1:=h.goals g (by rw [hg]; simp)
 have hha:FA (ap (Zcx n.vars) c.head):=hf.1.apF (fun _=>Zsx _)
 have wg:Wf 1 g.1:=hn.wf g.1 (by unfold ND.terms; rw [hg]; simp)
 have wh:Wf 1 (ap (Zcx n.vars) c.head):=Zml (fun m=>Zua _) hc.wfh
 rcases ho with ⟨rfl,_⟩ | ⟨rfl,hv⟩ | ⟨σ,h1,_,rfl,rfl⟩
 ·omega
 ·obtain ⟨⟨θ,hθ,hu'⟩,hall⟩:=hv
  obtain ⟨t1,t2,t3⟩:=Zsv hga hha wg wh hθ hu'
  have:=hall _ t1 t2
  omega
 ·intro h3
  have hσ:=Yio hga hha wg wh h1
  unfold Zfg at h3
  split at h3
  ·rename_i hov
   unfold Zmp at hov
   have hgl:(Zaq σ n c k g gs).goals.length≤40:=by
    rw [hg] at hg40
    simp [Zaq,carr] at hg40 ⊢
    omega
   have hul:(Zaq σ n c k g gs).used.length≤100:=by simp [Zaq]; omega
   simp only [Bool.or_eq_true,decide_eq_true_eq,List.any_eq_true] at hov
   rcases hov with ((h4 | h4) | ⟨x,hx,hb⟩) | ⟨x,hx,hb⟩
   ·omega
   ·omega
   ·simp only [Zaq,carr,List.mem_map,Qk] at hx
    obtain ⟨y,hy,rfl⟩:=hx
    have:FA (ap σ y.1):=by
     rcases hy with ⟨t,ht,rfl⟩ | hy
     ·exact ((hf.2 t ht).apF (fun _=>Zsx _)).apF hσ
     ·exact (h.goals y (by rw [hg]; simp [hy])).apF hσ
    simp only [bigG,decide_eq_true_eq,this.len] at hb
    omega
   ·simp only [Zaq,carr,List.mem_map,Qk,List.mem_singleton] at hx
    obtain ⟨y,hy,rfl⟩:=hx
    have:FA (ap σ y.1):=by
     rcases hy with hy | rfl
     ·exact (h.done y hy).apF hσ
     ·exact hga.apF hσ
    simp only [bigG,decide_eq_true_eq,this.len] at hb
    omega
  ·split at h3 <;> omega
theorem Yjs {S:ByteArray} {a m z:List UInt8} (h:S.data.toList=a++(m++z)):S.extract a.length (a.length+m.length)=⟨m.toArray⟩:=by
 rw [Lib.extract_eq]
 have e:(S.data.toList.drop a.length).take (a.length+m.length - a.length)=m:=by
  rw [h,List.drop_left,show a.length+m.length - a.length=m.length by omega,List.take_left]
 first
  | (rw [e])
  | (congr 1; apply Array.ext'; simpa using e)
  | simp [e]
theorem Ygx {n:ND} {c:Cls} {k:Nat} (hc:COk c) (h:(tryN n c k).2=1∨(tryN n c k).2=2):NOk (tryN n c k).1:=by
 by_cases hex:∃ r:ND × Nat,∃ m,NOk m∧Same m n∧Out m c k r.2 r.1
 ·have e:tryN n c k=Classical.choose hex:=by unfold tryN; rw [dif_pos hex]
  obtain ⟨m,hm,hS,ho⟩:=Classical.choose_spec hex
  rw [e] at h ⊢
  exact ((Zwm hm hm (Same.refl hm) hc ho ho).2 h).1
 ·have e:tryN n c k=(⟨[],[],[],[],0⟩,0):=by unfold tryN; rw [dif_neg hex]
  rw [e] at h
  simp at h
end Go.Proofs.YtlmjilpjmgjjcabGreatDoor
namespace Go.Proofs.YtlmjilpjmgjjcabGreatDoor
def skip:Nat→List Sym→Nat
 | 0,_=>0
 | _+1,[]=>0
 | k+1,s::r=>skip (k+s.args) r+1
theorem Zlh:∀ {a:List Sym} {j:Nat} (r:List Sym),Wf j a→skip j (a++r)=a.length:=by
 intro a
 induction a with
 | nil=>intro j r h; have h:j=0:=h; subst h; simp [skip]
 | cons s a ih =>
  intro j r h
  obtain ⟨h1,_,_,h2⟩:=h
  obtain ⟨k,rfl⟩:∃ k,j=k+1:=⟨j - 1,by omega⟩
  simp only [List.cons_append,skip,Qf]
  rw [ih r (by simpa using h2)]
theorem Yjt:∀ {l:List Sym} {k:Nat} (i:Nat),Wf k l→i≤l.length→∃ k',Wf k' (l.drop i):=by
 intro l
 induction l with
 | nil=>intro k i h hi; simp at hi; subst hi; exact ⟨k,h⟩
 | cons s l ih =>
  intro k i h hi
  cases i with
  | zero=>exact ⟨k,h⟩
  | succ i =>
   obtain ⟨_,_,_,h2⟩:=h
   simp only [List.drop_succ_cons]
   exact ih i h2 (by simpa using hi)
def Zbg (l:List Sym) (i:Nat):Nat:=i+skip 1 (l.drop i)
def tmAt (l:List Sym) (i:Nat):List Sym:=(l.drop i).take (skip 1 (l.drop i))
def Zbc (l:List Sym):Nat→Nat→List Nat
 | _,0=>[]
 | p,m+1=>p::Zbc l (Zbg l p) m
def Zat (l:List Sym):Nat→Nat→Nat
 | p,0=>p
 | p,m+1=>Zat l (Zbg l p) m
theorem Zcz (l:List Sym) (p m:Nat):(Zbc l p m).length=m:=by
 induction m generalizing p with
 | zero=>rfl
 | succ m ih=>simp [Zbc,ih]
theorem Zcd (l:List Sym) (p m:Nat):Zat l p (m+1)=Zbg l (Zat l p m):=by
 induction m generalizing p with
 | zero=>rfl
 | succ m ih=>rw [Zat,ih]; rfl
theorem Zca (l:List Sym) (p m i:Nat) (hi:i<m):(Zbc l p m)[i]?=some (Zat l p i):=by
 induction m generalizing p i with
 | zero=>omega
 | succ m ih =>
  cases i with
  | zero=>rfl
  | succ i=>simp only [Zbc,List.getElem?_cons_succ,Zat]; exact ih _ _ (by omega)
theorem Zfa {l:List Sym} {k i:Nat} (h:Wf k l) (hi:i<l.length):Wf 1 (tmAt l i)∧∃ r,l.drop i=tmAt l i++r∧r=l.drop (Zbg l i)∧i<Zbg l i∧Zbg l i≤l.length∧(tmAt l i).length=skip 1 (l.drop i):=by
 obtain ⟨k',hk⟩:=Yjt i h (by omega)
 have hpos:0<k':=by
  rcases Nat.eq_zero_or_pos k' with rfl | hp
  ·cases hd:l.drop i with
   | nil=>have:=congrArg List.length hd; simp at this; omega
   | cons s r=>rw [hd] at hk; obtain ⟨h1,_⟩:=hk; omega
  ·exact hp
 obtain ⟨a,b,e,ha,hb⟩:=Zlz (j:=1) (k:=k' - 1) (l:=l.drop i) (by rw [show 1+(k' - 1)=k' by omega]; exact hk)
 have hs:skip 1 (l.drop i)=a.length:=by rw [e]; exact Zlh b ha
 have ht:tmAt l i=a:=by unfold tmAt; rw [hs,e]; simp
 have hl:a.length+b.length=l.length - i:=by
  have:=congrArg List.length e
  simp at this; omega
 have ha1:=Zel ha
 refine ⟨by rw [ht]; exact ha,b,by rw [ht]; exact e,?_,by unfold Zbg; omega,by unfold Zbg; omega,by rw [ht,hs]⟩
 unfold Zbg
 rw [hs,← List.drop_drop,e]; simp
theorem Yju {l:List Sym} {k0:Nat} (h:Wf k0 l):∀ (m:Nat) {p:Nat} {a b:List Sym},l.drop p=a++b→Wf m a→p≤l.length →
  a=((Zbc l p m).map (tmAt l)).flatten∧(∀ x ∈ Zbc l p m,p≤x∧x<p+a.length)∧Zat l p m=p+a.length:=by
 intro m
 induction m with
 | zero =>
  intro p a b e hw _
  have:a=[]:=by
   cases a with
   | nil=>rfl
   | cons s a=>obtain ⟨h1,_⟩:=hw; omega
  subst this
  exact ⟨rfl,by simp [Zbc],rfl⟩
 | succ m ih =>
  intro p a b e hw hp
  obtain ⟨a1,a2,rfl,h1,h2⟩:=Zlz (j:=1) (k:=m) (l:=a) (by rw [Nat.add_comm]; exact hw)
  have hl1:=Zel h1
  have hpl:p<l.length:=by
   have:=congrArg List.length e
   simp at this; omega
  have hs:skip 1 (l.drop p)=a1.length:=by rw [e,Qi]; exact Zlh _ h1
  have ht:tmAt l p=a1:=by unfold tmAt; rw [hs,e]; simp
  have hb:Zbg l p=p+a1.length:=by unfold Zbg; rw [hs]
  have e2:l.drop (Zbg l p)=a2++b:=by rw [hb,← List.drop_drop,e]; simp
  have hbl:Zbg l p≤l.length:=by
   have:=congrArg List.length e
   simp at this; omega
  obtain ⟨g1,g2,g3⟩:=ih e2 h2 hbl
  refine ⟨?_,?_,?_⟩
  ·simp only [Zbc,List.map_cons,List.flatten_cons,ht]
   rw [← g1]
  ·intro x hx
   simp only [Zbc,Qp] at hx
   simp only [Qg]
   rcases hx with rfl | hx
   ·omega
   ·have:=g2 x hx; omega
  ·rw [Zat,g3,hb,Qg]; omega
theorem Zjo:∀ {l:List Sym} {k i:Nat} {s:Sym},Wf k l→l[i]?=some s→(s.name=[]→s.args=0)∧(s.name≠[]→s.num=0):=by
 intro l
 induction l with
 | nil=>intro k i s _ hs; simp at hs
 | cons t l ih =>
  intro k i s h hs
  obtain ⟨_,h1,h2,h3⟩:=h
  cases i with
  | zero=>simp at hs; subst hs; exact ⟨h1,h2⟩
  | succ i=>exact ih h3 (by simpa using hs)
def Zav (l:List Sym) (i:Nat):Sym:=l.getD i ⟨[],0,0⟩
def grOf (l:List Sym):Gr:=⟨l.length,Zav l,fun i=>Zbc l (i+1) (Zav l i).args⟩
theorem Zhq {l:List Sym} {k i:Nat} (h:Wf k l) (hi:i<l.length):tmAt l i=Zav l i::((Zbc l (i+1) (Zav l i).args).map (tmAt l)).flatten∧(∀ x ∈ Zbc l (i+1) (Zav l i).args,i<x∧x<Zbg l i)∧Zat l (i+1) (Zav l i).args=Zbg l i:=by
 obtain ⟨hw,r,e,hr,hb1,hb2,hb3⟩:=Zfa h hi
 obtain ⟨s,q,e2,hq,_⟩:=Zwk hw
 have hd:l.drop i=l[i]::l.drop (i+1):=List.drop_eq_getElem_cons hi
 rw [e2] at e
 rw [hd] at e
 simp only [List.cons_append,List.cons.injEq] at e
 have hs:Zav l i=s:=by unfold Zav; simp [hi,e.1]
 obtain ⟨g1,g2,g3⟩:=Yju h s.args e.2 hq (by omega)
 rw [e2] at hb3
 have hlen:Zbg l i=i+1+q.length:=by unfold Zbg; rw [← hb3]; simp; omega
 rw [hs]
 refine ⟨by rw [e2,← g1],fun x hx => ?_,by rw [g3,hlen]⟩
 have:=g2 x hx
 omega
theorem Zli {a b:List Sym} (h:Wf 1 a):tmAt (a++b) 0=a:=by
 unfold tmAt; rw [List.drop_zero,Zlh b h]; simp
theorem Zjp {a b:List Sym} (h:Wf 1 b):tmAt (a++b) a.length=b:=by
 unfold tmAt
 have e:(a++b).drop a.length=b++[]:=by simp
 rw [e,Zlh [] h]; simp
theorem Ydz {a b:List Sym} (ha:Wf 1 a) (hb:Wf 1 b):Lay (grOf (a++b)) (tmAt (a++b)) a b:=by
 have hw:Wf 2 (a++b):=Zfx ha hb
 refine ⟨⟨?_,?_,?_,?_⟩,?_,?_⟩
 ·intro i hi x hx
  have:=(Zhq hw hi).2.1 x hx
  obtain ⟨_,_,_,_,_,h2,_⟩:=Zfa hw hi
  show x<(a++b).length
  omega
 ·intro i hi; exact (Zcz _ _ _).symm
 ·intro i hi hn
  have hs:(a++b)[i]?=some (Zav (a++b) i):=by
   have hi:i<(a++b).length:=hi
   unfold Zav; simp only [List.getD_eq_getElem?_getD]; rw [Qb hi]; rfl
  have:=(Zjo hw hs).1 hn
  show Zbc _ _ (Zav (a++b) i).args=[]
  rw [this]; rfl
 ·intro i hi hn
  have hs:(a++b)[i]?=some (Zav (a++b) i):=by
   have hi:i<(a++b).length:=hi
   unfold Zav; simp only [List.getD_eq_getElem?_getD]; rw [Qb hi]; rfl
  exact (Zjo hw hs).2 hn
 ·intro i hi; exact (Zhq hw hi).1
 ·intro i hi hn
  have hi:i<(a++b).length:=hi
  have hm:Zav (a++b) i ∈ a++b:=by
   unfold Zav; simp only [List.getD_eq_getElem?_getD]; rw [Qb hi]; exact List.getElem_mem hi
  rcases Qk.1 hm with hm | hm
  ·exact Or.inl ⟨_,hm,hn,rfl⟩
  ·exact Or.inr ⟨_,hm,hn,rfl⟩
def Zbe (l:List Sym) (i:Nat):Nat:=if (Zav l i).name=[] then l.findIdx (fun s=>s.name.isEmpty && s.num == (Zav l i).num) else i
theorem Zkk (l:List Sym) {k:Nat} (hw:Wf k l):Firsts (grOf l) (Zbe l):=by
 have key:∀ i,i<l.length→(Zav l i).name=[]→Zbe l i<l.length∧(Zav l (Zbe l i)).name=[]∧(Zav l (Zbe l i)).num=(Zav l i).num:=by
  intro i hi hn
  unfold Zbe
  rw [if_pos hn]
  have hex:∃ x ∈ l,(x.name.isEmpty && x.num == (Zav l i).num)=true:=by
   refine ⟨Zav l i,?_,by simp [hn]⟩
   unfold Zav; simp only [List.getD_eq_getElem?_getD]; rw [Qb hi]; exact List.getElem_mem hi
  have hlt:=List.findIdx_lt_length_of_exists hex
  refine ⟨hlt,?_⟩
  have:=List.findIdx_getElem (w:=hlt)
  have e:Zav l (l.findIdx (fun s=>s.name.isEmpty && s.num == (Zav l i).num))=l[l.findIdx (fun s=>s.name.isEmpty && s.num == (Zav l i).num)]:=by
   generalize l.findIdx (fun s=>s.name.isEmpty && s.num == (Zav l i).num)=z at hlt
   unfold Zav; simp only [List.getD_eq_getElem?_getD]; rw [Qb hlt]; rfl
  rw [e]
  simpa using this
 refine ⟨⟨?_,?_⟩,?_,?_,?_⟩
 ·intro i hi
  by_cases hn:(Zav l i).name=[]
  ·exact (key i hi hn).1
  ·show Zbe l i<_
   unfold Zbe; rw [if_neg hn]; exact hi
 ·intro i hi
  by_cases hn:(Zav l i).name=[]
  ·obtain ⟨h1,h2,h3⟩:=key i hi hn
   show Zbe l (Zbe l i)=Zbe l i
   have e1:Zbe l (Zbe l i)=l.findIdx (fun s=>s.name.isEmpty && s.num == (Zav l (Zbe l i)).num):=by
    generalize Zbe l i=z at h2
    unfold Zbe; rw [if_pos h2]
   have e2:Zbe l i=l.findIdx (fun s=>s.name.isEmpty && s.num == (Zav l i).num):=by unfold Zbe; rw [if_pos hn]
   rw [e1,h3,← e2]
  ·have e:Zbe l i=i:=by unfold Zbe; rw [if_neg hn]
   rw [e,e]
 ·intro i j hi hj h1 h2 e
  show Zbe l i=Zbe l j
  have h1:(Zav l i).name=[]:=h1
  have h2:(Zav l j).name=[]:=h2
  have e:(Zav l i).num=(Zav l j).num:=e
  unfold Zbe; rw [if_pos h1,if_pos h2,e]
 ·intro i hi hn
  have hn:(Zav l i).name≠[]:=hn
  show Zbe l i=i
  unfold Zbe; rw [if_neg hn]
 ·intro i hi hn
  exact (key i hi hn).2
end Go.Proofs.YtlmjilpjmgjjcabGreatDoor
namespace Go.Proofs.YtlmjilpjmgjjcabGreatDoor
open Go.RowKit
structure GC where
 sym:Sym
 behind:Nat
 leader:Nat
 size:Int
def gcV (c:GC):List Value:=[.string ⟨c.sym.name.toArray⟩,.int .i64 c.sym.num,.int .i64 c.sym.args,.int .i64 c.behind,.int .i64 c.leader,.int .i64 c.size]
def gcs (l:List GC):List Value:=l.flatMap gcV
theorem Yli {l:List GC} {i:Nat} {c:GC} (h:l[i]?=some c) (j:Nat) (hj:j<6):(gcs l)[i * 6+j]?=(gcV c)[j]?:=by
 induction l generalizing i with
 | nil=>simp at h
 | cons a l ih =>
  have hl:(gcV a).length=6:=rfl
  cases i with
  | zero =>
   simp at h; subst h
   show (gcV a++gcs l)[_]?=_
   rw [Qc (by omega)]
   simp
  | succ i =>
   show (gcV a++gcs l)[_]?=_
   rw [Qd (by omega),← ih (by simpa using h),hl]
   congr 1; omega
theorem Ygy (l:List GC) (c:GC):gcs (l++[c])=gcs l++gcV c:=by simp [gcs]
theorem Zzx {l:List GC} {x:Nat} {c:GC} {f:GC→GC} {j:Nat} {u:Value} (h:l[x]?=some c) (hj:j<6) (hf:gcV (f c)=(gcV c).set j u):gcs (l.modify x f)=(gcs l).set (x * 6+j) u:=by
 induction l generalizing x with
 | nil=>simp at h
 | cons a l ih =>
  have hl:(gcV a).length=6:=rfl
  cases x with
  | zero =>
   simp at h; subst h
   show gcV (f a)++gcs l=(gcV a++gcs l).set _ _
   rw [List.set_append_left _ _ (by omega),hf]
   simp
  | succ x =>
   show gcV a++gcs (l.modify x f)=(gcV a++gcs l).set _ _
   rw [List.set_append_right _ _ (by omega),ih (by simpa using h),hl]
   congr 2; omega
structure GAt (w:World) (gb:Nat) (v:Value) (gs:List GC):Prop where
 box:w.heap[gb]?=some (.cells #[v] 148 (0,0))
 owns:w.ownsRow 0 164 6 v gs.length (gcs gs)
theorem Zxf {w:World} {B:Nat} {e:TypeId} {size n g cap:Nat} {xs:List Value} (h:w.ownsRow B e size (.slice (some ⟨g,0,none⟩) n cap) n xs) (i:Nat) (u:Value):(w.setCell ⟨g,i,none⟩ u).ownsRow B e size (.slice (some ⟨g,0,none⟩) n cap) n (xs.set i u):=by
 refine ⟨by simpa using h.1,?_⟩
 rcases h.2 with ⟨h1,_⟩ | ⟨g',cap',cur,h1,hb,hg,hn,hc,hs,ht⟩
 ·simp at h1
 ·simp at h1
  obtain ⟨rfl,rfl⟩:=h1
  refine .inr ⟨g,cap,cur.setIfInBounds i u,rfl,hb,Zaf hg _ _,hn,hc,by simpa using hs,?_⟩
  rw [← ht]
  simp [List.take_set]
theorem GAt.shape {w:World} {gb:Nat} {v:Value} {gs:List GC} (h:GAt w gb v gs) (hi:0<gs.length):∃ cb cap,v = .slice (some ⟨cb,0,none⟩) gs.length cap∧cb<w.heap.size∧gs.length≤cap∧cb≠gb∧(∀ j,w.frozen? ⟨cb,j,none⟩=false):=by
 obtain ⟨g,cap,cur,rfl,hB,hb,hc⟩:=Zao h.owns hi
 refine ⟨g,cap,rfl,Zab hb,hc,fun e => ?_,fun j=>Zae hb j⟩
 subst e
 rw [h.box] at hb
 simp at hb
theorem GAt.cell {w:World} {gb cb cap:Nat} {gs:List GC} (h:GAt w gb (.slice (some ⟨cb,0,none⟩) gs.length cap) gs) {i:Nat} {c:GC} (hc:gs[i]?=some c) :
  w.cell? ⟨cb,i * 6,none⟩=some (.string ⟨c.sym.name.toArray⟩)∧w.cell? ⟨cb,i * 6+1,none⟩=some (.int .i64 c.sym.num)∧w.cell? ⟨cb,i * 6+2,none⟩=some (.int .i64 c.sym.args)∧w.cell? ⟨cb,i * 6+3,none⟩=some (.int .i64 c.behind)∧w.cell? ⟨cb,i * 6+4,none⟩=some (.int .i64 c.leader)∧w.cell? ⟨cb,i * 6+5,none⟩=some (.int .i64 c.size):=by
 have e:=fun j hj=>Yli hc j hj
 refine ⟨Zai h.owns _ _ ?_,Zai h.owns _ _ (by rw [e 1 (by omega)]; rfl),Zai h.owns _ _ (by rw [e 2 (by omega)]; rfl),Zai h.owns _ _ (by rw [e 3 (by omega)]; rfl),Zai h.owns _ _ (by rw [e 4 (by omega)]; rfl),Zai h.owns _ _ (by rw [e 5 (by omega)]; rfl)⟩
 have:=e 0 (by omega)
 simp only [Nat.add_zero] at this
 rw [this]; rfl
theorem GAt.on {w w':World} {gb:Nat} {v:Value} {gs:List GC} (h:GAt w gb v gs) (hk:∀ k,k<w.heap.size→w'.heap[k]?=w.heap[k]?):GAt w' gb v gs :=
 ⟨(hk gb (Zab h.box)).trans h.box,Zah h.owns (fun k e=>hk k (h.owns.lt k e).2)⟩
theorem GAt.ext {w w':World} {gb:Nat} {v:Value} {gs:List GC} (h:GAt w gb v gs) (e:Ext w w'):GAt w' gb v gs:=h.on (fun k hk=>e.block k hk)
theorem GAt.put {w:World} {gb cb cap:Nat} {gs:List GC} (h:GAt w gb (.slice (some ⟨cb,0,none⟩) gs.length cap) gs) {x:Nat} {c:GC} (hc:gs[x]?=some c) {f:GC→GC} {j:Nat} {u:Value} (hj:j<6) (hf:gcV (f c)=(gcV c).set j u) :
  GAt (w.setCell ⟨cb,x * 6+j,none⟩ u) gb (.slice (some ⟨cb,0,none⟩) gs.length cap) (gs.modify x f):=by
 have hne:cb≠gb:=by
  obtain ⟨cb',cap',e,_,_,hne,_⟩:=h.shape (by have:=(Qa.1 hc).1; omega)
  simp at e
  rw [e.1]; exact hne
 refine ⟨(Below.heap_setCell _ _ _ _ (fun e=>hne e.symm)).trans h.box,?_⟩
 rw [Zzx hc hj hf,List.length_modify]
 exact Zxf h.owns _ _
def GC.up (c:GC):CellS:=⟨c.sym,[],c.leader⟩
def Zhy (gs:List GC) (x y:Nat):List GC:=gs.modify x (fun c => { c with leader:=y })
theorem Zxg (gs:List GC) (x y:Nat):(Zhy gs x y).map GC.up=turn (gs.map GC.up) x y:=by
 apply List.ext_getElem?
 intro i
 rw [Zpz,Qj,Zhy,List.getElem?_modify,Qj]
 cases gs[i]? with
 | none=>rfl
 | some c=>simp; split <;> simp_all [GC.up]
theorem Zii (gs:List GC) (x y:Nat):(Zhy gs x y).length=gs.length:=by simp [Zhy]
structure CellsOf (gs:List GC) (l:List Sym):Prop where
 len:gs.length=l.length
 all:∀ i c,gs[i]?=some c→c.sym=Zav l i∧c.behind=Zbg l i
theorem CellsOf.lead {gs:List GC} {l:List Sym} (h:CellsOf gs l) (x y:Nat):CellsOf (Zhy gs x y) l :=
 ⟨by rw [Zii]; exact h.len,fun i c hc=>by
  rw [Zhy,List.getElem?_modify] at hc
  cases hd:gs[i]? with
  | none=>rw [hd] at hc; simp at hc
  | some d =>
   rw [hd] at hc
   obtain ⟨h1,h2⟩:=h.all i d hd
   simp only [Option.map_eq_map,Option.map_some,Qo] at hc
   subst hc
   split <;> exact ⟨h1,h2⟩⟩
theorem Zgn (w:World) (gb:Nat) (v:Value) (gs:List GC) (ρ rk:Nat→Nat) (i:Nat) (h:GAt w gb v gs) (hu:UpOk (gs.map GC.up) ρ rk) (hi:i<gs.length) (hl:gs.length≤4000) :
  Calls Tryz.prog 93 #[.pointer (some ⟨gb,0,none⟩),.int .i64 i] w fun e w'=>e = .returned (.int .i64 (ρ i))∧w'=w:=by
 obtain ⟨cb,cap,rfl,hcb,hcap,_,_⟩:=h.shape (by omega)
 have b0:w.cell? ⟨gb,0,none⟩=some (.slice (some ⟨cb,0,none⟩) gs.length cap):=Zaa h.box 0 _ rfl
 have hgb:=Zab h.box
 have H:=Zac h
 have Hu:=Zac hu
 clear h hu
 go_enter Tryz.func93,Tryz.ntmps93
 go_wp2
 go_loopg [1] (rk i+1) (fun gk iv wr=>∃ (k:Nat),iv = .int .i64 k∧k<gs.length∧rk k<gk∧ρ k=ρ i∧wr=w)
 case atStart=>exact ⟨i,rfl,hi,by omega,rfl,rfl⟩
 case round =>
  obtain ⟨k,rfl,hk,hg,hρ,rfl⟩:=hrel
  obtain ⟨c,hc⟩:∃ c,gs[k]?=some c:=⟨_,Qb hk⟩
  obtain ⟨c0,c1,c2,c3,c4,c5⟩:=H.out.cell hc
  obtain ⟨h1,h2,h3,h4⟩:=Hu.out k c.up (by rw [Qj,hc]; rfl)
  have h1:c.leader<gs.length:=by simpa [GC.up] using h1
  have h2:ρ c.leader=ρ k:=h2
  by_cases e:c.leader=k
  ·have e':((c.leader:Int) != (k:Int))=false:=by rw [e]; simp
   have Hr:=Zac (h3 e)
   have Hρ:=Zac hρ
   clear hc h2 h3 h4 hρ
   go_wp2
   go_ret
   exact ⟨by rw [← Hρ.out,Hr.out]; rfl,rfl⟩
  ·have e':((c.leader:Int) != (k:Int))=true:=by rw [bne_iff_ne]; omega
   have Hr:=Zac (h2.trans hρ)
   have h4':=h4 e
   clear hc h2 h3 h4 hρ
   go_wp2
   go_roundg (rk k)
   case measure=>omega
   case rel=>exact ⟨c.leader,rfl,h1,h4',Hr.out,rfl⟩
theorem Zje (w:World) (gb:Nat) (v:Value) (gs:List GC) (i:Nat) (c:GC) (h:GAt w gb v gs) (hc:gs[i]?=some c) (hl:gs.length≤4000) :
  Calls Tryz.prog 94 #[.pointer (some ⟨gb,0,none⟩),.int .i64 i] w fun e w'=>e = .returned (.bool c.sym.name.isEmpty)∧w'=w:=by
 have hi:=(Qa.1 hc).1
 obtain ⟨cb,cap,rfl,hcb,hcap,_,_⟩:=h.shape (by omega)
 have b0:w.cell? ⟨gb,0,none⟩=some (.slice (some ⟨cb,0,none⟩) gs.length cap):=Zaa h.box 0 _ rfl
 have hgb:=Zab h.box
 obtain ⟨c0,c1,c2,c3,c4,c5⟩:=h.cell hc
 clear h hc
 go_enter Tryz.func94,Tryz.ntmps94
 go_wp2
 go_ret
 exact ⟨by simp,rfl⟩
def Zej (s t:Sym):Bool:=s.name.isEmpty && (t.name.isEmpty && s.num == t.num)
theorem Zzy (w:World) (s t:Sym) :
  Calls Tryz.prog 110 #[.agg #[.string ⟨s.name.toArray⟩,.int .i64 s.num,.int .i64 s.args],.agg #[.string ⟨t.name.toArray⟩,.int .i64 t.num,.int .i64 t.args]] w fun e w'=>e = .returned (.bool (Zej s t))∧Ext w w':=by
 have Hs:Hid (∀ a b c,a=s.name.isEmpty→b=t.name.isEmpty→c=(s.num == t.num)→Zej s t=(a && (b && c))):=fun a b c h1 h2 h3=>by rw [h1,h2,h3]; rfl
 cases h1:s.name.isEmpty with
 | false =>
  go_enter Tryz.func110,Tryz.ntmps110
  go_wp2
  go_ret
  refine ⟨?_,(Ext.of (by repeat' (first | with_reducible(first|exact Qx _ _|apply Kept.drew|apply Kept.drewN|apply Qz|refine Qy ?_ ?_ _)|exact fun h=>absurd h (by simp <;> omega))))⟩
  rw [Hs.out false _ _ h1.symm rfl rfl]; rfl
 | true =>
  cases h2:t.name.isEmpty with
  | false =>
   go_enter Tryz.func110,Tryz.ntmps110
   go_wp2
   go_ret
   refine ⟨?_,(Ext.of (by repeat' (first | with_reducible(first|exact Qx _ _|apply Kept.drew|apply Kept.drewN|apply Qz|refine Qy ?_ ?_ _)|exact fun h=>absurd h (by simp <;> omega))))⟩
   rw [Hs.out true false _ h1.symm h2.symm rfl]; rfl
  | true =>
   have Hn:Hid (((s.num:Int) == (t.num:Int))=(s.num == t.num)):=by
    show _=_
    rw [Bool.eq_iff_iff,beq_iff_eq,beq_iff_eq]; omega
   go_enter Tryz.func110,Tryz.ntmps110
   go_wp2
   go_ret
   refine ⟨?_,(Ext.of (by repeat' (first | with_reducible(first|exact Qx _ _|apply Kept.drew|apply Kept.drewN|apply Qz|refine Qy ?_ ?_ _)|exact fun h=>absurd h (by simp <;> omega))))⟩
   rw [Hs.out true true _ h1.symm h2.symm rfl,← Hn.out]; rfl
end Go.Proofs.YtlmjilpjmgjjcabGreatDoor
