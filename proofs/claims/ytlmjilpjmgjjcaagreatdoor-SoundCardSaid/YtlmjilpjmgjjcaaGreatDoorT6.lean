/-
  PROVED HERE: plain facts: a way to carry out tries, and a search by it, that comes to what is said of them (no program, no memory; the conditions stand in each statement).
-/
import Derived.Test.YtlmjilpjmgjjcaaGreatDoorT5
import Derived.Deep.QuietTactic
import Derived.BigQuiet
import Derived.Lib.Strings
set_option linter.unusedSimpArgs false
set_option linter.unusedVariables false
set_option maxRecDepth 10000
set_option maxHeartbeats 4000000
namespace Go.Proofs.YtlmjilpjmgjjcaaGreatDoor
open Go.RowKit
mutual
inductive TreeR (cs:List Cls):ND→List UInt8→Prop
 | leaf (n:ND) (h:n.goals=[]):TreeR cs n [33]
 | node (n:ND) (t:List UInt8) (h:n.goals≠[]) (hp:Part cs n cs.length t):TreeR cs n ([40]++t++[41])
inductive Part (cs:List Cls):ND→Nat→List UInt8→Prop
 | zero (n:ND):Part cs n 0 []
 | miss (n:ND) (k:Nat) (t:List UInt8) (c:Cls) (h:Part cs n k t) (hc:cs[k]?=some c) (hq:(tryN n c k).2=0):Part cs n (k+1) t
 | kid (n:ND) (k:Nat) (t u:List UInt8) (c:Cls) (h:Part cs n k t) (hc:cs[k]?=some c) (hq:(tryN n c k).2=1∨(tryN n c k).2=2) (hu:TreeR cs (tryN n c k).1 u):Part cs n (k+1) (t++Lib.decDigits k++u)
end
structure SN where
 way:List (ND × Nat)
 tries:Nat
 status:Nat
 found:ND
 tree:List UInt8
def Zdr (cs:List Cls):List (ND × Nat)→List UInt8→List (ND × Nat) × List UInt8
 | (n,k)::r,t=>if cs.length≤k then Zdr cs r (t++[41]) else ((n,k)::r,t)
 | [],t=>([],t)
noncomputable def Zcd (s:SN) (n:ND):SN:=open Classical in if n.goals=[] then { s with tree:=s.tree++[33],status:=1,found:=n } else { s with way:=(n,0)::s.way,tree:=s.tree++[40] }
noncomputable def Zdc (cs:List Cls) (s:SN):SN := { s with way:=(Zdr cs s.way s.tree).1,tree:=(Zdr cs s.way s.tree).2 }
noncomputable def Zat (cs:List Cls) (s:SN):SN:=match s.way with
 | []=>s
 | (n,k)::r=>match cs[k]? with
  | none=>s
  | some c=>Zdc cs (if (tryN n c k).2=3 then { s with way:=(n,k+1)::r,tries:=s.tries+1,status:=3 }
    else if (tryN n c k).2=1∨(tryN n c k).2=2 then Zcd { s with way:=(n,k+1)::r,tries:=s.tries+1,tree:=s.tree++Lib.decDigits k } (tryN n c k).1
    else { s with way:=(n,k+1)::r,tries:=s.tries+1 })
def PH (cs:List Cls) (top:ND):List (ND × Nat)→ND→Nat→List UInt8→Prop
 | [],n,k,T=>n=top∧n.goals≠[]∧k≤cs.length∧∃ t,Part cs n k t∧T=[40]++t
 | x::r,n,k,T=>n.goals≠[]∧k≤cs.length∧∃ t j' c T',x.2=j'+1∧cs[j']?=some c∧((tryN x.1 c j').2=1∨(tryN x.1 c j').2=2)∧n=(tryN x.1 c j').1∧PH cs top r x.1 j' T'∧Part cs n k t∧T=T'++Lib.decDigits j'++([40]++t)
def PW (cs:List Cls) (top:ND):List (ND × Nat)→List UInt8→Prop
 | [],T=>TreeR cs top T
 | (n,k)::r,T=>PH cs top r n k T
theorem PW.part {cs:List Cls} {top n:ND} {k:Nat} {r:List (ND × Nat)} {T:List UInt8} (h:PW cs top ((n,k)::r) T):n.goals≠[]∧k≤cs.length∧∃ t0 t,Part cs n k t∧T=t0++([40]++t)∧∀ k' t',Part cs n k' t'→k'≤cs.length→PW cs top ((n,k')::r) (t0++([40]++t')):=by
 cases r with
 | nil =>
  obtain ⟨h1,h2,h3,t,h4,h5⟩:=h
  exact ⟨h2,h3,[],t,h4,by simpa using h5,fun k' t' hp hk=>⟨h1,h2,hk,t',hp,by simp⟩⟩
 | cons m r =>
  obtain ⟨m,j⟩:=m
  obtain ⟨h1,h2,t,j',c,T',h3,h4,h5,h6,h7,h8,h9⟩:=h
  exact ⟨h1,h2,T'++Lib.decDigits j',t,h8,h9,fun k' t' hp hk=>⟨h1,hk,t',j',c,T',h3,h4,h5,h6,h7,hp,rfl⟩⟩
theorem PW.miss {cs:List Cls} {top n:ND} {k:Nat} {r:List (ND × Nat)} {T:List UInt8} {c:Cls} (h:PW cs top ((n,k)::r) T) (hc:cs[k]?=some c) (hq:(tryN n c k).2=0):PW cs top ((n,k+1)::r) T:=by
 obtain ⟨h1,h2,t0,t,h3,h4,h5⟩:=h.part
 rw [h4]
 exact h5 (k+1) t (.miss n k t c h3 hc hq) (by have:=(Qa.1 hc).1; omega)
theorem PW.kid {cs:List Cls} {top n:ND} {k:Nat} {r:List (ND × Nat)} {T u:List UInt8} {c:Cls} (h:PW cs top ((n,k)::r) T) (hc:cs[k]?=some c) (hq:(tryN n c k).2=1∨(tryN n c k).2=2) (hu:TreeR cs (tryN n c k).1 u):PW cs top ((n,k+1)::r) (T++Lib.decDigits k++u):=by
 obtain ⟨h1,h2,t0,t,h3,h4,h5⟩:=h.part
 rw [h4]
 have:=h5 (k+1) (t++Lib.decDigits k++u) (.kid n k t u c h3 hc hq hu) (by have:=(Qa.1 hc).1; omega)
 simpa using this
theorem PW.down {cs:List Cls} {top n:ND} {k:Nat} {r:List (ND × Nat)} {T:List UInt8} {c:Cls} (h:PW cs top ((n,k)::r) T) (hc:cs[k]?=some c) (hq:(tryN n c k).2=1∨(tryN n c k).2=2) (hg:(tryN n c k).1.goals≠[]):PW cs top (((tryN n c k).1,0)::(n,k+1)::r) (T++Lib.decDigits k++[40]) :=
 ⟨hg,Qm _,[],k,c,T,rfl,hc,hq,rfl,h,.zero _,by simp⟩
theorem PW.up {cs:List Cls} {top n:ND} {k:Nat} {r:List (ND × Nat)} {T:List UInt8} (h:PW cs top ((n,k)::r) T) (hk:cs.length≤k):PW cs top r (T++[41]):=by
 cases r with
 | nil =>
  obtain ⟨h1,h2,h3,t,h4,h5⟩:=h
  have e:k=cs.length:=by omega
  subst e h1 h5
  exact .node n t h2 h4
 | cons m r =>
  obtain ⟨m,j⟩:=m
  obtain ⟨h1,h2,t,j',c,T',h3,h4,h5,h6,h7,h8,h9⟩:=h
  have e:k=cs.length:=by omega
  simp only at h3 h5 h6 h7
  subst e h3 h6 h9
  have h7':PW cs top ((m,j')::r) T':=h7
  have:=h7'.kid h4 h5 (.node _ t h1 h8)
  simpa using this
theorem PW.leave {cs:List Cls} {top:ND}:∀ {way:List (ND × Nat)} {T:List UInt8},PW cs top way T→PW cs top (Zdr cs way T).1 (Zdr cs way T).2:=by
 intro way
 induction way with
 | nil=>intro T h; exact h
 | cons x r ih =>
  obtain ⟨n,k⟩:=x
  intro T h
  unfold Zdr
  split
  ·rename_i hk
   exact ih (h.up hk)
  ·exact h
theorem Zhf (n:ND) (c:Cls) (k:Nat):(tryN n c k).2=0∨(tryN n c k).2=1∨(tryN n c k).2=2∨(tryN n c k).2=3:=by
 by_cases hex:∃ r:ND × Nat,∃ m,NOk m∧Same m n∧Out m c k r.2 r.1
 ·have e:tryN n c k=Classical.choose hex:=by unfold tryN; rw [dif_pos hex]
  obtain ⟨m,_,_,g,gs,_,ho⟩:=Classical.choose_spec hex
  rw [e]
  rcases ho with ⟨h0,_⟩ | ⟨h0,_⟩ | ⟨σ,_,_,h3,_⟩
  ·exact Or.inl h0
  ·exact Or.inr (Or.inr (Or.inr h0))
  ·rw [h3]
   unfold Zfi
   split
   ·simp
   ·split <;> simp
 ·have e:tryN n c k=(⟨[],[],[],[],0⟩,0):=by unfold tryN; rw [dif_neg hex]
  rw [e]; simp
theorem PW.try' {cs:List Cls} {top:ND} {s:SN} (h:PW cs top s.way s.tree) (hf:(Zat cs s).status≠3):PW cs top (Zat cs s).way (Zat cs s).tree:=by
 unfold Zat at hf ⊢
 cases hw:s.way with
 | nil=>rw [hw] at hf h; simpa [hw] using h
 | cons x r =>
  obtain ⟨n,k⟩:=x
  rw [hw] at hf h
  simp only at hf ⊢
  cases hc:cs[k]? with
  | none=>rw [hc] at hf; simp only [hw]; exact h
  | some c =>
   rw [hc] at hf
   simp only at hf ⊢
   by_cases h3:(tryN n c k).2=3
   ·rw [if_pos h3] at hf
    exact absurd rfl hf
   ·rw [if_neg h3]
    by_cases h12:(tryN n c k).2=1∨(tryN n c k).2=2
    ·rw [if_pos h12]
     by_cases hg:(tryN n c k).1.goals=[]
     ·simp only [Zcd,if_pos hg,Zdc]
      have h':PW cs top ((n,k)::r) s.tree:=h
      exact (h'.kid hc h12 (.leaf _ hg)).leave
     ·simp only [Zcd,if_neg hg,Zdc]
      have h':PW cs top ((n,k)::r) s.tree:=h
      exact (h'.down hc h12 hg).leave
    ·rw [if_neg h12]
     simp only [Zdc]
     have h0:(tryN n c k).2=0:=by have:=Zhf n c k; omega
     have h':PW cs top ((n,k)::r) s.tree:=h
     exact (h'.miss hc h0).leave
theorem Ztm {w:World} {B:Nat} {e:TypeId} {s g n cap:Nat} {xs:List Value} (h:w.ownsRow B e s (.slice (some ⟨g,0,none⟩) (n+1) cap) (n+1) xs) :
  w.ownsRow B e s (.slice (some ⟨g,0,none⟩) n cap) n (xs.take (n * s)):=by
 have hm:(n+1) * s=n * s+s:=Nat.succ_mul n s
 refine ⟨by have:=h.1; rw [List.length_take]; omega,?_⟩
 rcases h.2 with ⟨h1,_⟩ | ⟨g',cap',cur,h1,hb,hg,hn,hc,hs,ht⟩
 ·simp at h1
 ·simp at h1
  obtain ⟨rfl,rfl⟩:=h1
  refine .inr ⟨g,cap,cur,rfl,hb,hg,by omega,hc,hs,?_⟩
  rw [← ht,List.take_take]
  congr 1
  omega
def Zii (N:Nat):List (ND × Nat)→List (ND × Nat)
 | []=>[]
 | x::r=>if N≤x.2 then Zii N r else x::r
theorem Zek (cs:List Cls):∀ (way:List (ND × Nat)) (t:List UInt8),(Zdr cs way t).1=Zii cs.length way:=by
 intro way
 induction way with
 | nil=>intro t; rfl
 | cons x r ih =>
  obtain ⟨n,k⟩:=x
  intro t
  simp only [Zdr,Zii]
  split
  ·exact ih _
  ·rfl
theorem Zph {N:Nat}:∀ {way:List (ND × Nat)} {x:ND × Nat} {r:List (ND × Nat)},Zii N way=x::r→x.2<N:=by
 intro way
 induction way with
 | nil=>intro x r h; simp [Zii] at h
 | cons y s ih =>
  intro x r h
  simp only [Zii] at h
  split at h
  ·exact ih h
  ·rename_i hn
   simp at h
   rw [← h.1]; omega
theorem Zpi (N:Nat) (way:List (ND × Nat)):Zii N (Zii N way)=Zii N way:=by
 cases h:Zii N way with
 | nil=>rfl
 | cons x r =>
  have:=Zph h
  simp only [Zii]
  rw [if_neg (by omega)]
noncomputable def Zdd (a:List (List Sym) × Names) (st:Nat) (found:ND) (T:List UInt8):List UInt8 × List UInt8 × List UInt8 :=
 if st=1 then (Zbp a.2 found,Zeh found,[]) else if st=2 then ([],[],T) else ([],[],[])
theorem box6 {w:World} {b:Nat} {u0 u1 u2 u3 u4 u5:Value} {t:TypeId} (h:w.heap[b]?=some (.cells #[u0,u1,u2,u3,u4,u5] t (0,0))) :
  w.cell? ⟨b,0,none⟩=some u0∧w.cell? ⟨b,1,none⟩=some u1∧w.cell? ⟨b,2,none⟩=some u2∧w.cell? ⟨b,3,none⟩=some u3∧w.cell? ⟨b,4,none⟩=some u4∧w.cell? ⟨b,5,none⟩=some u5∧∀ i,w.frozen? ⟨b,i,none⟩=false :=
 ⟨Zaa h 0 _ rfl,Zaa h 1 _ rfl,Zaa h 2 _ rfl,Zaa h 3 _ rfl,Zaa h 4 _ rfl,Zaa h 5 _ rfl,fun i=>Zad h i⟩
noncomputable def Znh (n:ND) (c:Cls) (k:Nat) (r:List (ND × Nat)):List (ND × Nat):=if (tryN n c k).2=1 then ((tryN n c k).1,0)::(n,k+1)::r else (n,k+1)::r
noncomputable def Zij (n:ND) (c:Cls) (k:Nat):Nat:=if (tryN n c k).2=2 then 1 else if (tryN n c k).2=3 then 3 else 0
theorem Zhg {n:ND} {c:Cls} {k:Nat} (h:(tryN n c k).2=1∨(tryN n c k).2=2):(tryN n c k).2=2↔(tryN n c k).1.goals=[]:=by
 by_cases hex:∃ r:ND × Nat,∃ m,NOk m∧Same m n∧Out m c k r.2 r.1
 ·have e:tryN n c k=Classical.choose hex:=by unfold tryN; rw [dif_pos hex]
  obtain ⟨m,_,hS,g,gs,_,ho⟩:=Classical.choose_spec hex
  rw [e] at h ⊢
  rcases ho with ⟨h0,_⟩ | ⟨h0,_⟩ | ⟨σ,_,_,h3,h4⟩
  ·omega
  ·omega
  ·rw [h3,← h4] at h
   rw [h3,← h4]
   unfold Zfi at h ⊢
   split at h
   ·omega
   ·rename_i ho
    rw [if_neg ho]
    split
    ·rename_i hg; simp [hg]
    ·rename_i hg; simp [hg]
 ·have e:tryN n c k=(⟨[],[],[],[],0⟩,0):=by unfold tryN; rw [dif_neg hex]
  rw [e] at h
  simp at h
def Zgj (way:List (ND × Nat)):List Nat:=(way.map (fun x=>x.2 - 1)).reverse
theorem Zlc (n:ND) (k:Nat) (r:List (ND × Nat)):Zgj ((n,k+1)::r)=Zgj r++[k]:=by simp [Zgj]
def UsedW:List (ND × Nat)→Prop
 | []=>True
 | x::r=>x.1.used=Zgj r∧(∀ y ∈ r,1≤y.2)∧UsedW r
theorem UsedW.trim {N:Nat}:∀ {way:List (ND × Nat)},UsedW way→UsedW (Zii N way):=by
 intro way
 induction way with
 | nil=>intro h; exact h
 | cons x r ih =>
  intro h
  simp only [Zii]
  split
  ·exact ih h.2.2
  ·exact h
theorem Ztn {N:Nat}:∀ {way:List (ND × Nat)} {x:ND × Nat},x ∈ Zii N way→x ∈ way:=by
 intro way
 induction way with
 | nil=>intro x h; exact h
 | cons y r ih =>
  intro x h
  simp only [Zii] at h
  split at h
  ·exact List.mem_cons_of_mem _ (ih h)
  ·exact h
theorem Zpj (cs:List Cls):∀ (way:List (ND × Nat)) (t:List UInt8),(Zdr cs way t).2.length+(Zdr cs way t).1.length=t.length+way.length:=by
 intro way
 induction way with
 | nil=>intro t; rfl
 | cons x r ih =>
  obtain ⟨n,k⟩:=x
  intro t
  simp only [Zdr]
  split
  ·rw [ih]; simp; omega
  ·rfl
structure InvN (cs:List Cls) (a:List (List Sym) × Names) (s:SN):Prop where
 way:∀ x ∈ s.way,x.1.goals≠[]∧x.1.vals.length=a.2.length∧x.2≤cs.length∧∀ k ∈ x.1.used,k<cs.length
 used:UsedW s.way
 tree:s.status≠3→PW cs (topN a) s.way s.tree
 trim:Zii cs.length s.way=s.way
 found:s.status=1→s.found.goals=[]∧s.found.vals.length=a.2.length∧∀ k ∈ s.found.used,k<cs.length
 len:s.tree.length+s.way.length≤2+26 * s.tries
 tries:s.tries≤3000
 no:s.status=2→s.way=[]
 st:s.status≤3
theorem Zkl {cs:List Cls} {s:SN} {n:ND} {k:Nat} {r:List (ND × Nat)} {c:Cls} (hw:s.way=(n,k)::r) (hc:cs[k]?=some c) (h0:s.status=0) :
  (Zat cs s).way=Zii cs.length (Znh n c k r)∧(Zat cs s).status=Zij n c k∧(Zat cs s).tries=s.tries+1∧(Zij n c k=1→(Zat cs s).found=(tryN n c k).1):=by
 have hk:=Zhf n c k
 unfold Zat
 rw [hw]
 simp only [hc]
 by_cases h3:(tryN n c k).2=3
 ·rw [if_pos h3]
  simp [Zdc,Zek,Znh,Zij,h3]
 ·rw [if_neg h3]
  by_cases h12:(tryN n c k).2=1∨(tryN n c k).2=2
  ·rw [if_pos h12]
   by_cases hg:(tryN n c k).1.goals=[]
   ·have h2:=(Zhg h12).2 hg
    simp [Zdc,Zcd,hg,Zek,Znh,Zij,h2]
   ·have h2:(tryN n c k).2≠2:=fun h=>hg ((Zhg h12).1 h)
    have h1:(tryN n c k).2=1:=by omega
    simp [Zdc,Zcd,hg,Zek,Znh,Zij,h1,h0]
  ·rw [if_neg h12]
   have h00:(tryN n c k).2=0:=by omega
   simp [Zdc,Zek,Znh,Zij,h00,h0]
theorem Zto {cs:List Cls} {s:SN} {n:ND} {k:Nat} {r:List (ND × Nat)} {c:Cls} (hw:s.way=(n,k)::r) (hc:cs[k]?=some c) (hk:k<24):(Zat cs s).tree.length+(Zat cs s).way.length≤s.tree.length+s.way.length+26:=by
 have hd:(Lib.decDigits k).length≤24:=by
  have:=Zks k
  omega
 unfold Zat
 rw [hw]
 simp only [hc,Zdc,Zpj]
 split
 ·simp
 ·split
  ·unfold Zcd
   split
   ·simp; omega
   ·simp; omega
  ·simp
theorem InvN.try' {cs:List Cls} {a:List (List Sym) × Names} {s:SN} (h:InvN cs a s) (hcl:cs.length≤24) (h0:s.status=0) {n:ND} {k:Nat} {r:List (ND × Nat)} {c:Cls} (hw:s.way=(n,k)::r) (hc:cs[k]?=some c) (ht:s.tries<3000):InvN cs a (Zat cs s):=by
 obtain ⟨e1,e2,e3,e4⟩:=Zkl hw hc h0
 have hkk:=Zhf n c k
 have hklt:=(Qa.1 hc).1
 obtain ⟨w1,w2,w3,w4⟩:=h.way (n,k) (by rw [hw]; simp)
 have hu:=h.used
 rw [hw] at hu
 have hr:∀ x ∈ r,x.1.goals≠[]∧x.1.vals.length=a.2.length∧x.2≤cs.length∧∀ k ∈ x.1.used,k<cs.length:=fun x hx=>h.way x (by rw [hw]; simp [hx])
 have hchild:(tryN n c k).2=1∨(tryN n c k).2=2→(tryN n c k).1.vals.length=a.2.length∧∀ j ∈ (tryN n c k).1.used,j<cs.length:=fun hq=>by
  refine ⟨by rw [Zkk hq]; exact w2,fun j hj => ?_⟩
  rw [Zgc hq] at hj
  rcases Qk.1 hj with hj | hj
  ·exact w4 j hj
  ·simp at hj; omega
 refine ⟨?_,?_,?_,?_,?_,?_,?_,?_,?_⟩
 ·intro x hx
  rw [e1] at hx
  have hx:=Ztn hx
  unfold Znh at hx
  split at hx
  ·rename_i h1
   rcases Qp.1 hx with rfl | hx
   ·have h2:¬ (tryN n c k).1.goals=[]:=fun hg=>by have:=(Zhg (Or.inl h1)).2 hg; omega
    exact ⟨h2,(hchild (Or.inl h1)).1,Qm _,(hchild (Or.inl h1)).2⟩
   ·rcases Qp.1 hx with rfl | hx
    ·exact ⟨w1,w2,by show k+1≤_; omega,w4⟩
    ·exact hr x hx
  ·rcases Qp.1 hx with rfl | hx
   ·exact ⟨w1,w2,by show k+1≤_; omega,w4⟩
   ·exact hr x hx
 ·rw [e1]
  apply UsedW.trim
  unfold Znh
  split
  ·rename_i h1
   exact ⟨by rw [Zlc,Zgc (Or.inl h1),hu.1],fun y hy=>by
    rcases Qp.1 hy with rfl | hy
    ·exact Nat.succ_le_succ (Qm _)
    ·exact hu.2.1 y hy,hu.1,hu.2⟩
  ·exact ⟨hu.1,hu.2⟩
 ·intro h3
  exact PW.try' (h.tree (by omega)) h3
 ·rw [e1,Zpi]
 ·intro h1
  rw [e2] at h1
  rw [e4 h1]
  have hq2:(tryN n c k).2=2:=by
   unfold Zij at h1
   split at h1
   ·assumption
   ·split at h1 <;> omega
  exact ⟨(Zhg (Or.inr hq2)).1 hq2,(hchild (Or.inr hq2)).1,(hchild (Or.inr hq2)).2⟩
 ·have:=Zto hw hc (by omega)
  have:=h.len
  omega
 ·omega
 ·intro h2
  rw [e2] at h2
  unfold Zij at h2
  split at h2
  ·omega
  ·split at h2 <;> omega
 ·rw [e2]
  unfold Zij
  split
  ·omega
  ·split <;> omega
noncomputable def Zca (cs:List Cls):Nat→SN→SN × Nat
 | 0,s=>(s,0)
 | n+1,s=>open Classical in if s.status=0∧s.way≠[]∧s.tries<3000 then ((Zca cs n (Zat cs s)).1,(Zca cs n (Zat cs s)).2+1) else (s,0)
def Zht (s:SN):SN := { s with way:=[],tree:=[],status:=3 }
noncomputable def endN (s:SN):SN:=open Classical in if s.status=3 then Zht s else if s.status=0 then (if s.way=[] then { s with status:=2 } else if 3000≤s.tries then Zht s else s) else s
noncomputable def Zcz (cs:List Cls) (n:Nat) (s:SN):SN × Nat:=if s.status=2∨s.status=3 then (s,0) else (endN (Zca cs n { s with status:=0 }).1,(Zca cs n { s with status:=0 }).2)
theorem InvN.full {cs:List Cls} {a:List (List Sym) × Names} {s:SN} (h:InvN cs a s):InvN cs a (Zht s) :=
 ⟨fun x hx=>by simp [Zht] at hx,trivial,fun h3=>absurd rfl h3,rfl,fun h1=>by simp [Zht] at h1,by simp [Zht],h.tries,fun _=>rfl,by simp [Zht]⟩
theorem InvN.end' {cs:List Cls} {a:List (List Sym) × Names} {s:SN} (h:InvN cs a s):InvN cs a (endN s):=by
 unfold endN
 split
 ·exact h.full
 ·split
  ·rename_i h3 h0
   split
   ·rename_i hw
    exact ⟨h.way,h.used,fun _=>h.tree (by omega),h.trim,fun h1=>by simp at h1,h.len,h.tries,fun _=>hw,by simp⟩
   ·split
    ·exact h.full
    ·exact h
  ·exact h
theorem InvN.seek {cs:List Cls} {a:List (List Sym) × Names} {s:SN} (h:InvN cs a s) (h3:s.status≠3):InvN cs a { s with status:=0 } :=
 ⟨h.way,h.used,fun _=>h.tree h3,h.trim,fun h1=>by simp at h1,h.len,h.tries,fun h2=>by simp at h2,by simp⟩
theorem InvN.head {cs:List Cls} {a:List (List Sym) × Names} {s:SN} (h:InvN cs a s) (hw:s.way≠[]):∃ n k r c,s.way=(n,k)::r∧cs[k]?=some c∧n.goals≠[]:=by
 cases e:s.way with
 | nil=>exact absurd e hw
 | cons x r =>
  obtain ⟨n,k⟩:=x
  have ht:=h.trim
  rw [e] at ht
  have hk:=Zph ht
  exact ⟨n,k,r,_,rfl,Qb hk,(h.way (n,k) (by rw [e]; simp)).1⟩
theorem InvN.loop {cs:List Cls} {a:List (List Sym) × Names} (hcl:cs.length≤24):∀ {n:Nat} {s:SN},InvN cs a s→InvN cs a (Zca cs n s).1:=by
 intro n
 induction n with
 | zero=>intro s h; exact h
 | succ n ih =>
  intro s h
  unfold Zca
  split
  ·rename_i hc
   obtain ⟨n',k,r,c,h1,h2,h3⟩:=h.head hc.2.1
   exact ih (h.try' hcl hc.1 h1 h2 hc.2.2)
  ·exact h
theorem InvN.step {cs:List Cls} {a:List (List Sym) × Names} (hcl:cs.length≤24) {n:Nat} {s:SN} (h:InvN cs a s):InvN cs a (Zcz cs n s).1:=by
 unfold Zcz
 split
 ·exact h
 ·rename_i h3
  exact ((h.seek (by omega)).loop hcl).end'
noncomputable def newN (cs:List Cls) (a:List (List Sym) × Names):SN:=Zdc cs (Zcd ⟨[],0,0,⟨[],[],[],[],0⟩,[]⟩ (topN a))
theorem Zhh {a:List (List Sym) × Names} (h:a.1≠[]):(topN a).goals≠[]:=by simpa [topN] using h
theorem InvN.new (cs:List Cls) {a:List (List Sym) × Names} (ha:a.1≠[]):InvN cs a (newN cs a):=by
 have hg:=Zhh ha
 have hp:PW cs (topN a) [(topN a,0)] [40]:=⟨rfl,hg,Qm _,[],.zero _,by simp⟩
 unfold newN Zcd
 rw [if_neg hg]
 refine ⟨?_,?_,?_,?_,?_,?_,?_,?_,?_⟩
 ·intro x hx
  simp only [Zdc,Zek] at hx
  have hx:=Ztn hx
  simp at hx
  subst hx
  exact ⟨hg,by simp [topN],Qm _,fun k hk=>by simp [topN] at hk⟩
 ·simp only [Zdc,Zek]
  exact UsedW.trim ⟨rfl,fun y hy=>by simp at hy,trivial⟩
 ·intro _
  exact hp.leave
 ·simp only [Zdc,Zek]
  exact Zpi _ _
 ·intro h; simp [Zdc] at h
 ·simp only [Zdc,Zpj]
  simp
 ·simp [Zdc]
 ·intro h; simp [Zdc] at h
 ·simp [Zdc]
def Zcy (l:List UInt8):Nat→Nat→Nat→Bool→Option Nat
 | 0,p,_,_=>some p
 | f+1,p,o,due=>match l[p]? with
  | none=>if due=true∨0<o then some p else none
  | some c=>if due=true then (if c=33 then Zcy l f (p+1) o false else if c=40 then Zcy l f (p+1) (o+1) false else some p)
    else if o=0 then some p
    else if c=41 then Zcy l f (p+1) (o - 1) false
    else if (Zak (l.drop p)).2=0 then some p else Zcy l f (p+(Zak (l.drop p)).2) o true
def Zfl (l:List UInt8):Option Nat:=Zcy l (l.length+1) 0 0 true
def Sh (l:List UInt8) (p o:Nat) (due:Bool):Prop:=∃ f,l.length<f+p∧Zcy l f p o due=none
theorem Sh.start {l:List UInt8} (h:Zfl l=none):Sh l 0 0 true:=⟨l.length+1,by omega,h⟩
theorem Sh.due {l:List UInt8} {p o:Nat} (h:Sh l p o true):(l[p]?=some 33∧Sh l (p+1) o false)∨(l[p]?=some 40∧Sh l (p+1) (o+1) false):=by
 obtain ⟨f,h1,h2⟩:=h
 cases f with
 | zero=>simp [Zcy] at h2
 | succ f =>
  unfold Zcy at h2
  cases hc:l[p]? with
  | none=>rw [hc] at h2; simp at h2
  | some c =>
   rw [hc] at h2
   simp only [if_true] at h2
   split at h2
   ·rename_i e; subst e; exact Or.inl ⟨rfl,f,by omega,h2⟩
   ·split at h2
    ·rename_i e; subst e; exact Or.inr ⟨rfl,f,by omega,h2⟩
    ·simp at h2
theorem Sh.open {l:List UInt8} {p o:Nat} (h:Sh l p (o+1) false):(l[p]?=some 41∧Sh l (p+1) o false)∨(∃ c,l[p]?=some c∧c≠41∧(Zak (l.drop p)).2≠0∧Sh l (p+(Zak (l.drop p)).2) (o+1) true):=by
 obtain ⟨f,h1,h2⟩:=h
 cases f with
 | zero=>simp [Zcy] at h2
 | succ f =>
  unfold Zcy at h2
  cases hc:l[p]? with
  | none=>rw [hc] at h2; simp at h2
  | some c =>
   rw [hc] at h2
   simp only [Bool.false_eq_true,if_false,Nat.add_one_ne_zero,Nat.add_sub_cancel] at h2
   split at h2
   ·rename_i e; subst e; exact Or.inl ⟨rfl,f,by omega,h2⟩
   ·rename_i e
    split at h2
    ·simp at h2
    ·rename_i e2
     exact Or.inr ⟨c,rfl,e,e2,f,by omega,h2⟩
structure HN where
 at':Nat
 wrong:Bool
 ans:List (List UInt8)
mutual
inductive HoldR (cs:List Cls) (names:Names) (l:List UInt8):ND→Nat→List (List UInt8)→HN→Prop
 | leaf (n:ND) (p:Nat) (A:List (List UInt8)) (hc:l[p]?=some 33) (h:n.goals=[]):HoldR cs names l n p A ⟨p+1,false,A++[Zbp names n]⟩
 | noleaf (n:ND) (p:Nat) (A:List (List UInt8)) (hc:l[p]?=some 33) (h:n.goals≠[]):HoldR cs names l n p A ⟨p,true,A⟩
 | nonode (n:ND) (p:Nat) (A:List (List UInt8)) (hc:l[p]?=some 40) (h:n.goals=[]):HoldR cs names l n p A ⟨p,true,A⟩
 | node (n:ND) (p:Nat) (A:List (List UInt8)) (R:HN) (hc:l[p]?=some 40) (h:n.goals≠[]) (hk:KidsR cs names l n cs.length 0 (p+1) A R):HoldR cs names l n p A R
inductive KidsR (cs:List Cls) (names:Names) (l:List UInt8):ND→Nat→Nat→Nat→List (List UInt8)→HN→Prop
 | shut (n:ND) (k p:Nat) (A:List (List UInt8)) (hc:l[p]?=some 41):KidsR cs names l n 0 k p A ⟨p+1,false,A⟩
 | noshut (n:ND) (k p:Nat) (A:List (List UInt8)) (c:UInt8) (hc:l[p]?=some c) (hn:c≠41):KidsR cs names l n 0 k p A ⟨p,true,A⟩
 | miss (n:ND) (f k p:Nat) (A:List (List UInt8)) (c:Cls) (R:HN) (hc:cs[k]?=some c) (hq:(tryN n c k).2=0) (h:KidsR cs names l n f (k+1) p A R):KidsR cs names l n (f+1) k p A R
 | off (n:ND) (f k p:Nat) (A:List (List UInt8)) (c:Cls) (hc:cs[k]?=some c) (hq:(tryN n c k).2≠0) (hw:(Zak (l.drop p)).2=0∨(Zak (l.drop p)).1≠k∨(tryN n c k).2=3):KidsR cs names l n (f+1) k p A ⟨p,true,A⟩
 | bad (n:ND) (f k p:Nat) (A:List (List UInt8)) (c:Cls) (R:HN) (hc:cs[k]?=some c) (hq:(tryN n c k).2=1∨(tryN n c k).2=2) (hs:(Zak (l.drop p)).2≠0) (hv:(Zak (l.drop p)).1=k) (h:HoldR cs names l (tryN n c k).1 (p+(Zak (l.drop p)).2) A R) (hw:R.wrong=true):KidsR cs names l n (f+1) k p A R
 | kid (n:ND) (f k p:Nat) (A:List (List UInt8)) (c:Cls) (R R2:HN) (hc:cs[k]?=some c) (hq:(tryN n c k).2=1∨(tryN n c k).2=2) (hs:(Zak (l.drop p)).2≠0) (hv:(Zak (l.drop p)).1=k) (h:HoldR cs names l (tryN n c k).1 (p+(Zak (l.drop p)).2) A R) (hw:R.wrong=false) (h2:KidsR cs names l n f (k+1) R.at' R.ans R2):KidsR cs names l n (f+1) k p A R2
end
theorem Yma (cs:List Cls) (names:Names) (l:List UInt8):∀ (d:Nat) (n:ND) (p o:Nat) (A:List (List UInt8)),l.length - p≤d→Sh l p o true→∃ R,HoldR cs names l n p A R∧(R.wrong=false→p<R.at'∧Sh l R.at' o false):=by
 intro d
 induction d with
 | zero =>
  intro n p o A hd hs
  exfalso
  rcases hs.due with ⟨h,_⟩ | ⟨h,_⟩
  ·have:=(Qa.1 h).1; omega
  ·have:=(Qa.1 h).1; omega
 | succ d ih =>
  intro n p o A hd hs
  rcases hs.due with ⟨hc,hs1⟩ | ⟨hc,hs1⟩
  ·by_cases hg:n.goals=[]
   ·exact ⟨_,.leaf n p A hc hg,fun _=>⟨Nat.lt_succ_self _,hs1⟩⟩
   ·exact ⟨_,.noleaf n p A hc hg,fun h=>by simp at h⟩
  ·have hpl:=(Qa.1 hc).1
   by_cases hg:n.goals=[]
   ·exact ⟨_,.nonode n p A hc hg,fun h=>by simp at h⟩
   ·have kids:∀ (f k p':Nat) (A:List (List UInt8)),f+k=cs.length→p<p'→Sh l p' (o+1) false→∃ R,KidsR cs names l n f k p' A R∧(R.wrong=false→p<R.at'∧Sh l R.at' o false):=by
     intro f
     induction f with
     | zero =>
      intro k p' A hk hp hs
      rcases hs.open with ⟨h1,h2⟩ | ⟨c,h1,h2,_⟩
      ·exact ⟨_,.shut n k p' A h1,fun _=>⟨by show p<p'+1; omega,h2⟩⟩
      ·exact ⟨_,.noshut n k p' A c h1 h2,fun h=>by simp at h⟩
     | succ f ihf =>
      intro k p' A hk hp hs
      obtain ⟨c,hc⟩:∃ c,cs[k]?=some c:=⟨_,Qb (by omega)⟩
      by_cases hq0:(tryN n c k).2=0
      ·obtain ⟨R,h1,h2⟩:=ihf (k+1) p' A (by omega) hp hs
       exact ⟨R,.miss n f k p' A c R hc hq0 h1,h2⟩
      ·by_cases hw:(Zak (l.drop p')).2=0∨(Zak (l.drop p')).1≠k∨(tryN n c k).2=3
       ·exact ⟨_,.off n f k p' A c hc hq0 hw,fun h=>by simp at h⟩
       ·have hsz:(Zak (l.drop p')).2≠0:=fun h=>hw (Or.inl h)
        have hv:(Zak (l.drop p')).1=k:=by
         by_cases h:(Zak (l.drop p')).1=k
         ·exact h
         ·exact absurd (Or.inr (Or.inl h)) hw
        have hq:(tryN n c k).2=1∨(tryN n c k).2=2:=by
         have:=Zhf n c k
         have h3:(tryN n c k).2≠3:=fun h=>hw (Or.inr (Or.inr h))
         omega
        rcases hs.open with ⟨h1,_⟩ | ⟨c',h1,h2,_,h4⟩
        ·exfalso
         have hl:p'<l.length:=(Qa.1 h1).1
         have e:l.drop p'=41::l.drop (p'+1):=by rw [List.drop_eq_getElem_cons hl,(Qa.1 h1).2]
         rw [e] at hsz
         simp [Zak,figB] at hsz
        ·obtain ⟨R,g1,g2⟩:=ih (tryN n c k).1 (p'+(Zak (l.drop p')).2) (o+1) A (by omega) h4
         cases hRw:R.wrong with
         | true=>exact ⟨R,.bad n f k p' A c R hc hq hsz hv g1 hRw,fun h=>by rw [hRw] at h; simp at h⟩
         | false =>
          obtain ⟨g3,g4⟩:=g2 hRw
          obtain ⟨R2,k1,k2⟩:=ihf (k+1) R.at' R.ans (by omega) (by omega) g4
          exact ⟨R2,.kid n f k p' A c R R2 hc hq hsz hv g1 hRw k1,k2⟩
    obtain ⟨R,h1,h2⟩:=kids cs.length 0 (p+1) A (by omega) (by omega) hs1
    exact ⟨R,.node n p A R hc hg h1,h2⟩
theorem Ymb {s:ByteArray} {p:Nat} (h:p<s.size):s.data.toList[p]?=some s[p]:=by
 have hl:p<s.data.toList.length:=by simpa using h
 rw [Qb hl]
 rfl
theorem Yim {c d:UInt8} (h:c≠d):(c.toNat:Int)≠(d.toNat:Int):=fun e=>h (UInt8.toNat.inj (by omega))
def Yen (P:ND→Nat→List (List UInt8)→HN→Prop) (cs:List Cls) (l:List UInt8) (n:ND):Nat→Nat→Nat→List (List UInt8)→HN→Prop
 | 0,k,p,A,R=>(l[p]?=some 41∧R=⟨p+1,false,A⟩)∨(∃ c,l[p]?=some c∧c≠41∧R=⟨p,true,A⟩)
 | f+1,k,p,A,R=>∃ c,cs[k]?=some c∧(((tryN n c k).2=0∧Yen P cs l n f (k+1) p A R) ∨
   ((tryN n c k).2≠0∧((Zak (l.drop p)).2=0∨(Zak (l.drop p)).1≠k∨(tryN n c k).2=3)∧R=⟨p,true,A⟩) ∨
   (((tryN n c k).2=1∨(tryN n c k).2=2)∧(Zak (l.drop p)).2≠0∧(Zak (l.drop p)).1=k∧∃ R1,P (tryN n c k).1 (p+(Zak (l.drop p)).2) A R1∧((R1.wrong=true∧R=R1)∨(R1.wrong=false∧Yen P cs l n f (k+1) R1.at' R1.ans R))))
theorem HoldR.ind {cs:List Cls} {names:Names} {l:List UInt8} {P:ND→Nat→List (List UInt8)→HN→Prop}
  (h1:∀ n p A,l[p]?=some 33→n.goals=[]→P n p A ⟨p+1,false,A++[Zbp names n]⟩) (h2:∀ n p A,l[p]?=some 33→n.goals≠[]→P n p A ⟨p,true,A⟩) (h3:∀ n p A,l[p]?=some 40→n.goals=[]→P n p A ⟨p,true,A⟩)
  (h4:∀ n p A R,l[p]?=some 40→n.goals≠[]→Yen P cs l n cs.length 0 (p+1) A R→P n p A R) {n:ND} {p:Nat} {A:List (List UInt8)} {R:HN} (h:HoldR cs names l n p A R):P n p A R:=by
 refine HoldR.rec (motive_1:=fun n p A R _=>P n p A R) (motive_2:=fun n f k p A R _=>Yen P cs l n f k p A R) ?_ ?_ ?_ ?_ ?_ ?_ ?_ ?_ ?_ ?_ h
 ·intro n p A hc hg; exact h1 n p A hc hg
 ·intro n p A hc hg; exact h2 n p A hc hg
 ·intro n p A hc hg; exact h3 n p A hc hg
 ·intro n p A R hc hg _ ih; exact h4 n p A R hc hg ih
 ·intro n k p A hc; exact Or.inl ⟨hc,rfl⟩
 ·intro n k p A c hc hn; exact Or.inr ⟨c,hc,hn,rfl⟩
 ·intro n f k p A c R hc hq _ ih; exact ⟨c,hc,Or.inl ⟨hq,ih⟩⟩
 ·intro n f k p A c hc hq hw; exact ⟨c,hc,Or.inr (Or.inl ⟨hq,hw,rfl⟩)⟩
 ·intro n f k p A c R hc hq hs hv _ hw ih; exact ⟨c,hc,Or.inr (Or.inr ⟨hq,hs,hv,R,ih,Or.inl ⟨hw,rfl⟩⟩)⟩
 ·intro n f k p A c R R2 hc hq hs hv _ hw _ ih ih2; exact ⟨c,hc,Or.inr (Or.inr ⟨hq,hs,hv,R,ih,Or.inr ⟨hw,ih2⟩⟩)⟩
theorem box3' {w:World} {b:Nat} {u0 u1 u2:Value} {t:TypeId} (h:w.heap[b]?=some (.cells #[u0,u1,u2] t (0,0))) :
  w.cell? ⟨b,0,none⟩=some u0∧w.cell? ⟨b,1,none⟩=some u1∧w.cell? ⟨b,2,none⟩=some u2∧∀ i,w.frozen? ⟨b,i,none⟩=false :=
 ⟨Zaa h 0 _ rfl,Zaa h 1 _ rfl,Zaa h 2 _ rfl,fun i=>Zad h i⟩
open Classical in
noncomputable def Zld (cs:List Cls) (a:List (List Sym) × Names) (l:List UInt8):HN:=if h:∃ R,HoldR cs a.2 l (topN a) 0 [] R then Classical.choose h else ⟨0,true,[]⟩
theorem Yin (cs:List Cls) (a:List (List Sym) × Names) {l:List UInt8} (h:Zfl l=none):HoldR cs a.2 l (topN a) 0 [] (Zld cs a l):=by
 obtain ⟨R,hR,_⟩:=Yma cs a.2 l l.length (topN a) 0 0 [] (by omega) (Sh.start h)
 have hex:∃ R,HoldR cs a.2 l (topN a) 0 [] R:=⟨R,hR⟩
 unfold Zld
 rw [dif_pos hex]
 exact Classical.choose_spec hex
noncomputable def allN (p q t:ByteArray):List (List UInt8) × Nat × Nat :=
 match Zci p with
 | none=>([],4,0)
 | some cs=>match Zep q with
  | none=>([],5,0)
  | some a=>if 20000<t.size then ([],1,0) else match Zfl t.data.toList with
   | some pl=>([],6,pl)
   | none=>if (Zld cs a t.data.toList).wrong=true then ([],7,(Zld cs a t.data.toList).at') else ((Zld cs a t.data.toList).ans,0,0)
def Ztp (p q t:ByteArray) (w:World) (e:Ending) (w':World):Prop:=Ext w w'∧∃ va vc,e = .returned (.tuple #[.slice va (allN p q t).1.length vc,.int .i64 (allN p q t).2.1,.int .i64 (allN p q t).2.2])∧w'.ownsRow w.heap.size 9 1 (.slice va (allN p q t).1.length vc) (allN p q t).1.length (strs (allN p q t).1)
theorem Yeo {p q t:ByteArray} {w w':World} {er pl:Nat} (h:allN p q t=([],er,pl)) (hE:Ext w w'):Ztp p q t w (.returned (.tuple #[.slice none 0 0,.int .i64 er,.int .i64 pl])) w':=by
 refine ⟨hE,none,0,?_,?_⟩
 ·rw [h]; rfl
 ·rw [h]; exact World.ownsRow_nil _ _ _ _
noncomputable def Zgd (cs:List Cls) (n:ND):Nat→Nat→Option (Nat × Cls)
 | 0,_=>none
 | f+1,k=>match cs[k]? with
  | none=>none
  | some c=>if (tryN n c k).2=0 then Zgd cs n f (k+1) else some (k,c)
structure HM where
 ok:Bool
 at':Nat
 way:List (ND × Nat)
 ans:List (List UInt8)
def Zco (names:Names) (l:List UInt8) (n:ND) (p:Nat) (way:List (ND × Nat)) (A:List (List UInt8)):HM :=
 if n.goals=[] then (if l[p]?=some 33 then ⟨true,p+1,way,A++[Zbp names n]⟩ else ⟨false,p,way,A⟩)
 else if l[p]?=some 40 then ⟨true,p+1,(n,0)::way,A⟩ else ⟨false,p,way,A⟩
noncomputable def goM (cs:List Cls) (names:Names) (l:List UInt8) (n:ND) (k p:Nat) (r:List (ND × Nat)) (A:List (List UInt8)):HM :=
 match Zgd cs n (cs.length - k) k with
 | none=>if l[p]?=some 41 then ⟨true,p+1,r,A⟩ else ⟨false,p,(n,cs.length)::r,A⟩
 | some (j,c)=>if (tryN n c j).2=3∨(Zak (l.drop p)).2=0∨(Zak (l.drop p)).1≠j then ⟨false,p,(n,j+1)::r,A⟩ else Zco names l (tryN n c j).1 (p+(Zak (l.drop p)).2) ((n,j+1)::r) A
inductive Goes (cs:List Cls) (names:Names) (l:List UInt8):Nat→List (ND × Nat)→List (List UInt8)→HN→Prop
 | done (p:Nat) (A:List (List UInt8)):Goes cs names l p [] A ⟨p,false,A⟩
 | wrong (n:ND) (k p:Nat) (r:List (ND × Nat)) (A:List (List UInt8)) (R:HN) (h:(goM cs names l n k p r A).ok=false) (hw:R.wrong=true) (ha:R.at'=(goM cs names l n k p r A).at'):Goes cs names l p ((n,k)::r) A R
 | step (n:ND) (k p:Nat) (r:List (ND × Nat)) (A:List (List UInt8)) (R:HN) (h:(goM cs names l n k p r A).ok=true) (hg:Goes cs names l (goM cs names l n k p r A).at' (goM cs names l n k p r A).way (goM cs names l n k p r A).ans R):Goes cs names l p ((n,k)::r) A R
def Zol (cs:List Cls) (names:Names) (l:List UInt8) (M:HM) (R:HN):Prop:=(M.ok=true→Goes cs names l M.at' M.way M.ans R)∧(M.ok=false→R.wrong=true∧R.at'=M.at')
theorem Zni {cs:List Cls} {names:Names} {l:List UInt8} {n:ND} {k p:Nat} {r:List (ND × Nat)} {A:List (List UInt8)} {R:HN} (h:Zol cs names l (goM cs names l n k p r A) R):Goes cs names l p ((n,k)::r) A R:=by
 cases hk:(goM cs names l n k p r A).ok with
 | true=>exact .step n k p r A R hk (h.1 hk)
 | false=>exact .wrong n k p r A R hk (h.2 hk).1 (h.2 hk).2
theorem Znj {cs:List Cls} {names:Names} {l:List UInt8} {n:ND} {k p:Nat} {r:List (ND × Nat)} {A:List (List UInt8)} {R:HN} (h:Goes cs names l p ((n,k)::r) A R):Zol cs names l (goM cs names l n k p r A) R:=by
 cases h with
 | wrong _ _ _ _ _ _ h hw ha=>exact ⟨fun e=>by rw [h] at e; simp at e,fun _=>⟨hw,ha⟩⟩
 | step _ _ _ _ _ _ h hg=>exact ⟨fun _=>hg,fun e=>by rw [h] at e; simp at e⟩
theorem Zxx {cs:List Cls} {names:Names} {l:List UInt8} {p:Nat} {A:List (List UInt8)} {R:HN} (h:Goes cs names l p [] A R):R=⟨p,false,A⟩:=by
 cases h; rfl
theorem Zxy {cs:List Cls} {names:Names} {l:List UInt8} {n:ND} {k p:Nat} {r:List (ND × Nat)} {A:List (List UInt8)} {c:Cls} (hc:cs[k]?=some c) (hq:(tryN n c k).2=0):goM cs names l n k p r A=goM cs names l n (k+1) p r A:=by
 have hk:=(Qa.1 hc).1
 unfold goM
 rw [show cs.length - k=(cs.length - (k+1))+1 by omega,Zgd,hc]
 simp only [hq,if_true]
theorem Yep {cs:List Cls} {names:Names} {l:List UInt8} {n:ND} {p:Nat} {A:List (List UInt8)} {R:HN} (h:HoldR cs names l n p A R):∀ (way:List (ND × Nat)) (Rf:HN),(R.wrong=false→Goes cs names l R.at' way R.ans Rf)→(R.wrong=true→Rf.wrong=true∧Rf.at'=R.at')→Zol cs names l (Zco names l n p way A) Rf:=by
 refine HoldR.ind (P:=fun n p A R=>∀ (way:List (ND × Nat)) (Rf:HN),(R.wrong=false→Goes cs names l R.at' way R.ans Rf)→(R.wrong=true→Rf.wrong=true∧Rf.at'=R.at')→Zol cs names l (Zco names l n p way A) Rf) ?_ ?_ ?_ ?_ h
 ·intro n p A hc hg way Rf h1 _
  unfold Zco
  rw [if_pos hg,if_pos hc]
  exact ⟨fun _=>h1 rfl,fun e=>by simp at e⟩
 ·intro n p A hc hg way Rf _ h2
  unfold Zco
  rw [if_neg hg,if_neg (by rw [hc]; simp)]
  exact ⟨fun e=>by simp at e,fun _=>h2 rfl⟩
 ·intro n p A hc hg way Rf _ h2
  unfold Zco
  rw [if_pos hg,if_neg (by rw [hc]; simp)]
  exact ⟨fun e=>by simp at e,fun _=>h2 rfl⟩
 ·intro n p A R hc hg hk way Rf h1 h2
  unfold Zco
  rw [if_neg hg,if_pos hc]
  refine ⟨fun _ => ?_,fun e=>by simp at e⟩
  show Goes cs names l (p+1) ((n,0)::way) A Rf
  have key:∀ (f k p:Nat) (A:List (List UInt8)),f+k=cs.length→Yen (fun n p A R=>∀ (way:List (ND × Nat)) (Rf:HN),(R.wrong=false→Goes cs names l R.at' way R.ans Rf)→(R.wrong=true→Rf.wrong=true∧Rf.at'=R.at')→Zol cs names l (Zco names l n p way A) Rf) cs l n f k p A R→Goes cs names l p ((n,k)::way) A Rf:=by
   intro f
   induction f with
   | zero =>
    intro k p A hf hs
    refine Zni ?_
    unfold goM
    rw [show cs.length - k=0 by omega,Zgd]
    simp only
    rcases hs with ⟨h3,rfl⟩ | ⟨c,h3,h4,rfl⟩
    ·rw [if_pos h3]
     exact ⟨fun _=>h1 rfl,fun e=>by simp at e⟩
    ·rw [if_neg (by rw [h3]; simpa using h4)]
     exact ⟨fun e=>by simp at e,fun _=>h2 rfl⟩
   | succ f ih =>
    intro k p A hf hs
    obtain ⟨c,hc,h⟩:=hs
    rcases h with ⟨hq,h⟩ | ⟨hq,hw,rfl⟩ | ⟨hq,hs,hv,R1,hP,h⟩
    ·have:=Znj (ih (k+1) p A (by omega) h)
     rw [← Zxy hc hq] at this
     exact Zni this
    ·refine Zni ?_
     unfold goM
     rw [show cs.length - k=f+1 by omega,Zgd,hc]
     simp only
     rw [if_neg hq]
     simp only
     rw [if_pos (by rcases hw with h | h | h <;> simp [h])]
     exact ⟨fun e=>by simp at e,fun _=>h2 rfl⟩
    ·refine Zni ?_
     unfold goM
     rw [show cs.length - k=f+1 by omega,Zgd,hc]
     simp only
     rw [if_neg (by omega)]
     simp only
     rw [if_neg (by rintro (h | h | h); omega; exact hs h; exact h hv)]
     refine hP _ Rf (fun hw => ?_) (fun hw => ?_)
     ·rcases h with ⟨h,_⟩ | ⟨_,h⟩
      ·rw [hw] at h; simp at h
      ·exact ih (k+1) _ _ (by omega) h
     ·rcases h with ⟨_,rfl⟩ | ⟨h,_⟩
      ·exact h2 hw
      ·rw [hw] at h; simp at h
  exact key cs.length 0 (p+1) A (by omega) hk
theorem Ztq (cs:List Cls) (a:List (List Sym) × Names) {l:List UInt8} (h:Zfl l=none):Zol cs a.2 l (Zco a.2 l (topN a) 0 [] []) (Zld cs a l) :=
 Yep (Yin cs a h) [] _ (fun hw=>by
  have:Zld cs a l=⟨(Zld cs a l).at',false,(Zld cs a l).ans⟩:=by
   rw [← hw]
  rw [this]
  exact .done _ _) (fun hw=>⟨hw,rfl⟩)
def Zgo (s:SN):Prop:=s.status=1→s.found.used≠[]
theorem Ztr {s:SN} {n:ND} (h:s.status≠1) (hn:n.used≠[]):Zgo (Zcd s n):=by
 unfold Zcd
 split
 ·exact fun _=>hn
 ·exact fun e=>absurd e h
theorem Yam {cs:List Cls} {s:SN} (h0:s.status=0):Zgo (Zat cs s):=by
 unfold Zat
 split
 ·exact fun e=>by omega
 ·split
  ·exact fun e=>by omega
  ·rename_i n k r _ c hc
   show Zgo (Zdc cs _)
   have hl:∀ u:SN,Zgo u→Zgo (Zdc cs u):=fun u h e=>h e
   apply hl
   split
   ·exact fun e=>by simp at e
   ·split
    ·rename_i h12
     exact Ztr (by simp only; omega) (by rw [Zgc h12]; simp)
    ·exact fun e=>by simp only at e; omega
theorem Zvu {cs:List Cls}:∀ {n:Nat} {s:SN},Zgo s→Zgo (Zca cs n s).1:=by
 intro n
 induction n with
 | zero=>intro s h; exact h
 | succ n ih =>
  intro s h
  unfold Zca
  split
  ·rename_i hc
   exact ih (Yam hc.1)
  ·exact h
theorem Zvv {cs:List Cls} {n:Nat} {s:SN} (h:Zgo s):Zgo (Zcz cs n s).1:=by
 unfold Zcz
 split
 ·exact h
 ·have h1:Zgo (Zca cs n { s with status:=0 }).1:=Zvu (fun e=>by simp at e)
  show Zgo (endN _)
  unfold endN
  split
  ·exact fun e=>by simp [Zht] at e
  ·split
   ·split
    ·exact fun e=>by simp at e
    ·split
     ·exact fun e=>by simp [Zht] at e
     ·exact h1
   ·exact h1
theorem Yio {cs:List Cls}:∀ {n:Nat} {s:SN},(Zca cs n s).2≤n:=by
 intro n
 induction n with
 | zero=>intro s; simp [Zca]
 | succ n ih=>intro s; unfold Zca; split <;> simp [ih]
theorem Yip {cs:List Cls} {n:Nat} {s:SN}:(Zcz cs n s).2≤n:=by
 unfold Zcz
 split
 ·simp
 ·exact Yio
theorem Yan {cs:List Cls}:∀ {n:Nat} {s:SN},(Zca cs n s).2<n→¬ ((Zca cs n s).1.status=0∧(Zca cs n s).1.way≠[]∧(Zca cs n s).1.tries<3000):=by
 intro n
 induction n with
 | zero=>intro s h; omega
 | succ n ih =>
  intro s h
  unfold Zca at h ⊢
  split at h
  ·rename_i hc
   rw [if_pos hc]
   exact ih (by simpa using h)
  ·rename_i hc
   rw [if_neg hc]
   exact hc
theorem Yao {cs:List Cls} {n:Nat} {s:SN} (h:(Zcz cs n s).2<n):(Zcz cs n s).1.status≠0:=by
 unfold Zcz at h ⊢
 split at h
 ·rename_i hc
  rw [if_pos hc]
  simp only; omega
 ·rename_i hc
  rw [if_neg hc]
  have h1:=Yan h
  simp only
  unfold endN
  split
  ·simp [Zht]
  ·split
   ·rename_i h3 h0
    split
    ·simp
    ·split
     ·simp [Zht]
     ·rename_i hw ht
      exact absurd ⟨h0,hw,by omega⟩ h1
   ·rename_i h0
    exact h0
theorem Yap {cs:List Cls} {n:Nat} {s:SN} (hn:0<n) (hs:s.status≠2∧s.status≠3) (h:(Zcz cs n s).1.status=0∨(Zcz cs n s).1.status=1):(Zcz cs n s).2≠0:=by
 intro h0
 unfold Zcz at h h0
 rw [if_neg (by omega)] at h h0
 simp only at h h0
 obtain ⟨m,rfl⟩:∃ m,n=m+1:=⟨n - 1,by omega⟩
 unfold Zca at h h0
 split at h
 ·rename_i hc
  rw [if_pos hc] at h0
  simp at h0
 ·rename_i hc
  simp only at h
  unfold endN at h
  simp only at h hc
  rw [if_neg (by omega),if_pos trivial] at h
  split at h
  ·simp at h
  ·rename_i hw
   split at h
   ·simp [Zht] at h
   ·rename_i ht
    exact hc ⟨trivial,hw,by omega⟩
theorem Zlx (k:Nat):Lib.decDigits k≠[]:=by
 rw [Lib.decDigits]
 split <;> simp
theorem Yaq {names:Names} {n:ND} (h:n.vals.length=names.length):Zbp names n≠[]:=by
 unfold Zbp
 split
 ·simp
 ·rename_i hn
  have hl:=Zft n.vals []
  cases names with
  | nil=>exact absurd rfl hn
  | cons x xs =>
   cases hc:(Zay n.vals []).1 with
   | nil=>rw [hc] at hl; simp at hl h; omega
   | cons t ts=>simp [Zhe]
theorem Zvw {n:ND} (h:n.used≠[]):Zeh n≠[]:=by
 unfold Zeh
 cases hu:n.used with
 | nil=>exact absurd hu h
 | cons k ks =>
  simp only [Zcg]
  intro e
  have h1:=List.append_eq_nil_iff.1 e
  exact Zlx k (List.append_eq_nil_iff.1 h1.2).1
theorem Yiq {cs:List Cls} {n:ND} {t:List UInt8} (h:TreeR cs n t):t≠[]:=by
 cases h <;> simp
theorem Zle {cs:List Cls} {a:List (List Sym) × Names} {s:SN} (hI:InvN cs a s) (hF:Zgo s) :
  ((Zdd a s.status s.found s.tree).1=[]↔s.status≠1)∧((Zdd a s.status s.found s.tree).2.1=[]↔s.status≠1)∧((Zdd a s.status s.found s.tree).2.2=[]↔s.status≠2):=by
 unfold Zdd
 by_cases h1:s.status=1
 ·rw [if_pos h1]
  have ha:=Yaq (hI.found h1).2.1
  have hw:=Zvw (hF h1)
  simp [h1,ha,hw]
 ·rw [if_neg h1]
  by_cases h2:s.status=2
  ·rw [if_pos h2]
   have ht:=hI.tree (by omega)
   rw [hI.no h2] at ht
   have:=Yiq ht
   simp [h1,h2,this]
  ·rw [if_neg h2]
   simp [h1,h2]
structure Tr where
 ans:List (List UInt8)
 wts:List (List UInt8)
 tries:Nat
 status:Nat
def Zhi (size left:Nat):Nat:=if left<size then left else size
noncomputable def addN (a:List (List Sym) × Names) (t:Tr) (r:SN × Nat):Tr :=
 if r.1.status=1 then ⟨t.ans++[(Zdd a r.1.status r.1.found r.1.tree).1],t.wts++[(Zdd a r.1.status r.1.found r.1.tree).2.1],t.tries+r.2,r.1.status⟩ else ⟨t.ans,t.wts,t.tries+r.2,r.1.status⟩
noncomputable def aftN (cs:List Cls) (a:List (List Sym) × Names) (tries size:Nat):Nat→SN→Tr→SN × Tr
 | 0,m,t=>(m,t)
 | f+1,m,t=>if t.tries<tries then
   (if (Zcz cs (Zhi size (tries - t.tries)) m).1.status=2∨(Zcz cs (Zhi size (tries - t.tries)) m).1.status=3 then ((Zcz cs (Zhi size (tries - t.tries)) m).1,addN a t (Zcz cs (Zhi size (tries - t.tries)) m))
    else aftN cs a tries size f (Zcz cs (Zhi size (tries - t.tries)) m).1 (addN a t (Zcz cs (Zhi size (tries - t.tries)) m)))
   else (m,t)
theorem Znk:∀ k<10,Lib.decDigits k=[UInt8.ofNat (48+k)]:=by decide +kernel
theorem Zvx:∀ k<100,10≤k→Lib.decDigits k=[UInt8.ofNat (48+k / 10),UInt8.ofNat (48+k % 10)]:=by decide +kernel
theorem Zge:∀ k<10,figB (UInt8.ofNat (48+k))=true∧(UInt8.ofNat (48+k)).toNat=48+k:=by decide +kernel
def NoFig (r:List UInt8):Prop:=∀ b r',r=b::r'→figB b=false
theorem Zjn {k:Nat} (hk:k<100) {r:List UInt8} (hr:NoFig r):Zak (Lib.decDigits k++r)=(k,(Lib.decDigits k).length):=by
 rcases Nat.lt_or_ge k 10 with h | h
 ·obtain ⟨f1,f2⟩:=Zge k h
  rw [Znk k h]
  simp only [List.singleton_append,Zak,f1,if_true,Qn]
  by_cases h0:k=0
  ·subst h0
   rw [if_pos (by rw [f2])]
  ·rw [if_neg (by rw [f2]; omega)]
   cases r with
   | nil=>simp only; rw [f2]; simp
   | cons b r' =>
    simp only
    rw [hr b r' rfl]
    simp only [Bool.false_eq_true,if_false]
    rw [f2]
    simp
 ·obtain ⟨f1,f2⟩:=Zge (k / 10) (by omega)
  obtain ⟨g1,g2⟩:=Zge (k % 10) (by omega)
  rw [Zvx k hk h]
  simp only [List.cons_append,List.nil_append,Zak,f1,if_true]
  rw [if_neg (by rw [f2]; omega)]
  simp only [g1,if_true]
  rw [f2,g2]
  simp
  omega
theorem Zgf {k:Nat}:0<(Lib.decDigits k).length:=by
 have:=Zlx k
 cases h:Lib.decDigits k with
 | nil=>exact absurd h this
 | cons a l=>simp
theorem Zkm {k:Nat} (hk:k<100):(Lib.decDigits k).length≤2:=by
 rcases Nat.lt_or_ge k 10 with h | h
 ·rw [Znk k h]; simp
 ·rw [Zvx k hk h]; simp
theorem Zts {l:List UInt8} {k m f p:Nat} {acc:List Nat} (hn:Zak l=(k,m)) (hm:m≠0):Zdu (f+1) l p acc=match l.drop m with
   | []=>(some (acc++[k]),0)
   | c::r=>if c=46 then Zdu f r (p+m+1) (acc++[k]) else (none,p+m):=by
 rw [Zdu]
 simp only [hn,hm,if_false]
 cases List.drop m l <;> rfl
theorem Zom:∀ (ks:List Nat) (k f p:Nat) (acc:List Nat),k<100→(∀ j ∈ ks,j<100)→ks.length<f→(Zdu f (Lib.decDigits k++Zcg [46] ks) p acc).1=some (acc++k::ks):=by
 intro ks
 induction ks with
 | nil =>
  intro k f p acc hk _ hf
  obtain ⟨g,rfl⟩:∃ g,f=g+1:=⟨f - 1,by omega⟩
  have hn:=Zjn hk (r:=[]) (fun b r' e=>by simp at e)
  have e0:Zcg [46] []=[]:=rfl
  rw [e0,Zts hn (by have := @Zgf k; omega),List.drop_left]
 | cons j ks ih =>
  intro k f p acc hk hj hf
  simp only [Qf] at hf
  obtain ⟨g,rfl⟩:∃ g,f=g+1:=⟨f - 1,by omega⟩
  have hn:=Zjn hk (r:=Zcg [46] (j::ks)) (fun b r' e=>by
   simp only [Zcg,List.cons_append,List.nil_append,List.cons.injEq] at e
   rw [← e.1]
   decide)
  rw [Zts hn (by have := @Zgf k; omega),List.drop_left]
  have e:Zcg [46] (j::ks)=46::(Lib.decDigits j++Zcg [46] ks):=rfl
  rw [e]
  simp only [if_true]
  rw [ih j g _ _ (hj j (by simp)) (fun i hi=>hj i (by simp [hi])) (by omega)]
  simp
theorem Ykx:∀ (ks:List Nat),(∀ j ∈ ks,j<100)→(Zcg [46] ks).length≤3 * ks.length∧ks.length≤(Zcg [46] ks).length:=by
 intro ks
 induction ks with
 | nil=>intro _; simp [Zcg]
 | cons k ks ih =>
  intro h
  have h1:=ih (fun j hj=>h j (by simp [hj]))
  have h2:=Zkm (h k (by simp))
  have h3 := @Zgf k
  simp only [Zcg,Qg,Qf,Jt]
  omega
theorem Znl (ks:List Nat) (h0:ks≠[]) (h:∀ j ∈ ks,j<100):(Zct ⟨(Zcg [] ks).toArray⟩).1=some ks:=by
 cases ks with
 | nil=>exact absurd rfl h0
 | cons k ks =>
  unfold Zct
  have:=Zom ks k ((⟨(Zcg [] (k::ks)).toArray⟩:ByteArray).size+1) 0 [] (h k (by simp)) (fun j hj=>h j (by simp [hj])) (by
   have h1:=(Ykx ks (fun j hj=>h j (by simp [hj]))).2
   simp only [ByteArray.size,List.size_toArray,Zcg,List.nil_append,Qg]
   omega)
  simpa [Zcg] using this
theorem Zvy (ks:List Nat) (h:∀ j ∈ ks,j<100):(Zcg [] ks).length≤3 * ks.length:=by
 cases ks with
 | nil=>simp [Zcg]
 | cons k ks =>
  have h1:=(Ykx ks (fun j hj=>h j (by simp [hj]))).1
  have h2:=Zkm (h k (by simp))
  simp only [Zcg,List.nil_append,Qg,Qf]
  omega
def Reach (cs:List Cls):ND→List Nat→ND→Prop
 | n,[],m=>m=n
 | n,k::ks,m=>∃ c,cs[k]?=some c∧n.goals≠[]∧((tryN n c k).2=1∨(tryN n c k).2=2)∧Reach cs (tryN n c k).1 ks m
theorem Reach.snoc {cs:List Cls}:∀ {ks:List Nat} {n m:ND} {k:Nat} {c:Cls},Reach cs n ks m→cs[k]?=some c→m.goals≠[]→((tryN m c k).2=1∨(tryN m c k).2=2)→Reach cs n (ks++[k]) (tryN m c k).1:=by
 intro ks
 induction ks with
 | nil=>intro n m k c h hc hg hq; obtain rfl:m=n:=h; exact ⟨c,hc,hg,hq,rfl⟩
 | cons j ks ih =>
  intro n m k c h hc hg hq
  obtain ⟨d,h1,h2,h3,h4⟩:=h
  exact ⟨d,h1,h2,h3,ih h4 hc hg hq⟩
theorem Reach.follow {cs:List Cls}:∀ {ks:List Nat} {n m:ND} (i:Nat),Reach cs n ks m→m.goals=[]→Zap cs n ks i=(m,0,0):=by
 intro ks
 induction ks with
 | nil =>
  intro n m i h hg
  obtain rfl:m=n:=h
  unfold Zap
  rw [if_pos hg]
 | cons k ks ih =>
  intro n m i h hg
  obtain ⟨c,h1,h2,h3,h4⟩:=h
  unfold Zap
  rw [h1]
  simp only
  rw [if_neg h2,if_pos h3]
  exact ih _ h4 hg
theorem Yeq {cs:List Cls} {top:ND}:∀ {r:List (ND × Nat)} {n:ND} {k:Nat} {T:List UInt8},PH cs top r n k T→Reach cs top (Zgj r) n:=by
 intro r
 induction r with
 | nil=>intro n k T h; obtain ⟨h1,_⟩:=h; exact h1
 | cons x r ih =>
  intro n k T h
  obtain ⟨m,j⟩:=x
  obtain ⟨h1,h2,t,j',c,T',h3,h4,h5,h6,h7,h8,h9⟩:=h
  simp only at h3 h5 h6 h7
  subst h3
  rw [Zlc,h6]
  have hg:m.goals≠[]:=by
   cases r with
   | nil=>exact h7.2.1
   | cons y r=>exact h7.1
  exact (ih h7).snoc h4 hg h5
def Zpk (cs:List Cls) (top:ND) (s:SN):Prop:=s.status=1→Reach cs top s.found.used s.found∧s.found.goals=[]∧s.found.used≠[]∧s.found.used.length≤100
theorem Yir {n:ND} {c:Cls} {k:Nat} (h:(tryN n c k).2=1∨(tryN n c k).2=2):(tryN n c k).1.used.length≤100:=by
 by_cases hex:∃ r:ND × Nat,∃ m,NOk m∧Same m n∧Out m c k r.2 r.1
 ·have e:tryN n c k=Classical.choose hex:=by unfold tryN; rw [dif_pos hex]
  obtain ⟨m,_,hS,g,gs,_,ho⟩:=Classical.choose_spec hex
  rw [e] at h ⊢
  rcases ho with ⟨h0,_⟩ | ⟨h0,_⟩ | ⟨σ,_,_,h3,h4⟩
  ·omega
  ·omega
  ·rw [h3,← h4] at h
   unfold Zfi at h
   split at h
   ·omega
   ·rename_i ho
    unfold Zoj at ho
    simp only [Bool.or_eq_true,decide_eq_true_eq,not_or] at ho
    omega
 ·have e:tryN n c k=(⟨[],[],[],[],0⟩,0):=by unfold tryN; rw [dif_neg hex]
  rw [e]
  simp
theorem Yar {cs:List Cls} {a:List (List Sym) × Names} {s:SN} (hI:InvN cs a s) (h0:s.status=0):Zpk cs (topN a) (Zat cs s):=by
 unfold Zat
 split
 ·exact fun e=>by omega
 ·split
  ·exact fun e=>by omega
  ·rename_i n k r hw _ c hc
   show Zpk cs (topN a) (Zdc cs _)
   have hl:∀ u:SN,Zpk cs (topN a) u→Zpk cs (topN a) (Zdc cs u):=fun u h e=>h e
   apply hl
   split
   ·exact fun e=>by simp at e
   ·split
    ·rename_i h12
     intro e
     unfold Zcd at e ⊢
     split
     ·rename_i hg
      have hp:=hI.tree (by omega)
      rw [hw] at hp
      have hu:=hI.used
      rw [hw] at hu
      have hr:=Yeq hp
      have hgn:n.goals≠[]:=(hI.way (n,k) (by rw [hw]; simp)).1
      have e1:n.used=Zgj r:=hu.1
      simp only
      rw [Zgc h12,e1]
      refine ⟨hr.snoc hc hgn h12,hg,by simp,?_⟩
      rw [← e1,← Zgc h12]
      exact Yir h12
     ·rename_i hg
      rw [if_neg hg] at e
      simp only at e
      omega
    ·exact fun e=>by simp only at e; omega
mutual
inductive TreeA (cs:List Cls) (names:Names):ND→List UInt8→List (List UInt8)→Prop
 | leaf (n:ND) (h:n.goals=[]):TreeA cs names n [33] [Zbp names n]
 | node (n:ND) (t:List UInt8) (A:List (List UInt8)) (h:n.goals≠[]) (hp:PartA cs names n cs.length t A):TreeA cs names n ([40]++t++[41]) A
inductive PartA (cs:List Cls) (names:Names):ND→Nat→List UInt8→List (List UInt8)→Prop
 | zero (n:ND):PartA cs names n 0 [] []
 | miss (n:ND) (k:Nat) (t:List UInt8) (A:List (List UInt8)) (c:Cls) (h:PartA cs names n k t A) (hc:cs[k]?=some c) (hq:(tryN n c k).2=0):PartA cs names n (k+1) t A
 | kid (n:ND) (k:Nat) (t u:List UInt8) (A B:List (List UInt8)) (c:Cls) (h:PartA cs names n k t A) (hc:cs[k]?=some c) (hq:(tryN n c k).2=1∨(tryN n c k).2=2) (hu:TreeA cs names (tryN n c k).1 u B):PartA cs names n (k+1) (t++Lib.decDigits k++u) (A++B)
end
def PHA (cs:List Cls) (names:Names) (top:ND):List (ND × Nat)→ND→Nat→List UInt8→List (List UInt8)→Prop
 | [],n,k,T,A=>n=top∧n.goals≠[]∧k≤cs.length∧∃ t,PartA cs names n k t A∧T=[40]++t
 | x::r,n,k,T,A=>n.goals≠[]∧k≤cs.length∧∃ t j' c T' A' B,x.2=j'+1∧cs[j']?=some c∧((tryN x.1 c j').2=1∨(tryN x.1 c j').2=2)∧n=(tryN x.1 c j').1∧PHA cs names top r x.1 j' T' A'∧PartA cs names n k t B∧T=T'++Lib.decDigits j'++([40]++t)∧A=A'++B
def PWA (cs:List Cls) (names:Names) (top:ND):List (ND × Nat)→List UInt8→List (List UInt8)→Prop
 | [],T,A=>TreeA cs names top T A
 | (n,k)::r,T,A=>PHA cs names top r n k T A
theorem PWA.part {cs:List Cls} {names:Names} {top n:ND} {k:Nat} {r:List (ND × Nat)} {T:List UInt8} {A:List (List UInt8)} (h:PWA cs names top ((n,k)::r) T A):n.goals≠[]∧k≤cs.length∧∃ t0 t A0 B,PartA cs names n k t B∧T=t0++([40]++t)∧A=A0++B∧∀ k' t' B',PartA cs names n k' t' B'→k'≤cs.length→PWA cs names top ((n,k')::r) (t0++([40]++t')) (A0++B'):=by
 cases r with
 | nil =>
  obtain ⟨h1,h2,h3,t,h4,h5⟩:=h
  exact ⟨h2,h3,[],t,[],A,h4,by simpa using h5,by simp,fun k' t' B' hp hk=>⟨h1,h2,hk,t',by simpa using hp,by simp⟩⟩
 | cons m r =>
  obtain ⟨m,j⟩:=m
  obtain ⟨h1,h2,t,j',c,T',A',B,h3,h4,h5,h6,h7,h8,h9,h10⟩:=h
  exact ⟨h1,h2,T'++Lib.decDigits j',t,A',B,h8,h9,h10,fun k' t' B' hp hk=>⟨h1,hk,t',j',c,T',A',B',h3,h4,h5,h6,h7,hp,rfl,rfl⟩⟩
theorem PWA.miss {cs:List Cls} {names:Names} {top n:ND} {k:Nat} {r:List (ND × Nat)} {T:List UInt8} {A:List (List UInt8)} {c:Cls} (h:PWA cs names top ((n,k)::r) T A) (hc:cs[k]?=some c) (hq:(tryN n c k).2=0):PWA cs names top ((n,k+1)::r) T A:=by
 obtain ⟨h1,h2,t0,t,A0,B,h3,h4,h6,h5⟩:=h.part
 rw [h4,h6]
 exact h5 (k+1) t B (.miss n k t B c h3 hc hq) (by have:=(Qa.1 hc).1; omega)
theorem PWA.kid {cs:List Cls} {names:Names} {top n:ND} {k:Nat} {r:List (ND × Nat)} {T u:List UInt8} {A B':List (List UInt8)} {c:Cls} (h:PWA cs names top ((n,k)::r) T A) (hc:cs[k]?=some c) (hq:(tryN n c k).2=1∨(tryN n c k).2=2) (hu:TreeA cs names (tryN n c k).1 u B'):PWA cs names top ((n,k+1)::r) (T++Lib.decDigits k++u) (A++B'):=by
 obtain ⟨h1,h2,t0,t,A0,B,h3,h4,h6,h5⟩:=h.part
 rw [h4,h6]
 have:=h5 (k+1) (t++Lib.decDigits k++u) (B++B') (.kid n k t u B B' c h3 hc hq hu) (by have:=(Qa.1 hc).1; omega)
 simpa using this
theorem PWA.down {cs:List Cls} {names:Names} {top n:ND} {k:Nat} {r:List (ND × Nat)} {T:List UInt8} {A:List (List UInt8)} {c:Cls} (h:PWA cs names top ((n,k)::r) T A) (hc:cs[k]?=some c) (hq:(tryN n c k).2=1∨(tryN n c k).2=2) (hg:(tryN n c k).1.goals≠[]):PWA cs names top (((tryN n c k).1,0)::(n,k+1)::r) (T++Lib.decDigits k++[40]) A :=
 ⟨hg,Qm _,[],k,c,T,A,[],rfl,hc,hq,rfl,h,.zero _,by simp,by simp⟩
theorem PWA.up {cs:List Cls} {names:Names} {top n:ND} {k:Nat} {r:List (ND × Nat)} {T:List UInt8} {A:List (List UInt8)} (h:PWA cs names top ((n,k)::r) T A) (hk:cs.length≤k):PWA cs names top r (T++[41]) A:=by
 cases r with
 | nil =>
  obtain ⟨h1,h2,h3,t,h4,h5⟩:=h
  have e:k=cs.length:=by omega
  subst e h1 h5
  exact .node n t A h2 h4
 | cons m r =>
  obtain ⟨m,j⟩:=m
  obtain ⟨h1,h2,t,j',c,T',A',B,h3,h4,h5,h6,h7,h8,h9,h10⟩:=h
  have e:k=cs.length:=by omega
  simp only at h3 h5 h6 h7
  subst e h3 h6 h9 h10
  have h7':PWA cs names top ((m,j')::r) T' A':=h7
  have:=h7'.kid h4 h5 (.node _ t B h1 h8)
  simpa using this
theorem PWA.leave {cs:List Cls} {names:Names} {top:ND} {A:List (List UInt8)}:∀ {way:List (ND × Nat)} {T:List UInt8},PWA cs names top way T A→PWA cs names top (Zdr cs way T).1 (Zdr cs way T).2 A:=by
 intro way
 induction way with
 | nil=>intro T h; exact h
 | cons x r ih =>
  obtain ⟨n,k⟩:=x
  intro T h
  unfold Zdr
  split
  ·rename_i hk
   exact ih (h.up hk)
  ·exact h
noncomputable def ansB (names:Names) (A:List (List UInt8)) (s:SN):List (List UInt8):=if s.status=1 then A++[Zbp names s.found] else A
theorem PWA.try' {cs:List Cls} {names:Names} {top:ND} {s:SN} {A:List (List UInt8)} (h0:s.status=0) (h:PWA cs names top s.way s.tree A) (hf:(Zat cs s).status≠3):PWA cs names top (Zat cs s).way (Zat cs s).tree (ansB names A (Zat cs s)):=by
 unfold Zat at hf ⊢
 cases hw:s.way with
 | nil =>
  rw [hw] at h
  unfold ansB
  simp only [hw,h0]
  simpa using h
 | cons x r =>
  obtain ⟨n,k⟩:=x
  rw [hw] at hf h
  simp only at hf ⊢
  have h':PWA cs names top ((n,k)::r) s.tree A:=h
  cases hc:cs[k]? with
  | none =>
   rw [hc] at hf
   unfold ansB
   simp only [hw,h0]
   simpa using h
  | some c =>
   rw [hc] at hf
   simp only at hf ⊢
   by_cases h3:(tryN n c k).2=3
   ·rw [if_pos h3] at hf
    exact absurd rfl hf
   ·rw [if_neg h3]
    by_cases h12:(tryN n c k).2=1∨(tryN n c k).2=2
    ·rw [if_pos h12]
     by_cases hg:(tryN n c k).1.goals=[]
     ·simp only [Zcd,if_pos hg,Zdc,ansB,if_true]
      exact (h'.kid hc h12 (.leaf _ hg)).leave
     ·simp only [Zcd,if_neg hg,Zdc,ansB,h0]
      exact (h'.down hc h12 hg).leave
    ·rw [if_neg h12]
     simp only [Zdc,ansB,h0]
     have hq0:(tryN n c k).2=0:=by have:=Zhf n c k; omega
     exact (h'.miss hc hq0).leave
theorem Yer {cs:List Cls} {a:List (List Sym) × Names} (hcl:cs.length≤24):∀ {n:Nat} {s:SN} {A:List (List UInt8)},InvN cs a s→(s.status=0→PWA cs a.2 (topN a) s.way s.tree A)→s.status=0→((Zca cs n s).1.status≠3→PWA cs a.2 (topN a) (Zca cs n s).1.way (Zca cs n s).1.tree (ansB a.2 A (Zca cs n s).1))∧Zpk cs (topN a) (Zca cs n s).1:=by
 intro n
 induction n with
 | zero =>
  intro s A hI h h0
  simp only [Zca]
  exact ⟨fun _=>by unfold ansB; rw [if_neg (by omega)]; exact h h0,fun e=>by omega⟩
 | succ n ih =>
  intro s A hI h h0
  simp only [Zca]
  split
  ·rename_i hgo
   simp only
   obtain ⟨m,k,r,c,hw,hc,_⟩:=hI.head hgo.2.1
   have hI1:InvN cs a (Zat cs s):=hI.try' hcl h0 hw hc hgo.2.2
   have hF:=Yar hI h0
   by_cases h1:(Zat cs s).status=0
   ·refine ih hI1 (fun _ => ?_) h1
    have:=PWA.try' h0 (h h0) (by omega)
    unfold ansB at this
    rw [if_neg (by omega)] at this
    exact this
   ·have e:Zca cs n (Zat cs s)=(Zat cs s,0):=by
     cases n with
     | zero=>rfl
     | succ n=>simp only [Zca]; rw [if_neg (fun h=>h1 h.1)]
    rw [e]
    exact ⟨fun h3=>PWA.try' h0 (h h0) h3,hF⟩
  ·refine ⟨fun _ => ?_,fun e => ?_⟩
   ·show PWA cs a.2 (topN a) s.way s.tree (ansB a.2 A s)
    unfold ansB
    rw [if_neg (by omega)]
    exact h h0
   ·have e:s.status=1:=e
    omega
theorem Yes {cs:List Cls} {a:List (List Sym) × Names} (hcl:cs.length≤24) {n:Nat} {s:SN} {A:List (List UInt8)} (hI:InvN cs a s) (h:PWA cs a.2 (topN a) s.way s.tree A) (hs:s.status≠2∧s.status≠3):((Zcz cs n s).1.status≠3→PWA cs a.2 (topN a) (Zcz cs n s).1.way (Zcz cs n s).1.tree (ansB a.2 A (Zcz cs n s).1))∧Zpk cs (topN a) (Zcz cs n s).1:=by
 unfold Zcz
 rw [if_neg (by omega)]
 simp only
 obtain ⟨h1,h2⟩:=Yer (n:=n) hcl (hI.seek (by omega)) (fun _=>h) rfl
 generalize (Zca cs n { s with status:=0 }).1=z at h1 h2
 unfold endN
 split
 ·exact ⟨fun h3=>absurd rfl h3,fun e=>by simp [Zht] at e⟩
 ·rename_i h3
  split
  ·rename_i h0
   split
   ·refine ⟨fun _ => ?_,fun e=>by simp at e⟩
    have:=h1 h3
    unfold ansB at this ⊢
    rw [if_neg (by omega)] at this
    simpa using this
   ·split
    ·exact ⟨fun h3=>absurd rfl h3,fun e=>by simp [Zht] at e⟩
    ·exact ⟨fun _=>h1 h3,h2⟩
  ·exact ⟨fun _=>h1 h3,h2⟩
structure Told (cs:List Cls) (a:List (List Sym) × Names) (m:SN) (t:Tr):Prop where
 tree:m.status≠3→PWA cs a.2 (topN a) m.way m.tree t.ans
 len:t.ans.length=t.wts.length
 each:∀ (i:Nat) (A W:List UInt8),t.ans[i]?=some A→t.wts[i]?=some W→∃ n,Reach cs (topN a) n.used n∧n.goals=[]∧n.used≠[]∧n.used.length≤100∧(∀ k ∈ n.used,k<cs.length)∧A=Zbp a.2 n∧W=Zeh n
theorem Told.new (cs:List Cls) {a:List (List Sym) × Names} (ha:a.1≠[]):Told cs a (newN cs a) ⟨[],[],0,0⟩:=by
 refine ⟨fun _ => ?_,rfl,fun i A W h=>by simp at h⟩
 have hg:=Zhh ha
 unfold newN Zcd
 rw [if_neg hg]
 have hp:PWA cs a.2 (topN a) [(topN a,0)] [40] []:=⟨rfl,hg,Qm _,[],.zero _,by simp⟩
 simp only [Zdc]
 exact hp.leave
theorem Told.step {cs:List Cls} {a:List (List Sym) × Names} (hcl:cs.length≤24) {n:Nat} {m:SN} {t:Tr} (h:Told cs a m t) (hI:InvN cs a m) (hs:m.status≠2∧m.status≠3):Told cs a (Zcz cs n m).1 (addN a t (Zcz cs n m)):=by
 obtain ⟨h1,h2⟩:=Yes (n:=n) hcl hI (h.tree hs.2) hs
 have hI2:=hI.step hcl (n:=n)
 generalize Zcz cs n m=z at h1 h2 hI2
 unfold addN
 split
 ·rename_i e
  obtain ⟨g1,g2,g3,g4⟩:=h2 e
  refine ⟨fun h3 => ?_,by simp [h.len],fun i A W hA hW => ?_⟩
  ·have:=h1 h3
   unfold ansB at this
   rw [if_pos e] at this
   simpa [Zdd,e] using this
  ·simp only at hA hW
   rcases Nat.lt_or_ge i t.ans.length with hi | hi
   ·rw [Qc hi] at hA
    rw [Qc (by rw [← h.len]; exact hi)] at hW
    exact h.each i A W hA hW
   ·have hl:=h.len
    have:i=t.ans.length:=by
     have:=(Qa.1 hA).1
     simp at this
     omega
    subst this
    simp only [Qd (Qe _),Nat.sub_self,List.getElem?_cons_zero,Qo] at hA
    rw [hl,Qd (Qe _)] at hW
    simp only [Nat.sub_self,List.getElem?_cons_zero,Qo] at hW
    refine ⟨z.1.found,g1,g2,g3,g4,(hI2.found e).2.2,?_,?_⟩
    ·rw [← hA]; simp [Zdd,e]
    ·rw [← hW]; simp [Zdd,e]
 ·rename_i e
  refine ⟨fun h3 => ?_,h.len,h.each⟩
  have:=h1 h3
  unfold ansB at this
  rw [if_neg e] at this
  exact this
theorem Told.aft {cs:List Cls} {a:List (List Sym) × Names} (hcl:cs.length≤24) {tries size:Nat}:∀ {f:Nat} {m:SN} {t:Tr},Told cs a m t→InvN cs a m→(m.status=0∨m.status=1)→Told cs a (aftN cs a tries size f m t).1 (aftN cs a tries size f m t).2:=by
 intro f
 induction f with
 | zero=>intro m t h _ _; exact h
 | succ f ih =>
  intro m t h hI hm
  rw [aftN]
  split
  ·have h1:=h.step hcl (n:=Zhi size (tries - t.tries)) hI (by omega)
   have hI1:=hI.step hcl (n:=Zhi size (tries - t.tries))
   split
   ·exact h1
   ·rename_i h23
    exact ih h1 hI1 (by have:=hI1.st; omega)
  ·exact h
theorem Yoe (c:UInt8) (h:c=33∨c=40∨c=41):figB c=false:=by rcases h with rfl | rfl | rfl <;> decide
theorem Yas {cs:List Cls} {names:Names} {n:ND} {t:List UInt8} {A:List (List UInt8)} (h:TreeA cs names n t A):∃ c r,t=c::r∧(c=33∨c=40):=by
 cases h with
 | leaf _ h=>exact ⟨33,[],rfl,Or.inl rfl⟩
 | node _ t A h hp=>exact ⟨40,t++[41],rfl,Or.inr rfl⟩
theorem Zpl (l:List UInt8):∀ (f g p o:Nat) (due:Bool),p≤l.length→l.length<f+p→l.length<g+p→Zcy l f p o due=Zcy l g p o due:=by
 intro f
 induction f with
 | zero=>intro g p o due h1 h2 _; omega
 | succ f ih =>
  intro g p o due h1 h2 h3
  obtain ⟨g,rfl⟩:∃ g',g=g'+1:=⟨g - 1,by omega⟩
  unfold Zcy
  cases hc:l[p]? with
  | none=>rfl
  | some c =>
   have hp:=(Qa.1 hc).1
   have hz:=(Zdt (l.drop p)).1
   rw [List.length_drop] at hz
   simp only
   rw [ih g (p+1) o false (by omega) (by omega) (by omega),ih g (p+1) (o+1) false (by omega) (by omega) (by omega),ih g (p+1) (o - 1) false (by omega) (by omega) (by omega)]
   by_cases h0:(Zak (l.drop p)).2=0
   ·rw [if_pos h0,if_pos h0]
   ·rw [if_neg h0,if_neg h0,ih g (p+(Zak (l.drop p)).2) o true (by omega) (by omega) (by omega)]
theorem Yat {l:List UInt8} (h:Sh l 0 0 true):Zfl l=none:=by
 obtain ⟨f,h1,h2⟩:=h
 unfold Zfl
 rw [Zpl l (l.length+1) f 0 0 true (by omega) (by omega) (by omega)]
 exact h2
theorem Ymc {l:List UInt8} {p o:Nat} (hc:l[p]?=some 33) (h:Sh l (p+1) o false):Sh l p o true:=by
 obtain ⟨f,h1,h2⟩:=h
 refine ⟨f+1,by omega,?_⟩
 unfold Zcy
 rw [hc]
 simpa using h2
theorem Ymd {l:List UInt8} {p o:Nat} (hc:l[p]?=some 40) (h:Sh l (p+1) (o+1) false):Sh l p o true:=by
 obtain ⟨f,h1,h2⟩:=h
 refine ⟨f+1,by omega,?_⟩
 unfold Zcy
 rw [hc]
 simpa using h2
theorem Yme {l:List UInt8} {p o:Nat} (hc:l[p]?=some 41) (h:Sh l (p+1) o false):Sh l p (o+1) false:=by
 obtain ⟨f,h1,h2⟩:=h
 refine ⟨f+1,by omega,?_⟩
 unfold Zcy
 rw [hc]
 simpa using h2
theorem Yof {l:List UInt8} {p o k m:Nat} {c:UInt8} (hc:l[p]?=some c) (h41:c≠41) (hn:Zak (l.drop p)=(k,m)) (hm:m≠0) (h:Sh l (p+m) (o+1) true):Sh l p (o+1) false:=by
 obtain ⟨f,h1,h2⟩:=h
 refine ⟨f+m,by omega,?_⟩
 have hf:Zcy l (f+m - 1) (p+m) (o+1) true=none:=by
  rw [Zpl l (f+m - 1) f (p+m) (o+1) true ?_ (by omega) h1]
  ·exact h2
  ·have hz:=(Zdt (l.drop p)).1
   rw [hn,List.length_drop] at hz
   have hp:=(Qa.1 hc).1
   simp only at hz
   omega
 obtain ⟨g,hg⟩:∃ g,f+m=g+1:=⟨f+m - 1,by omega⟩
 rw [hg] at hf ⊢
 unfold Zcy
 rw [hc]
 simp only [hn,hm,h41,if_false,Bool.false_eq_true,Nat.add_one_ne_zero]
 simpa using hf
theorem Zpm {pre post:List UInt8} {c:UInt8} {r:List UInt8}:(pre++(c::r)++post)[pre.length]?=some c:=by
 rw [Qi,Qd (Qe _)]
 simp
theorem Zxz {pre t post:List UInt8}:(pre++([40]++t++[41])++post)[(pre++[40]).length+t.length]?=some 41:=by
 have h:=Zpm (pre:=pre++[40]++t) (c:=41) (r:=[]) (post:=post)
 have e:(pre++[40]++t).length=(pre++[40]).length+t.length:=Qg
 rw [e] at h
 rw [show pre++([40]++t++[41])++post=pre++[40]++t++[41]++post by simp]
 exact h
theorem Yis {k:Nat} (hk:k<100):∃ c r,Lib.decDigits k=c::r∧c≠41:=by
 rcases Nat.lt_or_ge k 10 with h | h
 ·refine ⟨_,_,Znk k h,fun e => ?_⟩
  have:=(Zge k h).1
  rw [e] at this
  exact absurd this (by decide)
 ·refine ⟨_,_,Zvx k hk h,fun e => ?_⟩
  have:=(Zge (k / 10) (by omega)).1
  rw [e] at this
  exact absurd this (by decide)
theorem Yky {k:Nat} (hk:k<100) {cs:List Cls} {names:Names} {n:ND} {u:List UInt8} {B:List (List UInt8)} (hu:TreeA cs names n u B) (pre post:List UInt8):Zak ((pre++(Lib.decDigits k++u)++post).drop pre.length)=(k,(Lib.decDigits k).length):=by
 rw [Qi,List.drop_left,Qi]
 refine Zjn hk (fun b r' e => ?_)
 obtain ⟨c,r,rfl,hc⟩:=Yas hu
 simp only [List.cons_append,List.cons.injEq] at e
 rw [← e.1]
 exact Yoe c (by rcases hc with h | h <;> simp [h])
theorem Ymf {cs:List Cls} {names:Names} (hcl:cs.length≤24) {n:ND} {t:List UInt8} {A:List (List UInt8)} (h:TreeA cs names n t A):∀ (l pre post:List UInt8) (o:Nat),l=pre++t++post→Sh l (pre.length+t.length) o false→Sh l pre.length o true:=by
 refine TreeA.rec (cs:=cs) (names:=names) (motive_1:=fun n t A _=>∀ (l pre post:List UInt8) (o:Nat),l=pre++t++post→Sh l (pre.length+t.length) o false→Sh l pre.length o true)
  (motive_2:=fun n k t A _=>∀ (l pre post:List UInt8) (o:Nat),l=pre++t++post→Sh l (pre.length+t.length) (o+1) false→Sh l pre.length (o+1) false) ?_ ?_ ?_ ?_ ?_ h
 ·intro n hg l pre post o hl hs
  exact Ymc (by rw [hl]; exact Zpm) hs
 ·intro n t A hg hp ih l pre post o hl hs
  refine Ymd (by rw [hl]; exact Zpm) ?_
  have h1:Sh l ((pre++[40]).length+t.length) (o+1) false:=by
   refine Yme ?_ ?_
   ·rw [hl]
    exact Zxz
   ·simp only [Qg,Qf,Jt] at hs ⊢
    rw [show pre.length+(0+1)+t.length+1=pre.length+(0+1+t.length+(0+1)) by omega]
    exact hs
  have:=ih l (pre++[40]) ([41]++post) o (by rw [hl]; simp) h1
  simpa using this
 ·intro n l pre post o hl hs
  simpa using hs
 ·intro n k t A c hp hc hq ih l pre post o hl hs
  exact ih l pre post o hl hs
 ·intro n k t u A B c hp hc hq hu ihp ihu l pre post o hl hs
  have hk:k<100:=by have:=(Qa.1 hc).1; omega
  have h1:Sh l ((pre++t++Lib.decDigits k).length+u.length) (o+1) false:=by
   simp only [Qg] at hs ⊢
   rw [show pre.length+t.length+(Lib.decDigits k).length+u.length=pre.length+(t.length+(Lib.decDigits k).length+u.length) by omega]
   exact hs
  have h2:=ihu l (pre++t++Lib.decDigits k) post (o+1) (by rw [hl]; simp) h1
  obtain ⟨d,r,hd,h41⟩:=Yis hk
  have hl2:l=(pre++t)++(Lib.decDigits k++u)++post:=by rw [hl]; simp
  have h3:Sh l (pre++t).length (o+1) false:=by
   refine Yof (c:=d) (k:=k) (m:=(Lib.decDigits k).length) ?_ h41 ?_ (by have := @Zgf k; omega) ?_
   ·rw [hl2,hd,List.cons_append]
    exact Zpm
   ·rw [hl2]
    exact Yky hk hu _ _
   ·rw [← Qg]
    exact h2
  refine ihp l pre (Lib.decDigits k++u++post) o (by rw [hl]; simp) ?_
  simpa using h3
theorem Yet {cs:List Cls} {names:Names} (hcl:cs.length≤24) {l:List UInt8} {Rf:HN} {n:ND} {t:List UInt8} {B:List (List UInt8)} (h:TreeA cs names n t B):∀ (pre post:List UInt8) (way:List (ND × Nat)) (A:List (List UInt8)),l=pre++t++post→Zol cs names l (Zco names l n pre.length way A) Rf→Goes cs names l (pre.length+t.length) way (A++B) Rf:=by
 refine TreeA.rec (cs:=cs) (names:=names) (motive_1:=fun n t B _=>∀ (pre post:List UInt8) (way:List (ND × Nat)) (A:List (List UInt8)),l=pre++t++post→Zol cs names l (Zco names l n pre.length way A) Rf→Goes cs names l (pre.length+t.length) way (A++B) Rf)
  (motive_2:=fun n k t B _=>∀ (pre post:List UInt8) (way:List (ND × Nat)) (A:List (List UInt8)),l=pre++t++post→Goes cs names l pre.length ((n,0)::way) A Rf→Goes cs names l (pre.length+t.length) ((n,k)::way) (A++B) Rf) ?_ ?_ ?_ ?_ ?_ h
 ·intro n hg pre post way A hl hG
  unfold Zco at hG
  rw [if_pos hg,if_pos (by rw [hl]; exact Zpm)] at hG
  exact hG.1 rfl
 ·intro n t B hg hp ih pre post way A hl hG
  unfold Zco at hG
  rw [if_neg hg,if_pos (by rw [hl]; exact Zpm)] at hG
  have h1:=ih (pre++[40]) ([41]++post) way A (by rw [hl]; simp) (by simpa using hG.1 rfl)
  have h2:=Znj h1
  unfold goM at h2
  rw [Nat.sub_self,Zgd] at h2
  simp only at h2
  rw [if_pos (by rw [hl]; exact Zxz)] at h2
  have h3:=h2.1 rfl
  simp only [Qg,Qf,Jt] at h3 ⊢
  rw [show pre.length+(0+1+t.length+(0+1))=pre.length+(0+1)+t.length+1 by omega]
  exact h3
 ·intro n pre post way A hl hG
  simpa using hG
 ·intro n k t B c hp hc hq ih pre post way A hl hG
  have h1:=Znj (ih pre post way A hl hG)
  rw [Zxy hc hq] at h1
  exact Zni h1
 ·intro n k t u A' B c hp hc hq hu ihp ihu pre post way A hl hG
  have hkl:=(Qa.1 hc).1
  have hk:k<100:=by omega
  have hl2:l=(pre++t)++(Lib.decDigits k++u)++post:=by rw [hl]; simp
  have h1:=Znj (ihp pre (Lib.decDigits k++u++post) way A (by rw [hl]; simp) hG)
  have hn:Zak (l.drop (pre.length+t.length))=(k,(Lib.decDigits k).length):=by
   have:=Yky hk hu (pre++t) post
   rw [← hl2] at this
   simpa using this
  unfold goM at h1
  rw [show cs.length - k=(cs.length - (k+1))+1 by omega,Zgd,hc] at h1
  simp only at h1
  rw [if_neg (by omega)] at h1
  simp only [hn] at h1
  rw [if_neg (by have := @Zgf k; omega)] at h1
  have h2:=ihu (pre++t++Lib.decDigits k) post ((n,k+1)::way) (A++A') (by rw [hl]; simp) (by rw [Qg,Qg]; exact h1)
  simp only [Qg] at h2 ⊢
  rw [show pre.length+(t.length+(Lib.decDigits k).length+u.length)=pre.length+t.length+(Lib.decDigits k).length+u.length by omega,← Qi]
  exact h2
theorem Yit {p q:ByteArray} {cs:List Cls} {a:List (List Sym) × Names} {T:List UInt8} {A:List (List UInt8)} (hp:Zci p=some cs) (hq:Zep q=some a) (hcl:cs.length≤24) (h:TreeA cs a.2 (topN a) T A) (hT:T.length≤20000):allN p q ⟨T.toArray⟩=(A,0,0):=by
 have hsh:Zfl T=none:=by
  refine Yat ?_
  have:=Ymf hcl h T [] [] 0 (by simp) ⟨1,by simp,by simp [Zcy]⟩
  simpa using this
 have hG:=Ztq cs a hsh
 have h1:=Yet (l:=T) hcl h [] [] [] [] (by simp) hG
 have h2:=Zxx h1
 unfold allN
 rw [hp]
 simp only
 rw [hq]
 simp only
 rw [if_neg (by simp [ByteArray.size]; omega)]
 show (match Zfl T with
  | some pl=>([],6,pl)
  | none=>if (Zld cs a T).wrong=true then ([],7,(Zld cs a T).at') else ((Zld cs a T).ans,0,0))=_
 rw [hsh]
 simp only
 rw [h2]
 simp
theorem Yau {p q:ByteArray} {cs:List Cls} {a:List (List Sym) × Names} {n:ND} (hp:Zci p=some cs) (hq:Zep q=some a) (hcl:cs.length≤24) (h:Reach cs (topN a) n.used n) (hg:n.goals=[]) (h0:n.used≠[]) (hl:n.used.length≤100) (hk:∀ k ∈ n.used,k<cs.length):yesN p q ⟨(Zeh n).toArray⟩=(Zbp a.2 n,0,0)∧Ynz p q ⟨(Zeh n).toArray⟩=(Zxn n,0,0):=by
 have h100:∀ j ∈ n.used,j<100:=fun j hj=>by have:=hk j hj; omega
 have hn:=Znl n.used h0 h100
 have hw:=Zvy n.used h100
 have hh:Zdv p q ⟨(Zeh n).toArray⟩=(a.2,n,0,0):=by
  unfold Zdv
  rw [hp]
  simp only
  rw [hq]
  simp only
  rw [if_neg (by simp [ByteArray.size,Zeh]; omega)]
  have hn':Zct ⟨(Zeh n).toArray⟩=(some n.used,(Zct ⟨(Zeh n).toArray⟩).2):=Prod.ext hn rfl
  rw [hn']
  simp only
  rw [h.follow 0 hg]
 unfold yesN Ynz
 rw [hh]
 simp
def AbcN (s:List UInt8):Prop:=s=[97]∨s=[98]∨s=[99]
structure ArgS (s:Sym):Prop where
 args:s.args=0
 name:s.name=[]∨AbcN s.name
def FA (l:List Sym):Prop:=∃ (P:Sym) (x y:Sym),l=[P,x,y]∧P.name≠[]∧P.args=2∧ArgS x∧ArgS y
def F1 (l:List Sym):Prop:=∃ s,l=[s]∧ArgS s
def cstS:Sym:=⟨[97],0,0⟩
open Classical in
noncomputable def toC (l:List Sym):List Sym:=match l with
 | [s]=>if AbcN s.name then [s] else [cstS]
 | _=>[cstS]
theorem Zya {l:List Sym} (h:Wf 1 l):Wf 1 (toC l)∧(toC l).length=1:=by
 have hc:Wf 1 [cstS]:=⟨by omega,fun h=>absurd h (by decide),fun _=>rfl,rfl⟩
 unfold toC
 split
 ·split
  ·exact ⟨h,rfl⟩
  ·exact ⟨hc,rfl⟩
 ·exact ⟨hc,rfl⟩
theorem Zjo {θ:Nat→List Sym} {x:Sym} (hx:ArgS x):ap1 (fun n=>toC (θ n)) x=toC (ap1 θ x):=by
 unfold ap1
 by_cases h:x.name=[]
 ·rw [if_pos h,if_pos h]
 ·rw [if_neg h,if_neg h]
  have hn:AbcN x.name:=by
   rcases hx.name with e | e
   ·exact absurd e h
   ·exact e
  simp [toC,hn]
theorem Znm (σ:Nat→List Sym) {P x y:Sym} (hP:P.name≠[]):ap σ [P,x,y]=P::(ap1 σ x++ap1 σ y):=by
 rw [Zbb,Zbb,Zbb,Zfp]
 simp [ap1,hP]
theorem Zly {σ:Nat→List Sym} (hσ:Ts σ) {x:Sym} (hx:ArgS x) (hn:x.name≠[]→x.num=0):Wf 1 (ap1 σ x):=by
 unfold ap1
 split
 ·exact hσ _
 ·rename_i h
  exact ⟨by omega,fun e=>absurd e h,fun _=>hn h,by simp [hx.args,Wf]⟩
theorem Zrh {P x y:Sym} (h:Wf 1 [P,x,y]) (hP:P.args=2) (hx:ArgS x) (hy:ArgS y):(x.name≠[]→x.num=0)∧(y.name≠[]→y.num=0):=by
 obtain ⟨_,_,_,h⟩:=h
 obtain ⟨_,_,h1,h⟩:=h
 obtain ⟨_,_,h2,_⟩:=h
 exact ⟨h1,h2⟩
theorem Yeu {a b:List Sym} (ha:FA a) (hb:FA b) (wa:Wf 1 a) (wb:Wf 1 b) {θ:Nat→List Sym} (hθ:Ts θ) (hu:ap θ a=ap θ b):Ts (fun n=>toC (θ n))∧ap (fun n=>toC (θ n)) a=ap (fun n=>toC (θ n)) b∧(ap (fun n=>toC (θ n)) a).length=3:=by
 obtain ⟨P,x,y,rfl,hP,hP2,hx,hy⟩:=ha
 obtain ⟨P',x',y',rfl,hP',hP2',hx',hy'⟩:=hb
 obtain ⟨nx,ny⟩:=Zrh wa hP2 hx hy
 obtain ⟨nx',ny'⟩:=Zrh wb hP2' hx' hy'
 rw [Znm θ hP,Znm θ hP'] at hu
 simp only [List.cons.injEq] at hu
 obtain ⟨rfl,hu⟩:=hu
 obtain ⟨u1,u2⟩:=Zmp (Zly hθ hx nx) (Zly hθ hx' nx') hu
 refine ⟨fun n=>(Zya (hθ n)).1,?_,?_⟩
 ·rw [Znm _ hP,Znm _ hP',Zjo hx,Zjo hy,Zjo hx',Zjo hy',u1,u2]
 ·rw [Znm _ hP,Zjo hx,Zjo hy,Qf,Qg,(Zya (Zly hθ hx nx)).2,(Zya (Zly hθ hy ny)).2]
theorem Znn {s:Sym} (h:Wf 1 [s]):s.args=0:=by
 obtain ⟨_,_,_,h⟩:=h
 simpa [Wf] using h
theorem Ykz {a b:List Sym} (ha:FA a) (hb:FA b) (wa:Wf 1 a) (wb:Wf 1 b) {σ:Nat→List Sym} (h:Mgu σ a b) (n:Nat):F1 (σ n):=by
 obtain ⟨ht,hu,_⟩:=Yeu ha hb wa wb h.ts h.unif
 have hw:=h.wide _ ht hu n
 have hl:=Zgm ht (σ n)
 rw [hw,(Zya (h.ts n)).2] at hl
 have hl1:=Zen (h.ts n)
 obtain ⟨s,hs⟩:∃ s,σ n=[s]:=List.length_eq_one_iff.1 (by omega)
 have hwf:=h.ts n
 rw [hs] at hwf hw
 refine ⟨s,hs,Znn hwf,?_⟩
 by_cases hn:s.name=[]
 ·exact Or.inl hn
 ·refine Or.inr ?_
  have e:ap (fun n=>toC (σ n)) [s]=[s]:=by rw [Zbb,Zfp]; simp [ap1,hn]
  rw [e] at hw
  by_cases hA:AbcN s.name
  ·exact hA
  ·rw [show toC [s]=[cstS] by simp [toC,hA]] at hw
   simp only [List.cons.injEq,and_true] at hw
   rw [hw]
   exact Or.inl rfl
theorem Yev {σ:Nat→List Sym} (hσ:∀ n,F1 (σ n)) {x:Sym} (hx:ArgS x):F1 (ap1 σ x):=by
 unfold ap1
 split
 ·exact hσ _
 ·exact ⟨x,rfl,hx⟩
theorem FA.apF {σ:Nat→List Sym} (hσ:∀ n,F1 (σ n)) {l:List Sym} (h:FA l):FA (YtlmjilpjmgjjcaaGreatDoor.ap σ l):=by
 obtain ⟨P,x,y,rfl,hP,hP2,hx,hy⟩:=h
 obtain ⟨s,e1,hs⟩:=Yev hσ hx
 obtain ⟨t,e2,ht⟩:=Yev hσ hy
 exact ⟨P,s,t,by rw [Znm _ hP,e1,e2]; rfl,hP,hP2,hs,ht⟩
theorem F1.apF {σ:Nat→List Sym} (hσ:∀ n,F1 (σ n)) {l:List Sym} (h:F1 l):F1 (YtlmjilpjmgjjcaaGreatDoor.ap σ l):=by
 obtain ⟨x,rfl,hx⟩:=h
 rw [Zbb,Zfp,Qs]
 exact Yev hσ hx
theorem FA.len {l:List Sym} (h:FA l):l.length=3:=by obtain ⟨P,x,y,rfl,_⟩:=h; rfl
theorem Yiu (n:Nat):F1 (vr n):=⟨_,rfl,rfl,Or.inl rfl⟩
structure FFn (n:ND):Prop where
 goals:∀ g ∈ n.goals,FA g.1
 vals:∀ v ∈ n.vals,F1 v
 done:∀ g ∈ n.done,FA g.1
def FFc (c:Cls):Prop:=FA c.head∧∀ t ∈ c.body,FA t
theorem Zri {τ τ':Nat→List Sym} {x s:Sym} (hx:ArgS x) (h1:ap1 τ x=[s]) (hw:Wf 1 [s]) (h2:ap1 τ' s=[x]):ArgS s:=by
 by_cases hn:s.name=[]
 ·exact ⟨Znn hw,Or.inl hn⟩
 ·have:ap1 τ' s=[s]:=by simp [ap1,hn]
  rw [this] at h2
  simp only [List.cons.injEq,and_true] at h2
  rw [h2]
  exact hx
theorem Zlf {τ:Nat→List Sym} (hτ:Ts τ) (x:Sym):1≤(ap1 τ x).length:=by
 unfold ap1
 split
 ·exact Zen (hτ _)
 ·simp
theorem FA.back {τ τ':Nat→List Sym} (hτ:Ts τ) (hτ':Ts τ') {l m:List Sym} (h:FA l) (wl:Wf 1 l) (e1:m=ap τ l) (e2:l=ap τ' m):FA m:=by
 have hlen:m.length=3:=by
  have a1:=Zgm hτ l
  have a2:=Zgm hτ' m
  rw [← e1] at a1
  rw [← e2] at a2
  rw [h.len] at a1 a2
  omega
 obtain ⟨P,x,y,rfl,hP,hP2,hx,hy⟩:=h
 obtain ⟨nx,ny⟩:=Zrh wl hP2 hx hy
 rw [Znm τ hP] at e1
 have l1:=Zlf hτ x
 have l2:=Zlf hτ y
 rw [e1,Qf,Qg] at hlen
 obtain ⟨s,hs⟩:∃ s,ap1 τ x=[s]:=List.length_eq_one_iff.1 (by omega)
 obtain ⟨t,ht⟩:∃ t,ap1 τ y=[t]:=List.length_eq_one_iff.1 (by omega)
 have ws:=Zly hτ hx nx
 have wt:=Zly hτ hy ny
 rw [hs] at ws
 rw [ht] at wt
 rw [e1,hs,ht] at e2
 have e3:ap τ' [P,s,t]=P::(ap1 τ' s++ap1 τ' t):=Znm τ' hP
 rw [show P::([s]++[t])=[P,s,t] from rfl,e3] at e2
 simp only [List.cons.injEq,true_and] at e2
 have k1:=Zlf hτ' s
 have k2:=Zlf hτ' t
 have k3:=congrArg List.length e2
 simp only [Qg,Qf,Jt] at k3
 obtain ⟨s',hs'⟩:∃ s',ap1 τ' s=[s']:=List.length_eq_one_iff.1 (by omega)
 obtain ⟨t',ht'⟩:∃ t',ap1 τ' t=[t']:=List.length_eq_one_iff.1 (by omega)
 rw [hs',ht'] at e2
 simp only [List.cons_append,List.nil_append,List.cons.injEq,and_true] at e2
 obtain ⟨rfl,rfl⟩:=e2
 exact ⟨P,s,t,by rw [e1,hs,ht]; rfl,hP,hP2,Zri hx hs ws hs',Zri hy ht wt ht'⟩
theorem F1.back {τ τ':Nat→List Sym} (hτ:Ts τ) (hτ':Ts τ') {l m:List Sym} (h:F1 l) (wl:Wf 1 l) (e1:m=ap τ l) (e2:l=ap τ' m):F1 m:=by
 obtain ⟨x,rfl,hx⟩:=h
 have a1:=Zgm hτ [x]
 have a2:=Zgm hτ' m
 rw [← e1] at a1
 rw [← e2] at a2
 obtain ⟨s,rfl⟩:∃ s,m=[s]:=List.length_eq_one_iff.1 (by simp at a1 a2; omega)
 have h1:ap1 τ x=[s]:=by rw [e1,Zbb,Zfp,Qs]
 have h2:ap1 τ' s=[x]:=by rw [e2,Zbb,Zfp,Qs]
 have ws:Wf 1 [s]:=by rw [e1]; exact Zha hτ wl
 exact ⟨s,rfl,Zri hx h1 ws h2⟩
theorem FFn.same {n m:ND} (h:FFn n) (hn:∀ t ∈ n.terms,Wf 1 t) (hs:Same m n):FFn m:=by
 obtain ⟨τ',hτ',e'⟩:=hs.al.1
 obtain ⟨τ,hτ,e⟩:=hs.al.2
 have hback:∀ (i:Nat) (x y:List Sym),n.terms[i]?=some x→m.terms[i]?=some y→y=ap τ x∧x=ap τ' y:=fun i x y hx hy=>by
  have h1:=congrArg (fun l=>l[i]?) e
  have h2:=congrArg (fun l=>l[i]?) e'
  simp only [Qj,hx,hy,Option.map_some,Qo] at h1 h2
  exact ⟨h1,h2⟩
 have lg:=hs.gl
 have ld:=hs.dl
 have lv:=hs.vl
 have tn:n.terms=n.goals.map (·.1)++(n.vals++n.done.map (·.1)):=rfl
 have tm:m.terms=m.goals.map (·.1)++(m.vals++m.done.map (·.1)):=rfl
 refine ⟨fun g hg => ?_,fun v hv => ?_,fun g hg => ?_⟩
 ·obtain ⟨i,hi⟩:=List.mem_iff_getElem?.1 hg
  have hil:=(Qa.1 hi).1
  obtain ⟨g',hg'⟩:∃ g',n.goals[i]?=some g':=⟨_,Qb (by omega)⟩
  have y1:m.terms[i]?=some g.1:=by rw [tm,Qc (by simpa using hil),Qj,hi]; rfl
  have x1:n.terms[i]?=some g'.1:=by rw [tn,Qc (by simp; omega),Qj,hg']; rfl
  obtain ⟨b1,b2⟩:=hback i _ _ x1 y1
  exact (h.goals g' (Qh hg')).back hτ hτ' (hn _ (Qh x1)) b1 b2
 ·obtain ⟨i,hi⟩:=List.mem_iff_getElem?.1 hv
  have hil:=(Qa.1 hi).1
  obtain ⟨v',hv'⟩:∃ v',n.vals[i]?=some v':=⟨_,Qb (by omega)⟩
  have y1:m.terms[m.goals.length+i]?=some v:=by
   rw [tm,Qd (by simp),Ql,Nat.add_sub_cancel_left,Qc hil]
   exact hi
  have x1:n.terms[m.goals.length+i]?=some v':=by
   rw [tn,lg,Qd (by simp),Ql,Nat.add_sub_cancel_left,Qc (by omega)]
   exact hv'
  obtain ⟨b1,b2⟩:=hback _ _ _ x1 y1
  exact (h.vals v' (Qh hv')).back hτ hτ' (hn _ (Qh x1)) b1 b2
 ·obtain ⟨i,hi⟩:=List.mem_iff_getElem?.1 hg
  have hil:=(Qa.1 hi).1
  obtain ⟨g',hg'⟩:∃ g',n.done[i]?=some g':=⟨_,Qb (by omega)⟩
  have y1:m.terms[m.goals.length+(m.vals.length+i)]?=some g.1:=by
   rw [tm,Qd (by simp),Ql,Nat.add_sub_cancel_left,Qd (by omega),Nat.add_sub_cancel_left,Qj,hi]
   rfl
  have x1:n.terms[m.goals.length+(m.vals.length+i)]?=some g'.1:=by
   rw [tn,lg,lv,Qd (by simp),Ql,Nat.add_sub_cancel_left,Qd (by omega),Nat.add_sub_cancel_left,Qj,hg']
   rfl
  obtain ⟨b1,b2⟩:=hback _ _ _ x1 y1
  exact (h.done g' (Qh hg')).back hτ hτ' (hn _ (Qh x1)) b1 b2
theorem FFn.child {n:ND} (hn:NOk n) (h:FFn n) {c:Cls} (hc:COk c) (hf:FFc c) {k q:Nat} {ch:ND} (ho:Out n c k q ch) (hq:q=1∨q=2):FFn ch:=by
 obtain ⟨g,gs,hg,ho⟩:=ho
 rcases ho with ⟨rfl,_⟩ | ⟨rfl,_⟩ | ⟨σ,h1,_,_,rfl⟩
 ·omega
 ·omega
 ·have hga:FA g.1:=h.goals g (by rw [hg]; simp)
  have hha:FA (ap (Zcj n.vars) c.head):=hf.1.apF (fun _=>Yiu _)
  have wg:Wf 1 g.1:=hn.wf g.1 (by unfold ND.terms; rw [hg]; simp)
  have wh:Wf 1 (ap (Zcj n.vars) c.head):=Zha (fun m=>Zqg _) hc.wfh
  have hσ:=Ykz hga hha wg wh h1
  refine ⟨fun x hx => ?_,fun v hv => ?_,fun x hx => ?_⟩
  ·simp only [Zar,carr,List.mem_map,Qk] at hx
   obtain ⟨y,hy,rfl⟩:=hx
   rcases hy with ⟨t,ht,rfl⟩ | hy
   ·exact ((hf.2 t ht).apF (fun _=>Yiu _)).apF hσ
   ·exact (h.goals y (by rw [hg]; simp [hy])).apF hσ
  ·simp only [Zar,List.mem_map] at hv
   obtain ⟨u,hu,rfl⟩:=hv
   exact (h.vals u hu).apF hσ
  ·simp only [Zar,carr,List.mem_map,Qk,List.mem_singleton] at hx
   obtain ⟨y,hy,rfl⟩:=hx
   rcases hy with hy | rfl
   ·exact (h.done y hy).apF hσ
   ·exact hga.apF hσ
theorem Zno {S:ByteArray} {k:Nat} {c:UInt8} (h:S.data.toList[k]?=some c):∃ hk:k<S.size,S[k]=c:=by
 have hk:=(Qa.1 h).1
 refine ⟨by simpa using hk,?_⟩
 exact (Qa.1 h).2
theorem Yiv {n:ND} {c:Cls} {k:Nat} (hc:COk c) (h:(tryN n c k).2=1∨(tryN n c k).2=2):NOk (tryN n c k).1:=by
 by_cases hex:∃ r:ND × Nat,∃ m,NOk m∧Same m n∧Out m c k r.2 r.1
 ·have e:tryN n c k=Classical.choose hex:=by unfold tryN; rw [dif_pos hex]
  obtain ⟨m,hm,hS,ho⟩:=Classical.choose_spec hex
  rw [e] at h ⊢
  exact ((Zxg hm hm (Same.refl hm) hc ho ho).2 h).1
 ·have e:tryN n c k=(⟨[],[],[],[],0⟩,0):=by unfold tryN; rw [dif_neg hex]
  rw [e] at h
  simp at h
def tok0 (t:Tok):Tok:=⟨t.kind,t.text,0⟩
theorem Yew:∀ (n:Nat) (l:List UInt8) (p q:Nat),l.length≤n→(toks l p).map tok0=(toks l q).map tok0:=by
 intro n
 induction n with
 | zero =>
  intro l p q h
  obtain rfl:l=[]:=List.eq_nil_of_length_eq_zero (by omega)
  rfl
 | succ n ih =>
  intro l p q h
  cases l with
  | nil=>rfl
  | cons c r =>
   simp only [Qf] at h
   cases hb:Zgt c with
   | true=>rw [Zio c r p hb,Zio c r q hb]; exact ih r _ _ (by omega)
   | false =>
    rw [Zes c r p hb,Zes c r q hb]
    simp only [List.map_cons,tok0]
    rw [ih _ (p+(Zbo c r).2+1) (q+(Zbo c r).2+1) (by simp; omega)]
def kt (l:List UInt8):List Tok:=(toks l 0).map tok0
theorem Yiw (l:List UInt8) (p:Nat):(toks l p).map tok0=kt l:=Yew _ l p 0 (Qe _)
theorem Yix {c:UInt8} {l:List UInt8} (h:Zgt c=true):kt (c::l)=kt l:=by
 unfold kt
 rw [Zio c l 0 h]
 exact Yiw l 1
theorem Yex {c:UInt8} {l:List UInt8} (h:c=40∨c=41∨c=44∨c=46):kt (c::l)=⟨c.toNat,[c],0⟩::kt l:=by
 unfold kt
 rw [Zed h,List.map_cons,Yiw]
 rfl
theorem Yiy {l:List UInt8}:kt (58::45::l)=⟨3,[58,45],0⟩::kt l:=by
 unfold kt
 rw [Zpb,List.map_cons,Yiw]
 rfl
def ktG (t:GT):List Tok:=(t.tk 0).map tok0
theorem Ymg {t:GT} {rest:List UInt8} (h:t.ok=true) (hr:Zbh rest=0):kt (t.text++rest)=ktG t++kt rest:=by
 unfold kt ktG
 rw [Zig t rest 0 h hr,Qr,Yiw]
 rfl
abbrev RdO:=Option (List Sym × List Tok × Names)
def rd0 (r:List Sym × List Tok × Names):List Sym × List Tok × Names:=(r.1,r.2.1.map tok0,r.2.2)
def rds0 (r:List (List Sym) × List Tok × Names):List (List Sym) × List Tok × Names:=(r.1,r.2.1.map tok0,r.2.2)
theorem Ymh {p:List Tok→Names→RdO} (hp:∀ ts N,p (ts.map tok0) N=(p ts N).map rd0):∀ (g:Nat) (ts:List Tok) (N:Names) (acc:List (List Sym)),Zdz p g (ts.map tok0) N acc=(Zdz p g ts N acc).map rds0:=by
 intro g
 induction g with
 | zero=>intro ts N acc; rfl
 | succ g ih =>
  intro ts N acc
  cases ts with
  | nil=>rfl
  | cons t ts =>
   simp only [List.map_cons,Zdz]
   by_cases h:t.kind=41
   ·rw [if_pos h,if_pos (show (tok0 t).kind=41 from h)]
    rfl
   ·rw [if_neg h,if_neg (show ¬ (tok0 t).kind=41 from h),hp ts N]
    cases p ts N with
    | none=>rfl
    | some r=>simp only [Option.map_some]; exact ih _ _ _
theorem Yey:∀ (f:Nat) (ts:List Tok) (N:Names),Zcp f (ts.map tok0) N=(Zcp f ts N).map rd0:=by
 intro f
 induction f with
 | zero=>intro ts N; rfl
 | succ f ih =>
  intro ts N
  cases ts with
  | nil=>rfl
  | cons t ts =>
   simp only [List.map_cons,Zcp]
   by_cases h:t.kind=2
   ·rw [if_pos h,if_pos (show (tok0 t).kind=2 from h)]
    rfl
   ·rw [if_neg h,if_neg (show ¬ (tok0 t).kind=2 from h)]
    cases ts with
    | nil=>rfl
    | cons u us =>
     simp only [List.map_cons,Zjf]
     by_cases h2:u.kind≠40
     ·rw [if_pos h2,if_pos (show (tok0 u).kind≠40 from h2)]
      rfl
     ·have e:=Ymh ih (us.length+1) (u::us) N []
      simp only [List.map_cons] at e
      rw [if_neg h2,if_neg (show ¬ (tok0 u).kind≠40 from h2),Ql,e,Option.map_map,Option.map_map]
      rfl
theorem Yiz:∀ (g:Nat) (ts:List Tok) (N:Names) (acc:List (List Sym)),Zcw 1000 g (ts.map tok0) N acc=(Zcw 1000 g ts N acc).map rds0:=by
 intro g
 induction g with
 | zero=>intro ts N acc; rfl
 | succ g ih =>
  intro ts N acc
  simp only [Zcw]
  rw [Yey]
  cases Zcp 1000 ts N with
  | none=>rfl
  | some r =>
   simp only [Option.map_some,rd0]
   cases r.2.1 with
   | nil=>rfl
   | cons x rest =>
    simp only [List.map_cons]
    by_cases h:x.kind=46
    ·rw [if_pos h,if_pos (show (tok0 x).kind=46 from h)]
     rfl
    ·rw [if_neg h,if_neg (show ¬ (tok0 x).kind=46 from h)]
     exact ih _ _ _
theorem Yez (ts:List Tok):Zdk (ts.map tok0)=(Zdk ts).map (fun r=>(r.1,r.2.map tok0)):=by
 unfold Zdk
 rw [Yey]
 cases Zcp 1000 ts [] with
 | none=>rfl
 | some r =>
  simp only [Option.map_some,rd0]
  cases r.2.1 with
  | nil=>rfl
  | cons x rest =>
   simp only [List.map_cons]
   by_cases h:x.kind=3
   ·rw [if_pos h,if_pos (show (tok0 x).kind=3 from h),Yiz,Option.map_map,Option.map_map]
    rfl
   ·rw [if_neg h,if_neg (show ¬ (tok0 x).kind=3 from h)]
    rfl
theorem Yfa:∀ (g:Nat) (ts:List Tok) (acc:List Cls),Zgi g (ts.map tok0) acc=Zgi g ts acc:=by
 intro g
 induction g with
 | zero=>intro ts acc; rfl
 | succ g ih =>
  intro ts acc
  cases ts with
  | nil=>rfl
  | cons t ts =>
   have e:=Yez (t::ts)
   simp only [List.map_cons] at e
   simp only [List.map_cons,Zgi]
   by_cases h:t.kind=4
   ·rw [if_pos h,if_pos (show (tok0 t).kind=4 from h)]
   ·rw [if_neg h,if_neg (show ¬ (tok0 t).kind=4 from h),e]
    cases Zdk (t::ts) with
    | none=>rfl
    | some r=>simp only [Option.map_some]; exact ih _ _
theorem Yfb:∀ (ts:List Tok) (L:LookS),(Zfx (ts.map tok0) L).1=(Zfx ts L).1:=by
 intro ts
 induction ts with
 | nil=>intro L; rfl
 | cons t ts ih =>
  intro L
  simp only [List.map_cons,Zfx]
  by_cases h:t.kind=4∧(L.want=5∨L.want=0)
  ·rw [if_pos h,if_pos (show (tok0 t).kind=4∧_ from h)]
  ·rw [if_neg h,if_neg (show ¬ ((tok0 t).kind=4∧_) from h)]
   by_cases h2:(Zcb L t.kind t.text.length).err≠0
   ·rw [if_pos h2,if_pos (show (Zcb L (tok0 t).kind (tok0 t).text.length).err≠0 from h2)]
    rfl
   ·rw [if_neg h2,if_neg (show ¬ (Zcb L (tok0 t).kind (tok0 t).text.length).err≠0 from h2)]
    exact ih _
theorem Ztt (s:List UInt8):(Zaz ⟨s.toArray⟩).map tok0=kt s++[⟨4,[],0⟩]:=by
 unfold Zaz
 rw [Qr]
 rfl
theorem Yfc {s s':List UInt8} (h:kt s=kt s') (h1:s.length≤800) (h2:s'.length≤800):Zci ⟨s.toArray⟩=Zci ⟨s'.toArray⟩:=by
 have e:(Zaz ⟨s.toArray⟩).map tok0=(Zaz ⟨s'.toArray⟩).map tok0:=by rw [Ztt,Ztt,h]
 have z1:¬ 800<(⟨s.toArray⟩:ByteArray).size:=by simp [ByteArray.size]; omega
 have z2:¬ 800<(⟨s'.toArray⟩:ByteArray).size:=by simp [ByteArray.size]; omega
 unfold Zci
 rw [if_neg z1,if_neg z2,← Yfb (Zaz ⟨s.toArray⟩),← Yfb (Zaz ⟨s'.toArray⟩),← Yfa _ (Zaz ⟨s.toArray⟩),← Yfa _ (Zaz ⟨s'.toArray⟩),e]
structure Sty (cm ar dt:List UInt8):Prop where
 c:∀ r,kt (cm++r)=⟨44,[44],0⟩::kt r
 cw:∀ r,Zbh (cm++r)=0
 a:∀ r,kt (ar++r)=⟨3,[58,45],0⟩::kt r
 aw:∀ r,Zbh (ar++r)=0
 d:∀ r,kt (dt++r)=⟨46,[46],0⟩::kt r
 dw:∀ r,Zbh (dt++r)=0
def styB (at':GT→List UInt8) (cm:List UInt8):GT→List GT→List UInt8
 | t,[]=>at' t
 | t,u::r=>at' t++(cm++styB at' cm u r)
def styT (at':GT→List UInt8) (cm ar dt:List UInt8) (a:GT):List GT→List UInt8
 | []=>at' a++dt
 | t::r=>at' a++(ar++(styB at' cm t r++dt))
def Yja (K:GT→List Tok):GT→List GT→List Tok
 | t,[]=>K t
 | t,u::r=>K t++(⟨44,[44],0⟩::Yja K u r)
def styK (K:GT→List Tok) (a:GT):List GT→List Tok
 | []=>K a++[⟨46,[46],0⟩]
 | t::r=>K a++(⟨3,[58,45],0⟩::(Yja K t r++[⟨46,[46],0⟩]))
def Yfd (at':GT→List UInt8) (K:GT→List Tok) (t:GT):Prop:=∀ r,Zbh r=0→kt (at' t++r)=K t++kt r
theorem Ymi {at':GT→List UInt8} {K:GT→List Tok} {cm ar dt:List UInt8} (h:Sty cm ar dt):∀ (r:List GT) (t:GT) (rest:List UInt8),Yfd at' K t→(∀ u ∈ r,Yfd at' K u)→Zbh rest=0→kt (styB at' cm t r++rest)=Yja K t r++kt rest:=by
 intro r
 induction r with
 | nil=>intro t rest ht _ hr; exact ht rest hr
 | cons u r ih =>
  intro t rest ht hu hr
  simp only [styB,Yja,Qi,List.cons_append]
  rw [ht _ (h.cw _),h.c,ih u rest (hu u (by simp)) (fun x hx=>hu x (by simp [hx])) hr]
theorem Ymj {at':GT→List UInt8} {K:GT→List Tok} {cm ar dt:List UInt8} (h:Sty cm ar dt) (a:GT) (b:List GT) (rest:List UInt8) (ha:Yfd at' K a) (hb:∀ u ∈ b,Yfd at' K u):kt (styT at' cm ar dt a b++rest)=styK K a b++kt rest:=by
 cases b with
 | nil =>
  simp only [styT,styK,Qi,List.cons_append,List.nil_append]
  rw [ha _ (h.dw _),h.d]
 | cons t r =>
  simp only [styT,styK,Qi,List.cons_append,List.nil_append]
  rw [ha _ (h.aw _),h.a,Ymi h r t _ (hb t (by simp)) (fun x hx=>hb x (by simp [hx])) (h.dw _),h.d]
theorem sty0:Sty [44] [58,45] [46] :=
 ⟨fun r=>Yex (by simp),fun r=>Zbc _ _ (by decide +kernel),fun r=>Yiy,fun r=>Zbc _ _ (by decide +kernel),fun r=>Yex (by simp),fun r=>Zbc _ _ (by decide +kernel)⟩
theorem Yfe:∀ (r:List GT) (t:GT),styB GT.text [44] t r=Zdl t r:=by
 intro r
 induction r with
 | nil=>intro t; rfl
 | cons u r ih=>intro t; simp only [styB,Zdl,ih u]; rfl
theorem Ymk (a:GT) (b:List GT):styT GT.text [44] [58,45] [46] a b=clT a b:=by
 cases b with
 | nil=>rfl
 | cons t r=>simp only [styT,clT,Yfe]; rfl
theorem Zpn {t:GT} (h:t.ok=true):Yfd GT.text ktG t:=fun r hr=>Ymg h hr
end Go.Proofs.YtlmjilpjmgjjcaaGreatDoor
namespace Go.Proofs.YtlmjilpjmgjjcaaGreatDoor
def skip:Nat→List Sym→Nat
 | 0,_=>0
 | _+1,[]=>0
 | k+1,s::r=>skip (k+s.args) r+1
theorem Zjp:∀ {a:List Sym} {j:Nat} (r:List Sym),Wf j a→skip j (a++r)=a.length:=by
 intro a
 induction a with
 | nil=>intro j r h; have h:j=0:=h; subst h; simp [skip]
 | cons s a ih =>
  intro j r h
  obtain ⟨h1,_,_,h2⟩:=h
  obtain ⟨k,rfl⟩:∃ k,j=k+1:=⟨j - 1,by omega⟩
  simp only [List.cons_append,skip,Qf]
  rw [ih r (by simpa using h2)]
theorem Yml:∀ {l:List Sym} {k:Nat} (i:Nat),Wf k l→i≤l.length→∃ k',Wf k' (l.drop i):=by
 intro l
 induction l with
 | nil=>intro k i h hi; simp at hi; subst hi; exact ⟨k,h⟩
 | cons s l ih =>
  intro k i h hi
  cases i with
  | zero=>exact ⟨k,h⟩
  | succ i =>
   obtain ⟨_,_,_,h2⟩:=h
   simp only [List.drop_succ_cons]
   exact ih i h2 (by simpa using hi)
def Zbj (l:List Sym) (i:Nat):Nat:=i+skip 1 (l.drop i)
def tmAt (l:List Sym) (i:Nat):List Sym:=(l.drop i).take (skip 1 (l.drop i))
def Zbd (l:List Sym):Nat→Nat→List Nat
 | _,0=>[]
 | p,m+1=>p::Zbd l (Zbj l p) m
def Zav (l:List Sym):Nat→Nat→Nat
 | p,0=>p
 | p,m+1=>Zav l (Zbj l p) m
theorem Zde (l:List Sym) (p m:Nat):(Zbd l p m).length=m:=by
 induction m generalizing p with
 | zero=>rfl
 | succ m ih=>simp [Zbd,ih]
theorem Zcf (l:List Sym) (p m:Nat):Zav l p (m+1)=Zbj l (Zav l p m):=by
 induction m generalizing p with
 | zero=>rfl
 | succ m ih=>rw [Zav,ih]; rfl
theorem Zcc (l:List Sym) (p m i:Nat) (hi:i<m):(Zbd l p m)[i]?=some (Zav l p i):=by
 induction m generalizing p i with
 | zero=>omega
 | succ m ih =>
  cases i with
  | zero=>rfl
  | succ i=>simp only [Zbd,List.getElem?_cons_succ,Zav]; exact ih _ _ (by omega)
theorem Zfd {l:List Sym} {k i:Nat} (h:Wf k l) (hi:i<l.length):Wf 1 (tmAt l i)∧∃ r,l.drop i=tmAt l i++r∧r=l.drop (Zbj l i)∧i<Zbj l i∧Zbj l i≤l.length∧(tmAt l i).length=skip 1 (l.drop i):=by
 obtain ⟨k',hk⟩:=Yml i h (by omega)
 have hpos:0<k':=by
  rcases Nat.eq_zero_or_pos k' with rfl | hp
  ·cases hd:l.drop i with
   | nil=>have:=congrArg List.length hd; simp at this; omega
   | cons s r=>rw [hd] at hk; obtain ⟨h1,_⟩:=hk; omega
  ·exact hp
 obtain ⟨a,b,e,ha,hb⟩:=Zjw (j:=1) (k:=k' - 1) (l:=l.drop i) (by rw [show 1+(k' - 1)=k' by omega]; exact hk)
 have hs:skip 1 (l.drop i)=a.length:=by rw [e]; exact Zjp b ha
 have ht:tmAt l i=a:=by unfold tmAt; rw [hs,e]; simp
 have hl:a.length+b.length=l.length - i:=by
  have:=congrArg List.length e
  simp at this; omega
 have ha1:=Zen ha
 refine ⟨by rw [ht]; exact ha,b,by rw [ht]; exact e,?_,by unfold Zbj; omega,by unfold Zbj; omega,by rw [ht,hs]⟩
 unfold Zbj
 rw [hs,← List.drop_drop,e]; simp
theorem Ymm {l:List Sym} {k0:Nat} (h:Wf k0 l):∀ (m:Nat) {p:Nat} {a b:List Sym},l.drop p=a++b→Wf m a→p≤l.length →
  a=((Zbd l p m).map (tmAt l)).flatten∧(∀ x ∈ Zbd l p m,p≤x∧x<p+a.length)∧Zav l p m=p+a.length:=by
 intro m
 induction m with
 | zero =>
  intro p a b e hw _
  have:a=[]:=by
   cases a with
   | nil=>rfl
   | cons s a=>obtain ⟨h1,_⟩:=hw; omega
  subst this
  exact ⟨rfl,by simp [Zbd],rfl⟩
 | succ m ih =>
  intro p a b e hw hp
  obtain ⟨a1,a2,rfl,h1,h2⟩:=Zjw (j:=1) (k:=m) (l:=a) (by rw [Nat.add_comm]; exact hw)
  have hl1:=Zen h1
  have hpl:p<l.length:=by
   have:=congrArg List.length e
   simp at this; omega
  have hs:skip 1 (l.drop p)=a1.length:=by rw [e,Qi]; exact Zjp _ h1
  have ht:tmAt l p=a1:=by unfold tmAt; rw [hs,e]; simp
  have hb:Zbj l p=p+a1.length:=by unfold Zbj; rw [hs]
  have e2:l.drop (Zbj l p)=a2++b:=by rw [hb,← List.drop_drop,e]; simp
  have hbl:Zbj l p≤l.length:=by
   have:=congrArg List.length e
   simp at this; omega
  obtain ⟨g1,g2,g3⟩:=ih e2 h2 hbl
  refine ⟨?_,?_,?_⟩
  ·simp only [Zbd,List.map_cons,List.flatten_cons,ht]
   rw [← g1]
  ·intro x hx
   simp only [Zbd,Qp] at hx
   simp only [Qg]
   rcases hx with rfl | hx
   ·omega
   ·have:=g2 x hx; omega
  ·rw [Zav,g3,hb,Qg]; omega
theorem Zjq:∀ {l:List Sym} {k i:Nat} {s:Sym},Wf k l→l[i]?=some s→(s.name=[]→s.args=0)∧(s.name≠[]→s.num=0):=by
 intro l
 induction l with
 | nil=>intro k i s _ hs; simp at hs
 | cons t l ih =>
  intro k i s h hs
  obtain ⟨_,h1,h2,h3⟩:=h
  cases i with
  | zero=>simp at hs; subst hs; exact ⟨h1,h2⟩
  | succ i=>exact ih h3 (by simpa using hs)
def Zax (l:List Sym) (i:Nat):Sym:=l.getD i ⟨[],0,0⟩
def grOf (l:List Sym):Gr:=⟨l.length,Zax l,fun i=>Zbd l (i+1) (Zax l i).args⟩
theorem Zhu {l:List Sym} {k i:Nat} (h:Wf k l) (hi:i<l.length):tmAt l i=Zax l i::((Zbd l (i+1) (Zax l i).args).map (tmAt l)).flatten∧(∀ x ∈ Zbd l (i+1) (Zax l i).args,i<x∧x<Zbj l i)∧Zav l (i+1) (Zax l i).args=Zbj l i:=by
 obtain ⟨hw,r,e,hr,hb1,hb2,hb3⟩:=Zfd h hi
 obtain ⟨s,q,e2,hq,_⟩:=Zlq hw
 have hd:l.drop i=l[i]::l.drop (i+1):=List.drop_eq_getElem_cons hi
 rw [e2] at e
 rw [hd] at e
 simp only [List.cons_append,List.cons.injEq] at e
 have hs:Zax l i=s:=by unfold Zax; simp [hi,e.1]
 obtain ⟨g1,g2,g3⟩:=Ymm h s.args e.2 hq (by omega)
 rw [e2] at hb3
 have hlen:Zbj l i=i+1+q.length:=by unfold Zbj; rw [← hb3]; simp; omega
 rw [hs]
 refine ⟨by rw [e2,← g1],fun x hx => ?_,by rw [g3,hlen]⟩
 have:=g2 x hx
 omega
theorem Zlg {a b:List Sym} (h:Wf 1 a):tmAt (a++b) 0=a:=by
 unfold tmAt; rw [List.drop_zero,Zjp b h]; simp
theorem Zjr {a b:List Sym} (h:Wf 1 b):tmAt (a++b) a.length=b:=by
 unfold tmAt
 have e:(a++b).drop a.length=b++[]:=by simp
 rw [e,Zjp [] h]; simp
theorem Yff {a b:List Sym} (ha:Wf 1 a) (hb:Wf 1 b):Lay (grOf (a++b)) (tmAt (a++b)) a b:=by
 have hw:Wf 2 (a++b):=Zfy ha hb
 refine ⟨⟨?_,?_,?_,?_⟩,?_,?_⟩
 ·intro i hi x hx
  have:=(Zhu hw hi).2.1 x hx
  obtain ⟨_,_,_,_,_,h2,_⟩:=Zfd hw hi
  show x<(a++b).length
  omega
 ·intro i hi; exact (Zde _ _ _).symm
 ·intro i hi hn
  have hs:(a++b)[i]?=some (Zax (a++b) i):=by
   have hi:i<(a++b).length:=hi
   unfold Zax; simp only [List.getD_eq_getElem?_getD]; rw [Qb hi]; rfl
  have:=(Zjq hw hs).1 hn
  show Zbd _ _ (Zax (a++b) i).args=[]
  rw [this]; rfl
 ·intro i hi hn
  have hs:(a++b)[i]?=some (Zax (a++b) i):=by
   have hi:i<(a++b).length:=hi
   unfold Zax; simp only [List.getD_eq_getElem?_getD]; rw [Qb hi]; rfl
  exact (Zjq hw hs).2 hn
 ·intro i hi; exact (Zhu hw hi).1
 ·intro i hi hn
  have hi:i<(a++b).length:=hi
  have hm:Zax (a++b) i ∈ a++b:=by
   unfold Zax; simp only [List.getD_eq_getElem?_getD]; rw [Qb hi]; exact List.getElem_mem hi
  rcases Qk.1 hm with hm | hm
  ·exact Or.inl ⟨_,hm,hn,rfl⟩
  ·exact Or.inr ⟨_,hm,hn,rfl⟩
def Zbg (l:List Sym) (i:Nat):Nat:=if (Zax l i).name=[] then l.findIdx (fun s=>s.name.isEmpty && s.num == (Zax l i).num) else i
theorem Zkn (l:List Sym) {k:Nat} (hw:Wf k l):Firsts (grOf l) (Zbg l):=by
 have key:∀ i,i<l.length→(Zax l i).name=[]→Zbg l i<l.length∧(Zax l (Zbg l i)).name=[]∧(Zax l (Zbg l i)).num=(Zax l i).num:=by
  intro i hi hn
  unfold Zbg
  rw [if_pos hn]
  have hex:∃ x ∈ l,(x.name.isEmpty && x.num == (Zax l i).num)=true:=by
   refine ⟨Zax l i,?_,by simp [hn]⟩
   unfold Zax; simp only [List.getD_eq_getElem?_getD]; rw [Qb hi]; exact List.getElem_mem hi
  have hlt:=List.findIdx_lt_length_of_exists hex
  refine ⟨hlt,?_⟩
  have:=List.findIdx_getElem (w:=hlt)
  have e:Zax l (l.findIdx (fun s=>s.name.isEmpty && s.num == (Zax l i).num))=l[l.findIdx (fun s=>s.name.isEmpty && s.num == (Zax l i).num)]:=by
   generalize l.findIdx (fun s=>s.name.isEmpty && s.num == (Zax l i).num)=z at hlt
   unfold Zax; simp only [List.getD_eq_getElem?_getD]; rw [Qb hlt]; rfl
  rw [e]
  simpa using this
 refine ⟨⟨?_,?_⟩,?_,?_,?_⟩
 ·intro i hi
  by_cases hn:(Zax l i).name=[]
  ·exact (key i hi hn).1
  ·show Zbg l i<_
   unfold Zbg; rw [if_neg hn]; exact hi
 ·intro i hi
  by_cases hn:(Zax l i).name=[]
  ·obtain ⟨h1,h2,h3⟩:=key i hi hn
   show Zbg l (Zbg l i)=Zbg l i
   have e1:Zbg l (Zbg l i)=l.findIdx (fun s=>s.name.isEmpty && s.num == (Zax l (Zbg l i)).num):=by
    generalize Zbg l i=z at h2
    unfold Zbg; rw [if_pos h2]
   have e2:Zbg l i=l.findIdx (fun s=>s.name.isEmpty && s.num == (Zax l i).num):=by unfold Zbg; rw [if_pos hn]
   rw [e1,h3,← e2]
  ·have e:Zbg l i=i:=by unfold Zbg; rw [if_neg hn]
   rw [e,e]
 ·intro i j hi hj h1 h2 e
  show Zbg l i=Zbg l j
  have h1:(Zax l i).name=[]:=h1
  have h2:(Zax l j).name=[]:=h2
  have e:(Zax l i).num=(Zax l j).num:=e
  unfold Zbg; rw [if_pos h1,if_pos h2,e]
 ·intro i hi hn
  have hn:(Zax l i).name≠[]:=hn
  show Zbg l i=i
  unfold Zbg; rw [if_neg hn]
 ·intro i hi hn
  exact (key i hi hn).2
end Go.Proofs.YtlmjilpjmgjjcaaGreatDoor
namespace Go.Proofs.YtlmjilpjmgjjcaaGreatDoor
open Go.RowKit
def symB (s t:Sym):Bool:=s.name == t.name && s.num == t.num && s.args == t.args
theorem Yfg {s t:Sym} (h:symB s t=true):s=t:=by
 unfold symB at h
 simp only [Bool.and_eq_true,beq_iff_eq] at h
 obtain ⟨⟨h1,h2⟩,h3⟩:=h
 cases s; cases t
 simp_all
theorem Ymn {s t:Sym} (h:symB s t=false):s≠t:=by
 rintro rfl
 simp [symB] at h
def Zrj:List Sym→List Sym→Option (List Sym × List Sym)
 | s::a,t::b=>if symB s t then Zrj a b else some ((s::a).take (skip 1 (s::a)),(t::b).take (skip 1 (t::b)))
 | _,_=>none
theorem Zyb {l:List Sym} {j:Nat} (h:Wf j l) (hj:0<j):Wf 1 (l.take (skip 1 l))∧l=l.take (skip 1 l)++l.drop (skip 1 l):=by
 refine ⟨?_,(List.take_append_drop _ _).symm⟩
 obtain ⟨k,rfl⟩:∃ k,j=1+k:=⟨j - 1,by omega⟩
 obtain ⟨a,b,rfl,ha,hb⟩:=Zjw h
 rw [Zjp b ha,List.take_left]
 exact ha
theorem Zpo {s:Sym} {l:List Sym}:((s::l).take (skip 1 (s::l))).head?=some s:=by simp [skip]
theorem Yav:∀ {a b:List Sym} {j:Nat} {x y:List Sym},Wf j a→Wf j b→Zrj a b=some (x,y)→Parts a b x y:=by
 intro a
 induction a with
 | nil=>intro b j x y _ _ h; simp [Zrj] at h
 | cons s a ih =>
  intro b j x y ha hb h
  cases b with
  | nil=>simp [Zrj] at h
  | cons t b =>
   unfold Zrj at h
   split at h
   ·rename_i e
    obtain rfl:=Yfg e
    obtain ⟨_,_,_,h1⟩:=ha
    obtain ⟨_,_,_,h2⟩:=hb
    obtain ⟨⟨p,ra,rb,rfl,rfl⟩,wx,wy,ne⟩:=ih h1 h2 h
    exact ⟨⟨s::p,ra,rb,by simp,by simp⟩,wx,wy,ne⟩
   ·rename_i e
    obtain ⟨rfl,rfl⟩:(s::a).take (skip 1 (s::a))=x∧(t::b).take (skip 1 (t::b))=y:=by simpa using h
    obtain ⟨w1,e1⟩:=Zyb ha ha.1
    obtain ⟨w2,e2⟩:=Zyb hb hb.1
    refine ⟨⟨[],_,_,by rw [List.nil_append]; exact e1,by rw [List.nil_append]; exact e2⟩,w1,w2,?_⟩
    rw [Zpo,Zpo]
    intro h1
    exact Ymn (by simpa using e) (by simpa using h1)
theorem Yaw:∀ {a b:List Sym} {j:Nat},Wf j a→Wf j b→Zrj a b=none→a=b:=by
 intro a
 induction a with
 | nil =>
  intro b j ha hb h
  cases b with
  | nil=>rfl
  | cons t b=>have h1:j=0:=ha; have h2:=hb.1; omega
 | cons s a ih =>
  intro b j ha hb h
  cases b with
  | nil=>have h1:j=0:=hb; have h2:=ha.1; omega
  | cons t b =>
   unfold Zrj at h
   split at h
   ·rename_i e
    obtain rfl:=Yfg e
    obtain ⟨_,_,_,h1⟩:=ha
    obtain ⟨_,_,_,h2⟩:=hb
    rw [ih h1 h2 h]
   ·simp at h
def occB (v:Nat) (l:List Sym):Bool:=l.any (fun s=>s.name.isEmpty && s.num == v)
theorem Zyc {v:Nat} {l:List Sym} (h:occB v l=true):Occ v l:=by
 unfold occB at h
 rw [List.any_eq_true] at h
 obtain ⟨s,h1,h2⟩:=h
 simp only [Bool.and_eq_true,beq_iff_eq,List.isEmpty_iff] at h2
 exact ⟨s,h1,h2.1,h2.2⟩
def sgC (bs:List (Nat × List Sym)):Nat→List Sym:=fun n=>bs.foldl (fun t b=>ap (sub1 b.1 b.2) t) (vr n)
theorem Zyd (bs:List (Nat × List Sym)) (v:Nat) (y:List Sym):sgC (bs++[(v,y)])=fun n=>ap (sub1 v y) (sgC bs n):=by
 funext n
 simp [sgC,List.foldl_append]
def fitC:Nat→List Sym→List Sym→List (Nat × List Sym)→Option (Option (List (Nat × List Sym)))
 | 0,_,_,_=>none
 | f+1,a,b,bs=>match Zrj a b with
  | none=>some (some bs)
  | some (x,y)=>match x.head?,y.head? with
   | some s,some t=>if s.name.isEmpty then (if occB s.num y then some none else fitC f (ap (sub1 s.num y) a) (ap (sub1 s.num y) b) (bs++[(s.num,y)]))
     else if t.name.isEmpty then (if occB t.num x then some none else fitC f (ap (sub1 t.num x) a) (ap (sub1 t.num x) b) (bs++[(t.num,x)]))
     else some none
   | _,_=>none
theorem Zye {x:List Sym} {s:Sym} (h:Wf 1 x) (hs:x.head?=some s) (hn:s.name.isEmpty=true):x=vr s.num:=by
 obtain ⟨s',r,rfl,_,h2⟩:=Zlq h
 simp at hs
 subst hs
 exact h2 (by simpa using hn)
theorem Ymo {a0 b0:List Sym} {j:Nat}:∀ {f:Nat} {a b:List Sym} {bs:List (Nat × List Sym)},Carr a0 b0 (sgC bs) a b→Wf j a→Wf j b →
  (fitC f a b bs=some none→NoFit a0 b0)∧(∀ bs',fitC f a b bs=some (some bs')→Mgu (sgC bs') a0 b0):=by
 intro f
 induction f with
 | zero=>intro a b bs _ _ _; exact ⟨fun h=>by simp [fitC] at h,fun _ h=>by simp [fitC] at h⟩
 | succ f ih =>
  intro a b bs hC ha hb
  unfold fitC
  cases hp:Zrj a b with
  | none =>
   refine ⟨fun h=>by simp at h,fun bs' h => ?_⟩
   simp at h
   subst h
   exact hC.done (Yaw ha hb hp)
  | some xy =>
   obtain ⟨x,y⟩:=xy
   have hP:=Yav ha hb hp
   simp only
   obtain ⟨s,r,hx,_,_⟩:=Zlq hP.wx
   obtain ⟨t,q,hy,_,_⟩:=Zlq hP.wy
   have hsx:x.head?=some s:=by rw [hx]; rfl
   have hty:y.head?=some t:=by rw [hy]; rfl
   rw [hsx,hty]
   simp only
   split
   ·rename_i e
    have hv:=Zye hP.wx hsx e
    split
    ·rename_i o
     exact ⟨fun _=>hC.none (Or.inl (Zmr hP hv (Zyc o))),fun _ h=>by simp at h⟩
    ·have hC':=hC.step (Or.inl hP) hv
     rw [← Zyd] at hC'
     exact ih hC' (Zha (Zmq hP.wy) ha) (Zha (Zmq hP.wy) hb)
   ·rename_i e
    split
    ·rename_i e2
     have hv:=Zye hP.wy hty e2
     split
     ·rename_i o
      exact ⟨fun _=>hC.none (Or.inr (Zmr hP.symm hv (Zyc o))),fun _ h=>by simp at h⟩
     ·have hC':=hC.step (Or.inr hP.symm) hv
      rw [← Zyd] at hC'
      exact ih hC' (Zha (Zmq hP.wx) ha) (Zha (Zmq hP.wx) hb)
    ·rename_i e2
     exact ⟨fun _=>hC.none (Or.inl (Zzg hP hx hy (by simpa using e) (by simpa using e2))),fun _ h=>by simp at h⟩
def tryC (n:ND) (c:Cls) (k:Nat):Option (ND × Nat):=match n.goals with
 | []=>none
 | g::gs=>match fitC 200 g.1 (ap (Zcj n.vars) c.head) [] with
  | none=>none
  | some none=>some (⟨[],[],[],[],0⟩,0)
  | some (some bs)=>if 30<(ap (sgC bs) g.1).length then some (⟨[],[],[],[],0⟩,3) else some (Zar (sgC bs) n c k g gs,Zfi (Zar (sgC bs) n c k g gs))
theorem Yjb {n:ND} {c:Cls} {k q:Nat} {ch:ND} (hn:NOk n) (hc:COk c) (h:tryC n c k=some (ch,q)):Out n c k q ch:=by
 unfold tryC at h
 split at h
 ·simp at h
 ·rename_i g gs hg
  have w1:Wf 1 g.1:=hn.wf g.1 (by unfold ND.terms; rw [hg]; simp)
  have w2:Wf 1 (ap (Zcj n.vars) c.head):=Zha (fun m=>Zqg _) hc.wfh
  have hC:=Ymo (f:=200) (bs:=[]) (j:=1) (Carr.start w1 w2) w1 w2
  refine ⟨g,gs,hg,?_⟩
  split at h
  ·simp at h
  ·rename_i e
   simp at h
   exact Or.inl ⟨h.2.symm,hC.1 e⟩
  ·rename_i bs e
   have hM:=hC.2 bs e
   split at h
   ·rename_i hl
    simp at h
    exact Or.inr (Or.inl ⟨h.2.symm,hM.small hl⟩)
   ·rename_i hl
    simp at h
    exact Or.inr (Or.inr ⟨sgC bs,hM,by omega,h.2.symm,h.1.symm⟩)
end Go.Proofs.YtlmjilpjmgjjcaaGreatDoor
