/-
  PROVED HERE: what the program's 'markEnds' does to cells that lie in memory (the conditions stand in each statement).
-/
import Derived.Test.YtlmjilpjmgjjcabGreatDoorT3
import Derived.Orders
import Derived.BigQuiet
import Derived.Deep.QuietTactic
import Derived.Deep.RegionWith
set_option linter.unusedSimpArgs false
set_option linter.unusedVariables false
set_option maxRecDepth 10000
set_option maxHeartbeats 4000000
namespace Go.Proofs.YtlmjilpjmgjjcabGreatDoor
def Zcl (s:ByteArray):Option (List Cls) :=
 if 800<s.size then none else if (Zkl (Zbh s) (Zen false)).1≠0 then none else Zjl 1000 (Zbh s) []
def Zdt (s:ByteArray):Option (List (List Sym) × Names) :=
 if 120<s.size then none else if (Zkl (Zbh s) (Zen true)).1≠0 then none else (Zdr 1000 1000 (Zbh s) [] []).map (fun q=>(q.1,q.2.2))
def Zhl:List UInt8→Names→List (List Sym)→List UInt8
 | sep,x::xs,t::ts=>sep++(x++(61::(Zbx t []++Zhl [44] xs ts)))
 | _,_,_=>[]
def Zbb (names:Names) (n:ND):List UInt8:=if names=[] then [121,101,115] else Zhl [] names (Zaw n.vals []).1
def Zek:List UInt8→List Nat→List UInt8
 | _,[]=>[]
 | sep,k::ks=>sep++(Lib.decDigits k++Zek [46] ks)
def Zis (n:ND):List UInt8:=Zek [] n.used
def figB (c:UInt8):Bool:=decide (48≤c.toNat∧c.toNat≤57)
def Zak:List UInt8→Nat × Nat
 | []=>(0,0)
 | a::r=>if figB a then (if a.toNat=48 then (0,1) else match r with
   | []=>(a.toNat - 48,1)
   | b::_=>if figB b then (10 * (a.toNat - 48)+(b.toNat - 48),2) else (a.toNat - 48,1)) else (0,0)
theorem Zev (l:List UInt8):(Zak l).2≤l.length∧(Zak l).2≤2∧(Zak l).1≤99:=by
 cases l with
 | nil=>simp [Zak]
 | cons a r =>
  simp only [Zak]
  by_cases h1:figB a
  ·rw [if_pos h1]
   have ha:a.toNat≤57:=by simp [figB] at h1; exact h1.2
   by_cases h2:a.toNat=48
   ·rw [if_pos h2]; simp
   ·rw [if_neg h2]
    cases r with
    | nil=>simp; omega
    | cons b r =>
     simp only
     by_cases h3:figB b
     ·have hb:b.toNat≤57:=by simp [figB] at h3; exact h3.2
      rw [if_pos h3]; simp; omega
     ·rw [if_neg h3]; simp; omega
  ·rw [if_neg h1]; simp
def Zdm:Nat→List UInt8→Nat→List Nat→Option (List Nat) × Nat
 | 0,_,_,_=>(none,0)
 | f+1,l,p,acc =>
  if (Zak l).2=0 then (none,p)
  else match l.drop (Zak l).2 with
   | []=>(some (acc++[(Zak l).1]),0)
   | c::r=>if c=46 then Zdm f r (p+(Zak l).2+1) (acc++[(Zak l).1]) else (none,p+(Zak l).2)
def Zcv (s:ByteArray):Option (List Nat) × Nat:=Zdm (s.size+1) s.data.toList 0 []
noncomputable def Zas (cs:List Cls):ND→List Nat→Nat→ND × Nat × Nat
 | n,[],i=>if n.goals=[] then (n,0,0) else (n,7,i)
 | n,k::ks,i=>match cs[k]? with
  | none=>(n,7,i)
  | some c=>if n.goals=[] then (n,7,i) else if (tryN n c k).2=1∨(tryN n c k).2=2 then Zas cs (tryN n c k).1 ks (i+1) else (n,7,i)
noncomputable def Zdx (p q x:ByteArray):Names × ND × Nat × Nat :=
 match Zcl p with
 | none=>([],⟨[],[],[],[],0⟩,4,0)
 | some cs=>match Zdt q with
  | none=>([],⟨[],[],[],[],0⟩,5,0)
  | some a=>if 400<x.size then ([],⟨[],[],[],[],0⟩,1,0) else match Zcv x with
   | (none,at')=>([],⟨[],[],[],[],0⟩,6,at')
   | (some ks,_)=>(a.2,Zas cs (topN a) ks 0)
noncomputable def yesN (p q x:ByteArray):List UInt8 × Nat × Nat:=if (Zdx p q x).2.2.1=0 then (Zbb (Zdx p q x).1 (Zdx p q x).2.1,0,0) else ([],(Zdx p q x).2.2.1,(Zdx p q x).2.2.2)
theorem Zmj {τ:Nat→List Sym} (hτ:Ts τ) {φ:Sym→Sym}:∀ {l:List Sym},ap τ l=l.map φ→∀ s ∈ l,s.name≠[]→φ s=s:=by
 intro l
 induction l with
 | nil=>intro _ s hs; simp at hs
 | cons t l ih =>
  intro e s hs hn
  rw [Zbw,List.map_cons] at e
  have l1:1≤(ap1 τ t).length:=by
   unfold ap1; split
   ·exact Zdy (hτ _)
   ·simp
  have l2:=Zin hτ l
  have l3:=congrArg List.length e
  simp only [Qg,Qf,Ql] at l3
  have hh:=List.append_inj (s₁:=ap1 τ t) (s₂:=[φ t]) (t₁:=ap τ l) (t₂:=l.map φ) (by simpa using e) (by simp; omega)
  rcases Qp.1 hs with rfl | hs
  ·have:=hh.1
   unfold ap1 at this
   rw [if_neg hn] at this
   simpa using this.symm
  ·exact ih hh.2 s hs hn
def offN (N:List (List UInt8)) (s:Sym):Sym:=if s.name=[]∨s.name ∈ N then s else ⟨s.name++[0],s.num,s.args⟩
theorem Yfo {N:List (List UInt8)}:∀ {l:List Sym} {k:Nat},Wf k l→Wf k (l.map (offN N)):=by
 intro l
 induction l with
 | nil=>intro k h; exact h
 | cons s l ih =>
  intro k h
  obtain ⟨h1,h2,h3,h4⟩:=h
  have e1:(offN N s).args=s.args:=by unfold offN; split <;> rfl
  have e2:(offN N s).name=[]↔s.name=[]:=by
   unfold offN; split
   ·exact Iff.rfl
   ·rename_i h; simp at h ⊢; exact h.1
  have e3:(offN N s).num=s.num:=by unfold offN; split <;> rfl
  refine ⟨h1,fun h=>by rw [e1]; exact h2 (e2.1 h),fun h=>by rw [e3]; exact h3 (fun h'=>h (e2.2 h')),?_⟩
  rw [e1]; exact ih h4
theorem Mgu.nm {σ:Nat→List Sym} {a b:List Sym} (h:Mgu σ a b) (n:Nat):∀ s ∈ σ n,s.name≠[]→∃ t ∈ a++b,t.name=s.name:=by
 intro s hs hn
 refine Classical.byContradiction (fun hno => ?_)
 have hno:∀ t ∈ a++b,t.name≠s.name:=fun t ht e=>hno ⟨t,ht,e⟩
 obtain ⟨N,hN⟩:∃ N,N=(a++b).map (·.name):=⟨_,rfl⟩
 have hθ:Ts (fun n=>(σ n).map (offN N)):=fun n=>Yfo (h.ts n)
 have key:∀ l:List Sym,(∀ t ∈ l,t.name ∈ N)→ap (fun n=>(σ n).map (offN N)) l=(ap σ l).map (offN N):=by
  intro l
  induction l with
  | nil=>intro _; rfl
  | cons t l ih =>
   intro ht
   rw [Zbw,Zbw,Qr,ih (fun u hu=>ht u (by simp [hu]))]
   congr 1
   unfold ap1
   split
   ·rfl
   ·have:offN N t=t:=by unfold offN; rw [if_pos (Or.inr (ht t (by simp)))]
    simp [this]
 have ha:=key a (fun t ht=>by rw [hN]; exact List.mem_map.2 ⟨t,by simp [ht],rfl⟩)
 have hb:=key b (fun t ht=>by rw [hN]; exact List.mem_map.2 ⟨t,by simp [ht],rfl⟩)
 have hw:=h.wide _ hθ (by rw [ha,hb,h.unif]) n
 have hf:=Zmj hθ hw s hs hn
 have hnN:¬ (s.name=[]∨s.name ∈ N):=by
  rintro (h | h)
  ·exact hn h
  ·rw [hN] at h
   obtain ⟨t,ht,e⟩:=List.mem_map.1 h
   exact hno t ht e
 unfold offN at hf
 rw [if_neg hnN] at hf
 have:=congrArg (fun s=>s.name.length) hf
 simp at this
def Shorts (l:List Sym):Prop:=∀ s ∈ l,s.name.length≤800
def NNm (n:ND):Prop:=∀ t ∈ n.terms,Shorts t
def CNm (c:Cls):Prop:=Shorts c.head∧∀ t ∈ c.body,Shorts t
theorem Zpf (n:Nat):Shorts (vr n):=fun s hs=>by simp [vr] at hs; subst hs; simp
theorem Shorts.ap {σ:Nat→List Sym} {l:List Sym} (h:Shorts l) (hσ:∀ n,Shorts (σ n)):Shorts (ap σ l):=by
 intro s hs
 simp only [YtlmjilpjmgjjcabGreatDoor.ap,List.mem_flatMap] at hs
 obtain ⟨t,ht,hs⟩:=hs
 unfold ap1 at hs
 split at hs
 ·exact hσ _ s hs
 ·simp at hs; subst hs; exact h s ht
theorem Zka (v n:Nat):Shorts (Zdb v n):=Zpf _
theorem Mgu.shorts {σ:Nat→List Sym} {a b:List Sym} (h:Mgu σ a b) (ha:Shorts a) (hb:Shorts b) (n:Nat):Shorts (σ n):=by
 intro s hs
 by_cases hn:s.name=[]
 ·rw [hn]; simp
 ·obtain ⟨t,ht,e⟩:=h.nm n s hs hn
  rw [← e]
  rcases Qk.1 ht with ht | ht
  ·exact ha t ht
  ·exact hb t ht
theorem Zyt {n:ND} {c:Cls} {k q:Nat} {ch:ND} (h:Out n c k q ch) (hq:q=1∨q=2) (hn:NNm n) (hc:CNm c):NNm ch:=by
 obtain ⟨g,gs,hg,h⟩:=h
 rcases h with ⟨rfl,_⟩ | ⟨rfl,_⟩ | ⟨σ,h1,_,_,rfl⟩
 ·omega
 ·omega
 ·have hgt:Shorts g.1:=hn g.1 (by simp [ND.terms,hg])
  have hhd:Shorts (ap (Zdb n.vars) c.head):=hc.1.ap (Zka _)
  have hσ:=h1.shorts hgt hhd
  intro t ht
  rw [Zfb] at ht
  simp only [Qk,List.mem_map] at ht
  rcases ht with ⟨u,hu,rfl⟩ | ⟨u,hu,rfl⟩ | ⟨u,hu,rfl⟩
  ·rcases hu with ⟨b,hb,rfl⟩ | ⟨x,hx,rfl⟩
   ·exact ((hc.2 b hb).ap (Zka _)).ap hσ
   ·exact (hn x.1 (by simp only [ND.terms,hg,List.map_cons,List.cons_append,Qp,Qk,List.mem_map]; exact Or.inr (Or.inl ⟨x,hx,rfl⟩))).ap hσ
  ·exact (hn u (by simp [ND.terms,hu])).ap hσ
  ·rcases hu with ⟨x,hx,rfl⟩ | hu
   ·exact (hn x.1 (by simp only [ND.terms,Qk,List.mem_map]; exact Or.inr (Or.inr ⟨x,hx,rfl⟩))).ap hσ
   ·simp at hu; subst hu; exact hgt.ap hσ
theorem Zyu:∀ (f:Nat) {l:List Sym},IsT f l→Wf 1 l:=by
 intro f
 induction f with
 | zero=>intro l h; exact h.elim
 | succ f ih =>
  intro l h
  rcases h with ⟨n,rfl⟩ | ⟨nm,ls,h1,rfl,h2⟩
  ·exact Zqy n
  ·refine ⟨by omega,fun e=>absurd e h1,fun _=>rfl,?_⟩
   have:=Zjj (fun l hl=>ih (h2 l hl))
   simpa using this
theorem Ybo:∀ (l:List Sym) (k k':Nat),scan l k=some k'→∀ i,k≤i→i<k'→Occ i l:=by
 intro l
 induction l with
 | nil=>intro k k' h i h1 h2; simp [scan] at h; omega
 | cons s l ih =>
  intro k k' h i h1 h2
  simp only [scan] at h
  have up:Occ i l→Occ i (s::l):=fun ⟨t,ht,e1,e2⟩=>⟨t,by simp [ht],e1,e2⟩
  split at h
  ·rename_i hn
   split at h
   ·exact up (ih _ _ h i h1 h2)
   ·split at h
    ·rename_i hk
     rcases Nat.lt_or_ge k i with h3 | h3
     ·exact up (ih _ _ h i h3 h2)
     ·exact ⟨s,by simp,hn,by omega⟩
    ·simp at h
  ·exact up (ih _ _ h i h1 h2)
theorem Zrm {f:Nat}:∀ {g:Nat} {ts:List Tok} {names:Names} {acc:List (List Sym)} {q},Zdr f g ts names acc=some q→acc.length<q.1.length:=by
 intro g
 induction g with
 | zero=>intro ts names acc q h; simp [Zdr] at h
 | succ g ih =>
  intro ts names acc q h
  rw [Zdr] at h
  cases hq:Zdn f ts names with
  | none=>rw [hq] at h; simp at h
  | some r =>
   rw [hq] at h
   simp only at h
   cases hr:r.2.1 with
   | nil=>rw [hr] at h; simp at h
   | cons x rest =>
    rw [hr] at h
    simp only at h
    split at h
    ·simp at h; subst h; simp
    ·have:=ih h; simp at this; omega
def Ydy (c:Cls):Prop:=∃ k1,scan c.head 0=some k1∧scan c.body.flatten k1=some c.n
theorem Zpg (ts:List Tok) (c:Cls × List Tok) (hw:Worded ts) (h:Zgd ts=some c):Ydy c.1:=by
 rw [Zgd] at h
 cases hp:Zdn 1000 ts [] with
 | none=>rw [hp] at h; simp at h
 | some r =>
  rw [hp] at h
  simp only at h
  obtain ⟨i1,i2⟩:=Zkz 1000 ts [] r hw hp
  obtain ⟨n,_,_,hn,_⟩:=Zfh 1000 ts [] r hp
  have hw1:Worded r.2.1:=by rw [hn]; exact hw.drop n
  cases hr:r.2.1 with
  | nil=>rw [hr] at h; simp at h
  | cons y ys =>
   rw [hr] at h hw1
   simp only at h
   split at h
   ·rw [Option.map_eq_some_iff] at h
    obtain ⟨q,hq,rfl⟩:=h
    obtain ⟨g1,g2,g3⟩:=Zfv 1000 r.2.2.length 1000 ys r.2.2 [] q hw1.tail (by simp) rfl hq
    exact ⟨_,i2,g2⟩
   ·simp at h
    subst h
    exact ⟨_,i2,rfl⟩
theorem Zvn:∀ (g:Nat) (ts:List Tok) (acc cs:List Cls),Worded ts→(∀ c ∈ acc,Ydy c)→Zjl g ts acc=some cs→∀ c ∈ cs,Ydy c:=by
 intro g
 induction g with
 | zero=>intro ts acc cs _ _ h; simp [Zjl] at h
 | succ g ih =>
  intro ts acc cs hw ha h
  cases ts with
  | nil=>simp [Zjl] at h
  | cons t ts =>
   rw [Zjl] at h
   split at h
   ·simp at h; subst h; exact ha
   ·cases hc:Zgd (t::ts) with
    | none=>rw [hc] at h; simp at h
    | some c =>
     rw [hc] at h
     simp only at h
     obtain ⟨_,g2⟩:=Zla _ c hw hc
     have g1:=Zpg _ c hw hc
     refine ih c.2 (acc++[c.1]) cs g2 ?_ h
     intro x hx
     simp at hx
     rcases hx with hx | rfl
     ·exact ha x hx
     ·exact g1
theorem Zph (s:ByteArray) (hs:s.size≤800) (h0:(runs s false).1=0):∃ cs,Zjl 1000 (Zbh s) []=some cs∧(runs s false).2.2.clauses=cs:=by
 obtain ⟨r1,_,r3⟩:=Zdc s false
 have hl:=Zgc s
 have hok:okk (Zbh s) (Zen false):=r1.symm.trans h0
 obtain ⟨cs,i,ex,h1,h2,h3,h4⟩:=Ybj 1000 (Zbh s) (Zen false) [] (st0 false) (by omega) (by omega) hok (Zyd _ _) rfl rfl rfl rfl ⟨rfl,rfl,rfl,rfl,rfl,rfl,rfl,rfl⟩
 rw [show (Zbh s).take i=toks s.data.toList 0 from Ydj (Zjn _ _) h2] at h4
 rw [List.nil_append] at h3
 subst h3
 refine ⟨cs,h1,?_⟩
 rw [r3 h0,h4]
 rfl
theorem Zcp {s:ByteArray} {cs:List Cls} (h:Zcl s=some cs):s.size≤800∧(runs s false).1=0∧(runs s false).2.2.clauses=cs∧(∀ c ∈ cs,COk c∧CNm c)∧cs.length≤24:=by
 unfold Zcl at h
 split at h
 ·simp at h
 ·split at h
  ·simp at h
  ·rename_i hs he
   have hs:s.size≤800:=by omega
   obtain ⟨r1,_,_⟩:=Zdc s false
   have h0:(runs s false).1=0:=by rw [r1]; omega
   obtain ⟨cs',e1,e2⟩:=Zph s hs h0
   rw [e1] at h
   simp at h
   subst h
   have hB:SB (runs s false).2.2:=(SB.start false).run h0
   have hg:=Zys 1000 (Zbh s) [] cs' (Zdl s) (by simp) e1
   have hgn:=Zvn 1000 (Zbh s) [] cs' (Zdl s) (by simp) e1
   refine ⟨hs,h0,e2,fun c hc => ?_,by rw [← e2]; exact hB.clsn⟩
   obtain ⟨g1,g2,_⟩:=hg c hc
   obtain ⟨k1,n1,n2⟩:=hgn c hc
   obtain ⟨b1,b2,b3⟩:=hB.cls c (by rw [e2]; exact hc)
   obtain ⟨c1,c2,c3⟩:=hB.cn c (by rw [e2]; exact hc)
   obtain ⟨x1,x2,x3⟩:=Zea _ _ _ n1
   obtain ⟨y1,y2,y3⟩:=Zea _ _ _ n2
   have hfl:c.body.flatten.length≤180:=by
    have key:∀ ls:List (List Sym),(∀ t ∈ ls,t.length≤30)→ls.flatten.length≤30 * ls.length:=by
     intro ls
     induction ls with
     | nil=>intro _; simp
     | cons t ts ih =>
      intro h
      have h1:=h t (by simp)
      have h2:=ih (fun y hy=>h y (by simp [hy]))
      simp only [List.flatten_cons,Qg,Qf]; omega
    have:=key c.body b2
    omega
   refine ⟨⟨Zyu 1000 g1,fun t ht=>Zyu 1000 (g2 t ht),?_,?_,by omega,b1,b2,b3⟩,fun x hx=>Qq (c1 x hx) (by omega),fun t ht x hx=>Qq (c2 t ht x hx) (by omega)⟩
   ·rintro v ⟨x,hx,e1,e2⟩
    have:=x3 x hx e1
    omega
   ·rintro t ht v ⟨x,hx,e1,e2⟩
    have:=y3 x (List.mem_flatten.2 ⟨t,ht,hx⟩) e1
    omega
theorem Zcm {s:ByteArray} {a:List (List Sym) × Names} (h:Zdt s=some a):s.size≤120∧(runs s true).1=0∧(runs s true).2.2.clauses=[⟨[],a.1,a.2⟩]∧NOk (topN a)∧NNm (topN a)∧a.1.length≤6∧a.1≠[]∧a.2.length≤121∧(∀ x ∈ a.2,x.length≤8):=by
 unfold Zdt at h
 split at h
 ·simp at h
 ·split at h
  ·simp at h
  ·rename_i hs he
   have hs:s.size≤120:=by omega
   obtain ⟨r1,_,_⟩:=Zdc s true
   have h0:(runs s true).1=0:=by rw [r1]; omega
   obtain ⟨q,e1,e2,_⟩:=Zhc s hs h0
   rw [e1] at h
   simp at h
   subst h
   have hB:SB (runs s true).2.2:=(SB.start true).run h0
   obtain ⟨g1,g2,_⟩:=Zfv 1000 0 1000 (Zbh s) [] [] q (Zdl s) (by simp) rfl e1
   obtain ⟨b1,b2,b3⟩:=hB.cls ⟨[],q.1,q.2.2⟩ (by rw [e2]; simp)
   obtain ⟨c1,c2,c3⟩:=hB.cn ⟨[],q.1,q.2.2⟩ (by rw [e2]; simp)
   obtain ⟨x1,x2,x3⟩:=Zea _ _ _ g2
   have hl:=Zgc s
   have hM:=Zkv (M:=120) 1000 (Zbh s) [] [] q (fun t ht=>Qq (Zjw s t ht) hs) (by simp) e1
   have hM1:=hM.1
   simp only [List.flatten_nil,Jt] at hM1
   simp only at b2 b3 c2 c3
   have hwf:∀ t ∈ q.1,Wf 1 t:=fun t ht=>Zyu 1000 (g1 t ht)
   have hne:q.1≠[]:=by
    intro e
    have:=Zrm e1
    rw [e] at this
    simp at this
   refine ⟨hs,h0,e2,⟨?_,?_,?_,by simp [topN],?_,by simp [topN]; omega,by simp [topN],by simp [topN],by simp [topN]; omega,by simp [topN]; omega⟩,?_,b3,hne,by simp only; omega,c3⟩
   ·intro t ht
    simp only [ND.terms,topN,List.map_map,List.map_nil,Qs,Qk,List.mem_map,Function.comp] at ht
    rcases ht with ⟨u,hu,rfl⟩ | ⟨i,_,rfl⟩
    ·exact hwf u hu
    ·exact Zqy i
   ·intro t ht v hv
    simp only [ND.terms,topN,List.map_map,List.map_nil,Qs,Qk,List.mem_map,Function.comp,List.mem_range] at ht
    show v<q.2.2.length
    rcases ht with ⟨u,hu,rfl⟩ | ⟨i,hi,rfl⟩
    ·obtain ⟨x,hx,e3,e4⟩:=hv
     have:=x3 x (List.mem_flatten.2 ⟨_,hu,hx⟩) e3
     omega
    ·have:=Zjx.1 hv; omega
   ·intro g hg
    simp only [topN,List.mem_map] at hg
    obtain ⟨t,ht,rfl⟩:=hg
    exact ⟨b2 t ht,by simp [topN]⟩
   ·intro t ht
    simp only [topN,List.mem_map,List.mem_range] at ht
    obtain ⟨i,hi,rfl⟩:=ht
    obtain ⟨x,hx,e3,e4⟩:=Ybo _ _ _ g2 i (Qm _) hi
    obtain ⟨u,hu,hxu⟩:=List.mem_flatten.1 hx
    obtain ⟨p,r,e5⟩:=List.append_of_mem hxu
    have hargs:=Zrk (hwf u hu) x hxu e3
    have ex:x=⟨[],i,0⟩:=by
     cases x
     simp only at e3 e4 hargs
     subst e3 e4 hargs
     rfl
    refine ⟨(u,0),by simp only [topN,Qs,List.mem_map]; exact ⟨u,hu,rfl⟩,p,r,?_⟩
    show u=p++vr i++r
    rw [e5,ex]; simp [vr]
   ·intro t ht
    simp only [ND.terms,topN,List.map_map,List.map_nil,Qs,Qk,List.mem_map,Function.comp] at ht
    rcases ht with ⟨u,hu,rfl⟩ | ⟨i,_,rfl⟩
    ·exact fun x hx=>Qq (c2 u hu x hx) (by omega)
    ·exact Zpf i
end Go.Proofs.YtlmjilpjmgjjcabGreatDoor
namespace Go.Proofs.YtlmjilpjmgjjcabGreatDoor
open Go.RowKit
abbrev Ext (w w':World):Prop:=Below w.heap.size w w'
section inv
variable {P:Program} {ops:Array Oper} {Q:Exit→Act→World→Prop} {md:Region.Mode}
def unl (ops:Array Oper) (L:Array Bool):Nat:=((List.range ops.size).filter (fun i => !L.getD i true)).length
theorem Zpi {α:Type} {p q:α→Bool} {l:List α} (h:∀ x ∈ l,q x=true→p x=true) {x:α} (hx:x ∈ l) (hp:p x=true) (hq:q x=false):(l.filter q).length<(l.filter p).length:=by
 induction l with
 | nil=>simp at hx
 | cons y l ih =>
  have hle:(l.filter q).length≤(l.filter p).length:=by
   clear ih hx
   induction l with
   | nil=>simp
   | cons z l ih =>
    have h1:=h z (by simp)
    have h2:=ih (fun u hu=>h u (by
     rcases Qp.1 hu with rfl | hu
     ·simp
     ·simp [hu]))
    simp only [List.filter_cons]
    split
    ·rename_i hz
     rw [if_pos (h1 hz)]; simp; omega
    ·split <;> simp <;> omega
  simp only [List.filter_cons]
  rcases Qp.1 hx with rfl | hx
  ·rw [hp,hq]; simp; omega
  ·have:=ih (fun u hu=>h u (by simp [hu])) hx
   split
   ·rename_i hy
    rw [if_pos (h y (by simp) hy)]; simp; omega
   ·split <;> simp <;> omega
theorem Zyv {L:Array Bool} {i:Nat} (hi:i<ops.size) (hl:L.getD i true=false):unl ops (L.setIfInBounds i true)<unl ops L:=by
 have hil:i<L.size:=by
  rcases Nat.lt_or_ge i L.size with h | h
  ·exact h
  ·simp [Array.getElem?_eq_none h] at hl
 refine Zpi (x:=i) (fun j _ hj => ?_) (List.mem_range.2 hi) (by simp at hl ⊢; exact hl) (by simp [hil])
 by_cases e:i=j
 ·subst e; simp [hil] at hj
 ·rw [getD_set_ne true e] at hj; exact hj
theorem Zlb {J:Array Bool→Act→World→Prop} (hs:∀ L a w i,i ∈ Region.ready md ops L→J L a w→wpOp P ops Q i (J (L.setIfInBounds i true)) a w)
  (hf:∀ L a w,Region.ready md ops L=[]→J L a w→Q .normal a w):∀ (fuel:Nat) (L:Array Bool) (a:Act) (w:World),unl ops L≤fuel→J L a w→wpAny P md ops Q fuel L a w:=by
 intro fuel
 induction fuel with
 | zero =>
  intro L a w hu hJ
  have hr:Region.ready md ops L=[]:=by
   cases h:Region.ready md ops L with
   | nil=>rfl
   | cons i r =>
    have hi:i ∈ Region.ready md ops L:=by rw [h]; simp
    obtain ⟨h0,o,ho,_⟩:=mem_ready.1 hi
    have:=Zyv (ops:=ops) (Array.getElem?_eq_some_iff.1 ho).1 h0
    omega
  exact ⟨hr,hf L a w hr hJ⟩
 | succ fuel ih =>
  intro L a w hu hJ
  refine ⟨fun hr=>hf L a w hr hJ,fun i hi=>wpOp_mono (fun a' w' h=>ih _ a' w' ?_ h) (hs L a w i hi hJ)⟩
  obtain ⟨h0,o,ho,_⟩:=mem_ready.1 hi
  have:=Zyv (ops:=ops) (Array.getElem?_eq_some_iff.1 ho).1 h0
  omega
end inv
inductive Kd where
 | pur (c:Value)
 | post (g:Value→Value)
 | cal
 | alo (t:TypeId) (z:Array Value) (s:Nat) (cs:Value→Array Value)
 | sto (i:Nat)
def Kd.val (vc:Value) (β:Nat→Nat) (i:Nat):Kd→Value
 | .pur c=>c
 | .post g=>g vc
 | .cal=>vc
 | .alo .. => .pointer (some ⟨β i,0,none⟩)
 | .sto _=>undef
def pa (a0:Act) (vc:Value) (β:Nat→Nat) (lst:Nat→Bool):Nat→List Oper→List Kd→Act
 | _,[],_=>a0
 | _,_,[]=>a0
 | k,o::os,q::qs=>if lst k then (pa a0 vc β lst (k+1) os qs).put o.dst (q.val vc β k) else pa a0 vc β lst (k+1) os qs
abbrev paAll (a0:Act) (ops:List Oper) (kd:List Kd) (vc:Value) (β:Nat→Nat):Act:=pa a0 vc β (fun _=>true) 0 ops kd
def Zdd:Kd→Bool
 | .post _=>true
 | .sto _=>true
 | _=>false
def Zeg:Kd→Bool
 | .post _=>true
 | .cal=>true
 | _=>false
def Zdh (o:Oper) (j:Nat):Bool:=o.after.any fun e=>Region.binds .any e && e.on == j
def Zhd (ops:List Oper) (kd:List Kd) (ic:Nat):Bool :=
 ops.length == kd.length &&
 (List.range ops.length).all fun i=>match ops[i]?,kd[i]? with
  | some o,some q =>
   o.guard.isNone && (match o.op with | .select .. => false | _=>true) &&
   (o.after.all fun e => !Region.binds .any e || e.on<i) &&
   ((List.range ops.length).all fun j=>match ops[j]? with
    | some p=>match p.dst with
     | some d=>((j == i) || (o.dst != some d)) && (!(o.looksAt ops.toArray).contains d || Zdh o j)
     | none=>true
    | none=>true) &&
   (match q with
    | .pur _=>true
    | .cal=>i == ic
    | .post _=>(List.range i).any fun j=>Zdh o j && (match kd[j]? with | some r=>Zeg r | none=>false)
    | .alo _ _ s _=>match kd[s]? with | some (.sto k)=>k == i | _=>false
    | .sto k=>o.dst.isNone && Zdh o k && ((List.range i).any fun j=>Zdh o j && (match kd[j]? with | some r=>Zeg r | none=>false)) && (match kd[k]? with | some (.alo _ _ s _)=>s == i | _=>false))
  | _,_=>false
theorem Zew {a0:Act} {vc vc':Value} {β β':Nat→Nat} {lst lst':Nat→Bool}:∀ {ops:List Oper} {kd:List Kd} {k:Nat},(∀ j q,kd[j]?=some q→lst (k+j)=lst' (k+j)∧(lst (k+j)=true→q.val vc β (k+j)=q.val vc' β' (k+j))) →
  pa a0 vc β lst k ops kd=pa a0 vc' β' lst' k ops kd:=by
 intro ops
 induction ops with
 | nil=>intro kd k _; simp [pa]
 | cons o os ih =>
  intro kd k h
  cases kd with
  | nil=>simp [pa]
  | cons q qs =>
   have h0:=h 0 q rfl
   simp only [Nat.add_zero] at h0
   have ih':=ih (kd:=qs) (k:=k+1) (fun j r hr=>by
    have:=h (j+1) r (by simpa using hr)
    have e:k+1+j=k+(j+1):=by omega
    rw [e]; exact this)
   rw [pa,pa,ih',← h0.1]
   split
   ·rename_i hk; rw [h0.2 hk]
   ·rfl
theorem Zrn {a0:Act} {vc:Value} {β:Nat→Nat} {lst:Nat→Bool} {x:Operand}:∀ {ops:List Oper} {kd:List Kd} {k:Nat},(∀ j o,ops[j]?=some o→lst (k+j)=false→∀ d,o.dst=some d→x ≠ .tmp d) →
  (pa a0 vc β lst k ops kd).eval x=(pa a0 vc β (fun _=>true) k ops kd).eval x:=by
 intro ops
 induction ops with
 | nil=>intro kd k _; simp [pa]
 | cons o os ih =>
  intro kd k h
  cases kd with
  | nil=>simp [pa]
  | cons q qs =>
   have ih':=ih (kd:=qs) (k:=k+1) (fun j r hr hl=>by
    have e:k+1+j=k+(j+1):=by omega
    rw [e] at hl
    exact h (j+1) r (by simpa using hr) hl)
   rw [pa,pa]
   simp only [if_true]
   by_cases hx:∃ d,o.dst=some d∧x = .tmp d
   ·obtain ⟨d,hd,rfl⟩:=hx
    cases hk:lst k
    ·exact absurd rfl (h 0 o rfl hk d hd)
    ·simp only [if_true]
     rw [hd]
     have hsz:∀ (lst':Nat→Bool) (k':Nat) (os':List Oper) (qs':List Kd),(pa a0 vc β lst' k' os' qs').tmps.size=a0.tmps.size:=by
      intro lst' k' os'
      induction os' generalizing k' with
      | nil=>intro qs'; simp [pa]
      | cons o' os' ih2 =>
       intro qs'
       cases qs' with
       | nil=>simp [pa]
       | cons q' qs' =>
        rw [pa]
        split
        ·cases o'.dst <;> simp [Act.put,ih2]
        ·exact ih2 _ _
     simp only [Act.eval,Act.put,Array.getD_eq_getD_getElem?]
     rcases Nat.lt_or_ge d a0.tmps.size with hd' | hd'
     ·rw [Array.getElem?_setIfInBounds_self_of_lt (by rw [hsz]; exact hd'),Array.getElem?_setIfInBounds_self_of_lt (by rw [hsz]; exact hd')]
     ·rw [Array.getElem?_eq_none (by simp [hsz]; omega),Array.getElem?_eq_none (by simp [hsz]; omega)]
   ·have hne:∀ d,o.dst=some d→x ≠ .tmp d:=fun d hd e=>hx ⟨d,hd,e⟩
    rw [Act.eval_put hne]
    split
    ·rw [Act.eval_put hne]; exact ih'
    ·exact ih'
theorem Zyw {a0:Act} {vc:Value} {β:Nat→Nat} {lst:Nat→Bool}:∀ {ops:List Oper} {kd:List Kd} {k i:Nat} {o:Oper} {q:Kd},ops[i]?=some o→kd[i]?=some q→lst (k+i)=false →
  (∀ j p d,ops[j]?=some p→p.dst=some d→j=i∨o.dst≠some d)→pa a0 vc β (fun j=>lst j || j == k+i) k ops kd=(pa a0 vc β lst k ops kd).put o.dst (q.val vc β (k+i)):=by
 intro ops
 induction ops with
 | nil=>intro kd k i o q h; simp at h
 | cons p os ih =>
  intro kd k i o q ho hq hl hd
  cases kd with
  | nil=>simp at hq
  | cons r qs =>
   cases i with
   | zero =>
    simp at ho hq
    subst ho hq
    simp only [Nat.add_zero] at hl ⊢
    rw [pa,pa]
    simp only [hl,Bool.false_or,BEq.rfl,if_true,Bool.false_eq_true,if_false]
    congr 1
    refine Zew (fun j s hs=>⟨?_,fun _=>rfl⟩)
    have:(k+1+j == k)=false:=by rw [Qu]; omega
    simp [this]
   | succ i =>
    have e:k+(i+1)=k+1+i:=by omega
    have ih':=ih (kd:=qs) (k:=k+1) (i:=i) (o:=o) (q:=q) (by simpa using ho) (by simpa using hq) (by rw [← e]; exact hl) (fun j p' d hp hd'=>by
     rcases hd (j+1) p' d (by simpa using hp) hd' with h | h
     ·exact Or.inl (by omega)
     ·exact Or.inr h)
    rw [e]
    rw [pa,pa,ih']
    have hk:(k == k+1+i)=false:=by rw [Qu]; omega
    simp only [hk,Bool.or_false]
    split
    ·refine Act.put_comm _ _ _ (fun d hd' e' => ?_)
     rcases hd 0 p d rfl e' with h | h
     ·omega
     ·exact h hd'
    ·rfl
def Ob (P:Program) (kd:List Kd) (w0:World) (FA:Value→(Nat→Nat)→Act) (R:(Nat→Prop)→Value→World→Prop) (f:FuncId) (args:Array Value) (o:Oper):Kd→Prop
 | .pur c=>∀ vc β w,Ext w0 w→(execOp (FA vc β).eval o).run P w = .ok (.value c) w
 | .post g=>∀ vc β X w,R X vc w→(execOp (FA vc β).eval o).run P w = .ok (.value (g vc)) w
 | .cal=>∀ vc β w,(execOp (FA vc β).eval o).run P w = .ok (.enter f args) w
 | .alo t z _ _=>∀ vc β w,(execOp (FA vc β).eval o).run P w = .ok (.value (.pointer (some ⟨w.heap.size,0,none⟩))) (w.alloc (.cells z t))
 | .sto i=>∀ vc β X w t z s cs,kd[i]?=some (.alo t z s cs)→R X vc w→w.heap[β i]?=some (.cells z t (0,0)) →
   ∃ w',(execOp (FA vc β).eval o).run P w = .ok .skip w'∧w'.heap[β i]?=some (.cells (cs vc) t (0,0))∧Kept (fun k=>k=β i) w w'
def AllOb (P:Program) (kd:List Kd) (w0:World) (FA:Value→(Nat→Nat)→Act) (R:(Nat→Prop)→Value→World→Prop) (f:FuncId) (args:Array Value):List Oper→List Kd→Prop
 | o::os,q::qs=>Ob P kd w0 FA R f args o q∧AllOb P kd w0 FA R f args os qs
 | _,_=>True
theorem AllOb.at {P:Program} {kd:List Kd} {w0:World} {FA:Value→(Nat→Nat)→Act} {R:(Nat→Prop)→Value→World→Prop} {f:FuncId} {args:Array Value}:∀ {ops:List Oper} {ks:List Kd},AllOb P kd w0 FA R f args ops ks →
  ∀ {i:Nat} {o:Oper} {q:Kd},ops[i]?=some o→ks[i]?=some q→Ob P kd w0 FA R f args o q:=by
 intro ops
 induction ops with
 | nil=>intro ks _ i o q h; simp at h
 | cons p os ih =>
  intro ks h i o q ho hq
  cases ks with
  | nil=>simp at hq
  | cons r qs =>
   cases i with
   | zero=>simp at ho hq; subst ho hq; exact h.1
   | succ i=>exact ih h.2 (by simpa using ho) (by simpa using hq)
def Zhe (kd:List Kd) (β:Nat→Nat) (lst:Nat→Bool):Nat→Prop:=fun k=>∃ i t z s cs,kd[i]?=some (.alo t z s cs)∧lst i=true∧k=β i
structure Plan (P:Program) (ops:List Oper) (kd:List Kd) (ic:Nat) (a0:Act) (w0:World) (R:(Nat→Prop)→Value→World→Prop) (L:Array Bool) (a:Act) (w:World):Prop where
 size:L.size=ops.length
 ext:Ext w0 w
 st:∃ vc β,a=pa a0 vc β (fun j=>L.getD j false) 0 ops kd∧(L.getD ic false=true→R (Zhe kd β (fun j=>L.getD j false)) vc w) ∧
  (∀ (i:Nat) q,kd[i]?=some q→L.getD i false=true→Zdd q=true→L.getD ic false=true) ∧
  (∀ (i:Nat) t z s cs,kd[i]?=some (.alo t z s cs)→L.getD i false=true→w0.heap.size≤β i∧w.heap[β i]?=some (.cells (if L.getD s false then cs vc else z) t (0,0))) ∧
  (∀ (i j:Nat) t z s cs t' z' s' cs',kd[i]?=some (.alo t z s cs)→kd[j]?=some (.alo t' z' s' cs')→L.getD i false=true→L.getD j false=true→i≠j→β i≠β j) ∧
  (∀ (i k:Nat),kd[i]?=some (.sto k)→L.getD i false=true→L.getD k false=true)
theorem Zic {L:Array Bool} {i:Nat} (hi:i<L.size) (j:Nat):(L.setIfInBounds i true).getD j false=(L.getD j false || j == i):=by
 by_cases e:i=j
 ·subst e; simp [hi]
 ·rw [getD_set_ne false e]
  have:(j == i)=false:=by rw [Qu]; omega
  simp [this]
structure FitsAt (ops:List Oper) (kd:List Kd) (ic i:Nat) (o:Oper) (q:Kd):Prop where
 gd:o.guard=none
 sel:∀ cs b,o.op ≠ .select cs b
 low:∀ e ∈ o.after,Region.binds .any e=true→e.on<i
 dst:∀ j p d,ops[j]?=some p→p.dst=some d→j=i∨o.dst≠some d
 look:∀ j p d,ops[j]?=some p→p.dst=some d→d ∈ o.looksAt ops.toArray→Zdh o j=true
 cal:q = .cal→i=ic
 post:Zdd q=true→∃ j r,Zdh o j=true∧kd[j]?=some r∧Zeg r=true
 alo:∀ t z s cs,q = .alo t z s cs→kd[s]?=some (.sto i)
 sto:∀ k,q = .sto k→o.dst=none∧Zdh o k=true∧∃ t z cs,kd[k]?=some (.alo t z i cs)
theorem Znp {ops:List Oper} {kd:List Kd} {ic:Nat} (h:Zhd ops kd ic=true) {i:Nat} {o:Oper} (ho:ops[i]?=some o):∃ q,kd[i]?=some q∧FitsAt ops kd ic i o q:=by
 unfold Zhd at h
 simp only [Bool.and_eq_true,List.all_eq_true,List.mem_range,beq_iff_eq] at h
 obtain ⟨hl,h⟩:=h
 have hi:=(Qa.1 ho).1
 have h:=h i hi
 rw [ho] at h
 cases hq:kd[i]? with
 | none=>rw [hq] at h; simp at h
 | some q =>
  rw [hq] at h
  simp only [Bool.and_eq_true,List.all_eq_true,List.mem_range] at h
  obtain ⟨⟨⟨⟨h1,h2⟩,h3⟩,h4⟩,h5⟩:=h
  refine ⟨q,rfl,?_,?_,?_,?_,?_,?_,?_,?_,?_⟩
  ·simpa using h1
  ·intro cs b e; rw [e] at h2; simp at h2
  ·intro e he hb
   have:=Array.all_eq_true_iff_forall_mem.1 h3 e he
   simpa [hb] using this
  ·intro j p d hp hd
   have:=h4 j (Qa.1 hp).1
   rw [hp] at this
   simp only [hd,Bool.and_eq_true,Bool.or_eq_true,beq_iff_eq,bne_iff_ne] at this
   exact this.1
  ·intro j p d hp hd hm
   have:=h4 j (Qa.1 hp).1
   rw [hp] at this
   simp only [hd,Bool.and_eq_true,Bool.or_eq_true,beq_iff_eq,bne_iff_ne] at this
   rcases this.2 with h | h
   ·simp [hm] at h
   ·exact h
  ·intro e; subst e; simpa using h5
  ·intro hp
   cases q with
   | post g =>
    simp only [List.any_eq_true,List.mem_range,Bool.and_eq_true] at h5
    obtain ⟨j,_,h6,h7⟩:=h5
    cases hr:kd[j]? with
    | none=>rw [hr] at h7; simp at h7
    | some r=>rw [hr] at h7; exact ⟨j,r,h6,hr,h7⟩
   | sto k =>
    simp only [List.any_eq_true,List.mem_range,Bool.and_eq_true] at h5
    obtain ⟨⟨_,j,_,h6,h7⟩,_⟩:=h5
    cases hr:kd[j]? with
    | none=>rw [hr] at h7; simp at h7
    | some r=>rw [hr] at h7; exact ⟨j,r,h6,hr,h7⟩
   | _=>simp [Zdd] at hp
  ·intro t z s cs e
   subst e
   simp only at h5
   split at h5
   ·rename_i k hk; simp at h5; subst h5; exact hk
   ·simp at h5
  ·intro k e
   subst e
   simp only [List.any_eq_true,List.mem_range,Bool.and_eq_true] at h5
   obtain ⟨⟨⟨h6,h7⟩,_⟩,h8⟩:=h5
   refine ⟨by simpa using h6,h7,?_⟩
   split at h8
   ·rename_i t z s cs hk; simp at h8; subst h8; exact ⟨t,z,cs,hk⟩
   ·simp at h8
theorem Zby {ops:List Oper} {L:Array Bool} {i j:Nat} {o:Oper} (hr:i ∈ Region.ready .any ops.toArray L) (ho:ops[i]?=some o) (hw:Zdh o j=true):L.getD j false=true:=by
 obtain ⟨_,o',ho',h⟩:=mem_ready.1 hr
 have:o'=o:=by simpa [ho] using ho'.symm
 subst this
 obtain ⟨e,he,hb⟩:=Array.any_eq_true'.1 hw
 simp only [Bool.and_eq_true,beq_iff_eq] at hb
 rw [← hb.2]
 exact h e he hb.1
theorem Zvo {ops:List Oper} {kd:List Kd} {ic:Nat} (hfit:Zhd ops kd ic=true) {L:Array Bool} (hs:L.size=ops.length) (hr:Region.ready .any ops.toArray L=[]):∀ i,i<ops.length→L.getD i false=true:=by
 intro i
 induction i using Nat.strongRecOn with
 | _ i ih =>
  intro hi
  cases hl:L.getD i false with
  | true=>rfl
  | false =>
   exfalso
   have ho:ops[i]?=some ops[i]:=Qb hi
   obtain ⟨q,hq,hF⟩:=Znp hfit ho
   have:i ∈ Region.ready .any ops.toArray L:=by
    refine mem_ready.2 ⟨?_,ops[i],by simp,fun e he hb=>ih e.on (hF.low e he hb) (by have:=hF.low e he hb; omega)⟩
    have hi':i<L.size:=by omega
    simp [hi'] at hl ⊢
    exact hl
   rw [hr] at this
   simp at this
theorem Zpj {P:Program} {ops:List Oper} {id:Nat} {Q:Exit→Act→World→Prop} {a0:Act} {w:World} (hm:P.follows .mixedOrders=true) (kd:List Kd) (ic:Nat) (hfit:Zhd ops kd ic=true)
  (R:(Nat→Prop)→Value→World→Prop) (f:FuncId) (args:Array Value)
  (hR:∀ X X' v u u',R X v u→(∀ k,k<u.heap.size→¬ X k→u'.heap[k]?=u.heap[k]?)→u.heap.size≤u'.heap.size→(∀ k,k<u.heap.size→X' k→X k)→R X' v u')
  (hC:∀ X u,Ext w.drew u→(∀ k,X k→w.heap.size≤k∧k<u.heap.size∧∃ (i:Nat) (t:TypeId) (z:Array Value) (s:Nat) (cs:Value→Array Value) (cl:Array Value),kd[i]?=some (.alo t z s cs)∧u.heap[k]?=some (.cells cl t (0,0)))→Calls P f args u (fun e u'=>∃ v,e = .returned v∧Ext u u'∧R X v u'))
  (hob:AllOb P kd w.drew (paAll a0 ops kd) R f args ops kd)
  (hcal:kd[ic]?=some .cal) (hil:ic<ops.length)
  (hQ:∀ vc β u,Ext w.drew u→R (Zhe kd β (fun _=>true)) vc u→(∀ (i:Nat) t z s cs,kd[i]?=some (.alo t z s cs)→w.heap.size≤β i∧u.heap[β i]?=some (.cells (cs vc) t (0,0))) →
   (∀ (i j:Nat) t z s cs t' z' s' cs',kd[i]?=some (.alo t z s cs)→kd[j]?=some (.alo t' z' s' cs')→i≠j→β i≠β j)→Q .normal (paAll a0 ops kd vc β) u) :
  (Code.region id ops.toArray true).wp P Q a0 w:=by
 have hlen:ops.length=kd.length:=by
  unfold Zhd at hfit
  simp only [Bool.and_eq_true,beq_iff_eq] at hfit
  exact hfit.1
 refine wp_region_any hm (Zlb (J:=Plan P ops kd ic a0 w.drew R) ?_ ?_ _ _ _ _ ?_ ?_)
 ·intro L a u i hr hJ
  obtain ⟨hsz,hext,vc,β,rfl,hcR,hpost,hbox,hdist,hsto⟩:=hJ
  obtain ⟨h0,o,ho',_⟩:=mem_ready.1 hr
  have ho:ops[i]?=some o:=by simpa using ho'
  have hi:i<ops.length:=(Qa.1 ho).1
  have hil:i<L.size:=by omega
  have hun:L.getD i false=false:=by simp [hil] at h0 ⊢; exact h0
  obtain ⟨q,hq,hF⟩:=Znp hfit ho
  have hOb:=hob.at ho hq
  have hexec:execOp (pa a0 vc β (fun j=>L.getD j false) 0 ops kd).eval o=execOp (paAll a0 ops kd vc β).eval o:=by
   refine execOp_congr o hF.sel (fun x hx=>Zrn (fun j p hp hl d hd e => ?_))
   subst e
   have hw:=hF.look j p d hp hd (List.mem_append_left _ (List.mem_filterMap.2 ⟨.tmp d,by simpa using hx,rfl⟩))
   have:=Zby hr ho hw
   simp only [Nat.zero_add] at hl
   rw [hl] at this
   simp at this
  have hwant:Region.wanted o (yielded ops.toArray (pa a0 vc β (fun j=>L.getD j false) 0 ops kd).tmps)=true:=by simp [Region.wanted,hF.gd]
  have hL:=Zic hil
  have hput:∀ vc' β',(∀ j r,kd[j]?=some r→L.getD j false=true→r.val vc β j=r.val vc' β' j) →
    (pa a0 vc β (fun j=>L.getD j false) 0 ops kd).put o.dst (q.val vc' β' i)=pa a0 vc' β' (fun j=>(L.setIfInBounds i true).getD j false) 0 ops kd:=by
   intro vc' β' hv
   have e1:pa a0 vc β (fun j=>L.getD j false) 0 ops kd=pa a0 vc' β' (fun j=>L.getD j false) 0 ops kd:=Zew (fun j r hr'=>by
    simp only [Nat.zero_add]
    exact ⟨trivial,fun hl=>hv j r hr' hl⟩)
   rw [e1]
   have e2:=Zyw (a0:=a0) (vc:=vc') (β:=β') (lst:=fun j=>L.getD j false) (k:=0) ho hq (by simpa using hun) hF.dst
   simp only [Nat.zero_add] at e2
   rw [← e2]
   exact Zew (fun j r hr'=>⟨by simp only [Nat.zero_add,hL],fun _=>rfl⟩)
  have hicn:∀ r,kd[ic]?=some r→r = .cal:=fun r h=>by rw [hcal] at h; exact (Option.some.inj h).symm
  have hold:∀ j,L.getD j false=true→(L.setIfInBounds i true).getD j false=true:=fun j h=>by rw [hL,h]; rfl
  have hnew:∀ j,j≠i→(L.setIfInBounds i true).getD j false=L.getD j false:=fun j h=>by
   rw [hL]
   have:(j == i)=false:=by rw [Qu]; exact h
   simp [this]
  unfold wpOp
  simp only [ho']
  rw [if_pos hwant]
  refine Or.inl ?_
  unfold Oper.wp
  rw [hexec]
  have hpl:∀ (i':Nat) q',kd[i']?=some q'→(L.setIfInBounds i true).getD i' false=true→Zdd q'=true→i'≠i→(L.setIfInBounds i true).getD ic false=true:=fun i' q' h1 h2 h3 hne =>
   hold _ (hpost i' q' h1 (by rw [hnew i' hne] at h2; exact h2) h3)
  have hkat:∀ {i':Nat} {q':Kd},kd[i']?=some q'→∃ o',FitsAt ops kd ic i' o' q':=fun {i' q'} h1=>by
   obtain ⟨q2,hq2,hF2⟩:=Znp hfit (Qb (l:=ops) (i:=i') (by have:=(Qa.1 h1).1; omega))
   rw [h1] at hq2; simp at hq2; subst hq2
   exact ⟨_,hF2⟩
  have hne:∀ {i':Nat} {q':Kd},kd[i']?=some q'→q'≠q→i'≠i:=fun {i' q'} h1 h2 e=>by
   subst e; rw [hq] at h1; exact h2 (Option.some.inj h1).symm
  have hvars:(∀ t z s cs,q ≠ .alo t z s cs)→∀ k,Zhe kd β (fun j=>(L.setIfInBounds i true).getD j false) k→Zhe kd β (fun j=>L.getD j false) k:=by
   rintro hna k ⟨i',t,z,s,cs,h1,h2,rfl⟩
   have:i'≠i:=hne h1 (fun e=>hna t z s cs e.symm)
   exact ⟨i',t,z,s,cs,h1,(hnew i' this).symm.trans h2,rfl⟩
  have hdist':(∀ t z s cs,q ≠ .alo t z s cs)→∀ (i' j':Nat) t z s cs t' z' s' cs',kd[i']?=some (.alo t z s cs)→kd[j']?=some (.alo t' z' s' cs')→(L.setIfInBounds i true).getD i' false=true→(L.setIfInBounds i true).getD j' false=true→i'≠j'→β i'≠β j':=by
   intro hna i' j' t z s cs t' z' s' cs' h1 h2 h3 h4
   rw [hnew i' (hne h1 (fun e=>hna _ _ _ _ e.symm))] at h3
   rw [hnew j' (hne h2 (fun e=>hna _ _ _ _ e.symm))] at h4
   exact hdist i' j' t z s cs t' z' s' cs' h1 h2 h3 h4
  have hbox':(∀ t z s cs,q ≠ .alo t z s cs)→(∀ k,q ≠ .sto k)→∀ (i':Nat) t z s cs,kd[i']?=some (.alo t z s cs)→(L.setIfInBounds i true).getD i' false=true→w.drew.heap.size≤β i'∧u.heap[β i']?=some (.cells (if (L.setIfInBounds i true).getD s false then cs vc else z) t (0,0)):=by
   intro hna hns i' t z s cs h1 h2
   obtain ⟨o',hF'⟩:=hkat h1
   have hs:s≠i:=hne (hF'.alo t z s cs rfl) (fun e=>hns _ e.symm)
   rw [hnew s hs]
   exact hbox i' t z s cs h1 ((hnew i' (hne h1 (fun e=>hna _ _ _ _ e.symm))).symm.trans h2)
  have hsto':(∀ k,q ≠ .sto k)→∀ (i' k:Nat),kd[i']?=some (.sto k)→(L.setIfInBounds i true).getD i' false=true→(L.setIfInBounds i true).getD k false=true:=fun hns i' k h1 h2 =>
   hold _ (hsto i' k h1 ((hnew i' (hne h1 (fun e=>hns _ e.symm))).symm.trans h2))
  have hpost':Zdd q=false→∀ (i':Nat) q',kd[i']?=some q'→(L.setIfInBounds i true).getD i' false=true→Zdd q'=true→(L.setIfInBounds i true).getD ic false=true:=fun hp i' q' h1 h2 h3 =>
   hpl i' q' h1 h2 h3 (hne h1 (fun e=>by rw [e,hp] at h3; simp at h3))
  have hcl:Zdd q=true→L.getD ic false=true:=fun hp=>by
   obtain ⟨j,r,h1,h2,h3⟩:=hF.post hp
   have hj:=Zby hr ho h1
   cases r with
   | post g=>exact hpost j _ h2 hj rfl
   | cal =>
    obtain ⟨o',hF'⟩:=hkat h2
    have:=hF'.cal rfl
    rw [← this]; exact hj
   | _=>simp [Zeg] at h3
  cases q with
  | pur c =>
   rw [hOb vc β u hext]
   have hic:ic≠i:=hne hcal (by simp)
   refine ⟨by simpa using hsz,hext,vc,β,hput vc β (fun _ _ _ _=>rfl),?_,hpost' rfl,hbox' (by simp) (by simp),hdist' (by simp),hsto' (by simp)⟩
   intro h
   rw [hnew ic hic] at h
   exact hR _ _ vc u u (hcR h) (fun _ _ _=>rfl) (Qe _) (fun k _=>hvars (by simp) k)
  | post g =>
   have hic:=hcl rfl
   rw [hOb vc β _ u (hcR hic)]
   refine ⟨by simpa using hsz,hext,vc,β,hput vc β (fun _ _ _ _=>rfl),?_,fun i' q' _ _ _=>hold _ hic,hbox' (by simp) (by simp),hdist' (by simp),hsto' (by simp)⟩
   intro h
   exact hR _ _ vc u u (hcR hic) (fun _ _ _=>rfl) (Qe _) (fun k _=>hvars (by simp) k)
  | cal =>
   have hie:=hF.cal rfl
   rw [hOb vc β u]
   refine (hC (Zhe kd β (fun j=>L.getD j false)) u hext ?_).mono ?_
   ·rintro k ⟨i',t,z,s,cs,h1,h2,rfl⟩
    have:=hbox i' t z s cs h1 h2
    exact ⟨this.1,(Array.getElem?_eq_some_iff.1 this.2).1,i',t,z,s,cs,_,h1,this.2⟩
   ·rintro e u' ⟨v,rfl,he,hr'⟩
    refine ⟨by simpa using hsz,hext.trans (he.mono hext.size),v,β,hput v β ?_,?_,?_,?_,hdist' (by simp),hsto' (by simp)⟩
    ·intro j r h1 h2
     cases r with
     | post g =>
      have:=hpost j _ h1 h2 rfl
      rw [← hie,hun] at this; simp at this
     | cal =>
      obtain ⟨o',hF'⟩:=hkat h1
      have:=hF'.cal rfl
      rw [this,← hie,hun] at h2; simp at h2
     | _=>rfl
    ·intro _
     exact hR _ _ v u' u' hr' (fun _ _ _=>rfl) (Qe _) (fun k _=>hvars (by simp) k)
    ·intro i' q' _ _ _
     rw [← hie,hL]; simp
    ·intro i' t z s cs h1 h2
     have hi':=hne h1 (by simp)
     have hb:=hbox i' t z s cs h1 ((hnew i' hi').symm.trans h2)
     refine ⟨hb.1,(he.block _ (Array.getElem?_eq_some_iff.1 hb.2).1).trans ?_⟩
     obtain ⟨o',hF'⟩:=hkat h1
     have hks:=hF'.alo t z s cs rfl
     have hs:s≠i:=hne hks (by simp)
     have hsl:L.getD s false=false:=by
      cases hsl:L.getD s false with
      | false=>rfl
      | true =>
       have:=hpost s _ hks hsl rfl
       rw [← hie,hun] at this; simp at this
     rw [hnew s hs,hsl]
     rw [hsl] at hb
     exact hb.2
  | alo t z s cs =>
   have hic:ic≠i:=hne hcal (by simp)
   rw [hOb vc β u]
   have hkat':=hF.alo t z s cs rfl
   have hs:s≠i:=hne hkat' (by simp)
   have hsl:L.getD s false=false:=by
    cases hsl:L.getD s false with
    | false=>rfl
    | true =>
     have:=hsto s i hkat' hsl
     rw [hun] at this; simp at this
   have hβ:∀ j,j≠i→(fun j=>if j=i then u.heap.size else β j) j=β j:=fun j h=>by simp [h]
   have hβi:(fun j=>if j=i then u.heap.size else β j) i=u.heap.size:=by simp
   have hp:=hput vc (fun j=>if j=i then u.heap.size else β j) (fun j r h1 h2=>by
    have hj:j≠i:=fun e=>by rw [e,hun] at h2; simp at h2
    cases r with
    | alo=>simp only [Kd.val]; rw [if_neg hj]
    | _=>rfl)
   simp only [Kd.val,if_true] at hp
   have hlt:∀ (i':Nat) t z s cs,kd[i']?=some (.alo t z s cs)→L.getD i' false=true→β i'<u.heap.size:=fun i' t z s cs h1 h2=>(Array.getElem?_eq_some_iff.1 (hbox i' t z s cs h1 h2).2).1
   refine ⟨by simpa using hsz,hext.alloc hext.size _,vc,(fun j=>if j=i then u.heap.size else β j),hp,?_,?_,?_,?_,hsto' (by simp)⟩
   ·intro h
    rw [hnew ic hic] at h
    refine hR _ _ vc u _ (hcR h) (fun k hk _=>Below.heap_alloc _ _ _ hk) (by simp) ?_
    rintro k hk ⟨i',t,z,s,cs,h1,h2,rfl⟩
    by_cases e:i'=i
    ·subst e; simp at hk
    ·rw [hβ i' e]
     exact ⟨i',t,z,s,cs,h1,(hnew i' e).symm.trans h2,rfl⟩
   ·exact hpost' rfl
   ·intro i' t' z' s' cs' h1 h2
    by_cases e:i'=i
    ·subst e
     rw [hq] at h1
     simp only [Qo,Kd.alo.injEq] at h1
     obtain ⟨rfl,rfl,rfl,rfl⟩:=h1
     rw [hβi,hnew s hs,hsl]
     exact ⟨hext.size,heap_alloc_new u _⟩
    ·rw [hβ i' e]
     have hl':=(hnew i' e).symm.trans h2
     have hb:=hbox i' t' z' s' cs' h1 hl'
     have hs':s'≠i:=by
      obtain ⟨o',hF'⟩:=hkat h1
      exact hne (hF'.alo t' z' s' cs' rfl) (by simp)
     rw [hnew s' hs']
     exact ⟨hb.1,(Below.heap_alloc _ _ _ (hlt i' t' z' s' cs' h1 hl')).trans hb.2⟩
   ·intro i' j' t' z' s' cs' t'' z'' s'' cs'' h1 h2 h3 h4 hij
    by_cases e:i'=i
    ·have e':j'≠i:=fun h=>hij (e.trans h.symm)
     rw [e,hβi,hβ j' e']
     have:=hlt j' _ _ _ _ h2 ((hnew j' e').symm.trans h4)
     omega
    ·rw [hβ i' e]
     by_cases e':j'=i
     ·rw [e',hβi]
      have:=hlt i' _ _ _ _ h1 ((hnew i' e).symm.trans h3)
      omega
     ·rw [hβ j' e']
      exact hdist i' j' _ _ _ _ _ _ _ _ h1 h2 ((hnew i' e).symm.trans h3) ((hnew j' e').symm.trans h4) hij
  | sto k =>
   have hic:=hcl rfl
   obtain ⟨hdn,hwk,t,z,cs,hkk⟩:=hF.sto k rfl
   have hkl:=Zby hr ho hwk
   have hbk:=hbox k t z i cs hkk hkl
   rw [hun] at hbk
   obtain ⟨w',hrun,hnewb,hkept⟩:=hOb vc β _ u t z i cs hkk (hcR hic) hbk.2
   rw [hrun]
   have hki:k≠i:=hne hkk (by simp)
   refine ⟨by simpa using hsz,hext.trans (hkept.below hext.size (fun j e=>by rw [e]; exact hbk.1)),vc,β,hput vc β (fun _ _ _ _=>rfl),?_,fun i' q' _ _ _=>hold _ hic,?_,hdist' (by simp),?_⟩
   ·intro _
    refine hR _ _ vc u w' (hcR hic) (fun j hj hn=>hkept.block j hj (fun e=>hn ⟨k,t,z,i,cs,hkk,hkl,e⟩)) hkept.size (fun j _=>hvars (by simp) j)
   ·intro i' t' z' s' cs' h1 h2
    have e:i'≠i:=hne h1 (by simp)
    have hl':=(hnew i' e).symm.trans h2
    by_cases ek:i'=k
    ·subst ek
     rw [hkk] at h1
     simp only [Qo,Kd.alo.injEq] at h1
     obtain ⟨rfl,rfl,rfl,rfl⟩:=h1
     rw [hL]
     simp only [BEq.rfl,Bool.or_true,if_true]
     exact ⟨hbk.1,hnewb⟩
    ·have hb:=hbox i' t' z' s' cs' h1 hl'
     have hs':s'≠i:=fun e'=>by
      obtain ⟨o',hF'⟩:=hkat h1
      have:=hF'.alo t' z' s' cs' rfl
      rw [e',hq] at this
      simp at this
      exact ek this.symm
     rw [hnew s' hs']
     exact ⟨hb.1,(hkept.block _ (Array.getElem?_eq_some_iff.1 hb.2).1 (hdist i' k _ _ _ _ _ _ _ _ h1 hkk hl' hkl ek)).trans hb.2⟩
   ·intro i' k' h1 h2
    by_cases e:i'=i
    ·subst e
     rw [hq] at h1
     simp at h1
     subst h1
     exact hold _ hkl
    ·exact hold _ (hsto i' k' h1 ((hnew i' e).symm.trans h2))
 ·intro L a u hr hJ
  obtain ⟨hsz,hext,vc,β,rfl,hcR,hpost,hbox,hdist,hsto⟩:=hJ
  have hall:=Zvo hfit hsz hr
  have e:pa a0 vc β (fun j=>L.getD j false) 0 ops kd=paAll a0 ops kd vc β:=Zew (fun j r hr'=>⟨by
   simp only [Nat.zero_add]
   exact hall j (by have:=(Qa.1 hr').1; omega),fun _=>rfl⟩)
  rw [e]
  have hk:∀ (i:Nat) t z s cs,kd[i]?=some (.alo t z s cs)→L.getD i false=true∧L.getD s false=true:=fun i t z s cs h=>by
   have hi:=(Qa.1 h).1
   obtain ⟨q2,hq2,hF2⟩:=Znp hfit (Qb (l:=ops) (i:=i) (by omega))
   rw [h] at hq2; simp at hq2; subst hq2
   have:=(Qa.1 (hF2.alo t z s cs rfl)).1
   exact ⟨hall i (by omega),hall s (by omega)⟩
  refine hQ vc β u hext ?_ ?_ ?_
  ·refine hR _ _ vc u u (hcR (hall ic hil)) (fun _ _ _=>rfl) (Qe _) ?_
   rintro k _ ⟨i',t,z,s,cs,h1,h2,rfl⟩
   exact ⟨i',t,z,s,cs,h1,(hk i' t z s cs h1).1,rfl⟩
  ·intro i t z s cs h
   have:=hbox i t z s cs h (hk i t z s cs h).1
   rw [(hk i t z s cs h).2] at this
   exact this
  ·intro i j t z s cs t' z' s' cs' h1 h2
   exact hdist i j t z s cs t' z' s' cs' h1 h2 (hk i t z s cs h1).1 (hk j t' z' s' cs' h2).1
 ·have:(ops.toArray).size=ops.length:=by simp
  unfold unl
  exact Qq (List.length_filter_le _ _) (by simp)
 ·have hz:∀ j,(Array.replicate ops.toArray.size false).getD j false=false:=fun j=>by
   simp only [Array.getD_eq_getD_getElem?,Array.getElem?_replicate]
   split <;> rfl
  refine ⟨by simp,Below.refl _ _,undef,fun _=>0,?_,?_,?_,?_,?_,?_⟩
  ·have:∀ (k:Nat) (os:List Oper) (qs:List Kd),pa a0 undef (fun _=>0) (fun j=>(Array.replicate ops.toArray.size false).getD j false) k os qs=a0:=by
    intro k os
    induction os generalizing k with
    | nil=>intro qs; simp [pa]
    | cons o os ih =>
     intro qs
     cases qs with
     | nil=>simp [pa]
     | cons q qs=>rw [pa,hz]; simp only [Bool.false_eq_true,if_false]; exact ih _ _
   exact (this _ _ _).symm
  ·intro h; rw [hz] at h; simp at h
  ·intro i q _ h; rw [hz] at h; simp at h
  ·intro i t z s cs _ h; rw [hz] at h; simp at h
  ·intro i j t z s cs t' z' s' cs' _ _ h; rw [hz] at h; simp at h
  ·intro i k _ h; rw [hz] at h; simp at h
theorem Zid {P:Program} {ops:List Oper} {id:Nat} {Q:Exit→Act→World→Prop} {a0:Act} {w:World} (hm:P.follows .mixedOrders=true) (kd:List Kd) (ic:Nat) (hfit:Zhd ops kd ic=true)
  (R:(Nat→Prop)→Value→World→Prop) (f:FuncId) (args:Array Value)
  (hR:∀ X X' v u u',R X v u→(∀ k,k<u.heap.size→¬ X k→u'.heap[k]?=u.heap[k]?)→u.heap.size≤u'.heap.size→(∀ k,k<u.heap.size→X' k→X k)→R X' v u')
  (hC:∀ X u,Ext w.drew u→(∀ k,X k→w.heap.size≤k∧k<u.heap.size)→Calls P f args u (fun e u'=>∃ v,e = .returned v∧Ext u u'∧R X v u'))
  (hob:AllOb P kd w.drew (paAll a0 ops kd) R f args ops kd)
  (hcal:kd[ic]?=some .cal) (hil:ic<ops.length)
  (hQ:∀ vc β u,Ext w.drew u→R (Zhe kd β (fun _=>true)) vc u→(∀ (i:Nat) t z s cs,kd[i]?=some (.alo t z s cs)→w.heap.size≤β i∧u.heap[β i]?=some (.cells (cs vc) t (0,0))) →
   (∀ (i j:Nat) t z s cs t' z' s' cs',kd[i]?=some (.alo t z s cs)→kd[j]?=some (.alo t' z' s' cs')→i≠j→β i≠β j)→Q .normal (paAll a0 ops kd vc β) u) :
  (Code.region id ops.toArray true).wp P Q a0 w :=
 Zpj hm kd ic hfit R f args hR (fun X u hu hX=>hC X u hu (fun k hk=>⟨(hX k hk).1,(hX k hk).2.1⟩)) hob hcal hil hQ
theorem Ext.of {w w':World} (h:Kept Zco w w'):Ext w w':=h.below (Qe _) (fun _ e=>e.elim)
theorem Ext.undrew {w u:World} (h:Ext w.drew u):Ext w u:=⟨h.os,h.tape,h.output,h.size,h.block⟩
theorem Ext.up {w u:World} (h:Ext w.drew u) {p:Addr} {v:Value} (hc:w.cell? p=some v):u.cell? p=some v:=(h.cell (World.block_lt_of_cell? w p hc)).trans hc
def Zro:Value→Array Value
 | .agg cs=>cs
 | _=>#[]
theorem box3 {w:World} {b:Nat} {u0 u1 u2:Value} {t:TypeId} (h:w.heap[b]?=some (.cells #[u0,u1,u2] t (0,0))) :
  w.cell? ⟨b,0,none⟩=some u0∧w.cell? ⟨b,1,none⟩=some u1∧w.cell? ⟨b,2,none⟩=some u2∧∀ i,w.frozen? ⟨b,i,none⟩=false :=
 ⟨Zaa h 0 _ rfl,Zaa h 1 _ rfl,Zaa h 2 _ rfl,fun i=>Zad h i⟩
def Zfp (i:Nat):Value→Value
 | .tuple xs=>xs.getD i undef
 | _=>undef
def Ydz:Kd→Bool
 | .pur _=>true
 | .cal=>true
 | _=>false
def ObL (P:Program) (w0:World) (FA:Value→Act) (R R':Value→World→Prop) (f:FuncId) (args:Array Value) (o:Oper):Kd→Prop
 | .pur c=>∀ vc,(execOp (FA vc).eval o).run P w0 = .ok (.value c) w0
 | .post g=>∀ vc w,R vc w∨R' vc w→(execOp (FA vc).eval o).run P w = .ok (.value (g vc)) w
 | .cal=>∀ vc,(execOp (FA vc).eval o).run P w0 = .ok (.enter f args) w0
 | .alo .. => True
 | .sto _=>∀ vc w,R vc w→∃ w',(execOp (FA vc).eval o).run P w = .ok .skip w'∧R' vc w'
def AllObL (P:Program) (w0:World) (FA:Value→Act) (R R':Value→World→Prop) (f:FuncId) (args:Array Value):List Oper→List Kd→Prop
 | o::os,q::qs=>ObL P w0 FA R R' f args o q∧AllObL P w0 FA R R' f args os qs
 | _,_=>True
theorem AllObL.at {P:Program} {w0:World} {FA:Value→Act} {R R':Value→World→Prop} {f:FuncId} {args:Array Value}:∀ {ops:List Oper} {ks:List Kd},AllObL P w0 FA R R' f args ops ks →
  ∀ {i:Nat} {o:Oper} {q:Kd},ops[i]?=some o→ks[i]?=some q→ObL P w0 FA R R' f args o q:=by
 intro ops
 induction ops with
 | nil=>intro ks _ i o q h; simp at h
 | cons p os ih =>
  intro ks h i o q ho hq
  cases ks with
  | nil=>simp at hq
  | cons r qs =>
   cases i with
   | zero=>simp at ho hq; subst ho hq; exact h.1
   | succ i=>exact ih h.2 (by simpa using ho) (by simpa using hq)
abbrev noB:Nat→Nat:=fun _=>0
structure LastPlan (ops:List Oper) (kd:List Kd) (ic fi:Nat) (a0:Act) (w0:World) (R R':Value→World→Prop) (L:Array Bool) (a:Act) (w:World):Prop where
 size:L.size=ops.length
 closed:∀ (i:Nat) o,ops[i]?=some o→L.getD i false=true→∀ j,Zdh o j=true→L.getD j false=true
 st:∃ vc,a=pa a0 vc noB (fun j=>L.getD j false) 0 ops kd∧(L.getD ic false=false→w=w0)∧(L.getD ic false=true→(L.getD fi false=false→R vc w)∧(L.getD fi false=true→R vc w∨R' vc w)∧(L.getD fi false=true→(∃ k,kd[fi]?=some (.sto k))→R' vc w)) ∧
  (∀ (i:Nat) q,kd[i]?=some q→L.getD i false=true→Zdd q=true→L.getD ic false=true)
structure CellS where
 sym:Sym
 kids:List Nat
 up:Nat
def turn (cs:List CellS) (x y:Nat):List CellS:=cs.modify x (fun c => { c with up:=y })
theorem Ztk (cs:List CellS) (x y:Nat):(turn cs x y).length=cs.length:=by simp [turn]
theorem Znq (cs:List CellS) (x y i:Nat):(turn cs x y)[i]?=(cs[i]?).map (fun c=>if x=i then { c with up:=y } else c):=by
 simp only [turn,List.getElem?_modify]
 cases cs[i]? with
 | none=>rfl
 | some c=>simp
def UpOk (cs:List CellS) (ρ rk:Nat→Nat):Prop:=∀ (i:Nat) c,cs[i]?=some c→c.up<cs.length∧ρ c.up=ρ i∧(c.up=i→ρ i=i)∧(c.up≠i→rk c.up<rk i)
theorem UpOk.root {cs:List CellS} {ρ rk:Nat→Nat} (h:UpOk cs ρ rk):∀ (n i:Nat) c,rk i≤n→cs[i]?=some c→∃ c',cs[ρ i]?=some c'∧c'.up=ρ i∧ρ (ρ i)=ρ i:=by
 intro n
 induction n with
 | zero =>
  intro i c hn hc
  obtain ⟨h1,h2,h3,h4⟩:=h i c hc
  by_cases e:c.up=i
  ·rw [h3 e]; exact ⟨c,hc,e,h3 e⟩
  ·have:=h4 e; omega
 | succ n ih =>
  intro i c hn hc
  obtain ⟨h1,h2,h3,h4⟩:=h i c hc
  by_cases e:c.up=i
  ·rw [h3 e]; exact ⟨c,hc,e,h3 e⟩
  ·have:=h4 e
   rw [← h2]
   exact ih c.up _ (by omega) (Qb h1)
theorem UpOk.rt {cs:List CellS} {ρ rk:Nat→Nat} (h:UpOk cs ρ rk):Rt cs.length ρ:=by
 refine ⟨fun i hi => ?_,fun i hi => ?_⟩
 ·obtain ⟨c',h1,_,_⟩:=h.root _ i _ (Qe _) (Qb hi)
  exact (Qa.1 h1).1
 ·obtain ⟨c',_,_,h3⟩:=h.root _ i _ (Qe _) (Qb hi)
  exact h3
def Zfq (cs:List CellS):Nat:=((List.range cs.length).filter (fun i=>((cs[i]?).map (fun c=>c.up == i)).getD false)).length
theorem Zpk {cs:List CellS} {x y:Nat} {c:CellS} (hx:cs[x]?=some c) (hr:c.up=x) (hne:x≠y):Zfq (turn cs x y)<Zfq cs:=by
 unfold Zfq
 rw [Ztk]
 refine Zpi (x:=x) (fun i _ hi => ?_) (List.mem_range.2 (Qa.1 hx).1) (by simp [hx,hr]) ?_
 ·rw [Znq] at hi
  cases hc:cs[i]? with
  | none=>rw [hc] at hi; simp at hi
  | some d =>
   rw [hc] at hi
   simp only [Option.map_some,Option.getD_some,beq_iff_eq] at hi ⊢
   split at hi
   ·rename_i e; subst e; simp at hi; exact absurd hi.symm hne
   ·exact hi
 ·rw [Znq,hx]
  simp
  exact fun e=>hne e.symm
theorem UpOk.turn {cs:List CellS} {ρ rk:Nat→Nat} (h:UpOk cs ρ rk) {x y:Nat} (hx:x<cs.length) (hy:y<cs.length) (rx:ρ x=x) (ry:ρ y=y) (hne:x≠y) :
  UpOk (YtlmjilpjmgjjcabGreatDoor.turn cs x y) (mg ρ x y) (fun i=>if ρ i=x then rk i+rk y+1 else rk i):=by
 intro i c hc
 rw [Znq] at hc
 cases hd:cs[i]? with
 | none=>rw [hd] at hc; simp at hc
 | some d =>
  rw [hd] at hc
  simp only [Option.map_some,Qo] at hc
  obtain ⟨h1,h2,h3,h4⟩:=h i d hd
  rw [Ztk]
  by_cases e:x=i
  ·subst e
   rw [if_pos rfl] at hc
   subst hc
   refine ⟨hy,?_,fun e=>absurd e.symm hne,fun _ => ?_⟩
   ·unfold mg
    rw [rx,ry,if_pos rfl,if_neg (fun e=>hne e.symm)]
   ·simp only [rx,ry,if_true]
    rw [if_neg (fun e=>hne e.symm)]; omega
  ·rw [if_neg e] at hc
   subst hc
   refine ⟨h1,?_,fun e' => ?_,fun e' => ?_⟩
   ·unfold mg; rw [h2]
   ·have:=h3 e'
    unfold mg
    rw [this,if_neg (fun e''=>e e''.symm)]
   ·have:=h4 e'
    simp only [h2]
    split <;> omega
end Go.Proofs.YtlmjilpjmgjjcabGreatDoor
namespace Go.Proofs.YtlmjilpjmgjjcabGreatDoor
def skip:Nat→List Sym→Nat
 | 0,_=>0
 | _+1,[]=>0
 | k+1,s::r=>skip (k+s.args) r+1
theorem Zie:∀ {a:List Sym} {j:Nat} (r:List Sym),Wf j a→skip j (a++r)=a.length:=by
 intro a
 induction a with
 | nil=>intro j r h; have h:j=0:=h; subst h; simp [skip]
 | cons s a ih =>
  intro j r h
  obtain ⟨h1,_,_,h2⟩:=h
  obtain ⟨k,rfl⟩:∃ k,j=k+1:=⟨j - 1,by omega⟩
  simp only [List.cons_append,skip,Qf]
  rw [ih r (by simpa using h2)]
theorem Yea:∀ {l:List Sym} {k:Nat} (i:Nat),Wf k l→i≤l.length→∃ k',Wf k' (l.drop i):=by
 intro l
 induction l with
 | nil=>intro k i h hi; simp at hi; subst hi; exact ⟨k,h⟩
 | cons s l ih =>
  intro k i h hi
  cases i with
  | zero=>exact ⟨k,h⟩
  | succ i =>
   obtain ⟨_,_,_,h2⟩:=h
   simp only [List.drop_succ_cons]
   exact ih i h2 (by simpa using hi)
def Zbc (l:List Sym) (i:Nat):Nat:=i+skip 1 (l.drop i)
def tmAt (l:List Sym) (i:Nat):List Sym:=(l.drop i).take (skip 1 (l.drop i))
def Zaz (l:List Sym):Nat→Nat→List Nat
 | _,0=>[]
 | p,m+1=>p::Zaz l (Zbc l p) m
def Zar (l:List Sym):Nat→Nat→Nat
 | p,0=>p
 | p,m+1=>Zar l (Zbc l p) m
theorem Zcn (l:List Sym) (p m:Nat):(Zaz l p m).length=m:=by
 induction m generalizing p with
 | zero=>rfl
 | succ m ih=>simp [Zaz,ih]
theorem Zbt (l:List Sym) (p m:Nat):Zar l p (m+1)=Zbc l (Zar l p m):=by
 induction m generalizing p with
 | zero=>rfl
 | succ m ih=>rw [Zar,ih]; rfl
theorem Zbs (l:List Sym) (p m i:Nat) (hi:i<m):(Zaz l p m)[i]?=some (Zar l p i):=by
 induction m generalizing p i with
 | zero=>omega
 | succ m ih =>
  cases i with
  | zero=>rfl
  | succ i=>simp only [Zaz,List.getElem?_cons_succ,Zar]; exact ih _ _ (by omega)
theorem Zeb {l:List Sym} {k i:Nat} (h:Wf k l) (hi:i<l.length):Wf 1 (tmAt l i)∧∃ r,l.drop i=tmAt l i++r∧r=l.drop (Zbc l i)∧i<Zbc l i∧Zbc l i≤l.length∧(tmAt l i).length=skip 1 (l.drop i):=by
 obtain ⟨k',hk⟩:=Yea i h (by omega)
 have hpos:0<k':=by
  rcases Nat.eq_zero_or_pos k' with rfl | hp
  ·cases hd:l.drop i with
   | nil=>have:=congrArg List.length hd; simp at this; omega
   | cons s r=>rw [hd] at hk; obtain ⟨h1,_⟩:=hk; omega
  ·exact hp
 obtain ⟨a,b,e,ha,hb⟩:=Zim (j:=1) (k:=k' - 1) (l:=l.drop i) (by rw [show 1+(k' - 1)=k' by omega]; exact hk)
 have hs:skip 1 (l.drop i)=a.length:=by rw [e]; exact Zie b ha
 have ht:tmAt l i=a:=by unfold tmAt; rw [hs,e]; simp
 have hl:a.length+b.length=l.length - i:=by
  have:=congrArg List.length e
  simp at this; omega
 have ha1:=Zdy ha
 refine ⟨by rw [ht]; exact ha,b,by rw [ht]; exact e,?_,by unfold Zbc; omega,by unfold Zbc; omega,by rw [ht,hs]⟩
 unfold Zbc
 rw [hs,← List.drop_drop,e]; simp
theorem Yeb {l:List Sym} {k0:Nat} (h:Wf k0 l):∀ (m:Nat) {p:Nat} {a b:List Sym},l.drop p=a++b→Wf m a→p≤l.length →
  a=((Zaz l p m).map (tmAt l)).flatten∧(∀ x ∈ Zaz l p m,p≤x∧x<p+a.length)∧Zar l p m=p+a.length:=by
 intro m
 induction m with
 | zero =>
  intro p a b e hw _
  have:a=[]:=by
   cases a with
   | nil=>rfl
   | cons s a=>obtain ⟨h1,_⟩:=hw; omega
  subst this
  exact ⟨rfl,by simp [Zaz],rfl⟩
 | succ m ih =>
  intro p a b e hw hp
  obtain ⟨a1,a2,rfl,h1,h2⟩:=Zim (j:=1) (k:=m) (l:=a) (by rw [Nat.add_comm]; exact hw)
  have hl1:=Zdy h1
  have hpl:p<l.length:=by
   have:=congrArg List.length e
   simp at this; omega
  have hs:skip 1 (l.drop p)=a1.length:=by rw [e,Qi]; exact Zie _ h1
  have ht:tmAt l p=a1:=by unfold tmAt; rw [hs,e]; simp
  have hb:Zbc l p=p+a1.length:=by unfold Zbc; rw [hs]
  have e2:l.drop (Zbc l p)=a2++b:=by rw [hb,← List.drop_drop,e]; simp
  have hbl:Zbc l p≤l.length:=by
   have:=congrArg List.length e
   simp at this; omega
  obtain ⟨g1,g2,g3⟩:=ih e2 h2 hbl
  refine ⟨?_,?_,?_⟩
  ·simp only [Zaz,List.map_cons,List.flatten_cons,ht]
   rw [← g1]
  ·intro x hx
   simp only [Zaz,Qp] at hx
   simp only [Qg]
   rcases hx with rfl | hx
   ·omega
   ·have:=g2 x hx; omega
  ·rw [Zar,g3,hb,Qg]; omega
theorem Zif:∀ {l:List Sym} {k i:Nat} {s:Sym},Wf k l→l[i]?=some s→(s.name=[]→s.args=0)∧(s.name≠[]→s.num=0):=by
 intro l
 induction l with
 | nil=>intro k i s _ hs; simp at hs
 | cons t l ih =>
  intro k i s h hs
  obtain ⟨_,h1,h2,h3⟩:=h
  cases i with
  | zero=>simp at hs; subst hs; exact ⟨h1,h2⟩
  | succ i=>exact ih h3 (by simpa using hs)
def Zat (l:List Sym) (i:Nat):Sym:=l.getD i ⟨[],0,0⟩
def grOf (l:List Sym):Gr:=⟨l.length,Zat l,fun i=>Zaz l (i+1) (Zat l i).args⟩
theorem Zgg {l:List Sym} {k i:Nat} (h:Wf k l) (hi:i<l.length):tmAt l i=Zat l i::((Zaz l (i+1) (Zat l i).args).map (tmAt l)).flatten∧(∀ x ∈ Zaz l (i+1) (Zat l i).args,i<x∧x<Zbc l i)∧Zar l (i+1) (Zat l i).args=Zbc l i:=by
 obtain ⟨hw,r,e,hr,hb1,hb2,hb3⟩:=Zeb h hi
 obtain ⟨s,q,e2,hq,_⟩:=Zjy hw
 have hd:l.drop i=l[i]::l.drop (i+1):=List.drop_eq_getElem_cons hi
 rw [e2] at e
 rw [hd] at e
 simp only [List.cons_append,List.cons.injEq] at e
 have hs:Zat l i=s:=by unfold Zat; simp [hi,e.1]
 obtain ⟨g1,g2,g3⟩:=Yeb h s.args e.2 hq (by omega)
 rw [e2] at hb3
 have hlen:Zbc l i=i+1+q.length:=by unfold Zbc; rw [← hb3]; simp; omega
 rw [hs]
 refine ⟨by rw [e2,← g1],fun x hx => ?_,by rw [g3,hlen]⟩
 have:=g2 x hx
 omega
theorem Zjo {a b:List Sym} (h:Wf 1 a):tmAt (a++b) 0=a:=by
 unfold tmAt; rw [List.drop_zero,Zie b h]; simp
theorem Zig {a b:List Sym} (h:Wf 1 b):tmAt (a++b) a.length=b:=by
 unfold tmAt
 have e:(a++b).drop a.length=b++[]:=by simp
 rw [e,Zie [] h]; simp
theorem Zyx {a b:List Sym} (ha:Wf 1 a) (hb:Wf 1 b):Lay (grOf (a++b)) (tmAt (a++b)) a b:=by
 have hw:Wf 2 (a++b):=Zfa ha hb
 refine ⟨⟨?_,?_,?_,?_⟩,?_,?_⟩
 ·intro i hi x hx
  have:=(Zgg hw hi).2.1 x hx
  obtain ⟨_,_,_,_,_,h2,_⟩:=Zeb hw hi
  show x<(a++b).length
  omega
 ·intro i hi; exact (Zcn _ _ _).symm
 ·intro i hi hn
  have hs:(a++b)[i]?=some (Zat (a++b) i):=by
   have hi:i<(a++b).length:=hi
   unfold Zat; simp only [List.getD_eq_getElem?_getD]; rw [Qb hi]; rfl
  have:=(Zif hw hs).1 hn
  show Zaz _ _ (Zat (a++b) i).args=[]
  rw [this]; rfl
 ·intro i hi hn
  have hs:(a++b)[i]?=some (Zat (a++b) i):=by
   have hi:i<(a++b).length:=hi
   unfold Zat; simp only [List.getD_eq_getElem?_getD]; rw [Qb hi]; rfl
  exact (Zif hw hs).2 hn
 ·intro i hi; exact (Zgg hw hi).1
 ·intro i hi hn
  have hi:i<(a++b).length:=hi
  have hm:Zat (a++b) i ∈ a++b:=by
   unfold Zat; simp only [List.getD_eq_getElem?_getD]; rw [Qb hi]; exact List.getElem_mem hi
  rcases Qk.1 hm with hm | hm
  ·exact Or.inl ⟨_,hm,hn,rfl⟩
  ·exact Or.inr ⟨_,hm,hn,rfl⟩
def Zba (l:List Sym) (i:Nat):Nat:=if (Zat l i).name=[] then l.findIdx (fun s=>s.name.isEmpty && s.num == (Zat l i).num) else i
theorem Zit (l:List Sym) {k:Nat} (hw:Wf k l):Firsts (grOf l) (Zba l):=by
 have key:∀ i,i<l.length→(Zat l i).name=[]→Zba l i<l.length∧(Zat l (Zba l i)).name=[]∧(Zat l (Zba l i)).num=(Zat l i).num:=by
  intro i hi hn
  unfold Zba
  rw [if_pos hn]
  have hex:∃ x ∈ l,(x.name.isEmpty && x.num == (Zat l i).num)=true:=by
   refine ⟨Zat l i,?_,by simp [hn]⟩
   unfold Zat; simp only [List.getD_eq_getElem?_getD]; rw [Qb hi]; exact List.getElem_mem hi
  have hlt:=List.findIdx_lt_length_of_exists hex
  refine ⟨hlt,?_⟩
  have:=List.findIdx_getElem (w:=hlt)
  have e:Zat l (l.findIdx (fun s=>s.name.isEmpty && s.num == (Zat l i).num))=l[l.findIdx (fun s=>s.name.isEmpty && s.num == (Zat l i).num)]:=by
   generalize l.findIdx (fun s=>s.name.isEmpty && s.num == (Zat l i).num)=z at hlt
   unfold Zat; simp only [List.getD_eq_getElem?_getD]; rw [Qb hlt]; rfl
  rw [e]
  simpa using this
 refine ⟨⟨?_,?_⟩,?_,?_,?_⟩
 ·intro i hi
  by_cases hn:(Zat l i).name=[]
  ·exact (key i hi hn).1
  ·show Zba l i<_
   unfold Zba; rw [if_neg hn]; exact hi
 ·intro i hi
  by_cases hn:(Zat l i).name=[]
  ·obtain ⟨h1,h2,h3⟩:=key i hi hn
   show Zba l (Zba l i)=Zba l i
   have e1:Zba l (Zba l i)=l.findIdx (fun s=>s.name.isEmpty && s.num == (Zat l (Zba l i)).num):=by
    generalize Zba l i=z at h2
    unfold Zba; rw [if_pos h2]
   have e2:Zba l i=l.findIdx (fun s=>s.name.isEmpty && s.num == (Zat l i).num):=by unfold Zba; rw [if_pos hn]
   rw [e1,h3,← e2]
  ·have e:Zba l i=i:=by unfold Zba; rw [if_neg hn]
   rw [e,e]
 ·intro i j hi hj h1 h2 e
  show Zba l i=Zba l j
  have h1:(Zat l i).name=[]:=h1
  have h2:(Zat l j).name=[]:=h2
  have e:(Zat l i).num=(Zat l j).num:=e
  unfold Zba; rw [if_pos h1,if_pos h2,e]
 ·intro i hi hn
  have hn:(Zat l i).name≠[]:=hn
  show Zba l i=i
  unfold Zba; rw [if_neg hn]
 ·intro i hi hn
  exact (key i hi hn).2
end Go.Proofs.YtlmjilpjmgjjcabGreatDoor
namespace Go.Proofs.YtlmjilpjmgjjcabGreatDoor
open Go.RowKit
structure GC where
 sym:Sym
 behind:Nat
 leader:Nat
 size:Int
def gcV (c:GC):List Value:=[.string ⟨c.sym.name.toArray⟩,.int .i64 c.sym.num,.int .i64 c.sym.args,.int .i64 c.behind,.int .i64 c.leader,.int .i64 c.size]
def gcs (l:List GC):List Value:=l.flatMap gcV
theorem Yfp {l:List GC} {i:Nat} {c:GC} (h:l[i]?=some c) (j:Nat) (hj:j<6):(gcs l)[i * 6+j]?=(gcV c)[j]?:=by
 induction l generalizing i with
 | nil=>simp at h
 | cons a l ih =>
  have hl:(gcV a).length=6:=rfl
  cases i with
  | zero =>
   simp at h; subst h
   show (gcV a++gcs l)[_]?=_
   rw [Qc (by omega)]
   simp
  | succ i =>
   show (gcV a++gcs l)[_]?=_
   rw [Qd (by omega),← ih (by simpa using h),hl]
   congr 1; omega
theorem Ybp (l:List GC) (c:GC):gcs (l++[c])=gcs l++gcV c:=by simp [gcs]
theorem Zvp {l:List GC} {x:Nat} {c:GC} {f:GC→GC} {j:Nat} {u:Value} (h:l[x]?=some c) (hj:j<6) (hf:gcV (f c)=(gcV c).set j u):gcs (l.modify x f)=(gcs l).set (x * 6+j) u:=by
 induction l generalizing x with
 | nil=>simp at h
 | cons a l ih =>
  have hl:(gcV a).length=6:=rfl
  cases x with
  | zero =>
   simp at h; subst h
   show gcV (f a)++gcs l=(gcV a++gcs l).set _ _
   rw [List.set_append_left _ _ (by omega),hf]
   simp
  | succ x =>
   show gcV a++gcs (l.modify x f)=(gcV a++gcs l).set _ _
   rw [List.set_append_right _ _ (by omega),ih (by simpa using h),hl]
   congr 2; omega
structure GAt (w:World) (gb:Nat) (v:Value) (gs:List GC):Prop where
 box:w.heap[gb]?=some (.cells #[v] 148 (0,0))
 owns:w.ownsRow 0 164 6 v gs.length (gcs gs)
theorem Ztl {w:World} {B:Nat} {e:TypeId} {size n g cap:Nat} {xs:List Value} (h:w.ownsRow B e size (.slice (some ⟨g,0,none⟩) n cap) n xs) (i:Nat) (u:Value):(w.setCell ⟨g,i,none⟩ u).ownsRow B e size (.slice (some ⟨g,0,none⟩) n cap) n (xs.set i u):=by
 refine ⟨by simpa using h.1,?_⟩
 rcases h.2 with ⟨h1,_⟩ | ⟨g',cap',cur,h1,hb,hg,hn,hc,hs,ht⟩
 ·simp at h1
 ·simp at h1
  obtain ⟨rfl,rfl⟩:=h1
  refine .inr ⟨g,cap,cur.setIfInBounds i u,rfl,hb,Zaf hg _ _,hn,hc,by simpa using hs,?_⟩
  rw [← ht]
  simp [List.take_set]
theorem GAt.shape {w:World} {gb:Nat} {v:Value} {gs:List GC} (h:GAt w gb v gs) (hi:0<gs.length):∃ cb cap,v = .slice (some ⟨cb,0,none⟩) gs.length cap∧cb<w.heap.size∧gs.length≤cap∧cb≠gb∧(∀ j,w.frozen? ⟨cb,j,none⟩=false):=by
 obtain ⟨g,cap,cur,rfl,hB,hb,hc⟩:=Zao h.owns hi
 refine ⟨g,cap,rfl,Zab hb,hc,fun e => ?_,fun j=>Zad hb j⟩
 subst e
 rw [h.box] at hb
 simp at hb
theorem GAt.cell {w:World} {gb cb cap:Nat} {gs:List GC} (h:GAt w gb (.slice (some ⟨cb,0,none⟩) gs.length cap) gs) {i:Nat} {c:GC} (hc:gs[i]?=some c) :
  w.cell? ⟨cb,i * 6,none⟩=some (.string ⟨c.sym.name.toArray⟩)∧w.cell? ⟨cb,i * 6+1,none⟩=some (.int .i64 c.sym.num)∧w.cell? ⟨cb,i * 6+2,none⟩=some (.int .i64 c.sym.args)∧w.cell? ⟨cb,i * 6+3,none⟩=some (.int .i64 c.behind)∧w.cell? ⟨cb,i * 6+4,none⟩=some (.int .i64 c.leader)∧w.cell? ⟨cb,i * 6+5,none⟩=some (.int .i64 c.size):=by
 have e:=fun j hj=>Yfp hc j hj
 refine ⟨Zai h.owns _ _ ?_,Zai h.owns _ _ (by rw [e 1 (by omega)]; rfl),Zai h.owns _ _ (by rw [e 2 (by omega)]; rfl),Zai h.owns _ _ (by rw [e 3 (by omega)]; rfl),Zai h.owns _ _ (by rw [e 4 (by omega)]; rfl),Zai h.owns _ _ (by rw [e 5 (by omega)]; rfl)⟩
 have:=e 0 (by omega)
 simp only [Nat.add_zero] at this
 rw [this]; rfl
theorem GAt.on {w w':World} {gb:Nat} {v:Value} {gs:List GC} (h:GAt w gb v gs) (hk:∀ k,k<w.heap.size→w'.heap[k]?=w.heap[k]?):GAt w' gb v gs :=
 ⟨(hk gb (Zab h.box)).trans h.box,Zaj h.owns (fun k e=>hk k (h.owns.lt k e).2)⟩
theorem GAt.ext {w w':World} {gb:Nat} {v:Value} {gs:List GC} (h:GAt w gb v gs) (e:Ext w w'):GAt w' gb v gs:=h.on (fun k hk=>e.block k hk)
theorem GAt.put {w:World} {gb cb cap:Nat} {gs:List GC} (h:GAt w gb (.slice (some ⟨cb,0,none⟩) gs.length cap) gs) {x:Nat} {c:GC} (hc:gs[x]?=some c) {f:GC→GC} {j:Nat} {u:Value} (hj:j<6) (hf:gcV (f c)=(gcV c).set j u) :
  GAt (w.setCell ⟨cb,x * 6+j,none⟩ u) gb (.slice (some ⟨cb,0,none⟩) gs.length cap) (gs.modify x f):=by
 have hne:cb≠gb:=by
  obtain ⟨cb',cap',e,_,_,hne,_⟩:=h.shape (by have:=(Qa.1 hc).1; omega)
  simp at e
  rw [e.1]; exact hne
 refine ⟨(Below.heap_setCell _ _ _ _ (fun e=>hne e.symm)).trans h.box,?_⟩
 rw [Zvp hc hj hf,List.length_modify]
 exact Ztl h.owns _ _
def GC.up (c:GC):CellS:=⟨c.sym,[],c.leader⟩
def Zgo (gs:List GC) (x y:Nat):List GC:=gs.modify x (fun c => { c with leader:=y })
theorem Ztm (gs:List GC) (x y:Nat):(Zgo gs x y).map GC.up=turn (gs.map GC.up) x y:=by
 apply List.ext_getElem?
 intro i
 rw [Znq,Qj,Zgo,List.getElem?_modify,Qj]
 cases gs[i]? with
 | none=>rfl
 | some c=>simp; split <;> simp_all [GC.up]
theorem Zgs (gs:List GC) (x y:Nat):(Zgo gs x y).length=gs.length:=by simp [Zgo]
structure CellsOf (gs:List GC) (l:List Sym):Prop where
 len:gs.length=l.length
 all:∀ i c,gs[i]?=some c→c.sym=Zat l i∧c.behind=Zbc l i
theorem CellsOf.lead {gs:List GC} {l:List Sym} (h:CellsOf gs l) (x y:Nat):CellsOf (Zgo gs x y) l :=
 ⟨by rw [Zgs]; exact h.len,fun i c hc=>by
  rw [Zgo,List.getElem?_modify] at hc
  cases hd:gs[i]? with
  | none=>rw [hd] at hc; simp at hc
  | some d =>
   rw [hd] at hc
   obtain ⟨h1,h2⟩:=h.all i d hd
   simp only [Option.map_eq_map,Option.map_some,Qo] at hc
   subst hc
   split <;> exact ⟨h1,h2⟩⟩
theorem Zfj (w:World) (gb:Nat) (v:Value) (gs:List GC) (ρ rk:Nat→Nat) (i:Nat) (h:GAt w gb v gs) (hu:UpOk (gs.map GC.up) ρ rk) (hi:i<gs.length) (hl:gs.length≤4000) :
  Calls Tryz.prog 93 #[.pointer (some ⟨gb,0,none⟩),.int .i64 i] w fun e w'=>e = .returned (.int .i64 (ρ i))∧w'=w:=by
 obtain ⟨cb,cap,rfl,hcb,hcap,_,_⟩:=h.shape (by omega)
 have b0:w.cell? ⟨gb,0,none⟩=some (.slice (some ⟨cb,0,none⟩) gs.length cap):=Zaa h.box 0 _ rfl
 have hgb:=Zab h.box
 have H:=Zac h
 have Hu:=Zac hu
 clear h hu
 go_enter Tryz.func93,Tryz.ntmps93
 go_wp2
 go_loopg [1] (rk i+1) (fun gk iv wr=>∃ (k:Nat),iv = .int .i64 k∧k<gs.length∧rk k<gk∧ρ k=ρ i∧wr=w)
 case atStart=>exact ⟨i,rfl,hi,by omega,rfl,rfl⟩
 case round =>
  obtain ⟨k,rfl,hk,hg,hρ,rfl⟩:=hrel
  obtain ⟨c,hc⟩:∃ c,gs[k]?=some c:=⟨_,Qb hk⟩
  obtain ⟨c0,c1,c2,c3,c4,c5⟩:=H.out.cell hc
  obtain ⟨h1,h2,h3,h4⟩:=Hu.out k c.up (by rw [Qj,hc]; rfl)
  have h1:c.leader<gs.length:=by simpa [GC.up] using h1
  have h2:ρ c.leader=ρ k:=h2
  by_cases e:c.leader=k
  ·have e':((c.leader:Int) != (k:Int))=false:=by rw [e]; simp
   have Hr:=Zac (h3 e)
   have Hρ:=Zac hρ
   clear hc h2 h3 h4 hρ
   go_wp2
   go_ret
   exact ⟨by rw [← Hρ.out,Hr.out]; rfl,rfl⟩
  ·have e':((c.leader:Int) != (k:Int))=true:=by rw [bne_iff_ne]; omega
   have Hr:=Zac (h2.trans hρ)
   have h4':=h4 e
   clear hc h2 h3 h4 hρ
   go_wp2
   go_roundg (rk k)
   case measure=>omega
   case rel=>exact ⟨c.leader,rfl,h1,h4',Hr.out,rfl⟩
theorem Zhp (w:World) (gb:Nat) (v:Value) (gs:List GC) (i:Nat) (c:GC) (h:GAt w gb v gs) (hc:gs[i]?=some c) (hl:gs.length≤4000) :
  Calls Tryz.prog 94 #[.pointer (some ⟨gb,0,none⟩),.int .i64 i] w fun e w'=>e = .returned (.bool c.sym.name.isEmpty)∧w'=w:=by
 have hi:=(Qa.1 hc).1
 obtain ⟨cb,cap,rfl,hcb,hcap,_,_⟩:=h.shape (by omega)
 have b0:w.cell? ⟨gb,0,none⟩=some (.slice (some ⟨cb,0,none⟩) gs.length cap):=Zaa h.box 0 _ rfl
 have hgb:=Zab h.box
 obtain ⟨c0,c1,c2,c3,c4,c5⟩:=h.cell hc
 clear h hc
 go_enter Tryz.func94,Tryz.ntmps94
 go_wp2
 go_ret
 exact ⟨by simp,rfl⟩
def Zdo (s t:Sym):Bool:=s.name.isEmpty && (t.name.isEmpty && s.num == t.num)
theorem Zvq (w:World) (s t:Sym) :
  Calls Tryz.prog 110 #[.agg #[.string ⟨s.name.toArray⟩,.int .i64 s.num,.int .i64 s.args],.agg #[.string ⟨t.name.toArray⟩,.int .i64 t.num,.int .i64 t.args]] w fun e w'=>e = .returned (.bool (Zdo s t))∧Ext w w':=by
 have Hs:Hid (∀ a b c,a=s.name.isEmpty→b=t.name.isEmpty→c=(s.num == t.num)→Zdo s t=(a && (b && c))):=fun a b c h1 h2 h3=>by rw [h1,h2,h3]; rfl
 cases h1:s.name.isEmpty with
 | false =>
  go_enter Tryz.func110,Tryz.ntmps110
  go_wp2
  go_ret
  refine ⟨?_,(Ext.of (by repeat' (first | with_reducible(first|exact Qx _ _|apply Kept.drew|apply Kept.drewN|apply Qz|refine Qy ?_ ?_ _)|exact fun h=>absurd h (by simp <;> omega))))⟩
  rw [Hs.out false _ _ h1.symm rfl rfl]; rfl
 | true =>
  cases h2:t.name.isEmpty with
  | false =>
   go_enter Tryz.func110,Tryz.ntmps110
   go_wp2
   go_ret
   refine ⟨?_,(Ext.of (by repeat' (first | with_reducible(first|exact Qx _ _|apply Kept.drew|apply Kept.drewN|apply Qz|refine Qy ?_ ?_ _)|exact fun h=>absurd h (by simp <;> omega))))⟩
   rw [Hs.out true false _ h1.symm h2.symm rfl]; rfl
  | true =>
   have Hn:Hid (((s.num:Int) == (t.num:Int))=(s.num == t.num)):=by
    show _=_
    rw [Bool.eq_iff_iff,beq_iff_eq,beq_iff_eq]; omega
   go_enter Tryz.func110,Tryz.ntmps110
   go_wp2
   go_ret
   refine ⟨?_,(Ext.of (by repeat' (first | with_reducible(first|exact Qx _ _|apply Kept.drew|apply Kept.drewN|apply Qz|refine Qy ?_ ?_ _)|exact fun h=>absurd h (by simp <;> omega))))⟩
   rw [Hs.out true true _ h1.symm h2.symm rfl,← Hn.out]; rfl
theorem Joined.swap {G:Gr} {ρ ρ':Nat→Nat} {xs ys:List Nat} (h:Joined G ρ ρ' xs ys):Joined G ρ ρ' ys xs:=⟨h.rt,h.grow,h.eq.symm,h.cg,fun val hv hc e=>h.con val hv hc e.symm⟩
theorem Clash.swap {G:Gr} {ρ:Nat→Nat} {xs ys:List Nat} (h:Clash G ρ xs ys):Clash G ρ ys xs:=fun val hv hc e=>h val hv hc e.symm
theorem Yec {l:List Sym} (hw:Wf 2 l):∃ a b,l=a++b∧Wf 1 a∧Wf 1 b∧Lay (grOf l) (tmAt l) a b:=by
  obtain ⟨a,b,e,ha,hb⟩:=Zim (j:=1) (k:=1) hw
  exact ⟨a,b,e,ha,hb,by rw [e]; exact Zyx ha hb⟩
theorem Ybq {l:List Sym} (hw:Wf 2 l):(grOf l).Ok:=by
  obtain ⟨a,b,_,_,_,h⟩:=Yec hw
  exact h.ok
structure JoinLeft (gb:Nat) (v:Value) (gs:List GC) (l:List Sym) (w w':World) (gs':List GC):Prop where
  at':GAt w' gb v gs'
  cells:CellsOf gs' l
  sizes:gs'.map (·.size)=gs.map (·.size)
  kept:Kept (Zbj v) w w'
  roots:Zfq (gs'.map GC.up)≤Zfq (gs.map GC.up)
def Yed (gb:Nat) (v:Value) (gs:List GC) (l:List Sym) (ρ:Nat→Nat) (a b:Nat) (w:World) (e:Ending) (w':World):Prop:=∃ gs',JoinLeft gb v gs l w w' gs'∧∃ ρ' rk',UpOk (gs'.map GC.up) ρ' rk' ∧
  ((e = .returned (.bool true)∧Joined (grOf l) ρ ρ' [a] [b])∨(e = .returned (.bool false)∧Clash (grOf l) ρ [a] [b]))
def Znr (m:Nat):Prop:=∀ (w:World) (gb:Nat) (v:Value) (gs:List GC) (l:List Sym) (ρ rk:Nat→Nat) (a b:Nat),GAt w gb v gs→CellsOf gs l→Wf 2 l→UpOk (gs.map GC.up) ρ rk→Zfq (gs.map GC.up)≤m→a<gs.length→b<gs.length→gs.length≤4000 →
  Calls Tryz.prog 72 #[.pointer (some ⟨gb,0,none⟩),.int .i64 a,.int .i64 b] w fun e w'=>Yed gb v gs l ρ a b w e w'
abbrev kidsAt (l:List Sym) (x:Nat):List Nat:=(grOf l).kids x
def Zpl (gb:Nat) (v:Value) (gs:List GC) (l:List Sym) (ρ:Nat→Nat) (x y:Nat) (w:World) (e:Ending) (w':World):Prop:=∃ gs',JoinLeft gb v gs l w w' gs'∧∃ ρ' rk',UpOk (gs'.map GC.up) ρ' rk' ∧
    ((e = .returned (.bool true)∧(Zat l x).name=(Zat l y).name∧(Zat l x).args=(Zat l y).args∧Joined (grOf l) ρ ρ' (kidsAt l x) (kidsAt l y)) ∨
     (e = .returned (.bool false)∧((Zat l x).name≠(Zat l y).name∨(Zat l x).args≠(Zat l y).args∨Clash (grOf l) ρ (kidsAt l x) (kidsAt l y))))
def Zmk (m:Nat):Prop:=∀ (w:World) (gb:Nat) (v:Value) (gs:List GC) (l:List Sym) (ρ rk:Nat→Nat) (x y:Nat),GAt w gb v gs→CellsOf gs l→Wf 2 l→UpOk (gs.map GC.up) ρ rk→Zfq (gs.map GC.up)≤m→x<gs.length→y<gs.length→gs.length≤4000 →
  Calls Tryz.prog 95 #[.pointer (some ⟨gb,0,none⟩),.int .i64 x,.int .i64 y] w fun e w'=>Zpl gb v gs l ρ x y w e w'
theorem JoinLeft.trans {gb:Nat} {v:Value} {gs gs1 gs2:List GC} {l:List Sym} {w w1 w2:World} (h:JoinLeft gb v gs l w w1 gs1) (k:JoinLeft gb v gs1 l w1 w2 gs2):JoinLeft gb v gs l w w2 gs2 :=
  ⟨k.at',k.cells,k.sizes.trans h.sizes,h.kept.trans k.kept,Qq k.roots h.roots⟩
theorem JoinLeft.len {gb:Nat} {v:Value} {gs:List GC} {l:List Sym} {w w':World} {gs':List GC} (h:JoinLeft gb v gs l w w' gs'):gs'.length=gs.length:=by simpa using congrArg List.length h.sizes
theorem Zyy {l:List Sym} {x k m:Nat} (h:k≤m):(Zaz l x m).take k=Zaz l x k:=by
  induction m generalizing x k with
  | zero =>
    have:k=0:=by omega
    subst this; rfl
  | succ m ih =>
    cases k with
    | zero=>rfl
    | succ k=>simp only [Zaz,List.take_succ_cons]; rw [ih (by omega)]
theorem Zpm (l:List Sym) (x k:Nat):Zaz l x (k+1)=Zaz l x k++[Zar l x k]:=by
  induction k generalizing x with
  | zero=>rfl
  | succ k ih =>
    have e:Zaz l x (k+1+1)=x::Zaz l (Zbc l x) (k+1):=rfl
    rw [e,ih]
    rfl
theorem Zlc {l:List Nat} {k n:Nat} (h:l[k]?=some n):l=l.take k++n::l.drop (k+1):=by
  obtain ⟨hk,e⟩:=Qa.1 h
  have:=List.drop_eq_getElem_cons hk
  rw [e] at this
  rw [← this,List.take_append_drop]
theorem Zml {l:List Sym} {x k m:Nat} (h:k<m):Zaz l x m=Zaz l x k++Zar l x k::(Zaz l x m).drop (k+1):=by
  have h2:=Zbs l x m k h
  have:=Zlc h2
  rw [Zyy (by omega)] at this
  exact this
theorem Zrp (m:Nat) (IH:Znr m):Zmk m:=by
  intro w gb v gs l ρ rk x y h hc hw hu hm hx hy hl
  obtain ⟨cx,hcx⟩:∃ c,gs[x]?=some c:=⟨_,Qb hx⟩
  obtain ⟨cy,hcy⟩:∃ c,gs[y]?=some c:=⟨_,Qb hy⟩
  obtain ⟨cb,cap,rfl,hcb,hcap,hne,hfz⟩:=h.shape (by omega)
  have b0:w.cell? ⟨gb,0,none⟩=some (.slice (some ⟨cb,0,none⟩) gs.length cap):=Zaa h.box 0 _ rfl
  have hgb:=Zab h.box
  obtain ⟨x0,x1,x2,_,_,_⟩:=h.cell hcx
  obtain ⟨y0,y1,y2,_,_,_⟩:=h.cell hcy
  obtain ⟨sx,_⟩:=hc.all x cx hcx
  obtain ⟨sy,_⟩:=hc.all y cy hcy
  have hlen:=hc.len
  obtain ⟨ex1,ex2,ex3⟩:=Zgg hw (i:=x) (by omega)
  obtain ⟨ey1,ey2,ey3⟩:=Zgg hw (i:=y) (by omega)
  obtain ⟨_,_,_,_,_,hbx,_⟩:=Zeb hw (i:=x) (by omega)
  obtain ⟨_,_,_,_,_,hby,_⟩:=Zeb hw (i:=y) (by omega)
  have hkl:∀ k,k<(Zat l x).args→Zar l (x+1) k<gs.length:=fun k hk=>by
    have:=ex2 _ (Qh (Zbs l (x+1) _ k hk))
    omega
  have hkr:∀ k,k<(Zat l y).args→Zar l (y+1) k<gs.length:=fun k hk=>by
    have:=ey2 _ (Qh (Zbs l (y+1) _ k hk))
    omega
  have hargs:(Zat l x).args≤4000:=by
    have h1:=congrArg List.length ex1
    have h2:=Zcn l (x+1) (Zat l x).args
    rcases Nat.lt_or_ge 4000 (Zat l x).args with h3 | h3
    · exfalso
      have h4:=hkl 4000 h3
      have mono:∀ k,k≤(Zat l x).args→x+1+k≤Zar l (x+1) k:=by
        intro k
        induction k with
        | zero=>intro _; simp [Zar]
        | succ k ih =>
          intro hk
          have:=ih (by omega)
          rw [Zbt]
          have:=hkl k (by omega)
          obtain ⟨_,_,_,_,h6,_⟩:=Zeb hw (i:=Zar l (x+1) k) (by omega)
          omega
      have:=mono 4000 (by omega)
      omega
    · exact h3
  rw [sx] at x0 x1 x2
  rw [sy] at y0 y1 y2
  obtain ⟨s,hs⟩:∃ s,s=Zat l x:=⟨_,rfl⟩
  obtain ⟨t,ht⟩:∃ t,t=Zat l y:=⟨_,rfl⟩
  rw [← hs] at x0 x1 x2 hkl hargs
  rw [← ht] at y0 y1 y2 hkr
  have Hs:=Zac hs
  have Ht:=Zac ht
  have H:=Zac h
  have Hc:=Zac hc
  have Hw:=Zac hw
  have Hu:=Zac hu
  have Hm:=Zac hm
  have Hih:=Zac IH
  have Hkl:=Zac hkl
  have Hkr:=Zac hkr
  have Hkx:Hid (kidsAt l x=Zaz l (x+1) s.args):=by show _=_; rw [hs]; rfl
  have Hky:Hid (kidsAt l y=Zaz l (y+1) t.args):=by show _=_; rw [ht]; rfl
  have hxl:x<l.length:=by omega
  have hyl:y<l.length:=by omega
  clear h hc hw hu hm IH hkl hkr hcx hcy sx sy ex1 ex2 ex3 ey1 ey2 ey3 hbx hby hlen hs ht
  have Hno:Hid (∀ w',Kept Zco w w'→(s.name≠t.name∨s.args≠t.args)→Zpl gb (.slice (some ⟨cb,0,none⟩) gs.length cap) gs l ρ x y w (.returned (.bool false)) w'):=fun w' hk hd=>by
    refine ⟨gs,⟨H.out.on (fun k hk'=>hk.block k hk' (fun h=>h)),Hc.out,rfl,hk.mono (fun _ _ h=>h.elim),Qe _⟩,ρ,rk,Hu.out,Or.inr ⟨rfl,?_⟩⟩
    rw [← Hs.out,← Ht.out]
    rcases hd with hd | hd
    · exact Or.inl hd
    · exact Or.inr (Or.inl hd)
  by_cases hnm:s.name=t.name
  · by_cases har:s.args=t.args
    · have hnb:(s.name != t.name)=false:=by rw [hnm]; simp
      have hab:((s.args:Int) != (t.args:Int))=false:=by rw [har]; simp
      have Hnm:=Zac hnm
      have Har:=Zac har
      clear hnm har
      go_enter Tryz.func95,Tryz.ntmps95
      go_wp2
      go_loopg [9,10,11] (s.args+1) (fun gk av bv nv wr=>∃ (k:Nat) (gs':List GC) (ρ' rk':Nat→Nat),av = .int .i64 (Zar l (x+1) k:Nat)∧bv = .int .i64 (Zar l (y+1) k:Nat)∧nv = .int .i64 k∧k≤s.args∧s.args - k<gk∧JoinLeft gb (.slice (some ⟨cb,0,none⟩) gs.length cap) gs l w wr gs'∧UpOk (gs'.map GC.up) ρ' rk' ∧
        Joined (grOf l) ρ ρ' (Zaz l (x+1) k) (Zaz l (y+1) k)∧wr.heap[w.heap.size]?=some (.cells #[.string ⟨t.name.toArray⟩,.int .i64 s.num,.int .i64 s.args] 102 (0,0)))
      case atStart =>
        have hrt:=Hu.out.rt
        rw [Ql,Hc.out.len] at hrt
        refine ⟨0,gs,ρ,rk,by simp [Zar],by simp [Zar],by go_num,Qm _,by omega,⟨H.out.ext (Ext.of (by repeat' (first | with_reducible(first|exact Qx _ _|apply Kept.drew|apply Kept.drewN|apply Qz|refine Qy ?_ ?_ _)|exact fun h=>absurd h (by simp <;> omega)))),Hc.out,rfl,((Qx _ w).alloc _).alloc _,Qe _⟩,Hu.out,Joined.nil hrt,?_⟩
        have:=Zaq (heap_alloc_new w (.cells #[.string ⟨t.name.toArray⟩,.int .i64 s.num,.int .i64 s.args] 102)) (.cells #[.string ⟨t.name.toArray⟩,.int .i64 t.num,.int .i64 t.args] 102)
        simpa using this
      case round =>
        obtain ⟨k,gs',ρ',rk',rfl,rfl,rfl,hk,hgk,hJ,hup,hj,hbox⟩:=hrel
        obtain ⟨s0,s1,s2,sf⟩:=box3 hbox
        have hsr:=hJ.kept.size
        have hl':=hJ.len
        have b0:wr.cell? ⟨gb,0,none⟩=some (.slice (some ⟨cb,0,none⟩) gs.length cap):=Zaa hJ.at'.box 0 _ rfl
        have hgb':=Zab hJ.at'.box
        have hwb:=Zab hbox
        have HJ:=Zac hJ
        have Hup:=Zac hup
        have Hj:=Zac hj
        have Hbox:=Zac hbox
        clear hJ hup hj hbox
        by_cases hlt:k<s.args
        · have ha:=Hkl.out k hlt
          have hb:=Hkr.out k (by have:=Har.out; omega)
          obtain ⟨ak,hak⟩:∃ a,a=Zar l (x+1) k:=⟨_,rfl⟩
          obtain ⟨bk,hbk⟩:∃ b,b=Zar l (y+1) k:=⟨_,rfl⟩
          rw [← hak] at ha ⊢
          rw [← hbk] at hb ⊢
          have hna:¬ ((gs.length:Int)≤(ak:Int)):=by omega
          have hnb2:¬ ((gs.length:Int)≤(bk:Int)):=by omega
          have HI:=Zac (Hih.out wr gb (.slice (some ⟨cb,0,none⟩) gs.length cap) gs' l ρ' rk' ak bk HJ.out.at' HJ.out.cells Hw.out Hup.out (Qq HJ.out.roots Hm.out) (by omega) (by omega) (by omega))
          have Hak:=Zac hak
          have Hbk:=Zac hbk
          clear hak hbk
          go_wp2_with fail
          refine HI.out.mono ?_
          rintro e w1 ⟨gs2,hJ2,ρ2,rk2,hup2,hres⟩
          have hl2:=hJ2.len
          have hbox2:=(hJ2.kept.block _ hwb (fun e=>by
            have e:cb=w.heap.size:=by simpa [Zbj,Value.ownBlock] using e
            omega)).trans Hbox.out
          have b0:w1.cell? ⟨gb,0,none⟩=some (.slice (some ⟨cb,0,none⟩) gs.length cap):=Zaa hJ2.at'.box 0 _ rfl
          have hgb2:=Zab hJ2.at'.box
          have hs2:=hJ2.kept.size
          obtain ⟨ca,hca⟩:∃ c,gs2[ak]?=some c:=⟨_,Qb (by omega)⟩
          obtain ⟨cb2,hcb2⟩:∃ c,gs2[bk]?=some c:=⟨_,Qb (by omega)⟩
          have hat2:GAt w1 gb (.slice (some ⟨cb,0,none⟩) gs2.length cap) gs2:=by rw [hl2,hl']; exact hJ2.at'
          obtain ⟨_,_,_,a3,_,_⟩:=hat2.cell hca
          obtain ⟨_,_,_,b3,_,_⟩:=hat2.cell hcb2
          rw [(hJ2.cells.all _ _ hca).2] at a3
          rw [(hJ2.cells.all _ _ hcb2).2] at b3
          have HJ2:=Zac hJ2
          have Hup2:=Zac hup2
          have Hbox2:=Zac hbox2
          clear hJ2 hup2 hbox2 hat2 hca hcb2
          rcases hres with ⟨rfl,hj2⟩ | ⟨rfl,hcl⟩
          · have Hj2:=Zac hj2
            clear hj2
            go_wp2
            go_roundg (s.args - k)
            case measure=>omega
            case rel =>
              refine ⟨k+1,gs2,ρ2,rk2,by rw [Zbt,← Hak.out],by rw [Zbt,← Hbk.out],by go_num,by omega,by omega,HJ.out.trans HJ2.out,Hup2.out,?_,Hbox2.out⟩
              rw [Zpm,Zpm,← Hak.out,← Hbk.out]
              have hG:=Ybq Hw.out
              refine Joined.snoc hG Hj.out Hj2.out (fun j hj => ?_) (fun j hj => ?_)
              · obtain ⟨i,hi⟩:=List.mem_iff_getElem?.1 hj
                have hi2:=(Qa.1 hi).1
                rw [Zcn] at hi2
                rw [Zbs l (x+1) k i hi2] at hi
                simp at hi
                subst hi
                have:=Hkl.out i (by omega)
                show _<l.length
                have:=Hc.out.len; omega
              · obtain ⟨i,hi⟩:=List.mem_iff_getElem?.1 hj
                have hi2:=(Qa.1 hi).1
                rw [Zcn] at hi2
                rw [Zbs l (y+1) k i hi2] at hi
                simp at hi
                subst hi
                have:=Hkr.out i (by have:=Har.out; omega)
                show _<l.length
                have:=Hc.out.len; omega
          · have Hcl:=Zac hcl
            clear hcl
            go_wp2
            go_ret
            refine ⟨gs2,HJ.out.trans HJ2.out,ρ2,rk2,Hup2.out,Or.inr ⟨rfl,Or.inr (Or.inr ?_)⟩⟩
            have hc1:=Hcl.out
            rw [Hak.out,Hbk.out] at hc1
            have:=Clash.snoc Hj.out hc1 ((Zaz l (x+1) s.args).drop (k+1)) ((Zaz l (y+1) t.args).drop (k+1))
            rw [← Zml hlt,← Zml (by have:=Har.out; omega)] at this
            rw [Hkx.out,Hky.out]; exact this
        · have hek:k=s.args:=by omega
          subst hek
          go_wp2
          go_ret
          refine ⟨gs',HJ.out,ρ',rk',Hup.out,Or.inl ⟨rfl,?_,?_,?_⟩⟩
          · rw [← Hs.out,← Ht.out]; exact Hnm.out
          · rw [← Hs.out,← Ht.out]; exact Har.out
          · rw [Hkx.out,Hky.out,← Har.out]; exact Hj.out
    · have hnb:(s.name != t.name)=false:=by rw [hnm]; simp
      have hab:((s.args:Int) != (t.args:Int))=true:=by rw [bne_iff_ne]; omega
      have Hd:=Zac har
      clear hnm har
      go_enter Tryz.func95,Tryz.ntmps95
      go_wp2
      all_goals
        go_ret
        exact Hno.out _ (((Qx _ w).alloc _).alloc _) (Or.inr Hd.out)
  · have hnb:(s.name == t.name)=false:=by simpa using hnm
    have Hd:=Zac hnm
    clear hnm
    go_enter Tryz.func95,Tryz.ntmps95
    go_wp2
    all_goals
      go_ret
      exact Hno.out _ (((Qx _ w).alloc _).alloc _) (Or.inl Hd.out)
theorem Zyz (m:Nat) (IH:∀ k,k<m→Zmk k):Znr m:=by
  intro w gb v gs l ρ rk a b h hc hw hu hm ha hb hl
  have hrt:=hu.rt
  rw [Ql] at hrt
  have hx:=hrt.lt a ha
  have hy:=hrt.lt b hb
  have rx:=hrt.idem a ha
  have ry:=hrt.idem b hb
  obtain ⟨x,hxe⟩:∃ x,x=ρ a:=⟨_,rfl⟩
  obtain ⟨y,hye⟩:∃ y,y=ρ b:=⟨_,rfl⟩
  rw [← hxe] at hx rx
  rw [← hye] at hy ry
  obtain ⟨cx,hcx⟩:∃ c,gs[x]?=some c:=⟨_,Qb hx⟩
  obtain ⟨cy,hcy⟩:∃ c,gs[y]?=some c:=⟨_,Qb hy⟩
  obtain ⟨cb,cap,rfl,hcb,hcap,hne,hfz⟩:=h.shape (by omega)
  have b0:w.cell? ⟨gb,0,none⟩=some (.slice (some ⟨cb,0,none⟩) gs.length cap):=Zaa h.box 0 _ rfl
  have hgb:=Zab h.box
  have x4:=(h.cell hcx).2.2.2.2.1
  have y4:=(h.cell hcy).2.2.2.2.1
  obtain ⟨sx,_⟩:=hc.all x cx hcx
  obtain ⟨sy,_⟩:=hc.all y cy hcy
  have hlen:=hc.len
  rw [hlen] at hrt
  have hG:=Ybq hw
  have Hra:=Zac (Zfj w gb _ gs ρ rk a h hu ha hl)
  have Hrb:=Zac (Zfj w gb _ gs ρ rk b h hu hb hl)
  rw [← hxe] at Hra
  rw [← hye] at Hrb
  have HVx:=Zac (Zhp w gb _ gs x cx h hcx hl)
  have hax:a<(grOf l).n:=by show a<l.length; omega
  have hbx:b<(grOf l).n:=by show b<l.length; omega
  have hul:∀ x y,x<gs.length→y<gs.length→ρ x=x→ρ y=y→x≠y→UpOk ((Zgo gs x y).map GC.up) (mg ρ x y) (fun i=>if ρ i=x then rk i+rk y+1 else rk i):=fun x y h1 h2 h3 h4 h5=>by
    rw [Ztm]
    exact hu.turn (by simpa using h1) (by simpa using h2) h3 h4 h5
  have hro:∀ x y,x<gs.length→ρ x=x→x≠y→Zfq ((Zgo gs x y).map GC.up)<Zfq (gs.map GC.up):=fun x y h1 h3 h5=>by
    rw [Ztm]
    obtain ⟨c',e1,e2,_⟩:=hu.root _ x _ (Qe _) (Qb (by simpa using h1))
    rw [h3] at e1 e2
    exact Zpk e1 e2 h5
  have hla:∀ (x y:Nat) c,gs[x]?=some c→GAt (w.setCell ⟨cb,x * 6+4,none⟩ (.int .i64 y)) gb (.slice (some ⟨cb,0,none⟩) gs.length cap) (Zgo gs x y):=fun x y c h1=>h.put h1 (f:=fun c => { c with leader:=y }) (by omega) rfl
  have hsz:∀ x y,(Zgo gs x y).map (·.size)=gs.map (·.size):=fun x y=>by
    apply List.ext_getElem?
    intro i
    rw [Qj,Qj,Zgo,List.getElem?_modify]
    cases gs[i]? with
    | none=>rfl
    | some c=>simp; split <;> rfl
  have hkp:∀ i u,Kept (Zbj (.slice (some ⟨cb,0,none⟩) gs.length cap)) w (w.setCell ⟨cb,i,none⟩ u):=fun i u=>(Qx _ w).setCell (p:=⟨cb,i,none⟩) (fun _=>(rfl:some cb=some cb)) u
  have H:=Zac h
  have Hc:=Zac hc
  have Hw:=Zac hw
  have Hu:=Zac hu
  have Hm:=Zac hm
  have Hrt:=Zac hrt
  have HG:=Zac hG
  have Hih:=Zac IH
  have Hxe:=Zac hxe
  have Hye:=Zac hye
  have Hrx:=Zac rx
  have Hry:=Zac ry
  have Hcx:=Zac hcx
  have Hcy:=Zac hcy
  have Hul:=Zac hul
  have Hro:=Zac hro
  have Hla:=Zac hla
  have Hsz:=Zac hsz
  have Hkp:=Zac hkp
  have Hsx:=Zac sx
  have Hsy:=Zac sy
  clear h hc hw hu hm hrt hG IH hxe hye rx ry hcx hcy hul hro hla hsz hkp sx sy
  by_cases hxy:x=y
  · have hxy':((x:Int) == (y:Int))=true:=by rw [beq_iff_eq]; omega
    have Hxy:=Zac hxy
    clear hxy
    go_enter Tryz.func72,Tryz.ntmps72
    go_wp2_with fail
    refine Hra.out.mono ?_
    rintro e w1 ⟨rfl,rfl⟩
    go_wp2_with fail
    refine Hrb.out.mono ?_
    rintro e w1 ⟨rfl,rfl⟩
    go_wp2
    go_ret
    exact ⟨gs,⟨H.out,Hc.out,rfl,Qx _ _,Qe _⟩,ρ,rk,Hu.out,Or.inl ⟨rfl,Joined.same Hrt.out (Hxe.out.symm.trans (Hxy.out.trans Hye.out))⟩⟩
  · have hxy':((x:Int) == (y:Int))=false:=by rw [Qu]; omega
    have Hxy:=Zac hxy
    clear hxy
    by_cases hvx:cx.sym.name=[]
    · have hv:cx.sym.name.isEmpty=true:=by simpa using hvx
      rw [hv] at HVx
      go_enter Tryz.func72,Tryz.ntmps72
      go_wp2_with fail
      refine Hra.out.mono ?_
      rintro e w1 ⟨rfl,rfl⟩
      go_wp2_with fail
      refine Hrb.out.mono ?_
      rintro e w1 ⟨rfl,rfl⟩
      go_wp2_with fail
      refine HVx.out.mono ?_
      rintro e w1 ⟨rfl,rfl⟩
      go_wp2
      go_ret
      exact ⟨Zgo gs x y,⟨Hla.out x y cx Hcx.out,Hc.out.lead _ _,Hsz.out _ _,Hkp.out _ _,Nat.le_of_lt (Hro.out x y hx Hrx.out Hxy.out)⟩,_,_,Hul.out x y hx hy Hrx.out Hry.out Hxy.out,
        Or.inl ⟨rfl,Joined.var Hrt.out hax hbx (Or.inl ⟨Hxe.out,Hye.out⟩) Hxy.out (by show (Zat l x).name=[]; rw [← Hsx.out]; exact hvx)⟩⟩
    · have hv:cx.sym.name.isEmpty=false:=by simpa using hvx
      rw [hv] at HVx
      obtain ⟨W1,hW1⟩:∃ W,W=w.setCell ⟨cb,y * 6+4,none⟩ (.int .i64 x):=⟨_,rfl⟩
      have hA1:=Hla.out y x cy Hcy.out
      rw [← hW1] at hA1
      have hyx:y≠x:=fun e=>Hxy.out e.symm
      have hcy1:(Zgo gs y x)[y]?=some { cy with leader:=x }:=by
        rw [Zgo,List.getElem?_modify,Hcy.out]; simp
      have HVy:=Zac (Zhp W1 gb _ (Zgo gs y x) y _ hA1 hcy1 (by rw [Zgs]; exact hl))
      have HK1:Hid (Kept (Zbj (.slice (some ⟨cb,0,none⟩) gs.length cap)) w W1):=by rw [hW1]; exact Hkp.out _ _
      have HA1:=Zac hA1
      have HW1:=Zac hW1
      clear hA1 hW1 hcy1
      by_cases hvy:cy.sym.name=[]
      · have hv2:cy.sym.name.isEmpty=true:=by simpa using hvy
        rw [hv2] at HVy
        go_enter Tryz.func72,Tryz.ntmps72
        go_wp2_with fail
        refine Hra.out.mono ?_
        rintro e w1 ⟨rfl,rfl⟩
        go_wp2_with fail
        refine Hrb.out.mono ?_
        rintro e w1 ⟨rfl,rfl⟩
        go_wp2_with fail
        refine HVx.out.mono ?_
        rintro e w1 ⟨rfl,rfl⟩
        go_wp2_with fail
        rw [← HW1.out]
        refine HVy.out.mono ?_
        rintro e w2 ⟨rfl,rfl⟩
        go_wp2
        go_ret
        exact ⟨Zgo gs y x,⟨HA1.out,Hc.out.lead _ _,Hsz.out _ _,HK1.out,Nat.le_of_lt (Hro.out y x hy Hry.out hyx)⟩,_,_,Hul.out y x hy hx Hry.out Hrx.out hyx,
          Or.inl ⟨rfl,Joined.var Hrt.out hax hbx (Or.inr ⟨Hye.out,Hxe.out⟩) hyx (by show (Zat l y).name=[]; rw [← Hsy.out]; exact hvy)⟩⟩
      · have hv2:cy.sym.name.isEmpty=false:=by simpa using hvy
        rw [hv2] at HVy
        have hro1:=Hro.out y x hy Hry.out hyx
        have HI:=Zac (Hih.out (Zfq ((Zgo gs y x).map GC.up)) (by have:=Hm.out; omega) W1 gb (.slice (some ⟨cb,0,none⟩) gs.length cap) (Zgo gs y x) l (mg ρ y x) _ x y HA1.out (Hc.out.lead _ _) Hw.out (Hul.out y x hy hx Hry.out Hrx.out hyx) (Qe _) (by rw [Zgs]; exact hx) (by rw [Zgs]; exact hy) (by rw [Zgs]; exact hl))
        have Hnx:Hid ((Zat l x).name≠[]):=by show _≠_; rw [← Hsx.out]; exact hvx
        have Hny:Hid ((Zat l y).name≠[]):=by show _≠_; rw [← Hsy.out]; exact hvy
        have Hrl:=Zac hro1
        clear hvx hvy hro1
        go_enter Tryz.func72,Tryz.ntmps72
        go_wp2_with fail
        refine Hra.out.mono ?_
        rintro e w1 ⟨rfl,rfl⟩
        go_wp2_with fail
        refine Hrb.out.mono ?_
        rintro e w1 ⟨rfl,rfl⟩
        go_wp2_with fail
        refine HVx.out.mono ?_
        rintro e w1 ⟨rfl,rfl⟩
        go_wp2_with fail
        rw [← HW1.out]
        refine HVy.out.mono ?_
        rintro e w2 ⟨rfl,rfl⟩
        go_wp2_with fail
        refine HI.out.mono ?_
        rintro e w2 ⟨gs2,hJ2,ρ2,rk2,hup2,hres⟩
        have Hout:Hid (JoinLeft gb (.slice (some ⟨cb,0,none⟩) gs.length cap) gs l w1 w2 gs2):=⟨hJ2.at',hJ2.cells,hJ2.sizes.trans (Hsz.out _ _),HK1.out.trans hJ2.kept,Qq hJ2.roots (Nat.le_of_lt Hrl.out)⟩
        have Hup2:=Zac hup2
        clear hJ2 hup2
        rcases hres with ⟨rfl,h1,h2,h3⟩ | ⟨rfl,h1⟩
        · have Hj:Hid (Joined (grOf l) ρ ρ2 [a] [b]):=Joined.name HG.out Hrt.out hax hbx (Or.inr ⟨Hye.out,Hxe.out⟩) hyx Hny.out h1.symm h3.swap
          clear h1 h2 h3
          go_wp2
          go_ret
          exact ⟨gs2,Hout.out,ρ2,rk2,Hup2.out,Or.inl ⟨rfl,Hj.out⟩⟩
        · have Hcl:Hid (Clash (grOf l) ρ [a] [b]):=by
            by_cases hn:(Zat l x).name=(Zat l y).name
            · rcases h1 with h1 | h1 | h1
              · exact absurd hn h1
              · exact Zks HG.out Hrt.out hax hbx (Or.inr ⟨Hye.out,Hxe.out⟩) Hny.out Hnx.out (Or.inr (fun e=>h1 e.symm))
              · exact Zur HG.out Hrt.out hax hbx (Or.inr ⟨Hye.out,Hxe.out⟩) Hny.out hn.symm h1.swap
            · exact Zks HG.out Hrt.out hax hbx (Or.inr ⟨Hye.out,Hxe.out⟩) Hny.out Hnx.out (Or.inl (fun e=>hn e.symm))
          clear h1
          go_wp2
          go_ret
          exact ⟨gs2,Hout.out,ρ2,rk2,Hup2.out,Or.inr ⟨rfl,Hcl.out⟩⟩
theorem Ybr (m:Nat):Znr m:=by
  induction m using Nat.strongRecOn with
  | _ m ih=>exact Zyz m (fun k hk=>Zrp k (ih k hk))
def Zfc (l:List Sym) (gs:List GC) (p:Nat):List GC:=gs.mapIdx (fun i c=>if p≤i then { c with behind:=Zbc l i } else c)
theorem Zfk (l:List Sym) (gs:List GC) (p i:Nat):(Zfc l gs p)[i]?=(gs[i]?).map (fun c=>if p≤i then { c with behind:=Zbc l i } else c):=by
 unfold Zfc; rw [List.getElem?_mapIdx]
theorem Zfd (l:List Sym) (gs:List GC) (p:Nat):(Zfc l gs p).length=gs.length:=by simp [Zfc]
theorem Zvr {l:List Sym} {gs:List GC} {p:Nat}:(Zfc l gs (p+1)).modify p (fun c => { c with behind:=Zbc l p })=Zfc l gs p:=by
 apply List.ext_getElem?
 intro i
 rw [List.getElem?_modify,Zfk,Zfk]
 cases gs[i]? with
 | none=>rfl
 | some c =>
  simp
  by_cases e:p=i
  ·subst e
   have h1:¬ p+1≤p:=by omega
   simp [h1]
  ·rw [if_neg e]
   by_cases h:p+1≤i
   ·rw [if_pos h,if_pos (by omega)]
   ·rw [if_neg h,if_neg (by omega)]
theorem Zza (l:List Sym) (gs:List GC) (p:Nat) (h:gs.length≤p):Zfc l gs p=gs:=by
 apply List.ext_getElem?
 intro i
 rw [Zfk]
 cases hc:gs[i]? with
 | none=>rfl
 | some c =>
  have:=(Qa.1 hc).1
  simp
  omega
theorem Zpn (w:World) (gb:Nat) (v:Value) (gs:List GC) (l:List Sym) (h:GAt w gb v gs) (hlen:gs.length=l.length) (hs:∀ i c,gs[i]?=some c→c.sym=Zat l i) (hw:Wf 2 l) (hl:gs.length≤4000) :
  Calls Tryz.prog 92 #[.pointer (some ⟨gb,0,none⟩)] w fun e w'=>e = .returned (.tuple #[])∧GAt w' gb v (Zfc l gs 0)∧Kept (Zbj v) w w':=by
 have hpos:0<gs.length:=by have:=Zdy hw; omega
 obtain ⟨cb,cap,rfl,hcb,hcap,hne,hfz⟩:=h.shape hpos
 have b0:w.cell? ⟨gb,0,none⟩=some (.slice (some ⟨cb,0,none⟩) gs.length cap):=Zaa h.box 0 _ rfl
 have hgb:=Zab h.box
 have H:=Zac h
 have Hs:=Zac hs
 have Hw:=Zac hw
 have Hlen:=Zac hlen
 clear h hs hw hlen
 go_enter Tryz.func92,Tryz.ntmps92
 go_wp2
 go_loopg [2] (gs.length+1) (fun gk iv wr=>∃ (p:Nat),iv = .int .i64 ((p:Int) - 1)∧p≤gs.length∧p<gk∧GAt wr gb (.slice (some ⟨cb,0,none⟩) gs.length cap) (Zfc l gs p)∧Kept (Zbj (.slice (some ⟨cb,0,none⟩) gs.length cap)) w wr)
 case atStart=>exact ⟨gs.length,rfl,Qe _,by omega,by rw [Zza _ _ _ (Qe _)]; exact H.out,Qx _ _⟩
 case round =>
  obtain ⟨p,rfl,hp,hgk,hG,hkp⟩:=hrel
  have hsr:=hkp.size
  have b0:wr.cell? ⟨gb,0,none⟩=some (.slice (some ⟨cb,0,none⟩) gs.length cap):=Zaa hG.box 0 _ rfl
  have hgb':=Zab hG.box
  have hcb':cb<wr.heap.size:=by omega
  have hfz':∀ j,wr.frozen? ⟨cb,j,none⟩=false:=by
   obtain ⟨cb',cap',e,_,_,_,hf⟩:=hG.shape (by rw [Zfd]; exact hpos)
   simp at e
   obtain ⟨rfl,_⟩:=e
   exact hf
  have HG:=Zac hG
  have Hkp:=Zac hkp
  clear hG hkp
  cases p with
  | zero =>
   have hneg:¬ ((0:Int)≤((0:Nat):Int) - 1):=by omega
   go_wp2
   go_end0
   exact ⟨rfl,HG.out,Hkp.out⟩
  | succ p =>
   have hpi:(((p+1:Nat):Int) - 1)=(p:Int):=by omega
   have hpos':(0:Int)≤(p:Int):=by omega
   have hpl:p<gs.length:=by omega
   obtain ⟨c,hc⟩:∃ c,gs[p]?=some c:=⟨_,Qb hpl⟩
   have hcm:(Zfc l gs (p+1))[p]?=some c:=by rw [Zfk,hc]; simp; intro h; omega
   have hG':GAt wr gb (.slice (some ⟨cb,0,none⟩) (Zfc l gs (p+1)).length cap) (Zfc l gs (p+1)):=by rw [Zfd]; exact HG.out
   obtain ⟨_,_,c2,c3,_,_⟩:=hG'.cell hcm
   have hsy:=Hs.out p c hc
   have hlen:=Hlen.out
   obtain ⟨ex1,ex2,ex3⟩:=Zgg Hw.out (i:=p) (by omega)
   obtain ⟨_,_,_,_,_,hbx,_⟩:=Zeb Hw.out (i:=p) (by omega)
   rw [← hsy] at ex1 ex2 ex3
   have hkl:∀ k,k<c.sym.args→p<Zar l (p+1) k∧Zar l (p+1) k<gs.length:=fun k hk=>by
    have:=ex2 _ (Qh (Zbs l (p+1) _ k hk))
    omega
   have hargs:c.sym.args≤4000:=by
    rcases Nat.lt_or_ge 4000 c.sym.args with h3 | h3
    ·exfalso
     have mono:∀ k,k≤c.sym.args→p+1+k≤Zar l (p+1) k:=by
      intro k
      induction k with
      | zero=>intro _; simp [Zar]
      | succ k ih =>
       intro hk
       have:=ih (by omega)
       rw [Zbt]
       have:=hkl k (by omega)
       obtain ⟨_,_,_,_,h6,_⟩:=Zeb Hw.out (i:=Zar l (p+1) k) (by omega)
       omega
     have:=mono 4000 (by omega)
     have:=hkl 4000 h3
     omega
    ·exact h3
   have Hkl:=Zac hkl
   have Hex3:=Zac ex3
   have Hcm:=Zac hcm
   have Hg':=Zac hG'
   have Hbx:=Zac hbx
   clear hkl ex1 ex2 ex3 hcm hG' hbx hsy hc hlen
   obtain ⟨wo,hwo⟩:∃ x,x=wr:=⟨_,rfl⟩
   subst hwo
   rw [hpi]
   go_wp2
   go_loopg [3,4] (c.sym.args+1) (fun gk ev nv wr=>∃ (k:Nat),ev = .int .i64 (Zar l (p+1) k:Nat)∧nv = .int .i64 k∧k≤c.sym.args∧c.sym.args - k<gk∧wr=wo)
   case atStart=>exact ⟨0,by simp [Zar],by go_num,Qm _,by omega,rfl⟩
   case round =>
    obtain ⟨k,rfl,rfl,hk,hgk2,rfl⟩:=hrel
    by_cases hlt:k<c.sym.args
    ·obtain ⟨h1,h2⟩:=Hkl.out k hlt
     obtain ⟨q,hq⟩:∃ q,q=Zar l (p+1) k:=⟨_,rfl⟩
     rw [← hq] at h1 h2 ⊢
     obtain ⟨cq,hcq⟩:∃ c,(Zfc l gs (p+1))[q]?=some c:=⟨_,Qb (by rw [Zfd]; exact h2)⟩
     obtain ⟨_,_,_,q3,_,_⟩:=Hg'.out.cell hcq
     have hbq:cq.behind=Zbc l q:=by
      rw [Zfk] at hcq
      cases hd:gs[q]? with
      | none=>rw [hd] at hcq; simp at hcq
      | some d =>
       rw [hd] at hcq
       simp at hcq
       rw [if_pos (by omega)] at hcq
       rw [← hcq]
     rw [hbq] at q3
     have Hq:=Zac hq
     clear hcq hbq hq
     go_wp2
     go_roundg (c.sym.args - k)
     case measure=>omega
     case rel=>exact ⟨k+1,by rw [Zbt,← Hq.out],by go_num,by omega,by omega,rfl⟩
    ·have hek:k=c.sym.args:=by omega
     subst hek
     obtain ⟨q,hq⟩:∃ q,q=Zar l (p+1) c.sym.args:=⟨_,rfl⟩
     rw [← hq]
     have Hq:=Zac hq
     clear hq
     go_wp2
     go_roundg (p+1)
     case measure=>omega
     case rel =>
      refine ⟨p,by rfl,by omega,by omega,?_,Hkp.out.trans ((Qx _ wr).setCell (p:=⟨cb,p * 6+3,none⟩) (fun _=>(rfl:some cb=some cb)) _)⟩
      have:=Hg'.out.put Hcm.out (f:=fun c => { c with behind:=Zbc l p }) (j:=3) (u := .int .i64 (Zbc l p:Nat)) (by omega) rfl
      rw [Zvr,Zfd] at this
      rw [Hq.out,Hex3.out]
      exact this
end Go.Proofs.YtlmjilpjmgjjcabGreatDoor
