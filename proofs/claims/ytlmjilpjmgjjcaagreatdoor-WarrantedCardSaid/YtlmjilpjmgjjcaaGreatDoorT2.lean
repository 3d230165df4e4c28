/-
  PROVED HERE: what the program's reader tells of how far it has read: the methods that only look (the conditions stand in each statement).
-/
import Derived.Test.YtlmjilpjmgjjcaaGreatDoorT1
import Derived.Deep.RegionLawGrows
import Derived.Laws.OwnMore
import Derived.Deep.QuietTactic
set_option linter.unusedSimpArgs false
set_option linter.unusedVariables false
set_option maxRecDepth 10000
set_option maxHeartbeats 4000000
namespace Go.Proofs.YtlmjilpjmgjjcaaGreatDoor
def Wf:Nat→List Sym→Prop
 | k,[]=>k=0
 | k,s::r=>0<k∧(s.name=[]→s.args=0)∧(s.name≠[]→s.num=0)∧Wf (k - 1+s.args) r
def vr (n:Nat):List Sym:=[⟨[],n,0⟩]
def ap1 (σ:Nat→List Sym) (s:Sym):List Sym:=if s.name=[] then σ s.num else [s]
def ap (σ:Nat→List Sym) (l:List Sym):List Sym:=l.flatMap (ap1 σ)
theorem Zsa (σ:Nat→List Sym):ap σ []=[]:=rfl
theorem Zbz (σ:Nat→List Sym) (s:Sym) (l:List Sym):ap σ (s::l)=ap1 σ s++ap σ l:=rfl
theorem Zfz (σ:Nat→List Sym) (l m:List Sym):ap σ (l++m)=ap σ l++ap σ m:=by simp [ap]
theorem Zkx (σ:Nat→List Sym) (ls:List (List Sym)):ap σ ls.flatten=(ls.map (ap σ)).flatten:=by
 induction ls with
 | nil=>rfl
 | cons l ls ih=>simp [Zfz,ih]
theorem Zuq (σ:Nat→List Sym) (n:Nat):ap σ (vr n)=σ n:=by simp [ap,vr,ap1]
theorem Ycc (θ σ:Nat→List Sym) (l:List Sym):ap θ (ap σ l)=ap (fun n=>ap θ (σ n)) l:=by
 induction l with
 | nil=>rfl
 | cons s l ih =>
  rw [Zbz,Zfz,ih,Zbz]
  congr 1
  unfold ap1
  split
  ·rfl
  ·rename_i h; simp [ap,ap1,h]
def Occ (v:Nat) (l:List Sym):Prop:=∃ s ∈ l,s.name=[]∧s.num=v
theorem Zqj {σ τ:Nat→List Sym} {l:List Sym} (h:∀ n,Occ n l→σ n=τ n):ap σ l=ap τ l:=by
 induction l with
 | nil=>rfl
 | cons s l ih =>
  rw [Zbz,Zbz,ih (fun n hn=>h n (by obtain ⟨t,h1,h2⟩:=hn; exact ⟨t,List.mem_cons_of_mem _ h1,h2⟩))]
  congr 1
  unfold ap1
  split
  ·rename_i hs; exact h _ ⟨s,List.mem_cons_self ..,hs,rfl⟩
  ·rfl
theorem Zoq {v:Nat} {l m:List Sym}:Occ v (l++m)↔Occ v l∨Occ v m:=by
 constructor
 ·rintro ⟨s,h,h1,h2⟩
  rcases Qk.1 h with h | h
  ·exact Or.inl ⟨s,h,h1,h2⟩
  ·exact Or.inr ⟨s,h,h1,h2⟩
 ·rintro (⟨s,h,h1,h2⟩ | ⟨s,h,h1,h2⟩)
  ·exact ⟨s,Qk.2 (Or.inl h),h1,h2⟩
  ·exact ⟨s,Qk.2 (Or.inr h),h1,h2⟩
theorem Zlr {v n:Nat}:Occ v (vr n)↔v=n:=by
 constructor
 ·rintro ⟨s,h,h1,h2⟩
  simp [vr] at h; subst h; exact h2.symm
 ·rintro rfl; exact ⟨_,by simp [vr]; rfl,rfl,rfl⟩
theorem Zsb {v:Nat} {σ:Nat→List Sym} {l:List Sym}:Occ v (ap σ l)↔∃ n,Occ n l∧Occ v (σ n):=by
 constructor
 ·rintro ⟨s,h,h1,h2⟩
  obtain ⟨t,ht,hs⟩:=List.mem_flatMap.1 h
  unfold ap1 at hs
  split at hs
  ·rename_i hn; exact ⟨t.num,⟨t,ht,hn,rfl⟩,s,hs,h1,h2⟩
  ·simp at hs; subst hs; contradiction
 ·rintro ⟨n,⟨t,ht,h1,h2⟩,s,hs,h3,h4⟩
  refine ⟨s,List.mem_flatMap.2 ⟨t,ht,?_⟩,h3,h4⟩
  unfold ap1; rw [if_pos h1,h2]; exact hs
theorem Zga:∀ {l:List Sym} {j k:Nat} {m:List Sym},Wf j l→Wf k m→Wf (j+k) (l++m):=by
 intro l
 induction l with
 | nil=>intro j k m h1 h2; cases h1; simpa using h2
 | cons s l ih =>
  intro j k m h1 h2
  obtain ⟨h,ha,hb,hr⟩:=h1
  refine ⟨by omega,ha,hb,?_⟩
  have:=ih hr h2
  have e:j+k - 1+s.args=j - 1+s.args+k:=by omega
  rw [e]; exact this
theorem Zkd:∀ {l:List Sym} {j k:Nat},Wf (j+k) l→∃ a b,l=a++b∧Wf j a∧Wf k b:=by
 intro l
 induction l with
 | nil =>
  intro j k h
  have h:j+k=0:=h
  exact ⟨[],[],rfl,by show j=0; omega,by show k=0; omega⟩
 | cons s l ih =>
  intro j k h
  rcases Nat.eq_zero_or_pos j with rfl | hj
  ·exact ⟨[],s::l,rfl,rfl,by simpa using h⟩
  ·obtain ⟨h1,ha,hb,hr⟩:=h
   have e:j+k - 1+s.args=j - 1+s.args+k:=by omega
   rw [e] at hr
   obtain ⟨a,b,rfl,h2,h3⟩:=ih hr
   exact ⟨s::a,b,rfl,⟨hj,ha,hb,h2⟩,h3⟩
theorem Zsc:∀ {a:List Sym} {k:Nat} {b x y:List Sym},Wf k a→Wf k b→a++x=b++y→a=b∧x=y:=by
 intro a
 induction a with
 | nil =>
  intro k b x y h1 h2 h
  cases h1
  cases b with
  | nil=>exact ⟨rfl,h⟩
  | cons s b=>exact absurd h2.1 (by omega)
 | cons s a ih =>
  intro k b x y h1 h2 h
  cases b with
  | nil =>
   have h2:k=0:=h2
   exact absurd h1.1 (by omega)
  | cons t b =>
   simp only [List.cons_append,List.cons.injEq] at h
   obtain ⟨rfl,h⟩:=h
   obtain ⟨rfl,h3⟩:=ih h1.2.2.2 h2.2.2.2 h
   exact ⟨rfl,h3⟩
theorem Zez:∀ {l:List Sym} {k:Nat},Wf k l→k≤l.length:=by
 intro l
 induction l with
 | nil=>intro k h; have h:k=0:=h; omega
 | cons s l ih=>intro k h; have:=ih h.2.2.2; simp; omega
theorem Zur (n:Nat):Wf 1 (vr n):=⟨by omega,fun _=>rfl,fun h=>absurd rfl h,rfl⟩
theorem Zls {l:List Sym} (h:Wf 1 l):∃ s r,l=s::r∧Wf s.args r∧(s.name=[]→l=vr s.num):=by
 cases l with
 | nil=>exact absurd (show 1=0 from h) (by omega)
 | cons s r =>
  have hr:=h.2.2.2
  simp only [Nat.sub_self,Nat.zero_add] at hr
  refine ⟨s,r,rfl,hr,fun hn => ?_⟩
  have h0:=h.2.1 hn
  rw [h0] at hr
  cases r with
  | nil=>cases s; simp at hn h0; subst hn h0; rfl
  | cons t r=>exact absurd hr.1 (by omega)
theorem Zky {ls:List (List Sym)} (h:∀ l ∈ ls,Wf 1 l):Wf ls.length ls.flatten:=by
 induction ls with
 | nil=>rfl
 | cons l ls ih =>
  have:=Zga (h l (by simp)) (ih (fun l' hl=>h l' (by simp [hl])))
  simpa [Nat.add_comm] using this
theorem Zsd:∀ (k:Nat) {l:List Sym},Wf k l→∃ ls:List (List Sym),ls.length=k∧l=ls.flatten∧∀ l' ∈ ls,Wf 1 l':=by
 intro k
 induction k with
 | zero =>
  intro l h
  cases l with
  | nil=>exact ⟨[],rfl,rfl,by simp⟩
  | cons s l=>exact absurd h.1 (by omega)
 | succ k ih =>
  intro l h
  rw [Nat.add_comm] at h
  obtain ⟨a,b,rfl,h1,h2⟩:=Zkd h
  obtain ⟨ls,h3,rfl,h4⟩:=ih h2
  refine ⟨a::ls,by simp [h3],by simp,?_⟩
  intro l' hl
  rcases Qp.1 hl with rfl | hl
  ·exact h1
  ·exact h4 _ hl
theorem Zjd:∀ {ls ms:List (List Sym)},(∀ l ∈ ls,Wf 1 l)→(∀ l ∈ ms,Wf 1 l)→ls.length=ms.length→ls.flatten=ms.flatten→ls=ms:=by
 intro ls
 induction ls with
 | nil=>intro ms _ _ h _; cases ms with
  | nil=>rfl
  | cons m ms=>simp at h
 | cons l ls ih =>
  intro ms h1 h2 hl h
  cases ms with
  | nil=>simp at hl
  | cons m ms =>
   simp only [List.flatten_cons] at h
   obtain ⟨rfl,h'⟩:=Zsc (h1 l (by simp)) (h2 m (by simp)) h
   rw [ih (fun l' hl=>h1 l' (List.mem_cons_of_mem _ hl)) (fun l' hl=>h2 l' (List.mem_cons_of_mem _ hl)) (by simpa using hl) h']
def Ts (σ:Nat→List Sym):Prop:=∀ n,Wf 1 (σ n)
theorem Ymc:Ts vr:=Zur
theorem Zjl {σ:Nat→List Sym} (hσ:Ts σ):∀ {l:List Sym} {k:Nat},Wf k l→Wf k (ap σ l):=by
 intro l
 induction l with
 | nil=>intro k h; exact h
 | cons s l ih =>
  intro k h
  obtain ⟨h1,h2,h3,h4⟩:=h
  rw [Zbz]
  unfold ap1
  split
  ·rename_i hn
   rw [h2 hn] at h4
   have:=Zga (hσ s.num) (ih h4)
   have e:1+(k - 1+0)=k:=by omega
   rwa [e] at this
  ·exact ⟨h1,h2,h3,ih h4⟩
theorem Ycd {σ θ:Nat→List Sym} (hσ:Ts σ) (hθ:Ts θ):Ts (fun n=>ap θ (σ n)):=fun n=>Zjl hθ (hσ n)
theorem Yjv:∀ {l:List Sym} {k:Nat},Wf k l→ap vr l=l:=by
 intro l
 induction l with
 | nil=>intro k h; rfl
 | cons s l ih =>
  intro k h
  rw [Zbz,ih h.2.2.2]
  unfold ap1
  split
  ·rename_i hn
   have:=h.2.1 hn
   cases s; simp at hn this; subst hn this; rfl
  ·rfl
theorem Zke {σ:Nat→List Sym} (hσ:Ts σ) (l:List Sym):l.length≤(ap σ l).length:=by
 induction l with
 | nil=>simp
 | cons s l ih =>
  rw [Zbz]
  have:1≤(ap1 σ s).length:=by
   unfold ap1; split
   ·exact Zez (hσ _)
   ·simp
  simp; omega
theorem Zkz {σ:Nat→List Sym} (hσ:Ts σ) {v:Nat} {l:List Sym} (h:Occ v l):(σ v).length+l.length≤(ap σ l).length+1:=by
 induction l with
 | nil=>obtain ⟨s,h,_⟩:=h; simp at h
 | cons s l ih =>
  rw [Zbz]
  simp only [Qg,Qf]
  have hl:=Zke hσ l
  have:1≤(ap1 σ s).length:=by
   unfold ap1; split
   ·exact Zez (hσ _)
   ·simp
  obtain ⟨t,ht,h1,h2⟩:=h
  rcases Qp.1 ht with rfl | ht
  ·have:ap1 σ t=σ v:=by unfold ap1; rw [if_pos h1,h2]
   rw [this]; omega
  ·have:=ih ⟨t,ht,h1,h2⟩; omega
def sub1 (v:Nat) (t:List Sym):Nat→List Sym:=fun n=>if n=v then t else vr n
theorem Zmn {v:Nat} {t:List Sym} (h:Wf 1 t):Ts (sub1 v t):=fun n=>by
 unfold sub1; split
 ·exact h
 ·exact Zur n
theorem Zus {θ:Nat→List Sym} {v:Nat} {t:List Sym} (h:θ v=ap θ t) (n:Nat):ap θ (sub1 v t n)=θ n:=by
 unfold sub1; split
 ·rename_i e; subst e; exact h.symm
 ·exact Zuq θ n
theorem Zor {θ σ:Nat→List Sym} (h:∀ n,ap θ (σ n)=θ n) (l:List Sym):ap θ (ap σ l)=ap θ l:=by
 rw [Ycc]; exact Zqj (fun n _=>h n)
structure Parts (a b x y:List Sym):Prop where
 ex:∃ p ra rb,a=p++x++ra∧b=p++y++rb
 wx:Wf 1 x
 wy:Wf 1 y
 ne:x.head?≠y.head?
theorem Parts.unif {a b x y:List Sym} (h:Parts a b x y) {θ:Nat→List Sym} (hθ:Ts θ) (hu:ap θ a=ap θ b):ap θ x=ap θ y:=by
 obtain ⟨p,ra,rb,rfl,rfl⟩:=h.ex
 simp only [Zfz,Qi] at hu
 exact (Zsc (Zjl hθ h.wx) (Zjl hθ h.wy) (List.append_cancel_left hu)).1
theorem Parts.occ {a b x y:List Sym} (h:Parts a b x y) {v:Nat}:(Occ v x→Occ v a)∧(Occ v y→Occ v b):=by
 obtain ⟨p,ra,rb,rfl,rfl⟩:=h.ex
 simp only [Zoq]
 exact ⟨fun h=>Or.inl (Or.inr h),fun h=>Or.inl (Or.inr h)⟩
theorem Parts.symm {a b x y:List Sym} (h:Parts a b x y):Parts b a y x:=by
 obtain ⟨p,ra,rb,h1,h2⟩:=h.ex
 exact ⟨⟨p,rb,ra,h2,h1⟩,h.wy,h.wx,h.ne.symm⟩
def NoFit (a b:List Sym):Prop:=∀ θ,Ts θ→ap θ a≠ap θ b
def Vast (a b:List Sym):Prop:=(∃ θ,Ts θ∧ap θ a=ap θ b)∧∀ θ,Ts θ→ap θ a=ap θ b→30<(ap θ a).length
structure Mgu (σ:Nat→List Sym) (a b:List Sym):Prop where
 ts:Ts σ
 unif:ap σ a=ap σ b
 wide:∀ θ,Ts θ→ap θ a=ap θ b→∀ n,ap θ (σ n)=θ n
 occ:∀ n v,Occ v (σ n)→v=n∨Occ v a∨Occ v b
 own:∀ n,¬ Occ n a→¬ Occ n b→σ n=vr n
theorem Zyq {a b x y:List Sym} (h:Parts a b x y) {s t:Sym} {r q:List Sym} (hx:x=s::r) (hy:y=t::q) (hs:s.name≠[]) (ht:t.name≠[]):NoFit a b:=by
 intro θ hθ hu
 have:=h.unif hθ hu
 rw [hx,hy,Zbz,Zbz] at this
 simp only [ap1,if_neg hs,if_neg ht,List.cons_append,List.nil_append,List.cons.injEq] at this
 have hne:=h.ne
 rw [hx,hy] at hne
 simp at hne
 exact hne this.1
theorem Zmo {a b x y:List Sym} (h:Parts a b x y) {v:Nat} (hx:x=vr v) (ho:Occ v y):NoFit a b:=by
 intro θ hθ hu
 have:=h.unif hθ hu
 rw [hx,Zuq] at this
 obtain ⟨t,q,rfl,hq,hv⟩:=Zls h.wy
 by_cases hn:t.name=[]
 ·have:=hv hn
  rw [this,Zlr] at ho
  have hne:=h.ne
  rw [hx,this,ho] at hne
  exact hne rfl
 ·have hl:=Zkz hθ ho
  rw [← this] at hl
  have hq0:q≠[]:=by
   rintro rfl
   obtain ⟨s,h1,h2,_⟩:=ho
   simp at h1; subst h1; exact hn h2
  have:0<q.length:=List.length_pos_iff.2 hq0
  simp only [Qf] at hl
  omega
theorem Zww {a b x y:List Sym} (h:Parts a b x y) {v:Nat} (hx:x=vr v) {θ:Nat→List Sym} (hθ:Ts θ) (hu:ap θ a=ap θ b):∀ n,ap θ (sub1 v y n)=θ n:=by
 have:=h.unif hθ hu
 rw [hx,Zuq] at this
 exact Zus this
structure Carr (a0 b0:List Sym) (σ:Nat→List Sym) (a b:List Sym):Prop where
 ts:Ts σ
 ha:a=ap σ a0
 hb:b=ap σ b0
 wide:∀ θ,Ts θ→ap θ a0=ap θ b0→∀ n,ap θ (σ n)=θ n
 occ:∀ n v,Occ v (σ n)→v=n∨Occ v a0∨Occ v b0
 own:∀ n,¬ Occ n a0→¬ Occ n b0→σ n=vr n
theorem Carr.start {a b:List Sym} {j k:Nat} (ha:Wf j a) (hb:Wf k b):Carr a b vr a b :=
 ⟨Ymc,(Yjv ha).symm,(Yjv hb).symm,fun θ _ _ n=>Zuq θ n,fun n v h=>Or.inl (Zlr.1 h),fun _ _ _=>rfl⟩
theorem Carr.unif {a0 b0:List Sym} {σ:Nat→List Sym} {a b:List Sym} (h:Carr a0 b0 σ a b) {θ:Nat→List Sym} (hθ:Ts θ) (hu:ap θ a0=ap θ b0):ap θ a=ap θ a0∧ap θ b=ap θ b0∧ap θ a=ap θ b:=by
 have e1:ap θ a=ap θ a0:=by rw [h.ha,Zor (h.wide θ hθ hu)]
 have e2:ap θ b=ap θ b0:=by rw [h.hb,Zor (h.wide θ hθ hu)]
 exact ⟨e1,e2,by rw [e1,e2,hu]⟩
theorem Carr.occs {a0 b0:List Sym} {σ:Nat→List Sym} {a b:List Sym} (h:Carr a0 b0 σ a b) {v:Nat} (hv:Occ v a∨Occ v b):Occ v a0∨Occ v b0:=by
 rw [h.ha,h.hb,Zsb,Zsb] at hv
 rcases hv with ⟨n,h1,h2⟩ | ⟨n,h1,h2⟩
 ·rcases h.occ n v h2 with rfl | h3
  ·exact Or.inl h1
  ·exact h3
 ·rcases h.occ n v h2 with rfl | h3
  ·exact Or.inr h1
  ·exact h3
theorem Carr.step {a0 b0:List Sym} {σ:Nat→List Sym} {a b:List Sym} (h:Carr a0 b0 σ a b) {x y:List Sym} {v:Nat} (hp:Parts a b x y∨Parts b a x y) (hx:x=vr v) :
  Carr a0 b0 (fun n=>ap (sub1 v y) (σ n)) (ap (sub1 v y) a) (ap (sub1 v y) b):=by
 have wy:Wf 1 y:=by rcases hp with hp | hp <;> exact hp.wy
 have ov:Occ v a∨Occ v b:=by
  rcases hp with hp | hp
  ·exact Or.inl (hp.occ.1 (by rw [hx]; exact Zlr.2 rfl))
  ·exact Or.inr (hp.occ.1 (by rw [hx]; exact Zlr.2 rfl))
 have oy:∀ m,Occ m y→Occ m a∨Occ m b:=fun m hm=>by
  rcases hp with hp | hp
  ·exact Or.inr (hp.occ.2 hm)
  ·exact Or.inl (hp.occ.2 hm)
 refine ⟨Ycd h.ts (Zmn wy),?_,?_,?_,?_,?_⟩
 ·rw [h.ha,Ycc]
 ·rw [h.hb,Ycc]
 ·intro θ hθ hu n
  have hu':=(h.unif hθ hu).2.2
  rw [Zor,h.wide θ hθ hu]
  rcases hp with hp | hp
  ·exact Zww hp hx hθ hu'
  ·exact Zww hp hx hθ hu'.symm
 ·intro n m hm
  rw [Zsb] at hm
  obtain ⟨k,h1,h2⟩:=hm
  unfold sub1 at h2
  split at h2
  ·exact Or.inr (h.occs (oy m h2))
  ·rw [Zlr] at h2
   subst h2
   exact h.occ n m h1
 ·intro n hn1 hn2
  rw [h.own n hn1 hn2,Zuq]
  unfold sub1
  split
  ·rename_i e
   subst e
   rcases h.occs ov with h | h
   ·exact absurd h hn1
   ·exact absurd h hn2
  ·rfl
theorem Carr.done {a0 b0:List Sym} {σ:Nat→List Sym} {a b:List Sym} (h:Carr a0 b0 σ a b) (e:a=b):Mgu σ a0 b0 :=
 ⟨h.ts,by rw [← h.ha,← h.hb,e],h.wide,h.occ,h.own⟩
theorem Carr.none {a0 b0:List Sym} {σ:Nat→List Sym} {a b:List Sym} (h:Carr a0 b0 σ a b) (e:NoFit a b∨NoFit b a):NoFit a0 b0:=by
 intro θ hθ hu
 rcases e with e | e
 ·exact e θ hθ (h.unif hθ hu).2.2
 ·exact e θ hθ (h.unif hθ hu).2.2.symm
theorem Mgu.small {σ:Nat→List Sym} {a b:List Sym} (h:Mgu σ a b) (hs:30<(ap σ a).length):Vast a b:=by
 refine ⟨⟨σ,h.ts,h.unif⟩,fun θ hθ hu => ?_⟩
 have:=Zke hθ (ap σ a)
 rw [Zor (h.wide θ hθ hu)] at this
 omega
structure Gr where
 n:Nat
 hd:Nat→Sym
 kids:Nat→List Nat
structure Gr.Ok (G:Gr):Prop where
 kl:∀ i,i<G.n→∀ k ∈ G.kids i,k<G.n
 ar:∀ i,i<G.n→(G.hd i).args=(G.kids i).length
 vn:∀ i,i<G.n→(G.hd i).name=[]→G.kids i=[]
 nv:∀ i,i<G.n→(G.hd i).name≠[]→(G.hd i).num=0
structure Rt (n:Nat) (ρ:Nat→Nat):Prop where
 lt:∀ i,i<n→ρ i<n
 idem:∀ i,i<n→ρ (ρ i)=ρ i
def mg (ρ:Nat→Nat) (x y:Nat):Nat→Nat:=fun i=>if ρ i=x then y else ρ i
theorem Rt.mg {n:Nat} {ρ:Nat→Nat} (h:Rt n ρ) {x y:Nat} (hx:x<n) (hy:y<n) (ry:ρ y=y) (hne:x≠y):Rt n (mg ρ x y):=by
 refine ⟨fun i hi => ?_,fun i hi => ?_⟩
 ·unfold YtlmjilpjmgjjcaaGreatDoor.mg; split
  ·exact hy
  ·exact h.lt i hi
 ·unfold YtlmjilpjmgjjcaaGreatDoor.mg
  by_cases h1:ρ i=x
  ·rw [if_pos h1,if_neg (by rw [ry]; exact fun e=>hne e.symm),ry]
  ·rw [if_neg h1,h.idem i hi,if_neg h1]
structure Vals (G:Gr) (val:Nat→List Sym):Prop where
 wf:∀ i,i<G.n→Wf 1 (val i)
 nm:∀ i,i<G.n→(G.hd i).name≠[]→val i=G.hd i::((G.kids i).map val).flatten
def Con (n:Nat) (ρ:Nat→Nat) (val:Nat→List Sym):Prop:=∀ i,i<n→val (ρ i)=val i
def Cg (G:Gr) (ρ:Nat→Nat) (i:Nat):Prop:=(G.hd i).name≠[]→(G.hd (ρ i)).name=(G.hd i).name∧(G.kids (ρ i)).map ρ=(G.kids i).map ρ
def Grow (n:Nat) (ρ ρ':Nat→Nat):Prop:=∀ i j,i<n→j<n→ρ i=ρ j→ρ' i=ρ' j
theorem Grow.refl (n:Nat) (ρ:Nat→Nat):Grow n ρ ρ:=fun _ _ _ _ h=>h
theorem Grow.trans {n:Nat} {ρ ρ' ρ'':Nat→Nat} (h:Grow n ρ ρ') (k:Grow n ρ' ρ''):Grow n ρ ρ'':=fun i j hi hj e=>k i j hi hj (h i j hi hj e)
theorem Grow.mg {n:Nat} (ρ:Nat→Nat) (x y:Nat):Grow n ρ (mg ρ x y):=fun i j _ _ e=>by unfold YtlmjilpjmgjjcaaGreatDoor.mg; rw [e]
theorem Grow.map {n:Nat} {ρ ρ':Nat→Nat} (h:Grow n ρ ρ'):∀ {l m:List Nat},(∀ k ∈ l,k<n)→(∀ k ∈ m,k<n)→l.map ρ=m.map ρ→l.map ρ'=m.map ρ':=by
 intro l
 induction l with
 | nil=>intro m _ _ e; cases m with
  | nil=>rfl
  | cons _ _=>simp at e
 | cons a l ih =>
  intro m hl hm e
  cases m with
  | nil=>simp at e
  | cons b m =>
   simp only [List.map_cons,List.cons.injEq] at e ⊢
   exact ⟨h a b (hl a (by simp)) (hm b (by simp)) e.1,ih (fun k hk=>hl k (by simp [hk])) (fun k hk=>hm k (by simp [hk])) e.2⟩
structure Joined (G:Gr) (ρ ρ':Nat→Nat) (ats bs:List Nat):Prop where
 rt:Rt G.n ρ'
 grow:Grow G.n ρ ρ'
 eq:ats.map ρ'=bs.map ρ'
 cg:∀ i,i<G.n→Cg G ρ i→Cg G ρ' i
 con:∀ val,Vals G val→Con G.n ρ val→ats.map val=bs.map val→Con G.n ρ' val
def Clash (G:Gr) (ρ:Nat→Nat) (ats bs:List Nat):Prop:=∀ val,Vals G val→Con G.n ρ val→ats.map val≠bs.map val
theorem Joined.nil {G:Gr} {ρ:Nat→Nat} (h:Rt G.n ρ):Joined G ρ ρ [] []:=⟨h,Grow.refl _ _,rfl,fun _ _ h=>h,fun _ _ h _=>h⟩
theorem Joined.same {G:Gr} {ρ:Nat→Nat} (h:Rt G.n ρ) {a b:Nat} (e:ρ a=ρ b):Joined G ρ ρ [a] [b]:=⟨h,Grow.refl _ _,by simp [e],fun _ _ h=>h,fun _ _ h _=>h⟩
theorem Joined.snoc {G:Gr} (hG:G.Ok) {ρ ρ' ρ'':Nat→Nat} {ats bs:List Nat} {a b:Nat} (h:Joined G ρ ρ' ats bs) (k:Joined G ρ' ρ'' [a] [b]) (ha:∀ k ∈ ats,k<G.n) (hb:∀ k ∈ bs,k<G.n) :
  Joined G ρ ρ'' (ats++[a]) (bs++[b]):=by
 refine ⟨k.rt,h.grow.trans k.grow,?_,fun i hi hc=>k.cg i hi (h.cg i hi hc),fun val hv hc e => ?_⟩
 ·rw [Qr,Qr,k.grow.map ha hb h.eq,k.eq]
 ·rw [Qr,Qr] at e
  have hl:ats.length=bs.length:=by simpa using congrArg List.length h.eq
  have:=List.append_inj e (by simp [hl])
  exact k.con val hv (h.con val hv hc this.1) this.2
theorem Clash.snoc {G:Gr} {ρ ρ':Nat→Nat} {ats bs:List Nat} {a b:Nat} (h:Joined G ρ ρ' ats bs) (k:Clash G ρ' [a] [b]) (ra rb:List Nat):Clash G ρ (ats++a::ra) (bs++b::rb):=by
 intro val hv hc e
 rw [Qr,Qr] at e
 have hl:ats.length=bs.length:=by simpa using congrArg List.length h.eq
 have:=List.append_inj e (by simp [hl])
 refine k val hv (h.con val hv hc this.1) ?_
 have h2:=this.2
 simp only [List.map_cons,List.cons.injEq] at h2
 simp [h2.1]
theorem Yce {G:Gr} {ρ:Nat→Nat} (h:Rt G.n ρ) {a b x y:Nat} (ha:a<G.n) (hb:b<G.n) (hxy:(x=ρ a∧y=ρ b)∨(x=ρ b∧y=ρ a)) {val:Nat→List Sym} (hv:Vals G val) (hc:Con G.n ρ val) (e:val a=val b):Con G.n (mg ρ x y) val:=by
 have exy:val x=val y:=by
  rcases hxy with ⟨rfl,rfl⟩ | ⟨rfl,rfl⟩
  ·rw [hc a ha,hc b hb,e]
  ·rw [hc a ha,hc b hb,e]
 intro i hi
 unfold mg
 split
 ·rename_i h1
  rw [← exy,← h1,hc i hi]
 ·exact hc i hi
theorem Ymd {ρ:Nat→Nat} {a b x y:Nat} (hxy:(x=ρ a∧y=ρ b)∨(x=ρ b∧y=ρ a)):mg ρ x y a=mg ρ x y b:=by
 unfold mg
 rcases hxy with ⟨rfl,rfl⟩ | ⟨rfl,rfl⟩
 ·simp
 ·simp
theorem Joined.var {G:Gr} {ρ:Nat→Nat} (h:Rt G.n ρ) {a b x y:Nat} (ha:a<G.n) (hb:b<G.n) (hxy:(x=ρ a∧y=ρ b)∨(x=ρ b∧y=ρ a)) (hne:x≠y) (hv:(G.hd x).name=[]) :
  Joined G ρ (mg ρ x y) [a] [b]:=by
 have hx:x<G.n:=by rcases hxy with ⟨rfl,rfl⟩ | ⟨rfl,rfl⟩ <;> exact h.lt _ (by assumption)
 have hy:y<G.n:=by rcases hxy with ⟨rfl,rfl⟩ | ⟨rfl,rfl⟩ <;> exact h.lt _ (by assumption)
 have ry:ρ y=y:=by rcases hxy with ⟨rfl,rfl⟩ | ⟨rfl,rfl⟩ <;> exact h.idem _ (by assumption)
 refine ⟨h.mg hx hy ry hne,Grow.mg _ _ _,by simp [Ymd hxy],?_,fun val hval hc e=>Yce h ha hb hxy hval hc (by simpa using e)⟩
 intro i hi hc hn
 obtain ⟨h1,h2⟩:=hc hn
 have hix:ρ i≠x:=by
  intro e
  rw [e,hv] at h1
  exact hn h1.symm
 have e:mg ρ x y i=ρ i:=by unfold mg; rw [if_neg hix]
 rw [e]
 refine ⟨h1,?_⟩
 have hkl:∀ (l m:List Nat),l.map ρ=m.map ρ→l.map (mg ρ x y)=m.map (mg ρ x y):=by
  intro l m e
  have:∀ l:List Nat,l.map (mg ρ x y)=(l.map ρ).map (fun j=>if j=x then y else j):=by
   intro l; simp [mg]
  rw [this,this,e]
 exact hkl _ _ h2
theorem Grow.of_map {ρ:Nat→Nat} {x y:Nat} {l m:List Nat} (e:l.map ρ=m.map ρ):l.map (YtlmjilpjmgjjcaaGreatDoor.mg ρ x y)=m.map (YtlmjilpjmgjjcaaGreatDoor.mg ρ x y):=by
 have:∀ l:List Nat,l.map (YtlmjilpjmgjjcaaGreatDoor.mg ρ x y)=(l.map ρ).map (fun j=>if j=x then y else j):=by
  intro l; simp [YtlmjilpjmgjjcaaGreatDoor.mg]
 rw [this,this,e]
theorem Joined.name {G:Gr} (hG:G.Ok) {ρ ρ':Nat→Nat} (h:Rt G.n ρ) {a b x y:Nat} (ha:a<G.n) (hb:b<G.n) (hxy:(x=ρ a∧y=ρ b)∨(x=ρ b∧y=ρ a)) (hne:x≠y)
  (hx0:(G.hd x).name≠[]) (hn:(G.hd x).name=(G.hd y).name) (k:Joined G (mg ρ x y) ρ' (G.kids x) (G.kids y)):Joined G ρ ρ' [a] [b]:=by
 have hx:x<G.n:=by rcases hxy with ⟨rfl,rfl⟩ | ⟨rfl,rfl⟩ <;> exact h.lt _ (by assumption)
 have hy:y<G.n:=by rcases hxy with ⟨rfl,rfl⟩ | ⟨rfl,rfl⟩ <;> exact h.lt _ (by assumption)
 have rx:ρ x=x:=by rcases hxy with ⟨rfl,rfl⟩ | ⟨rfl,rfl⟩ <;> exact h.idem _ (by assumption)
 have ry:ρ y=y:=by rcases hxy with ⟨rfl,rfl⟩ | ⟨rfl,rfl⟩ <;> exact h.idem _ (by assumption)
 have hr1:=h.mg hx hy ry hne
 have hg:Grow G.n ρ ρ':=(Grow.mg _ _ _).trans k.grow
 have mgy:mg ρ x y y=y:=by unfold mg; rw [ry,if_neg (fun e=>hne e.symm)]
 have mgx:mg ρ x y x=y:=by unfold mg; rw [rx,if_pos rfl]
 have cy:Cg G ρ' y:=k.cg y hy (fun _=>by rw [mgy]; exact ⟨rfl,rfl⟩)
 have exy:ρ' x=ρ' y:=k.grow x y hx hy (by rw [mgx,mgy])
 refine ⟨k.rt,hg,?_,?_,?_⟩
 ·have:=k.grow a b ha hb (Ymd hxy)
  simp [this]
 ·intro i hi hc
  by_cases hix:ρ i=x
  ·intro hin
   obtain ⟨h1,h2⟩:=hc hin
   rw [hix] at h1 h2
   have hiy:ρ' i=ρ' y:=k.grow i y hi hy (by rw [mgy]; unfold mg; rw [if_pos hix])
   obtain ⟨h3,h4⟩:=cy (by rw [← hn]; exact hx0)
   rw [hiy]
   refine ⟨by rw [h3,← hn,h1],?_⟩
   rw [h4,← k.eq]
   exact hg.map (hG.kl x hx) (hG.kl i hi) h2
  ·refine k.cg i hi (fun hin => ?_)
   obtain ⟨h1,h2⟩:=hc hin
   have e:mg ρ x y i=ρ i:=by unfold mg; rw [if_neg hix]
   rw [e]
   exact ⟨h1,Grow.of_map h2⟩
 ·intro val hv hc e
  have e':val a=val b:=by simpa using e
  have c1:=Yce h ha hb hxy hv hc e'
  refine k.con val hv c1 ?_
  have exy:val x=val y:=by
   rcases hxy with ⟨rfl,rfl⟩ | ⟨rfl,rfl⟩
   ·rw [hc a ha,hc b hb,e']
   ·rw [hc a ha,hc b hb,e']
  rw [hv.nm x hx hx0,hv.nm y hy (by rw [← hn]; exact hx0)] at exy
  simp only [List.cons.injEq] at exy
  have hl:(G.kids x).length=(G.kids y).length:=by rw [← hG.ar x hx,← hG.ar y hy,exy.1]
  refine Zjd ?_ ?_ (by simp [hl]) exy.2
  ·intro l hl; obtain ⟨j,hj,rfl⟩:=List.mem_map.1 hl; exact hv.wf j (hG.kl x hx j hj)
  ·intro l hl; obtain ⟨j,hj,rfl⟩:=List.mem_map.1 hl; exact hv.wf j (hG.kl y hy j hj)
theorem Zmp {G:Gr} (hG:G.Ok) {ρ:Nat→Nat} (h:Rt G.n ρ) {a b x y:Nat} (ha:a<G.n) (hb:b<G.n) (hxy:(x=ρ a∧y=ρ b)∨(x=ρ b∧y=ρ a))
  (hx0:(G.hd x).name≠[]) (hy0:(G.hd y).name≠[]) (hn:(G.hd x).name≠(G.hd y).name∨(G.hd x).args≠(G.hd y).args):Clash G ρ [a] [b]:=by
 intro val hv hc e
 have e':val a=val b:=by simpa using e
 have hx:x<G.n:=by rcases hxy with ⟨rfl,rfl⟩ | ⟨rfl,rfl⟩ <;> exact h.lt _ (by assumption)
 have hy:y<G.n:=by rcases hxy with ⟨rfl,rfl⟩ | ⟨rfl,rfl⟩ <;> exact h.lt _ (by assumption)
 have exy:val x=val y:=by
  rcases hxy with ⟨rfl,rfl⟩ | ⟨rfl,rfl⟩
  ·rw [hc a ha,hc b hb,e']
  ·rw [hc a ha,hc b hb,e']
 rw [hv.nm x hx hx0,hv.nm y hy hy0] at exy
 simp only [List.cons.injEq] at exy
 rw [exy.1] at hn
 rcases hn with hn | hn <;> exact hn rfl
theorem Zyr {G:Gr} (hG:G.Ok) {ρ:Nat→Nat} (h:Rt G.n ρ) {a b x y:Nat} (ha:a<G.n) (hb:b<G.n) (hxy:(x=ρ a∧y=ρ b)∨(x=ρ b∧y=ρ a))
  (hx0:(G.hd x).name≠[]) (hn:(G.hd x).name=(G.hd y).name) (k:Clash G (mg ρ x y) (G.kids x) (G.kids y)):Clash G ρ [a] [b]:=by
 intro val hv hc e
 have hx:x<G.n:=by rcases hxy with ⟨rfl,rfl⟩ | ⟨rfl,rfl⟩ <;> exact h.lt _ (by assumption)
 have hy:y<G.n:=by rcases hxy with ⟨rfl,rfl⟩ | ⟨rfl,rfl⟩ <;> exact h.lt _ (by assumption)
 have e':val a=val b:=by simpa using e
 have c1:=Yce h ha hb hxy hv hc e'
 refine k val hv c1 ?_
 have exy:val x=val y:=by
  rcases hxy with ⟨rfl,rfl⟩ | ⟨rfl,rfl⟩
  ·rw [hc a ha,hc b hb,e']
  ·rw [hc a ha,hc b hb,e']
 rw [hv.nm x hx hx0,hv.nm y hy (by rw [← hn]; exact hx0)] at exy
 simp only [List.cons.injEq] at exy
 have hl:(G.kids x).length=(G.kids y).length:=by rw [← hG.ar x hx,← hG.ar y hy,exy.1]
 refine Zjd ?_ ?_ (by simp [hl]) exy.2
 ·intro l hl; obtain ⟨j,hj,rfl⟩:=List.mem_map.1 hl; exact hv.wf j (hG.kl x hx j hj)
 ·intro l hl; obtain ⟨j,hj,rfl⟩:=List.mem_map.1 hl; exact hv.wf j (hG.kl y hy j hj)
structure Known (G:Gr) (ρ:Nat→Nat) (D:Nat→Prop) (T:Nat→List Sym):Prop where
 lt:∀ r,D r→r<G.n∧ρ r=r
 tm:∀ r,D r→T r=G.hd r::((G.kids r).map (fun k=>T (ρ k))).flatten
 kid:∀ r,D r→∀ k ∈ G.kids r,D (ρ k)
theorem Known.more {G:Gr} {ρ:Nat→Nat} {D:Nat→Prop} {T:Nat→List Sym} (h:Known G ρ D T) {r:Nat} (hr:r<G.n) (rr:ρ r=r) (hd:¬ D r) (hk:∀ k ∈ G.kids r,D (ρ k)) :
  Known G ρ (fun i=>D i∨i=r) (fun i=>if i=r then G.hd r::((G.kids r).map (fun k=>T (ρ k))).flatten else T i):=by
 have hT:∀ i,D i→(fun i=>if i=r then G.hd r::((G.kids r).map (fun k=>T (ρ k))).flatten else T i) i=T i:=fun i hi=>by
  have:i≠r:=fun e=>hd (e ▸ hi)
  simp [this]
 have hmap:∀ l:List Nat,(∀ k ∈ l,D (ρ k))→l.map (fun k=>(fun i=>if i=r then G.hd r::((G.kids r).map (fun k=>T (ρ k))).flatten else T i) (ρ k))=l.map (fun k=>T (ρ k)):=fun l hl =>
  List.map_congr_left (fun k hk=>hT _ (hl k hk))
 refine ⟨?_,?_,?_⟩
 ·rintro i (hi | rfl)
  ·exact h.lt i hi
  ·exact ⟨hr,rr⟩
 ·rintro i (hi | rfl)
  ·rw [hmap _ (h.kid i hi)]; exact (hT i hi).trans (h.tm i hi)
  ·rw [hmap _ hk]; simp
 ·rintro i (hi | rfl) k hk'
  ·exact Or.inl (h.kid i hi k hk')
  ·exact Or.inl (hk k hk')
theorem Zcl {l:List Sym} {ls:List (List Sym)} (h:l ∈ ls):l.length≤ls.flatten.length:=by
 induction ls with
 | nil=>simp at h
 | cons a ls ih =>
  simp only [List.flatten_cons,Qg]
  rcases Qp.1 h with rfl | h
  ·omega
  ·have:=ih h; omega
theorem Known.wf {G:Gr} (hG:G.Ok) {ρ:Nat→Nat} {D:Nat→Prop} {T:Nat→List Sym} (h:Known G ρ D T):∀ (m r:Nat),(T r).length≤m→D r→Wf 1 (T r):=by
 intro m
 induction m with
 | zero=>intro r hm hd; rw [h.tm r hd] at hm; simp at hm
 | succ m ih =>
  intro r hm hd
  have hr:=(h.lt r hd).1
  have e:=h.tm r hd
  rw [e] at hm ⊢
  refine ⟨by omega,fun hn=>by rw [hG.ar r hr,hG.vn r hr hn]; rfl,hG.nv r hr,?_⟩
  simp only [Nat.sub_self,Nat.zero_add]
  rw [hG.ar r hr]
  have:=Zky (ls:=(G.kids r).map (fun k=>T (ρ k))) (fun l hl=>by
   obtain ⟨k,hk,rfl⟩:=List.mem_map.1 hl
   refine ih (ρ k) ?_ (h.kid r hd k hk)
   have:=Zcl hl
   simp only [Qf] at hm
   omega)
  simpa using this
theorem Known.val {G:Gr} (hG:G.Ok) {ρ:Nat→Nat} {D:Nat→Prop} {T:Nat→List Sym} (h:Known G ρ D T) {val:Nat→List Sym} (hv:Vals G val) (hc:Con G.n ρ val) {θ:Nat→List Sym} (hθ:∀ i,i<G.n→(G.hd i).name=[]→val i=θ (G.hd i).num) :
  ∀ (m r:Nat),(T r).length≤m→D r→ap θ (T r)=val r:=by
 intro m
 induction m with
 | zero=>intro r hm hd; rw [h.tm r hd] at hm; simp at hm
 | succ m ih =>
  intro r hm hd
  have hr:=(h.lt r hd).1
  have e:=h.tm r hd
  rw [e] at hm ⊢
  rw [Zbz]
  by_cases hn:(G.hd r).name=[]
  ·rw [hG.vn r hr hn]
   simp only [List.map_nil,List.flatten_nil,Zsa,Qs,ap1,if_pos hn]
   exact (hθ r hr hn).symm
  ·rw [hv.nm r hr hn]
   simp only [ap1,if_neg hn,List.cons_append,List.nil_append,List.cons.injEq,true_and]
   rw [Zkx,List.map_map]
   congr 1
   refine List.map_congr_left (fun k hk => ?_)
   have hm2:T (ρ k) ∈ (G.kids r).map (fun k=>T (ρ k)):=List.mem_map.2 ⟨k,hk,rfl⟩
   have:=Zcl hm2
   simp only [Qf] at hm
   have:=ih (ρ k) (by omega) (h.kid r hd k hk)
   simp only [Function.comp]
   rw [this,hc k (hG.kl r hr k hk)]
structure Lay (G:Gr) (tm:Nat→List Sym) (a b:List Sym):Prop where
 ok:G.Ok
 tm:∀ i,i<G.n→tm i=G.hd i::((G.kids i).map tm).flatten
 occ:∀ i,i<G.n→(G.hd i).name=[]→Occ (G.hd i).num a∨Occ (G.hd i).num b
theorem Lay.val {G:Gr} {tm:Nat→List Sym} {a b:List Sym} (h:Lay G tm a b) {θ:Nat→List Sym} (hθ:Ts θ) (hw:∀ i,i<G.n→Wf 1 (tm i)):Vals G (fun i=>ap θ (tm i)):=by
 refine ⟨fun i hi=>Zjl hθ (hw i hi),fun i hi hn => ?_⟩
 show ap θ (tm i)=_
 rw [h.tm i hi,Zbz]
 simp only [ap1,if_neg hn,List.cons_append,List.nil_append,List.cons.injEq,true_and]
 rw [Zkx,List.map_map]
 rfl
theorem Lay.wf {G:Gr} {tm:Nat→List Sym} {a b:List Sym} (h:Lay G tm a b):∀ (m i:Nat),(tm i).length≤m→i<G.n→Wf 1 (tm i):=by
 intro m
 induction m with
 | zero=>intro i hm hi; rw [h.tm i hi] at hm; simp at hm
 | succ m ih =>
  intro i hm hi
  rw [h.tm i hi] at hm ⊢
  refine ⟨by omega,fun hn=>by rw [h.ok.ar i hi,h.ok.vn i hi hn]; rfl,h.ok.nv i hi,?_⟩
  simp only [Nat.sub_self,Nat.zero_add]
  rw [h.ok.ar i hi]
  have:=Zky (ls:=(G.kids i).map tm) (fun l hl=>by
   have hll:=Zcl hl
   obtain ⟨k,hk,rfl⟩:=List.mem_map.1 hl
   refine ih k ?_ (h.ok.kl i hi k hk)
   simp only [Qf] at hm
   omega)
  simpa using this
open Classical in
noncomputable def Zeu (G:Gr) (ρ:Nat→Nat) (D:Nat→Prop) (T:Nat→List Sym):Nat→List Sym:=fun v =>
 if h:∃ i,i<G.n∧(G.hd i).name=[]∧(G.hd i).num=v∧D (ρ i) then T (ρ h.choose) else vr v
def Vars (G:Gr) (ρ:Nat→Nat):Prop:=∀ i j,i<G.n→j<G.n→(G.hd i).name=[]→(G.hd j).name=[]→(G.hd i).num=(G.hd j).num→ρ i=ρ j
theorem Zqk {G:Gr} {ρ:Nat→Nat} {D:Nat→Prop} {T:Nat→List Sym} (hvs:Vars G ρ) {i:Nat} (hi:i<G.n) (hn:(G.hd i).name=[]) (hd:D (ρ i)):Zeu G ρ D T (G.hd i).num=T (ρ i):=by
 have hex:∃ j,j<G.n∧(G.hd j).name=[]∧(G.hd j).num=(G.hd i).num∧D (ρ j):=⟨i,hi,hn,rfl,hd⟩
 unfold Zeu
 rw [dif_pos hex]
 have hs:=hex.choose_spec
 rw [hvs _ i hs.1 hi hs.2.1 hn hs.2.2.1]
theorem Zmq {G:Gr} {ρ:Nat→Nat} {D:Nat→Prop} {T tm:Nat→List Sym} {a b:List Sym} (h:Lay G tm a b) (hf:Known G ρ D T) (hrt:Rt G.n ρ) (hcg:∀ i,i<G.n→Cg G ρ i) (hvs:Vars G ρ) :
  ∀ (m i:Nat),(tm i).length≤m→i<G.n→D (ρ i)→ap (Zeu G ρ D T) (tm i)=T (ρ i):=by
 intro m
 induction m with
 | zero=>intro i hm hi; rw [h.tm i hi] at hm; simp at hm
 | succ m ih =>
  intro i hm hi hd
  have e:=h.tm i hi
  rw [e] at hm ⊢
  rw [Zbz]
  by_cases hn:(G.hd i).name=[]
  ·rw [h.ok.vn i hi hn]
   simp only [List.map_nil,List.flatten_nil,Zsa,Qs,ap1,if_pos hn]
   exact Zqk hvs hi hn hd
  ·obtain ⟨h1,h2⟩:=hcg i hi hn
   rw [hf.tm _ hd]
   have hri:=hrt.lt i hi
   have hlen:(G.kids (ρ i)).length=(G.kids i).length:=by simpa using congrArg List.length h2
   have hhd:G.hd (ρ i)=G.hd i:=by
    have a1:=h.ok.ar _ hri
    have a2:=h.ok.ar i hi
    have n1:=h.ok.nv _ hri (by rw [h1]; exact hn)
    have n2:=h.ok.nv i hi hn
    have e1:(G.hd (ρ i)).args=(G.hd i).args:=by rw [a1,a2,hlen]
    have e2:(G.hd (ρ i)).num=(G.hd i).num:=by rw [n1,n2]
    revert h1 e1 e2
    cases G.hd (ρ i); cases G.hd i
    simp
    intro h1 h2 h3; exact ⟨h1,h3,h2⟩
   rw [hhd]
   simp only [ap1,if_neg hn,List.cons_append,List.nil_append,List.cons.injEq,true_and]
   rw [Zkx,List.map_map]
   congr 1
   have e3:(G.kids (ρ i)).map (fun k=>T (ρ k))=(G.kids i).map (fun k=>T (ρ k)):=by
    have:∀ l:List Nat,l.map (fun k=>T (ρ k))=(l.map ρ).map T:=fun l=>by simp
    rw [this,this,h2]
   rw [e3]
   refine List.map_congr_left (fun k hk => ?_)
   have hm2:tm k ∈ (G.kids i).map tm:=List.mem_map.2 ⟨k,hk,rfl⟩
   have:=Zcl hm2
   simp only [Qf] at hm
   have hdk:D (ρ k):=by
    have:ρ k ∈ (G.kids (ρ i)).map ρ:=by rw [h2]; exact List.mem_map.2 ⟨k,hk,rfl⟩
    obtain ⟨k',hk',e'⟩:=List.mem_map.1 this
    rw [← e']; exact hf.kid _ hd k' hk'
   exact ih k (by omega) (h.ok.kl i hi k hk) hdk
theorem Ycf {G:Gr} {ρ:Nat→Nat} {D:Nat→Prop} {T tm:Nat→List Sym} {a b:List Sym} (h:Lay G tm a b) (hf:Known G ρ D T) (hrt:Rt G.n ρ) (hcg:∀ i,i<G.n→Cg G ρ i) (hvs:Vars G ρ)
  {x y:Nat} (hx:x<G.n) (hy:y<G.n) (ha:tm x=a) (hb:tm y=b) (hxy:ρ x=ρ y) (hd:D (ρ x)) (hcon:∀ val,Vals G val→Con G.n (fun i=>i) val→(∀ i j,i<G.n→j<G.n→(G.hd i).name=[]→(G.hd j).name=[]→(G.hd i).num=(G.hd j).num→val i=val j)→val x=val y→Con G.n ρ val) :
  Mgu (Zeu G ρ D T) a b:=by
 have hw:∀ i,i<G.n→Wf 1 (tm i):=fun i hi=>h.wf _ i (Qe _) hi
 have hval:∀ θ,Ts θ→ap θ a=ap θ b→Con G.n ρ (fun i=>ap θ (tm i))∧Vals G (fun i=>ap θ (tm i))∧∀ i,i<G.n→(G.hd i).name=[]→ap θ (tm i)=θ (G.hd i).num:=by
  intro θ hθ hu
  have hvar:∀ i,i<G.n→(G.hd i).name=[]→ap θ (tm i)=θ (G.hd i).num:=by
   intro i hi hn
   rw [h.tm i hi,h.ok.vn i hi hn,Zbz]
   simp [ap1,hn,Zsa]
  refine ⟨hcon _ (h.val hθ hw) (fun _ _=>rfl) ?_ ?_,h.val hθ hw,hvar⟩
  ·intro i j hi hj hni hnj e
   rw [hvar i hi hni,hvar j hj hnj,e]
  ·show ap θ (tm x)=ap θ (tm y)
   rw [ha,hb,hu]
 refine ⟨?_,?_,?_,?_,?_⟩
 ·intro v
  unfold Zeu
  split
  ·rename_i hex
   exact hf.wf h.ok _ _ (Qe _) hex.choose_spec.2.2.2
  ·exact Zur v
 ·have e1:=Zmq h hf hrt hcg hvs _ x (Qe _) hx hd
  have e2:=Zmq h hf hrt hcg hvs _ y (Qe _) hy (by rw [← hxy]; exact hd)
  rw [ha] at e1
  rw [hb] at e2
  rw [e1,e2,hxy]
 ·intro θ hθ hu v
  obtain ⟨h1,h2,h3⟩:=hval θ hθ hu
  unfold Zeu
  split
  ·rename_i hex
   have hs:=hex.choose_spec
   rw [hf.val h.ok h2 h1 (fun i hi hn=>h3 i hi hn) _ _ (Qe _) hs.2.2.2]
   have:ap θ (tm (ρ hex.choose))=ap θ (tm hex.choose):=h1 _ hs.1
   rw [this,h3 _ hs.1 hs.2.1,hs.2.2.1]
  ·exact Zuq θ v
 ·intro n v hv
  unfold Zeu at hv
  split at hv
  ·rename_i hex
   have hs:=hex.choose_spec
   right
   have hocc:∀ (m r:Nat),(T r).length≤m→D r→Occ v (T r)→Occ v a∨Occ v b:=by
    intro m
    induction m with
    | zero=>intro r hm hd; rw [hf.tm r hd] at hm; simp at hm
    | succ m ih =>
     intro r hm hd ho
     rw [hf.tm r hd] at hm ho
     obtain ⟨s,hs1,hs2,hs3⟩:=ho
     rcases Qp.1 hs1 with rfl | hs1
     ·rw [← hs3]; exact h.occ r (hf.lt r hd).1 hs2
     ·obtain ⟨l,hl,hsl⟩:=List.mem_flatten.1 hs1
      have hll:=Zcl hl
      obtain ⟨k,hk,rfl⟩:=List.mem_map.1 hl
      simp only [Qf] at hm
      exact ih (ρ k) (by omega) (hf.kid r hd k hk) ⟨s,hsl,hs2,hs3⟩
   exact hocc _ _ (Qe _) hs.2.2.2 hv
  ·exact Or.inl (Zlr.1 hv)
 ·intro n h1 h2
  unfold Zeu
  rw [dif_neg]
  rintro ⟨i,hi,hn,rfl,_⟩
  rcases h.occ i hi hn with h | h
  ·exact h1 h
  ·exact h2 h
theorem Yjw {G:Gr} (hG:G.Ok) {val:Nat→List Sym} (hv:Vals G val) {x k:Nat} (hx:x<G.n) (hk:k ∈ G.kids x):(val k).length<(val x).length:=by
 have hn:(G.hd x).name≠[]:=fun h=>by rw [hG.vn x hx h] at hk; simp at hk
 rw [hv.nm x hx hn]
 have:=Zcl (List.mem_map.2 ⟨k,hk,rfl⟩:val k ∈ (G.kids x).map val)
 simp only [Qf]
 omega
def Stuck (G:Gr) (ρ:Nat→Nat) (P:Nat→Prop) (i:Nat):Prop:=∀ val,Vals G val→Con G.n ρ val→∃ r,P r∧(val r).length≤(val i).length
theorem Stuck.here {G:Gr} {ρ:Nat→Nat} {P:Nat→Prop} {i:Nat} (hi:i<G.n) (h:P (ρ i)):Stuck G ρ P i:=fun val _ hc=>⟨ρ i,h,by rw [hc i hi]; exact Qe _⟩
theorem Stuck.up {G:Gr} (hG:G.Ok) {ρ:Nat→Nat} {P:Nat→Prop} {i k:Nat} (hi:i<G.n) (hx:ρ i<G.n) (hk:k ∈ G.kids (ρ i)) (h:Stuck G ρ (fun r=>P r∨r=ρ i) k):Stuck G ρ P i:=by
 intro val hv hc
 have hl:=Yjw hG hv hx hk
 obtain ⟨r,hr | rfl,hle⟩:=h val hv hc
 ·exact ⟨r,hr,by rw [← hc i hi]; omega⟩
 ·omega
theorem Ycg {G:Gr} {tm:Nat→List Sym} {a b:List Sym} (h:Lay G tm a b) {x y:Nat} (hx:x<G.n) (hy:y<G.n) (ha:tm x=a) (hb:tm y=b) {θ:Nat→List Sym} (hθ:Ts θ) (hu:ap θ a=ap θ b) :
  Vals G (fun i=>ap θ (tm i))∧ap θ (tm x)=ap θ (tm y)∧∀ i,i<G.n→(G.hd i).name=[]→ap θ (tm i)=θ (G.hd i).num:=by
 have hw:∀ i,i<G.n→Wf 1 (tm i):=fun i hi=>h.wf _ i (Qe _) hi
 refine ⟨h.val hθ hw,by rw [ha,hb,hu],?_⟩
 intro i hi hn
 rw [h.tm i hi,h.ok.vn i hi hn,Zbz]
 simp [ap1,hn,Zsa]
structure Firsts (G:Gr) (ρ:Nat→Nat):Prop where
 rt:Rt G.n ρ
 vars:Vars G ρ
 nm:∀ i,i<G.n→(G.hd i).name≠[]→ρ i=i
 vr:∀ i,i<G.n→(G.hd i).name=[]→(G.hd (ρ i)).name=[]∧(G.hd (ρ i)).num=(G.hd i).num
theorem Firsts.cg {G:Gr} {ρ:Nat→Nat} (h:Firsts G ρ) (i:Nat) (hi:i<G.n):Cg G ρ i:=fun hn=>by rw [h.nm i hi hn]; exact ⟨rfl,rfl⟩
theorem Firsts.con {G:Gr} {ρ:Nat→Nat} (h:Firsts G ρ) {val:Nat→List Sym} (hv:∀ i j,i<G.n→j<G.n→(G.hd i).name=[]→(G.hd j).name=[]→(G.hd i).num=(G.hd j).num→val i=val j):Con G.n ρ val:=by
 intro i hi
 by_cases hn:(G.hd i).name=[]
 ·exact hv _ _ (h.rt.lt i hi) hi (h.vr i hi hn).1 hn (h.vr i hi hn).2
 ·rw [h.nm i hi hn]
theorem Firsts.vars' {G:Gr} {ρ ρ':Nat→Nat} (h:Firsts G ρ) (hg:Grow G.n ρ ρ'):Vars G ρ':=fun i j hi hj h1 h2 e=>hg i j hi hj (h.vars i j hi hj h1 h2 e)
theorem Ygf {G:Gr} {tm:Nat→List Sym} {a b:List Sym} (h:Lay G tm a b) {ρ:Nat→Nat} (h0:Firsts G ρ) {x y:Nat} (hx:x<G.n) (hy:y<G.n) (ha:tm x=a) (hb:tm y=b) (hc:Clash G ρ [x] [y]):NoFit a b:=by
 intro θ hθ hu
 obtain ⟨h1,h2,h3⟩:=Ycg h hx hy ha hb hθ hu
 refine hc _ h1 (h0.con (fun i j hi hj hni hnj e => ?_)) (by simp [h2])
 show ap θ (tm i)=ap θ (tm j)
 rw [h3 i hi hni,h3 j hj hnj,e]
theorem Ygg {G:Gr} {tm:Nat→List Sym} {a b:List Sym} (h:Lay G tm a b) {ρ ρ':Nat→Nat} (h0:Firsts G ρ) {x y:Nat} (hx:x<G.n) (hy:y<G.n) (ha:tm x=a) (hb:tm y=b) (hj:Joined G ρ ρ' [x] [y]) {i:Nat} (hs:Stuck G ρ' (fun _=>False) i):NoFit a b:=by
 intro θ hθ hu
 obtain ⟨h1,h2,h3⟩:=Ycg h hx hy ha hb hθ hu
 have hc:Con G.n ρ (fun i=>ap θ (tm i)):=h0.con (fun i j hi hj hni hnj e=>by
  show ap θ (tm i)=ap θ (tm j)
  rw [h3 i hi hni,h3 j hj hnj,e])
 obtain ⟨r,hr,_⟩:=hs _ h1 (hj.con _ h1 hc (by simp [h2]))
 exact hr
theorem Ygh {G:Gr} {tm:Nat→List Sym} {a b:List Sym} (h:Lay G tm a b) {ρ ρ':Nat→Nat} (h0:Firsts G ρ) {x y:Nat} (hx:x<G.n) (hy:y<G.n) (ha:tm x=a) (hb:tm y=b) (hj:Joined G ρ ρ' [x] [y])
  {D:Nat→Prop} {T:Nat→List Sym} (hf:Known G ρ' D T) (hd:D (ρ' x)):Mgu (Zeu G ρ' D T) a b∧ap (Zeu G ρ' D T) a=T (ρ' x):=by
 have hcg:∀ i,i<G.n→Cg G ρ' i:=fun i hi=>hj.cg i hi (h0.cg i hi)
 refine ⟨Ycf h hf hj.rt hcg (h0.vars' hj.grow) hx hy ha hb (by simpa using hj.eq) hd ?_,?_⟩
 ·intro val hv _ hvv e
  exact hj.con val hv (h0.con hvv) (by simp [e])
 ·rw [← ha]
  exact Zmq h hf hj.rt hcg (h0.vars' hj.grow) _ x (Qe _) hx hd
def Inst (xs ys:List (List Sym)):Prop:=∃ τ,Ts τ∧ys=xs.map (ap τ)
def Alike (xs ys:List (List Sym)):Prop:=Inst xs ys∧Inst ys xs
theorem Alike.symm {xs ys:List (List Sym)} (h:Alike xs ys):Alike ys xs:=⟨h.2,h.1⟩
theorem Alike.refl {xs:List (List Sym)} (h:∀ x ∈ xs,∃ k,Wf k x):Alike xs xs:=by
 have:Inst xs xs:=⟨vr,Ymc,by
  have:xs.map (ap vr)=xs.map id:=List.map_congr_left (fun x hx=>by obtain ⟨k,hk⟩:=h x hx; exact Yjv hk)
  simpa using this.symm⟩
 exact ⟨this,this⟩
theorem Alike.len {xs ys:List (List Sym)} (h:Alike xs ys):xs.map List.length=ys.map List.length:=by
 obtain ⟨⟨τ,h1,h2⟩,⟨τ',h3,h4⟩⟩:=h
 have hl:xs.length=ys.length:=by simpa using (congrArg List.length h2).symm
 apply List.ext_getElem (by simp [hl])
 intro i hi hj
 simp only [Ql] at hi hj
 simp only [List.getElem_map]
 have e1:ys[i]=ap τ xs[i]:=by simp only [h2,List.getElem_map]
 have e2:xs[i]=ap τ' ys[i]:=by
  have:=List.getElem_of_eq h4 hi
  simpa using this
 have l1:=Zke h1 xs[i]
 have l2:=Zke h3 ys[i]
 rw [← e1] at l1
 rw [← e2] at l2
 omega
def upto (V:Nat) (σ τ:Nat→List Sym):Nat→List Sym:=fun n=>if n<V then ap σ (τ n) else σ n
theorem Zmr {V:Nat} {σ τ:Nat→List Sym} (h:Ts σ) (k:Ts τ):Ts (upto V σ τ):=fun n=>by
 unfold upto; split
 ·exact Zjl h (k n)
 ·exact h n
theorem Zwx {V:Nat} {σ τ:Nat→List Sym} {l:List Sym} (h:∀ v,Occ v l→v<V):ap (upto V σ τ) l=ap σ (ap τ l):=by
 rw [Ycc]
 exact Zqj (fun n hn=>by unfold upto; rw [if_pos (h n hn)])
theorem Zse {V:Nat} {σ τ:Nat→List Sym} {l:List Sym} (h:∀ v,Occ v l→V≤v):ap (upto V σ τ) l=ap σ l :=
 Zqj (fun n hn=>by unfold upto; rw [if_neg (by have:=h n hn; omega)])
section
variable {V:Nat} {a b h:List Sym} {xs ys:List (List Sym)}
theorem Zkf (ha:∀ v,Occ v a→v<V) (hh:∀ v,Occ v h→V≤v) {τ θ:Nat→List Sym} (e:b=ap τ a) (hu:ap θ b=ap θ h):ap (upto V θ τ) a=ap (upto V θ τ) h∧ap (upto V θ τ) a=ap θ b:=by
 rw [Zwx ha,Zse hh,← e]
 exact ⟨hu,rfl⟩
theorem NoFit.alike (hi:Inst (a::xs) (b::ys)) (ha:∀ v,Occ v a→v<V) (hh:∀ v,Occ v h→V≤v) (hn:NoFit a h):NoFit b h:=by
 obtain ⟨τ,h1,h2⟩:=hi
 simp only [List.map_cons,List.cons.injEq] at h2
 intro θ hθ hu
 exact hn _ (Zmr hθ h1) (Zkf ha hh h2.1 hu).1
theorem Vast.alike (hi:Alike (a::xs) (b::ys)) (ha:∀ v,Occ v a→v<V) (hb:∀ v,Occ v b→v<V) (hh:∀ v,Occ v h→V≤v) (hn:Vast a h):Vast b h:=by
 obtain ⟨⟨τ,h1,h2⟩,τ',h3,h4⟩:=hi
 simp only [List.map_cons,List.cons.injEq] at h2 h4
 obtain ⟨⟨θ,hθ,hu⟩,hv⟩:=hn
 refine ⟨⟨_,Zmr hθ h3,(Zkf hb hh h4.1 hu).1⟩,fun θ' hθ' hu' => ?_⟩
 have:=Zkf ha hh h2.1 hu'
 have:=hv _ (Zmr hθ' h1) this.1
 rw [(Zkf ha hh h2.1 hu').2] at this
 exact this
theorem Inst.fit {σ σ':Nat→List Sym} {zs:List (List Sym)} (hi:Inst (a::xs) (b::ys)) (ha:∀ x ∈ a::xs,∀ v,Occ v x→v<V) (hh:∀ v,Occ v h→V≤v) (hz:∀ z ∈ zs,∀ v,Occ v z→V≤v) (m:Mgu σ a h) (m':Mgu σ' b h) :
  Inst ((zs++(a::xs)).map (ap σ)) ((zs++(b::ys)).map (ap σ')):=by
 obtain ⟨τ,h1,h2⟩:=hi
 have h2':=h2
 simp only [List.map_cons,List.cons.injEq] at h2'
 have hu:=Zkf (ha a (by simp)) hh h2'.1 m'.unif
 have hw:=m.wide _ (Zmr m'.ts h1) hu.1
 refine ⟨_,Zmr (V:=V) m'.ts h1,?_⟩
 rw [h2,Qr,Qr,Qr,List.map_map,List.map_map,List.map_map]
 congr 1
 ·refine List.map_congr_left (fun z hz' => ?_)
  simp only [Function.comp]
  rw [Zor hw,Zse (hz z hz')]
 ·refine List.map_congr_left (fun x hx => ?_)
  simp only [Function.comp]
  rw [Zor hw,Zwx (ha x hx)]
end
def ren (f:Nat→Nat) (s:Sym):Sym:=if s.name=[] then ⟨[],f s.num,0⟩ else s
theorem ones:∀ {τ:Nat→List Sym},Ts τ→∀ {l:List Sym},(ap τ l).length≤l.length→∀ n,Occ n l→(τ n).length=1:=by
 intro τ hτ l
 induction l with
 | nil=>intro _ n h; obtain ⟨s,h,_⟩:=h; simp at h
 | cons s l ih =>
  intro hl n hn
  rw [Zbz] at hl
  simp only [Qg,Qf] at hl
  have h1:=Zke hτ l
  have h2:1≤(ap1 τ s).length:=by
   unfold ap1; split
   ·exact Zez (hτ _)
   ·simp
  obtain ⟨t,ht,h3,h4⟩:=hn
  rcases Qp.1 ht with rfl | ht
  ·have:ap1 τ t=τ n:=by unfold ap1; rw [if_pos h3,h4]
   rw [this] at hl h2; omega
  ·exact ih (by omega) n ⟨t,ht,h3,h4⟩
theorem Zys {τ τ':Nat→List Sym} (h1:Ts τ) (h3:Ts τ'):∀ {l:List Sym},ap τ' (ap τ l)=l→∀ v,Occ v l→ap τ' (τ v)=vr v:=by
 intro l
 induction l with
 | nil=>intro _ v h; obtain ⟨s,h,_⟩:=h; simp at h
 | cons s l ih =>
  intro e v hv
  rw [Zbz,Zfz] at e
  have l1:1≤(ap1 τ s).length:=by
   unfold ap1; split
   ·exact Zez (h1 _)
   ·simp
  have l2:=Zke h3 (ap1 τ s)
  have l3:=Zke h3 (ap τ l)
  have l4:=Zke h1 l
  have l5:=congrArg List.length e
  simp only [Qg,Qf] at l5
  have hh:=List.append_inj (s₁:=ap τ' (ap1 τ s)) (s₂:=[s]) (t₁:=ap τ' (ap τ l)) (t₂:=l) (by simpa using e) (by simp; omega)
  obtain ⟨t,ht,h5,h6⟩:=hv
  rcases Qp.1 ht with rfl | ht
  ·have e1:=hh.1
   unfold ap1 at e1
   rw [if_pos h5,h6] at e1
   have hw:=Zjl h3 (h1 v)
   rw [e1] at hw ⊢
   obtain ⟨s',r,e2,_,h7⟩:=Zls hw
   simp only [List.cons.injEq] at e2
   obtain ⟨rfl,_⟩:=e2
   rw [h7 h5,h6]
  ·exact ih hh.2 v ⟨t,ht,h5,h6⟩
theorem Alike.ren {xs ys:List (List Sym)} (h:Alike xs ys):∃ f g:Nat→Nat,ys=xs.map (List.map (ren f))∧(∀ x ∈ xs,∀ v,Occ v x→g (f v)=v):=by
 obtain ⟨⟨τ,h1,h2⟩,⟨τ',h3,h4⟩⟩:=h
 have hl:xs.length=ys.length:=by simpa using (congrArg List.length h2).symm
 have back:∀ x ∈ xs,ap τ' (ap τ x)=x:=fun x hx=>by
  rw [h2,List.map_map] at h4
  obtain ⟨i,hi,rfl⟩:=List.getElem_of_mem hx
  have:=List.getElem_of_eq h4 hi
  simpa using this.symm
 have key:∀ x ∈ xs,∀ v,Occ v x→∃ n,τ v=vr n∧τ' n=vr v:=fun x hx v hv=>by
  have hb:=Zys h1 h3 (back x hx) v hv
  obtain ⟨t,r,e,hr,hn⟩:=Zls (h1 v)
  by_cases ht:t.name=[]
  ·refine ⟨t.num,by rw [e,← hn ht,e],?_⟩
   rw [hn ht,Zuq] at hb
   exact hb
  ·rw [e,Zbz] at hb
   simp [ap1,ht,vr] at hb
   rw [hb.1] at ht
   exact absurd rfl ht
 refine ⟨fun v=>((τ v).head?.map Sym.num).getD 0,fun v=>((τ' v).head?.map Sym.num).getD 0,?_,?_⟩
 ·rw [h2]
  refine List.map_congr_left (fun x hx => ?_)
  have hk:=key x hx
  clear back key h2 h4 hl hx
  induction x with
  | nil=>rfl
  | cons s l ih =>
   rw [Zbz,ih (fun v hv=>hk v (by obtain ⟨t,ht,h5⟩:=hv; exact ⟨t,List.mem_cons_of_mem _ ht,h5⟩)),List.map_cons]
   unfold ap1 YtlmjilpjmgjjcaaGreatDoor.ren
   by_cases hs:s.name=[]
   ·obtain ⟨n,e1,_⟩:=hk s.num ⟨s,List.mem_cons_self ..,hs,rfl⟩
    simp [hs,e1,vr]
   ·simp [hs]
 ·intro x hx v hv
  obtain ⟨n,e1,e2⟩:=key x hx v hv
  simp [e1,e2,vr]
structure Cls where
 head:List Sym
 body:List (List Sym)
 names:Names
def Cls.n (c:Cls):Nat:=c.names.length
def Zdd (v:Nat):Nat→List Sym:=fun n=>vr (n+v)
theorem Zql (v:Nat):Ts (Zdd v):=fun n=>Zur _
def carr (σ:Nat→List Sym) (gs:List (List Sym × Nat)):List (List Sym × Nat):=gs.map (fun g=>(ap σ g.1,g.2))
structure ND where
 goals:List (List Sym × Nat)
 vals:List (List Sym)
 done:List (List Sym × Nat)
 used:List Nat
 vars:Nat
def bigG (g:List Sym × Nat):Bool:=decide (30<g.1.length)
def Zof (n:ND):Bool:=(decide (40<n.goals.length) || decide (100<n.used.length)) || n.goals.any bigG || n.done.any bigG
def Zfk (n:ND):Nat:=if Zof n then 3 else if n.goals=[] then 2 else 1
def Zau (σ:Nat→List Sym) (n:ND) (c:Cls) (k:Nat) (g:List Sym × Nat) (gs:List (List Sym × Nat)):ND :=
 ⟨carr σ (c.body.map (fun t=>(ap (Zdd n.vars) t,g.2+1))++gs),n.vals.map (ap σ),carr σ (n.done++[g]),n.used++[k],n.vars+c.n⟩
def ND.terms (n:ND):List (List Sym):=n.goals.map (·.1)++(n.vals++n.done.map (·.1))
structure NOk (n:ND):Prop where
 wf:∀ t ∈ n.terms,Wf 1 t
 occ:∀ t ∈ n.terms,∀ v,Occ v t→v<n.vars
 gs:∀ g ∈ n.goals,g.1.length≤30∧g.2≤n.used.length
 ds:∀ g ∈ n.done,g.1.length≤30∧g.2≤n.used.length
 vs:∀ t ∈ n.vals,∃ x ∈ n.goals++n.done,∃ a b,x.1=a++t++b
 gl:n.goals.length≤40
 dl:n.done.length=n.used.length
 ul:n.used.length≤100
 vl:n.vals.length≤1000
 vars:n.vars≤1000 * (n.used.length+1)
theorem NOk.vsize {n:ND} (h:NOk n) {t:List Sym} (ht:t ∈ n.vals):t.length≤30:=by
 obtain ⟨x,hx,a,b,e⟩:=h.vs t ht
 have hl:x.1.length≤30:=by
  rcases Qk.1 hx with hx | hx
  ·exact (h.gs x hx).1
  ·exact (h.ds x hx).1
 rw [e] at hl
 simp at hl; omega
structure COk (c:Cls):Prop where
 wfh:Wf 1 c.head
 wfb:∀ t ∈ c.body,Wf 1 t
 och:∀ v,Occ v c.head→v<c.n
 ocb:∀ t ∈ c.body,∀ v,Occ v t→v<c.n
 n:c.n≤1000
 hl:c.head.length≤30
 bl:∀ t ∈ c.body,t.length≤30
 bn:c.body.length≤6
structure Same (n m:ND):Prop where
 used:n.used=m.used
 vars:n.vars=m.vars
 gd:n.goals.map (·.2)=m.goals.map (·.2)
 dd:n.done.map (·.2)=m.done.map (·.2)
 vl:n.vals.length=m.vals.length
 al:Alike n.terms m.terms
theorem Same.gl {n m:ND} (h:Same n m):n.goals.length=m.goals.length:=by simpa using congrArg List.length h.gd
theorem Same.dl {n m:ND} (h:Same n m):n.done.length=m.done.length:=by simpa using congrArg List.length h.dd
theorem Same.symm {n m:ND} (h:Same n m):Same m n:=⟨h.used.symm,h.vars.symm,h.gd.symm,h.dd.symm,h.vl.symm,h.al.symm⟩
theorem Same.refl {n:ND} (h:NOk n):Same n n:=⟨rfl,rfl,rfl,rfl,rfl,Alike.refl (fun x hx=>⟨1,h.wf x hx⟩)⟩
theorem Zsf {α β:Type} {f:α→β} {a b:List α} {c d:List β} (h:c++d=(a++b).map f) (hl:c.length=a.length):c=a.map f∧d=b.map f:=by
 rw [Qr] at h
 exact List.append_inj h (by simp [hl])
theorem Inst.trans {xs ys zs:List (List Sym)} (h:Inst xs ys) (k:Inst ys zs):Inst xs zs:=by
 obtain ⟨τ,h1,rfl⟩:=h
 obtain ⟨υ,k1,rfl⟩:=k
 refine ⟨_,Ycd h1 k1,?_⟩
 rw [List.map_map]
 exact List.map_congr_left (fun x _=>Ycc υ τ x)
theorem Alike.trans {xs ys zs:List (List Sym)} (h:Alike xs ys) (k:Alike ys zs):Alike xs zs:=⟨h.1.trans k.1,k.2.trans h.2⟩
theorem Same.trans {n m o:ND} (h:Same n m) (k:Same m o):Same n o:=⟨h.used.trans k.used,h.vars.trans k.vars,h.gd.trans k.gd,h.dd.trans k.dd,h.vl.trans k.vl,h.al.trans k.al⟩
theorem Zqm (σ:Nat→List Sym) (l:List (List Sym × Nat)):(carr σ l).map (·.1)=(l.map (·.1)).map (ap σ):=by simp [carr]
theorem Zme (σ:Nat→List Sym) (l:List (List Sym × Nat)):(carr σ l).map (·.2)=l.map (·.2):=by simp [carr]
theorem Zhb {V:Nat} {l:List Sym} {v:Nat} (h:Occ v (ap (Zdd V) l)):∃ u,Occ u l∧v=u+V:=by
 obtain ⟨u,hu,ho⟩:=Zsb.1 h
 exact ⟨u,hu,Zlr.1 ho⟩
theorem Zfa (σ:Nat→List Sym) (n:ND) (c:Cls) (k:Nat) (g:List Sym × Nat) (gs:List (List Sym × Nat)) :
  (Zau σ n c k g gs).terms=(c.body.map (ap (Zdd n.vars))++gs.map (·.1)).map (ap σ)++(n.vals.map (ap σ)++(n.done.map (·.1)++[g.1]).map (ap σ)):=by
 simp [ND.terms,Zau,Zqm,Function.comp_def]
theorem Zos {n m:ND} (hn:NOk n) (hm:NOk m) (hs:Same n m) {c:Cls} (hc:COk c) (k:Nat) {g g':List Sym × Nat} {gs gs':List (List Sym × Nat)} (hg:n.goals=g::gs) (hg':m.goals=g'::gs')
  {σ σ':Nat→List Sym} (h1:Mgu σ g.1 (ap (Zdd n.vars) c.head)) (h2:Mgu σ' g'.1 (ap (Zdd m.vars) c.head)) :
  Inst (Zau σ n c k g gs).terms (Zau σ' m c k g' gs').terms:=by
 have hv:=hs.vars
 have hvl:=hs.vl
 have hdl:=hs.dl
 have hgl:=hs.gl
 have hal:=hs.al.1
 have hocc:=hn.occ
 unfold ND.terms at hal hocc
 rw [hg,hg',List.map_cons,List.map_cons,List.cons_append,List.cons_append] at hal
 rw [hg,List.map_cons,List.cons_append] at hocc
 rw [← hv] at h2
 have key:=Inst.fit (V:=n.vars) (zs:=c.body.map (ap (Zdd n.vars))) hal (fun x hx=>hocc x hx) (fun v h=>by obtain ⟨u,_,e⟩:=Zhb h; omega)
  (fun z hz v h=>by
   obtain ⟨t,_,rfl⟩:=List.mem_map.1 hz
   obtain ⟨u,_,e⟩:=Zhb h
   omega) h1 h2
 obtain ⟨τ,ht,e⟩:=key
 refine ⟨τ,ht,?_⟩
 rw [Qr] at e
 rw [Qr] at e
 rw [hg,hg'] at hgl
 simp only [Qf,Nat.add_right_cancel_iff] at hgl
 obtain ⟨e1,e⟩:=Zsf e (by simp)
 simp only [List.map_cons,Qr] at e
 simp only [List.cons.injEq] at e
 obtain ⟨e2,e⟩:=e
 have l1:gs'.length=gs.length:=hgl.symm
 obtain ⟨e3,e⟩:=List.append_inj e (by simp [l1])
 obtain ⟨e4,e5⟩:=List.append_inj e (by simp [hvl])
 rw [Zfa,Zfa,← hv]
 simp only [Qr,List.map_cons,List.map_nil]
 rw [e1,e2,e3,e4,e5]
theorem Zyt {n m:ND} (hn:NOk n) (hm:NOk m) (hs:Same n m) {c:Cls} (hc:COk c) (k:Nat) {g g':List Sym × Nat} {gs gs':List (List Sym × Nat)} (hg:n.goals=g::gs) (hg':m.goals=g'::gs')
  {σ σ':Nat→List Sym} (h1:Mgu σ g.1 (ap (Zdd n.vars) c.head)) (h2:Mgu σ' g'.1 (ap (Zdd m.vars) c.head)) :
  Same (Zau σ n c k g gs) (Zau σ' m c k g' gs'):=by
 have hgd:=hs.gd
 rw [hg,hg'] at hgd
 simp only [List.map_cons,List.cons.injEq] at hgd
 refine ⟨by simp [Zau,hs.used],by simp [Zau,hs.vars],?_,?_,by simp [Zau,hs.vl],Zos hn hm hs hc k hg hg' h1 h2,Zos hm hn hs.symm hc k hg' hg h2 h1⟩
 ·simp only [Zau,Zme,Qr,List.map_map,Function.comp_def,hgd.1,hgd.2]
 ·simp only [Zau,Zme,Qr,List.map_cons,List.map_nil,hgd.1,hs.dd]
theorem Same.big {n m:ND} (hs:Same n m):n.goals.any bigG=m.goals.any bigG∧n.done.any bigG=m.done.any bigG:=by
 have h:=hs.al.len
 unfold ND.terms at h
 simp only [Qr,List.map_map] at h
 obtain ⟨e1,h⟩:=List.append_inj h (by simp [hs.gl])
 obtain ⟨_,e2⟩:=List.append_inj h (by simp [hs.vl])
 have key:∀ {a b:List (List Sym × Nat)},a.map (List.length ∘ (·.1))=b.map (List.length ∘ (·.1))→a.any bigG=b.any bigG:=by
  intro a
  induction a with
  | nil=>intro b h; cases b with
   | nil=>rfl
   | cons y b=>simp at h
  | cons x a ih =>
   intro b h
   cases b with
   | nil=>simp at h
   | cons y b =>
    simp only [List.map_cons,List.cons.injEq,Function.comp] at h
    simp only [List.any_cons,bigG,h.1]
    congr 1
    exact ih h.2
 exact ⟨key e1,key e2⟩
theorem Same.kind {n m:ND} (hs:Same n m):Zfk n=Zfk m:=by
 have hb:=hs.big
 have hg:(n.goals=[])↔(m.goals=[]):=by
  rw [← List.length_eq_zero_iff,← List.length_eq_zero_iff,hs.gl]
 unfold Zfk Zof
 rw [hb.1,hb.2,hs.gl,hs.used]
 split
 ·rfl
 ·split
  ·rw [if_pos (hg.1 (by assumption))]
  ·rw [if_neg (fun h=>by rename_i h'; exact h' (hg.2 h))]
theorem Zqn {n:ND} (hn:NOk n) {c:Cls} (hc:COk c) (k:Nat) {g:List Sym × Nat} {gs:List (List Sym × Nat)} (hg:n.goals=g::gs) {σ:Nat→List Sym} (h1:Mgu σ g.1 (ap (Zdd n.vars) c.head)) (hk:Zfk (Zau σ n c k g gs)≠3) :
  NOk (Zau σ n c k g gs):=by
 have hov:Zof (Zau σ n c k g gs)=false:=by
  unfold Zfk at hk
  cases h:Zof (Zau σ n c k g gs) with
  | false=>rfl
  | true=>rw [h] at hk; simp at hk
 unfold Zof at hov
 simp only [Bool.or_eq_false_iff,decide_eq_false_iff_not,Nat.not_lt] at hov
 obtain ⟨⟨⟨o1,o2⟩,o3⟩,o4⟩:=hov
 have o3':∀ x ∈ (Zau σ n c k g gs).goals,x.1.length≤30:=fun x hx=>by
  have:=List.any_eq_false.1 o3 x hx
  simpa [bigG] using this
 have o4':∀ x ∈ (Zau σ n c k g gs).done,x.1.length≤30:=fun x hx=>by
  have:=List.any_eq_false.1 o4 x hx
  simpa [bigG] using this
 have hul:(Zau σ n c k g gs).used.length=n.used.length+1:=by simp [Zau]
 have hwf:=hn.wf
 have hocc:=hn.occ
 unfold ND.terms at hwf hocc
 rw [hg] at hwf hocc
 have hsub:∀ t ∈ (Zau σ n c k g gs).terms,∃ u,t=ap σ u∧((∃ b ∈ c.body,u=ap (Zdd n.vars) b)∨u ∈ List.map (·.1) (g::gs)++(n.vals++List.map (·.1) n.done)):=by
  intro t ht
  rw [Zfa] at ht
  simp only [Qk,List.mem_map] at ht
  rcases ht with ⟨u,hu,rfl⟩ | ⟨u,hu,rfl⟩ | ⟨u,hu,rfl⟩
  ·rcases hu with ⟨b,hb,rfl⟩ | ⟨x,hx,rfl⟩
   ·exact ⟨_,rfl,Or.inl ⟨b,hb,rfl⟩⟩
   ·exact ⟨_,rfl,Or.inr (List.mem_append_left _ (List.mem_map.2 ⟨x,by simp [hx],rfl⟩))⟩
  ·exact ⟨_,rfl,Or.inr (by simp [hu])⟩
  ·rcases hu with ⟨x,hx,rfl⟩ | hu
   ·exact ⟨_,rfl,Or.inr (List.mem_append_right _ (List.mem_append_right _ (List.mem_map.2 ⟨x,hx,rfl⟩)))⟩
   ·simp at hu; subst hu
    exact ⟨_,rfl,Or.inr (by simp)⟩
 have hocv:∀ u,((∃ b ∈ c.body,u=ap (Zdd n.vars) b)∨u ∈ List.map (·.1) (g::gs)++(n.vals++List.map (·.1) n.done))→∀ v,Occ v u→v<n.vars+c.n:=by
  intro u hu v hv
  rcases hu with ⟨b,hb,rfl⟩ | hu
  ·obtain ⟨z,hz,e⟩:=Zhb hv
   have:=hc.ocb b hb z hz
   omega
  ·have:=hocc u hu v hv; omega
 refine ⟨?_,?_,?_,?_,?_,o1,?_,o2,?_,?_⟩
 ·intro t ht
  obtain ⟨u,rfl,hu⟩:=hsub t ht
  refine Zjl h1.ts ?_
  rcases hu with ⟨b,hb,rfl⟩ | hu
  ·exact Zjl (Zql _) (hc.wfb b hb)
  ·exact hwf u hu
 ·intro t ht v hv
  obtain ⟨u,rfl,hu⟩:=hsub t ht
  obtain ⟨z,hz,hv⟩:=Zsb.1 hv
  show v<n.vars+c.n
  rcases h1.occ z v hv with rfl | h | h
  ·exact hocv u hu v hz
  ·have:=hocc g.1 (by simp) v h; omega
  ·obtain ⟨y,hy,e⟩:=Zhb h
   have:=hc.och y hy
   omega
 ·intro x hx
  refine ⟨o3' x hx,?_⟩
  rw [hul]
  simp only [Zau,carr,List.mem_map,Qk] at hx
  obtain ⟨y,hy,rfl⟩:=hx
  have hg2:=(hn.gs g (by rw [hg]; simp)).2
  rcases hy with ⟨t,_,rfl⟩ | hy
  ·simp only; omega
  ·have:=(hn.gs y (by rw [hg]; simp [hy])).2
   simp only; omega
 ·intro x hx
  refine ⟨o4' x hx,?_⟩
  rw [hul]
  simp only [Zau,carr,List.mem_map,Qk,List.mem_singleton] at hx
  obtain ⟨y,hy,rfl⟩:=hx
  rcases hy with hy | rfl
  ·have:=(hn.ds y hy).2
   simp only; omega
  ·have:=(hn.gs y (by rw [hg]; simp)).2
   simp only; omega
 ·intro t ht
  simp only [Zau,List.mem_map] at ht
  obtain ⟨u,hu,rfl⟩:=ht
  obtain ⟨x,hx,a,b,e⟩:=hn.vs u hu
  refine ⟨(ap σ x.1,x.2),?_,ap σ a,ap σ b,by rw [e]; simp [Zfz]⟩
  rw [hg] at hx
  simp only [Zau,carr,Qk,List.mem_map,Qp,List.mem_singleton] at hx ⊢
  rcases hx with (rfl | hx) | hx
  ·exact Or.inr ⟨x,Or.inr (Or.inl rfl),rfl⟩
  ·exact Or.inl ⟨x,Or.inr hx,rfl⟩
  ·exact Or.inr ⟨x,Or.inl hx,rfl⟩
 ·simp [Zau,carr,hn.dl]
 ·simp [Zau,hn.vl]
 ·have:=hn.vars
  have:=hc.n
  rw [hul]
  show n.vars+c.n≤_
  omega
def Out (n:ND) (c:Cls) (k:Nat) (q:Nat) (ch:ND):Prop:=∃ g gs,n.goals=g::gs∧((q=0∧NoFit g.1 (ap (Zdd n.vars) c.head))∨(q=3∧Vast g.1 (ap (Zdd n.vars) c.head)) ∨
 (∃ σ,Mgu σ g.1 (ap (Zdd n.vars) c.head)∧(ap σ g.1).length≤30∧q=Zfk (Zau σ n c k g gs)∧ch=Zau σ n c k g gs))
theorem Mgu.fits {σ:Nat→List Sym} {a b:List Sym} (h:Mgu σ a b):¬ NoFit a b:=fun hn=>hn σ h.ts h.unif
theorem Vast.fits {a b:List Sym} (h:Vast a b):¬ NoFit a b:=fun hn=>by obtain ⟨⟨θ,hθ,e⟩,_⟩:=h; exact hn θ hθ e
theorem Zwy {n m:ND} (hn:NOk n) (hm:NOk m) (hs:Same n m) {c:Cls} (hc:COk c) {k q q':Nat} {ch ch':ND} (h:Out n c k q ch) (h':Out m c k q' ch'):q=q'∧(q=1∨q=2→NOk ch∧NOk ch'∧Same ch ch'):=by
 obtain ⟨g,gs,hg,h⟩:=h
 obtain ⟨g',gs',hg',h'⟩:=h'
 have hal:=hs.al
 have ho1:=hn.occ
 have ho2:=hm.occ
 unfold ND.terms at hal ho1 ho2
 rw [hg,hg',List.map_cons,List.map_cons,List.cons_append,List.cons_append] at hal
 rw [hg,List.map_cons,List.cons_append] at ho1
 rw [hg',List.map_cons,List.cons_append] at ho2
 have hv:=hs.vars
 have hhd:∀ v,Occ v (ap (Zdd n.vars) c.head)→n.vars≤v:=fun v h=>by obtain ⟨u,_,e⟩:=Zhb h; omega
 have oa:∀ v,Occ v g.1→v<n.vars:=fun v h=>ho1 g.1 (by simp) v h
 have ob:∀ v,Occ v g'.1→v<n.vars:=fun v h=>by have:=ho2 g'.1 (by simp) v h; omega
 have n1:NoFit g.1 (ap (Zdd n.vars) c.head)→NoFit g'.1 (ap (Zdd m.vars) c.head):=fun h=>by rw [← hv]; exact NoFit.alike (V:=n.vars) hal.1 oa hhd h
 have n2:NoFit g'.1 (ap (Zdd m.vars) c.head)→NoFit g.1 (ap (Zdd n.vars) c.head):=fun h=>by rw [← hv] at h; exact NoFit.alike (V:=n.vars) hal.2 ob hhd h
 have v1:Vast g.1 (ap (Zdd n.vars) c.head)→Vast g'.1 (ap (Zdd m.vars) c.head):=fun h=>by rw [← hv]; exact Vast.alike (V:=n.vars) hal oa ob hhd h
 have v2:Vast g'.1 (ap (Zdd m.vars) c.head)→Vast g.1 (ap (Zdd n.vars) c.head):=fun h=>by rw [← hv] at h; exact Vast.alike (V:=n.vars) hal.symm ob oa hhd h
 rcases h with ⟨rfl,h⟩ | ⟨rfl,h⟩ | ⟨σ,h1,h2,h3,rfl⟩
 ·rcases h' with ⟨rfl,h'⟩ | ⟨rfl,h'⟩ | ⟨σ',k1,k2,k3,rfl⟩
  ·exact ⟨rfl,fun h=>by omega⟩
  ·exact absurd (n1 h) h'.fits
  ·exact absurd (n1 h) k1.fits
 ·rcases h' with ⟨rfl,h'⟩ | ⟨rfl,h'⟩ | ⟨σ',k1,k2,k3,rfl⟩
  ·exact absurd (n2 h') h.fits
  ·exact ⟨rfl,fun h=>by omega⟩
  ·have:=(v1 h).2 σ' k1.ts k1.unif; omega
 ·rcases h' with ⟨rfl,h'⟩ | ⟨rfl,h'⟩ | ⟨σ',k1,k2,k3,rfl⟩
  ·exact absurd (n2 h') h1.fits
  ·have:=(v2 h').2 σ h1.ts h1.unif; omega
  ·have hsame:=Zyt hn hm hs hc k hg hg' h1 k1
   have hk:=hsame.kind
   exact ⟨by omega,fun hq=>⟨Zqn hn hc k hg h1 (by omega),Zqn hm hc k hg' k1 (by omega),hsame⟩⟩
open Classical in
noncomputable def tryN (m:ND) (c:Cls) (k:Nat):ND × Nat :=
 if h:∃ r:ND × Nat,∃ n,NOk n∧Same n m∧Out n c k r.2 r.1 then Classical.choose h else (⟨[],[],[],[],0⟩,0)
theorem Zgb {n m:ND} (hn:NOk n) (hs:Same n m) {c:Cls} (hc:COk c) {k q:Nat} {ch:ND} (h:Out n c k q ch):q=(tryN m c k).2∧(q=1∨q=2→NOk ch∧Same ch (tryN m c k).1):=by
 have hex:∃ r:ND × Nat,∃ n,NOk n∧Same n m∧Out n c k r.2 r.1:=⟨(ch,q),n,hn,hs,h⟩
 have e:tryN m c k=Classical.choose hex:=by unfold tryN; rw [dif_pos hex]
 obtain ⟨n',hn',hs',ho⟩:=Classical.choose_spec hex
 rw [e]
 have:=Zwy hn hn' (hs.trans hs'.symm) hc h ho
 exact ⟨this.1,fun hq=>⟨(this.2 hq).1,(this.2 hq).2.2⟩⟩
end Go.Proofs.YtlmjilpjmgjjcaaGreatDoor
namespace Go.Proofs.YtlmjilpjmgjjcaaGreatDoor
open Go.RowKit
theorem Ext.of {w w':World} (h:Kept Zdk w w'):Ext w w':=h.below (Qe _) (fun _ e=>e.elim)
theorem Ext.undrew {w u:World} (h:Ext w.drew u):Ext w u:=⟨h.os,h.tape,h.output,h.size,h.block⟩
theorem Ext.up {w u:World} (h:Ext w.drew u) {p:Addr} {v:Value} (hc:w.cell? p=some v):u.cell? p=some v:=(h.cell (World.block_lt_of_cell? w p hc)).trans hc
def cellsOf:Value→Array Value
 | .agg cs=>cs
 | _=>#[]
theorem box3 {w:World} {b:Nat} {u0 u1 u2:Value} {t:TypeId} (h:w.heap[b]?=some (.cells #[u0,u1,u2] t (0,0))) :
  w.cell? ⟨b,0,none⟩=some u0∧w.cell? ⟨b,1,none⟩=some u1∧w.cell? ⟨b,2,none⟩=some u2∧∀ i,w.frozen? ⟨b,i,none⟩=false :=
 ⟨Zaa h 0 _ rfl,Zaa h 1 _ rfl,Zaa h 2 _ rfl,fun i=>Zad h i⟩
def Zcz (f:Nat):Nat→List Tok→Names→List (List Sym)→Option (List (List Sym) × List Tok × Names)
 | 0,_,_,_=>none
 | g+1,ts,names,acc =>
  match Zcp f ts names with
  | none=>none
  | some r =>
   match r.2.1 with
   | []=>none
   | x::rest=>if x.kind=46 then some (acc++[r.1],rest,r.2.2) else Zcz f g rest r.2.2 (acc++[r.1])
def Zgx (i:Nat):Value→Value
 | .tuple xs=>xs.getD i undef
 | _=>undef
def Yjx:Kd→Bool
 | .pur _=>true
 | .cal=>true
 | _=>false
def ObL (P:Program) (w0:World) (FA:Value→Act) (R R':Value→World→Prop) (f:FuncId) (args:Array Value) (o:Oper):Kd→Prop
 | .pur c=>∀ vc,(execOp (FA vc).eval o).run P w0 = .ok (.value c) w0
 | .post g=>∀ vc w,R vc w∨R' vc w→(execOp (FA vc).eval o).run P w = .ok (.value (g vc)) w
 | .cal=>∀ vc,(execOp (FA vc).eval o).run P w0 = .ok (.enter f args) w0
 | .alo .. => True
 | .sto _=>∀ vc w,R vc w→∃ w',(execOp (FA vc).eval o).run P w = .ok .skip w'∧R' vc w'
def AllObL (P:Program) (w0:World) (FA:Value→Act) (R R':Value→World→Prop) (f:FuncId) (args:Array Value):List Oper→List Kd→Prop
 | o::os,q::qs=>ObL P w0 FA R R' f args o q∧AllObL P w0 FA R R' f args os qs
 | _,_=>True
theorem AllObL.at {P:Program} {w0:World} {FA:Value→Act} {R R':Value→World→Prop} {f:FuncId} {args:Array Value}:∀ {ops:List Oper} {ks:List Kd},AllObL P w0 FA R R' f args ops ks →
  ∀ {i:Nat} {o:Oper} {q:Kd},ops[i]?=some o→ks[i]?=some q→ObL P w0 FA R R' f args o q:=by
 intro ops
 induction ops with
 | nil=>intro ks _ i o q h; simp at h
 | cons p os ih =>
  intro ks h i o q ho hq
  cases ks with
  | nil=>simp at hq
  | cons r qs =>
   cases i with
   | zero=>simp at ho hq; subst ho hq; exact h.1
   | succ i=>exact ih h.2 (by simpa using ho) (by simpa using hq)
abbrev noB:Nat→Nat:=fun _=>0
structure LastPlan (ops:List Oper) (kd:List Kd) (ic fi:Nat) (a0:Act) (w0:World) (R R':Value→World→Prop) (L:Array Bool) (a:Act) (w:World):Prop where
 size:L.size=ops.length
 closed:∀ (i:Nat) o,ops[i]?=some o→L.getD i false=true→∀ j,Zcw o j=true→L.getD j false=true
 st:∃ vc,a=pa a0 vc noB (fun j=>L.getD j false) 0 ops kd∧(L.getD ic false=false→w=w0)∧(L.getD ic false=true→(L.getD fi false=false→R vc w)∧(L.getD fi false=true→R vc w∨R' vc w)∧(L.getD fi false=true→(∃ k,kd[fi]?=some (.sto k))→R' vc w)) ∧
  (∀ (i:Nat) q,kd[i]?=some q→L.getD i false=true→Zdv q=true→L.getD ic false=true)
structure CellS where
 sym:Sym
 kids:List Nat
 up:Nat
def turn (cs:List CellS) (x y:Nat):List CellS:=cs.modify x (fun c => { c with up:=y })
theorem Zwz (cs:List CellS) (x y:Nat):(turn cs x y).length=cs.length:=by simp [turn]
theorem Zqo (cs:List CellS) (x y i:Nat):(turn cs x y)[i]?=(cs[i]?).map (fun c=>if x=i then { c with up:=y } else c):=by
 simp only [turn,List.getElem?_modify]
 cases cs[i]? with
 | none=>rfl
 | some c=>simp
def UpOk (cs:List CellS) (ρ rk:Nat→Nat):Prop:=∀ (i:Nat) c,cs[i]?=some c→c.up<cs.length∧ρ c.up=ρ i∧(c.up=i→ρ i=i)∧(c.up≠i→rk c.up<rk i)
theorem UpOk.root {cs:List CellS} {ρ rk:Nat→Nat} (h:UpOk cs ρ rk):∀ (n i:Nat) c,rk i≤n→cs[i]?=some c→∃ c',cs[ρ i]?=some c'∧c'.up=ρ i∧ρ (ρ i)=ρ i:=by
 intro n
 induction n with
 | zero =>
  intro i c hn hc
  obtain ⟨h1,h2,h3,h4⟩:=h i c hc
  by_cases e:c.up=i
  ·rw [h3 e]; exact ⟨c,hc,e,h3 e⟩
  ·have:=h4 e; omega
 | succ n ih =>
  intro i c hn hc
  obtain ⟨h1,h2,h3,h4⟩:=h i c hc
  by_cases e:c.up=i
  ·rw [h3 e]; exact ⟨c,hc,e,h3 e⟩
  ·have:=h4 e
   rw [← h2]
   exact ih c.up _ (by omega) (Qb h1)
theorem UpOk.rt {cs:List CellS} {ρ rk:Nat→Nat} (h:UpOk cs ρ rk):Rt cs.length ρ:=by
 refine ⟨fun i hi => ?_,fun i hi => ?_⟩
 ·obtain ⟨c',h1,_,_⟩:=h.root _ i _ (Qe _) (Qb hi)
  exact (Qa.1 h1).1
 ·obtain ⟨c',_,_,h3⟩:=h.root _ i _ (Qe _) (Qb hi)
  exact h3
def Zgy (cs:List CellS):Nat:=((List.range cs.length).filter (fun i=>((cs[i]?).map (fun c=>c.up == i)).getD false)).length
theorem Zsg {cs:List CellS} {x y:Nat} {c:CellS} (hx:cs[x]?=some c) (hr:c.up=x) (hne:x≠y):Zgy (turn cs x y)<Zgy cs:=by
 unfold Zgy
 rw [Zwz]
 refine Zrx (x:=x) (fun i _ hi => ?_) (List.mem_range.2 (Qa.1 hx).1) (by simp [hx,hr]) ?_
 ·rw [Zqo] at hi
  cases hc:cs[i]? with
  | none=>rw [hc] at hi; simp at hi
  | some d =>
   rw [hc] at hi
   simp only [Option.map_some,Option.getD_some,beq_iff_eq] at hi ⊢
   split at hi
   ·rename_i e; subst e; simp at hi; exact absurd hi.symm hne
   ·exact hi
 ·rw [Zqo,hx]
  simp
  exact fun e=>hne e.symm
theorem UpOk.turn {cs:List CellS} {ρ rk:Nat→Nat} (h:UpOk cs ρ rk) {x y:Nat} (hx:x<cs.length) (hy:y<cs.length) (rx:ρ x=x) (ry:ρ y=y) (hne:x≠y) :
  UpOk (YtlmjilpjmgjjcaaGreatDoor.turn cs x y) (mg ρ x y) (fun i=>if ρ i=x then rk i+rk y+1 else rk i):=by
 intro i c hc
 rw [Zqo] at hc
 cases hd:cs[i]? with
 | none=>rw [hd] at hc; simp at hc
 | some d =>
  rw [hd] at hc
  simp only [Option.map_some,Qo] at hc
  obtain ⟨h1,h2,h3,h4⟩:=h i d hd
  rw [Zwz]
  by_cases e:x=i
  ·subst e
   rw [if_pos rfl] at hc
   subst hc
   refine ⟨hy,?_,fun e=>absurd e.symm hne,fun _ => ?_⟩
   ·unfold mg
    rw [rx,ry,if_pos rfl,if_neg (fun e=>hne e.symm)]
   ·simp only [rx,ry,if_true]
    rw [if_neg (fun e=>hne e.symm)]; omega
  ·rw [if_neg e] at hc
   subst hc
   refine ⟨h1,?_,fun e' => ?_,fun e' => ?_⟩
   ·unfold mg; rw [h2]
   ·have:=h3 e'
    unfold mg
    rw [this,if_neg (fun e''=>e e''.symm)]
   ·have:=h4 e'
    simp only [h2]
    split <;> omega
theorem Zif (w:World) (g n cap i:Nat) (u:Value):Kept (Zbo (.slice (some ⟨g,0,none⟩) n cap)) w (w.setCell ⟨g,i,none⟩ u):=(Qx _ w).setCell (p:=⟨g,i,none⟩) (fun _=>(rfl:some g=some g)) u
theorem Zsh {l:List Nat} {k n:Nat} (h:l[k]?=some n):l.take (k+1)=l.take k++[n]:=by rw [List.take_add_one,h]; rfl
def fresh (st:List Nat):Nat:=(st.filter (fun n=>n == 0)).length
def on (st:List Nat):Nat→Prop:=fun i=>st[i]?=some 1
theorem Known.congr {G:Gr} {ρ:Nat→Nat} {D D':Nat→Prop} {T T':Nat→List Sym} (h:Known G ρ D T) (hd:∀ i,D' i↔D i) (ht:∀ i,D i→T' i=T i):Known G ρ D' T':=by
 refine ⟨fun r hr=>h.lt r ((hd r).1 hr),fun r hr => ?_,fun r hr k hk=>(hd _).2 (h.kid r ((hd r).1 hr) k hk)⟩
 have hr':=(hd r).1 hr
 rw [ht r hr',h.tm r hr']
 congr 2
 exact List.map_congr_left (fun k hk=>(ht _ (h.kid r hr' k hk)).symm)
theorem Zcs {P:Program} {ops:Array Oper} {o:Oper} {a:Act} {K:Act→World→Prop} {Q:Exit→Act→World→Prop} {E:Prop} {W:World} (w:World) (hg:o.guard=none) (s x:Operand) (t:TypeId)
  (ho:o.op = .call { callee := .builtin .append,args:=#[s,x],argTypes:=#[t,t] })
  (base:Nat) (e:TypeId) {z:Value} {size bytes:Nat}
  (hinfo:(P.info? e).map (fun i=>(i.zero,i.size,i.bytes))=some (some z,size,bytes)) (ht:P.underlying t=some (.slice e)) (hzs:z.cells.size=size) (hsz:0<size)
  (v:Value) (n:Nat) (xs:List Value) (hs:a.eval s=v) (hown:w.ownsRow base e size v n xs)
  (news:Array Value) {N:Nat} (hx:a.eval x = .slice (some ⟨N,0,none⟩) 1 1) (hN:N=w.heap.size) (hl:news.size=size) (h1:∀ u ∈ news.toList,u.oneCell'=true)
  (hbig:(n+1) * (bytes+1)≤140737488355328) (hbase:base≤w.heap.size) (hW:W=w.alloc (.cells news e))
  (h:∀ v' w',Appended w base e size v (n+1) (xs++news.toList) v' w'→K (a.put o.dst v') w'):if Region.wanted o (yielded ops a.tmps)=true then Oper.wp P o a W K Q else E:=by
 have hw:Region.wanted o (yielded ops a.tmps)=true:=by simp [Region.wanted,hg]
 rw [if_pos hw,hW]
 exact Zom w s x t ho base e hinfo ht hzs hsz v n xs hs hown news hx hN hl h1 hbig hbase h
def Zjm (f:Nat):List UInt8→List (List Sym)→List Nat→List UInt8
 | _,[],_=>[]
 | sep,l::ls,seen=>sep++(Zcr f l seen).1++Zjm f [44,32] ls (Zcr f l seen).2.1
theorem Zut (f:Nat):∀ (ls:List (List Sym)),(∀ l' ∈ ls,IsT f l')→(∀ s ∈ ls.flatten,s.name.length≤4096)→∀ sep seen,sep.length≤2→seen.length+ls.flatten.length≤4000→(Zjm f sep ls seen).length≤4101 * ls.flatten.length:=by
 intro ls
 induction ls with
 | nil=>intro _ _ sep seen _ _; simp [Zjm]
 | cons l ls ih =>
  intro h hn sep seen hsep hs
  simp only [List.flatten_cons,Qg] at hs
  have h1:=Zrw f l (h l (by simp)) (fun s hs=>hn s (by simp [hs])) seen (by omega)
  have h2:=ih (fun l' hl=>h l' (by simp [hl])) (fun s hs=>hn s (by simp only [List.flatten_cons,Qk]; exact Or.inr hs)) [44,32] (Zcr f l seen).2.1 (by simp) (by omega)
  have h3:=Yby f l (h l (by simp))
  simp only [Zjm,Qg,List.flatten_cons]
  omega
theorem Zot (f:Nat):∀ (l:List UInt8) (p:Nat),(lexF f l p).length≤l.length∧∀ t ∈ lexF f l p,t.text≠[]∧t.text.length≤l.length:=by
 induction f with
 | zero=>intro l p; exact ⟨by simp [lexF],fun t ht=>by simp [lexF] at ht⟩
 | succ f ih =>
  intro l p
  cases l with
  | nil=>exact ⟨by simp [lexF],fun t ht=>by simp [lexF] at ht⟩
  | cons c r =>
   rw [lexF]
   split
   ·have h:=ih r (p+1)
    exact ⟨by simp; omega,fun t ht=>⟨(h.2 t ht).1,by have:=(h.2 t ht).2; simp; omega⟩⟩
   ·have h:=ih (r.drop (Zbm c r).2) (p+(Zbm c r).2+1)
    simp only [List.length_drop] at h
    refine ⟨by simp; omega,fun t ht => ?_⟩
    simp only [Qp] at ht
    rcases ht with rfl | ht
    ·exact ⟨by simp,by simp; omega⟩
    ·exact ⟨(h.2 t ht).1,by have:=(h.2 t ht).2; simp; omega⟩
theorem Ygi (l:List UInt8) (p:Nat):(toks l p).length≤l.length:=(Zot _ l p).1
theorem Zsi (l:List UInt8) (p:Nat):∀ t ∈ toks l p,t.text≠[]∧t.text.length≤l.length:=(Zot _ l p).2
def Zay (s:ByteArray):List Tok:=toks s.data.toList 0++[⟨4,[],s.size⟩]
theorem Zfb (s:ByteArray):(Zay s).length≤s.size+1:=by
 have:=Ygi s.data.toList 0
 simp [Zay] at this ⊢
 exact this
theorem Zlt (s:ByteArray):∀ t ∈ Zay s,t.text.length≤s.size:=by
 intro t ht
 simp only [Zay,Qk,List.mem_singleton] at ht
 rcases ht with ht | rfl
 ·have:=(Zsi _ _ t ht).2
  simpa using this
 ·simp
theorem Zsj (s:ByteArray):∀ i t,(Zay s)[i]?=some t→i+1<(Zay s).length→t.text≠[]:=by
 intro i t ht hi
 simp only [Zay,Qg,Qn] at hi
 rw [Zay,Qc (by omega)] at ht
 exact (Zsi _ _ t (Qh ht)).1
theorem Zyu {p:List Tok→Names→Option (List Sym × List Tok × Names)} {M:Nat}
  (hp:∀ ts names r,(∀ t ∈ ts,t.text.length≤M)→p ts names=some r→r.1.length+r.2.1.length≤ts.length∧(∀ s ∈ r.1,s.name.length≤M)∧(∀ t ∈ r.2.1,t.text.length≤M)) :
  ∀ (g:Nat) (ts:List Tok) (names:Names) (acc:List (List Sym)) r,(∀ t ∈ ts,t.text.length≤M)→(∀ s ∈ acc.flatten,s.name.length≤M)→Zee p g ts names acc=some r →
   r.1.flatten.length+r.2.1.length≤acc.flatten.length+ts.length∧(∀ s ∈ r.1.flatten,s.name.length≤M)∧(∀ t ∈ r.2.1,t.text.length≤M):=by
 intro g
 induction g with
 | zero=>intro ts names acc r _ _ h; simp [Zee] at h
 | succ g ih =>
  intro ts names acc r hM hA h
  cases ts with
  | nil=>simp [Zee] at h
  | cons t ts =>
   rw [Zee] at h
   split at h
   ·simp at h; subst h
    exact ⟨by simp,hA,fun t ht=>hM t (by simp [ht])⟩
   ·split at h
    ·simp at h
    ·rename_i q hq
     obtain ⟨h1,h2,h3⟩:=hp _ _ _ (fun t ht=>hM t (by simp [ht])) hq
     obtain ⟨h4,h5,h6⟩:=ih _ _ _ _ h3 (fun s hs=>by
      simp only [List.flatten_append,List.flatten_cons,List.flatten_nil,Qs,Qk] at hs
      rcases hs with hs | hs
      ·exact hA s hs
      ·exact h2 s hs) h
     refine ⟨?_,h5,h6⟩
     simp only [List.flatten_append,List.flatten_cons,List.flatten_nil,Qs,Qg,Qf] at h4 ⊢
     omega
theorem Zyv {M:Nat}:∀ (f:Nat) (ts:List Tok) (names:Names) r,(∀ t ∈ ts,t.text.length≤M)→Zcp f ts names=some r→r.1.length+r.2.1.length≤ts.length∧(∀ s ∈ r.1,s.name.length≤M)∧(∀ t ∈ r.2.1,t.text.length≤M):=by
 intro f
 induction f with
 | zero=>intro ts names r _ h; simp [Zcp] at h
 | succ f ih =>
  intro ts names r hM h
  cases ts with
  | nil=>simp [Zcp] at h
  | cons t ts =>
   rw [Zcp] at h
   split at h
   ·simp at h; subst h
    exact ⟨by simp; omega,by simp,fun t ht=>hM t (by simp [ht])⟩
   ·cases ts with
    | nil=>simp [Zji] at h
    | cons u us =>
     rw [Zji] at h
     split at h
     ·simp at h; subst h
      exact ⟨by simp; omega,by simp; exact hM t (by simp),fun t ht=>hM t (by simp at ht ⊢; exact Or.inr ht)⟩
     ·rw [Option.map_eq_some_iff] at h
      obtain ⟨q,hq,rfl⟩:=h
      obtain ⟨h1,h2,h3⟩:=Zyu ih _ _ _ _ _ (fun t ht=>hM t (List.mem_cons_of_mem _ ht)) (by simp) hq
      refine ⟨by simp at h1 ⊢; omega,?_,h3⟩
      intro s hs
      simp only [Qp] at hs
      rcases hs with rfl | hs
      ·exact hM t (by simp)
      ·exact h2 s hs
theorem Zms {M f:Nat}:∀ (g:Nat) (ts:List Tok) (names:Names) (acc:List (List Sym)) r,(∀ t ∈ ts,t.text.length≤M)→(∀ s ∈ acc.flatten,s.name.length≤M)→Zcz f g ts names acc=some r →
   r.1.flatten.length+r.2.1.length≤acc.flatten.length+ts.length∧(∀ s ∈ r.1.flatten,s.name.length≤M)∧(∀ t ∈ r.2.1,t.text.length≤M):=by
 intro g
 induction g with
 | zero=>intro ts names acc r _ _ h; simp [Zcz] at h
 | succ g ih =>
  intro ts names acc r hM hA h
  rw [Zcz] at h
  split at h
  ·simp at h
  ·rename_i q hq
   obtain ⟨h1,h2,h3⟩:=Zyv f _ _ _ hM hq
   have hA':∀ s ∈ (acc++[q.1]).flatten,s.name.length≤M:=fun s hs=>by
    simp only [List.flatten_append,List.flatten_cons,List.flatten_nil,Qs,Qk] at hs
    rcases hs with hs | hs
    ·exact hA s hs
    ·exact h2 s hs
   split at h
   ·simp at h
   ·rename_i x rest hx
    rw [hx] at h1 h3
    split at h
    ·simp at h; subst h
     refine ⟨?_,hA',fun t ht=>h3 t (by simp [ht])⟩
     simp only [List.flatten_append,List.flatten_cons,List.flatten_nil,Qs,Qg,Qf] at h1 ⊢
     omega
    ·obtain ⟨h4,h5,h6⟩:=ih _ _ _ _ (fun t ht=>h3 t (by simp [ht])) hA' h
     refine ⟨?_,h5,h6⟩
     simp only [List.flatten_append,List.flatten_cons,List.flatten_nil,Qs,Qg,Qf] at h1 h4 ⊢
     omega
def Zdo (ts:List Tok):Option (Cls × List Tok) :=
 match Zcp 1000 ts [] with
 | none=>none
 | some r=>match r.2.1 with
  | []=>none
  | x::rest=>if x.kind=3 then (Zcz 1000 1000 rest r.2.2 []).map (fun q=>(⟨r.1,q.1,q.2.2⟩,q.2.1)) else some (⟨r.1,[],r.2.2⟩,rest)
def Zgm:Nat→List Tok→List Cls→Option (List Cls)
 | 0,_,_=>none
 | _+1,[],_=>none
 | g+1,t::ts,acc =>
  if t.kind=4 then some acc
  else match Zdo (t::ts) with
   | none=>none
   | some r=>Zgm g r.2 (acc++[r.1])
theorem Zct {w w':World} {M:Nat} {cs:Array Value} {t:TypeId} {fr:Nat × Nat} {B:Nat} {e:TypeId} {size n:Nat} {v:Value} {xs:List Value} (h:w.ownsRow B e size v n xs) (hM:w.heap[M]?=some (.cells cs t fr)) (ht:e≠t) (hk:Kept (fun k=>k=M) w w'):w'.ownsRow B e size v n xs :=
 hk.owns h (fun k hk' e'=>by subst e'; exact Zag h ht hM hk')
def Zyw (w:World) (size:Nat) (xv:Value) (m:Nat) (news:List Value):Prop :=
 news.length=m * size∧(∀ u ∈ news,u.oneCell'=true)∧((m=0∧xv = .slice none 0 0)∨∃ a c,xv = .slice (some a) m c∧∀ j u,news[j]?=some u→w.cell? (a.add j)=some u)
theorem Zuu {P:Program} (w:World) (t ty:TypeId) (base:Nat) (e:TypeId) {z:Value} {size bytes:Nat}
  (hinfo:(P.info? e).map (fun i=>(i.zero,i.size,i.bytes))=some (some z,size,bytes)) (ht:P.underlying t=some (.slice e)) (hzs:z.cells.size=size) (hsz:0<size)
  (v:Value) (n:Nat) (xs:List Value) (hown:w.ownsRow base e size v n xs) (xv:Value) (m:Nat) (news:List Value) (hx:Zyw w size xv m news)
  (hbig:(n+m) * (bytes+1)≤140737488355328) (hbase:base≤w.heap.size) :
  ∃ v' w',(Builtin.append_ #[t,t] ty #[v,xv]).run P w = .ok v' w'∧Appended w base e size v (n+m) (xs++news) v' w':=by
 obtain ⟨i,hi,hz,hsi,hby⟩:=info_parts hinfo
 have hb1:n+m≤140737488355328:=Qq (Nat.le_mul_of_pos_right (n+m) (Nat.succ_pos bytes)) hbig
 have hb2:(n+m) * bytes≤140737488355328:=Qq (Nat.mul_le_mul_left _ (Nat.le_succ _)) hbig
 have h63:n+m≤maxLen:=by simp only [maxLen]; omega
 obtain ⟨hl,h1,⟨rfl,rfl⟩ | ⟨a,c,rfl,hnews⟩⟩:=hx
 ·have hn:news=[]:=List.eq_nil_of_length_eq_zero (by simpa using hl)
  subst hn
  exact ⟨v,w,run_append_owned_none w base t ty e i size ht hi v n xs hown,by simpa using hown,Qx _ _,Or.inl rfl⟩
 ·obtain ⟨v',w',hr,hA,hB,hC⟩:=run_append_own (P:=P) w base t ty e i z size bytes ht hi hz hsi hby hzs hsz v n xs hown a m c news hl hnews h1 h63 hb2 hbase
  refine ⟨v',w',hr,hA,Kept.of_grown hB |>.mono (fun k _ h=>h),?_⟩
  rcases Nat.eq_zero_or_pos m with rfl | hm
  ·rcases hown.2 with ⟨rfl,rfl⟩ | ⟨g,cap,cur,rfl,hbg,hg,hnc,hcm,hcs,htake⟩
   ·have:=hC.2 ⟨rfl,rfl⟩
    rw [this]; exact Or.inl rfl
   ·have hfit:n * i.size+news.length≤cur.size:=by rw [hl,hcs,hsi]; simp; exact Nat.mul_le_mul_right _ hnc
    have hr':=run_append_room (P:=P) w t ty e i ht hi g n cap cur hg a 0 c news (by rw [hsi]; exact hl) hnews h1 (by omega) hfit
    rw [hr'] at hr
    injection hr with h2 h3
    subst h2
    exact Or.inl rfl
  ·subst hsi hby
   rcases Zhx (P:=P) w base t ty e i z ht hi hz v n xs hown a m c news hl hm hnews h1 h63 hb2 v' w' hr with h | h
   ·exact .inl h
   ·exact .inr ⟨_,h,Qe _⟩
theorem Zyx {P:Program} {o:Oper} {a:Act} {K:Act→World→Prop} {Q:Exit→Act→World→Prop} (w:World) (s x:Operand) (t:TypeId)
  (ho:o.op = .call { callee := .builtin .append,args:=#[s,x],argTypes:=#[t,t] })
  (base:Nat) (e:TypeId) {z:Value} {size bytes:Nat}
  (hinfo:(P.info? e).map (fun i=>(i.zero,i.size,i.bytes))=some (some z,size,bytes)) (ht:P.underlying t=some (.slice e)) (hzs:z.cells.size=size) (hsz:0<size)
  (v:Value) (n:Nat) (xs:List Value) (hs:a.eval s=v) (hown:w.ownsRow base e size v n xs) (xv:Value) (m:Nat) (news:List Value) (hx:a.eval x=xv) (hr:Zyw w size xv m news)
  (hbig:(n+m) * (bytes+1)≤140737488355328) (hbase:base≤w.heap.size)
  (h:∀ v' w',Appended w base e size v (n+m) (xs++news) v' w'→K (a.put o.dst v') w'):o.wp P a w K Q:=by
 obtain ⟨v',w',hrun,hA⟩:=Zuu (P:=P) w t o.type base e hinfo ht hzs hsz v n xs hown xv m news hr hbig hbase
 unfold Oper.wp
 simp [execOp,ho,resolve,invoke,builtin,hs,hx,hrun,Result.andThen]
 exact h v' w' hA
theorem Zje {P:Program} {ops:Array Oper} {rest:List Oper} {o:Oper} {a:Act} {Q:Exit→Act→World→Prop} (w:World) (hgd:o.guard=none) (s x:Operand) (t:TypeId)
  (ho:o.op = .call { callee := .builtin .append,args:=#[s,x],argTypes:=#[t,t] })
  (base:Nat) (e:TypeId) {z:Value} {size bytes:Nat}
  (hinfo:(P.info? e).map (fun i=>(i.zero,i.size,i.bytes))=some (some z,size,bytes)) (ht:P.underlying t=some (.slice e)) (hzs:z.cells.size=size) (hsz:0<size)
  (v:Value) (n:Nat) (xs:List Value) (hs:a.eval s=v) (hown:w.ownsRow base e size v n xs) (xv:Value) (m:Nat) (news:List Value) (hx:a.eval x=xv) (hr:Zyw w size xv m news)
  (hbig:(n+m) * (bytes+1)≤140737488355328) (hbase:base≤w.heap.size)
  (h:∀ v' w',Appended w base e size v (n+m) (xs++news) v' w'→wpList P ops Q rest (a.put o.dst v') w'):wpList P ops Q (o::rest) a w :=
 wpList_plain hgd fun _ hK=>Zyx w s x t ho base e hinfo ht hzs hsz v n xs hs hown xv m news hx hr hbig hbase fun v' w' h2=>hK _ _ (h v' w' h2)
theorem Zsk {w:World} {B:Nat} {e:TypeId} {size n:Nat} {v:Value} {xs:List Value} (h:w.ownsRow B e size v n xs) (h1:∀ u ∈ xs,u.oneCell'=true):Zyw w size v n xs:=by
 refine ⟨h.1,h1,?_⟩
 rcases h.2 with ⟨rfl,rfl⟩ | ⟨g,cap,cur,rfl,_⟩
 ·exact Or.inl ⟨rfl,rfl⟩
 ·exact Or.inr ⟨⟨g,0,none⟩,cap,rfl,fun j u hu=>h.cells (g:=g) rfl j u hu⟩
end Go.Proofs.YtlmjilpjmgjjcaaGreatDoor
namespace Go.Proofs.YtlmjilpjmgjjcaaGreatDoor
def topN (q:List (List Sym) × Names):ND:=⟨q.1.map (fun t=>(t,0)),(List.range q.2.length).map vr,[],[],q.2.length⟩
def meet (n:Nat) (met:List Nat):List Nat:=if met.idxOf n=met.length then met++[n] else met
def Zat:List Sym→List Nat→List Sym × List Nat
 | [],met=>([],met)
 | s::r,met=>if s.name=[] then (⟨[],met.idxOf s.num,s.args⟩::(Zat r (meet s.num met)).1,(Zat r (meet s.num met)).2) else (s::(Zat r met).1,(Zat r met).2)
def Zaq:List (List Sym)→List Nat→List (List Sym) × List Nat
 | [],met=>([],met)
 | t::ts,met=>((Zat t met).1::(Zaq ts (Zat t met).2).1,(Zaq ts (Zat t met).2).2)
theorem Zkg (a b:List Sym) (met:List Nat):Zat (a++b) met=((Zat a met).1++(Zat b (Zat a met).2).1,(Zat b (Zat a met).2).2):=by
 induction a generalizing met with
 | nil=>rfl
 | cons s a ih=>simp only [List.cons_append,Zat,ih]; split <;> rfl
theorem Zqp (a b:List (List Sym)) (met:List Nat):Zaq (a++b) met=((Zaq a met).1++(Zaq b (Zaq a met).2).1,(Zaq b (Zaq a met).2).2):=by
 induction a generalizing met with
 | nil=>rfl
 | cons s a ih=>simp only [List.cons_append,Zaq,ih]
theorem Zdw (ts:List (List Sym)) (met:List Nat):(Zaq ts met).1.length=ts.length:=by
 induction ts generalizing met with
 | nil=>rfl
 | cons t ts ih=>simp [Zaq,ih]
theorem Zhn (l:List Sym) (met:List Nat):(Zat l met).1.length=l.length:=by
 induction l generalizing met with
 | nil=>rfl
 | cons s l ih=>simp only [Zat]; split <;> simp [ih]
theorem Zsl {f:Nat→Nat} {met:List Nat} {n:Nat} (h:∀ m ∈ met,f m=f n→m=n):(met.map f).idxOf (f n)=met.idxOf n:=by
 induction met with
 | nil=>rfl
 | cons m met ih =>
  simp only [List.map_cons,List.idxOf_cons]
  by_cases e:m=n
  ·subst e; simp
  ·have e':¬ f m=f n:=fun h'=>e (h m (by simp) h')
   have b1:(f m == f n)=false:=by rw [Qu]; exact e'
   have b2:(m == n)=false:=by rw [Qu]; exact e
   rw [b1,b2]
   simp only [cond_false]
   rw [ih (fun x hx=>h x (by simp [hx]))]
theorem Ygj {f:Nat→Nat} {met:List Nat} {n:Nat} (h:∀ m ∈ met,f m=f n→m=n):meet (f n) (met.map f)=(meet n met).map f:=by
 unfold meet
 rw [Zsl h]
 simp only [Ql]
 split <;> simp
theorem Zxa {n m:Nat} {met:List Nat} (h:m ∈ meet n met):m ∈ met∨m=n:=by
 unfold meet at h
 split at h
 ·simpa using h
 ·exact Or.inl h
theorem Zyy {l:List Sym} {met:List Nat} {m:Nat} (h:m ∈ (Zat l met).2):m ∈ met∨Occ m l:=by
 induction l generalizing met with
 | nil=>exact Or.inl h
 | cons s l ih =>
  simp only [Zat] at h
  split at h
  ·rename_i hs
   rcases ih h with h | h
   ·rcases Zxa h with h | rfl
    ·exact Or.inl h
    ·exact Or.inr ⟨s,by simp,hs,rfl⟩
   ·obtain ⟨t,ht,h1,h2⟩:=h
    exact Or.inr ⟨t,by simp [ht],h1,h2⟩
  ·rcases ih h with h | h
   ·exact Or.inl h
   ·obtain ⟨t,ht,h1,h2⟩:=h
    exact Or.inr ⟨t,by simp [ht],h1,h2⟩
theorem Zyz {f:Nat→Nat} {V:Nat→Prop} (hf:∀ a b,V a→V b→f a=f b→a=b):∀ {l:List Sym} {met:List Nat},(∀ s ∈ l,s.name=[]→s.args=0)→(∀ m ∈ met,V m)→(∀ v,Occ v l→V v) →
  Zat (l.map (ren f)) (met.map f)=((Zat l met).1,(Zat l met).2.map f):=by
 intro l
 induction l with
 | nil=>intro met _ _ _; rfl
 | cons s l ih =>
  intro met ha hm hv
  have hv':∀ v,Occ v l→V v:=fun v ⟨t,ht,h1,h2⟩=>hv v ⟨t,by simp [ht],h1,h2⟩
  have ha':∀ s ∈ l,s.name=[]→s.args=0:=fun t ht=>ha t (by simp [ht])
  by_cases hs:s.name=[]
  ·have hV:V s.num:=hv s.num ⟨s,by simp,hs,rfl⟩
   have e:ren f s=⟨[],f s.num,0⟩:=by simp [ren,hs]
   have hi:∀ m ∈ met,f m=f s.num→m=s.num:=fun m hm' h=>hf m s.num (hm m hm') hV h
   simp only [List.map_cons,Zat,e,hs,if_true]
   rw [Zsl hi,Ygj hi,ih ha' (fun m h=>by
    rcases Zxa h with h | rfl
    ·exact hm m h
    ·exact hV) hv',ha s (by simp) hs]
  ·have e:ren f s=s:=by simp [ren,hs]
   simp only [List.map_cons,Zat,e,hs,if_false]
   rw [ih ha' hm hv']
theorem Zza {f:Nat→Nat} {V:Nat→Prop} (hf:∀ a b,V a→V b→f a=f b→a=b):∀ {ts:List (List Sym)} {met:List Nat},(∀ t ∈ ts,∀ s ∈ t,s.name=[]→s.args=0)→(∀ m ∈ met,V m)→(∀ t ∈ ts,∀ v,Occ v t→V v) →
  Zaq (ts.map (List.map (ren f))) (met.map f)=((Zaq ts met).1,(Zaq ts met).2.map f):=by
 intro ts
 induction ts with
 | nil=>intro met _ _ _; rfl
 | cons t ts ih =>
  intro met ha hm hv
  simp only [List.map_cons,Zaq]
  rw [Zyz hf (ha t (by simp)) hm (hv t (by simp))]
  simp only
  rw [ih (fun t h=>ha t (by simp [h])) (fun m h=>by
   rcases Zyy h with h | h
   ·exact hm m h
   ·exact hv t (by simp) m h) (fun t h=>hv t (by simp [h]))]
theorem Zuv:∀ {l:List Sym} {k:Nat},Wf k l→∀ s ∈ l,s.name=[]→s.args=0:=by
 intro l
 induction l with
 | nil=>intro k _ s hs; simp at hs
 | cons t l ih =>
  intro k h s hs
  obtain ⟨_,h1,_,h2⟩:=h
  rcases Qp.1 hs with rfl | hs
  ·exact h1
  ·exact ih h2 s hs
theorem Zlu {xs ys:List (List Sym)} (h:Alike xs ys) (hw:∀ x ∈ xs,Wf 1 x):(Zaq ys []).1=(Zaq xs []).1:=by
 obtain ⟨f,g,e,hg⟩:=h.ren
 have:=Zza (f:=f) (V:=fun v=>∃ x ∈ xs,Occ v x) (fun a b ⟨x,hx,ha⟩ ⟨y,hy,hb⟩ e=>by rw [← hg x hx a ha,← hg y hy b hb,e]) (ts:=xs) (met:=[]) (fun t ht=>Zuv (hw t ht)) (by simp) (fun t ht v hv=>⟨t,ht,hv⟩)
 simp only [List.map_nil] at this
 rw [← e] at this
 rw [this]
theorem Inst.part {a b a' b':List (List Sym)} (h:Inst (a++b) (a'++b')) (hl:a.length=a'.length):Inst a a'∧Inst b b':=by
 obtain ⟨τ,ht,e⟩:=h
 obtain ⟨e1,e2⟩:=Zsf e hl.symm
 exact ⟨⟨τ,ht,e1⟩,τ,ht,e2⟩
theorem Alike.part {a b a' b':List (List Sym)} (h:Alike (a++b) (a'++b')) (hl:a.length=a'.length):Alike a a'∧Alike b b' :=
 ⟨⟨(h.1.part hl).1,(h.2.part hl.symm).1⟩,(h.1.part hl).2,(h.2.part hl.symm).2⟩
theorem Same.vals {n m:ND} (h:Same n m):Alike n.vals m.vals:=by
 have:=(h.al.part (by simp [h.gl])).2
 exact (this.part h.vl).1
theorem Same.done {n m:ND} (h:Same n m):Alike (n.done.map (·.1)) (m.done.map (·.1)):=by
 have:=(h.al.part (by simp [h.gl])).2
 exact (this.part h.vl).2
theorem Same.valsC {n m:ND} (h:Same n m) (hn:NOk n):(Zaq n.vals []).1=(Zaq m.vals []).1 :=
 (Zlu h.vals (fun x hx=>hn.wf x (by simp [ND.terms,hx]))).symm
theorem Same.doneC {n m:ND} (h:Same n m) (hn:NOk n):(Zaq (n.done.map (·.1)) []).1=(Zaq (m.done.map (·.1)) []).1 :=
 (Zlu h.done (fun x hx=>hn.wf x (by simp only [ND.terms,Qk]; exact Or.inr (Or.inr hx)))).symm
theorem Zou {τ:Nat→List Sym} (hτ:Ts τ) {φ:Sym→Sym}:∀ {l:List Sym},ap τ l=l.map φ→∀ s ∈ l,s.name≠[]→φ s=s:=by
 intro l
 induction l with
 | nil=>intro _ s hs; simp at hs
 | cons t l ih =>
  intro e s hs hn
  rw [Zbz,List.map_cons] at e
  have l1:1≤(ap1 τ t).length:=by
   unfold ap1; split
   ·exact Zez (hτ _)
   ·simp
  have l2:=Zke hτ l
  have l3:=congrArg List.length e
  simp only [Qg,Qf,Ql] at l3
  have hh:=List.append_inj (s₁:=ap1 τ t) (s₂:=[φ t]) (t₁:=ap τ l) (t₂:=l.map φ) (by simpa using e) (by simp; omega)
  rcases Qp.1 hs with rfl | hs
  ·have:=hh.1
   unfold ap1 at this
   rw [if_neg hn] at this
   simpa using this.symm
  ·exact ih hh.2 s hs hn
def offN (N:List (List UInt8)) (s:Sym):Sym:=if s.name=[]∨s.name ∈ N then s else ⟨s.name++[0],s.num,s.args⟩
theorem Yme {N:List (List UInt8)}:∀ {l:List Sym} {k:Nat},Wf k l→Wf k (l.map (offN N)):=by
 intro l
 induction l with
 | nil=>intro k h; exact h
 | cons s l ih =>
  intro k h
  obtain ⟨h1,h2,h3,h4⟩:=h
  have e1:(offN N s).args=s.args:=by unfold offN; split <;> rfl
  have e2:(offN N s).name=[]↔s.name=[]:=by
   unfold offN; split
   ·exact Iff.rfl
   ·rename_i h; simp at h ⊢; exact h.1
  have e3:(offN N s).num=s.num:=by unfold offN; split <;> rfl
  refine ⟨h1,fun h=>by rw [e1]; exact h2 (e2.1 h),fun h=>by rw [e3]; exact h3 (fun h'=>h (e2.2 h')),?_⟩
  rw [e1]; exact ih h4
theorem Mgu.nm {σ:Nat→List Sym} {a b:List Sym} (h:Mgu σ a b) (n:Nat):∀ s ∈ σ n,s.name≠[]→∃ t ∈ a++b,t.name=s.name:=by
 intro s hs hn
 refine Classical.byContradiction (fun hno => ?_)
 have hno:∀ t ∈ a++b,t.name≠s.name:=fun t ht e=>hno ⟨t,ht,e⟩
 obtain ⟨N,hN⟩:∃ N,N=(a++b).map (·.name):=⟨_,rfl⟩
 have hθ:Ts (fun n=>(σ n).map (offN N)):=fun n=>Yme (h.ts n)
 have key:∀ l:List Sym,(∀ t ∈ l,t.name ∈ N)→ap (fun n=>(σ n).map (offN N)) l=(ap σ l).map (offN N):=by
  intro l
  induction l with
  | nil=>intro _; rfl
  | cons t l ih =>
   intro ht
   rw [Zbz,Zbz,Qr,ih (fun u hu=>ht u (by simp [hu]))]
   congr 1
   unfold ap1
   split
   ·rfl
   ·have:offN N t=t:=by unfold offN; rw [if_pos (Or.inr (ht t (by simp)))]
    simp [this]
 have ha:=key a (fun t ht=>by rw [hN]; exact List.mem_map.2 ⟨t,by simp [ht],rfl⟩)
 have hb:=key b (fun t ht=>by rw [hN]; exact List.mem_map.2 ⟨t,by simp [ht],rfl⟩)
 have hw:=h.wide _ hθ (by rw [ha,hb,h.unif]) n
 have hf:=Zou hθ hw s hs hn
 have hnN:¬ (s.name=[]∨s.name ∈ N):=by
  rintro (h | h)
  ·exact hn h
  ·rw [hN] at h
   obtain ⟨t,ht,e⟩:=List.mem_map.1 h
   exact hno t ht e
 unfold offN at hf
 rw [if_neg hnN] at hf
 have:=congrArg (fun s=>s.name.length) hf
 simp at this
def Shorts (l:List Sym):Prop:=∀ s ∈ l,s.name.length≤800
def NNm (n:ND):Prop:=∀ t ∈ n.terms,Shorts t
def CNm (c:Cls):Prop:=Shorts c.head∧∀ t ∈ c.body,Shorts t
theorem Zsm (n:Nat):Shorts (vr n):=fun s hs=>by simp [vr] at hs; subst hs; simp
theorem Shorts.ap {σ:Nat→List Sym} {l:List Sym} (h:Shorts l) (hσ:∀ n,Shorts (σ n)):Shorts (ap σ l):=by
 intro s hs
 simp only [YtlmjilpjmgjjcaaGreatDoor.ap,List.mem_flatMap] at hs
 obtain ⟨t,ht,hs⟩:=hs
 unfold ap1 at hs
 split at hs
 ·exact hσ _ s hs
 ·simp at hs; subst hs; exact h s ht
theorem Zlv (v n:Nat):Shorts (Zdd v n):=Zsm _
theorem Mgu.shorts {σ:Nat→List Sym} {a b:List Sym} (h:Mgu σ a b) (ha:Shorts a) (hb:Shorts b) (n:Nat):Shorts (σ n):=by
 intro s hs
 by_cases hn:s.name=[]
 ·rw [hn]; simp
 ·obtain ⟨t,ht,e⟩:=h.nm n s hs hn
  rw [← e]
  rcases Qk.1 ht with ht | ht
  ·exact ha t ht
  ·exact hb t ht
theorem Ych {n:ND} {c:Cls} {k q:Nat} {ch:ND} (h:Out n c k q ch) (hq:q=1∨q=2) (hn:NNm n) (hc:CNm c):NNm ch:=by
 obtain ⟨g,gs,hg,h⟩:=h
 rcases h with ⟨rfl,_⟩ | ⟨rfl,_⟩ | ⟨σ,h1,_,_,rfl⟩
 ·omega
 ·omega
 ·have hgt:Shorts g.1:=hn g.1 (by simp [ND.terms,hg])
  have hhd:Shorts (ap (Zdd n.vars) c.head):=hc.1.ap (Zlv _)
  have hσ:=h1.shorts hgt hhd
  intro t ht
  rw [Zfa] at ht
  simp only [Qk,List.mem_map] at ht
  rcases ht with ⟨u,hu,rfl⟩ | ⟨u,hu,rfl⟩ | ⟨u,hu,rfl⟩
  ·rcases hu with ⟨b,hb,rfl⟩ | ⟨x,hx,rfl⟩
   ·exact ((hc.2 b hb).ap (Zlv _)).ap hσ
   ·exact (hn x.1 (by simp only [ND.terms,hg,List.map_cons,List.cons_append,Qp,Qk,List.mem_map]; exact Or.inr (Or.inl ⟨x,hx,rfl⟩))).ap hσ
  ·exact (hn u (by simp [ND.terms,hu])).ap hσ
  ·rcases hu with ⟨x,hx,rfl⟩ | hu
   ·exact (hn x.1 (by simp only [ND.terms,Qk,List.mem_map]; exact Or.inr (Or.inr ⟨x,hx,rfl⟩))).ap hσ
   ·simp at hu; subst hu; exact hgt.ap hσ
end Go.Proofs.YtlmjilpjmgjjcaaGreatDoor
namespace Go.Proofs.YtlmjilpjmgjjcaaGreatDoor
open Go.RowKit
def Zsn:ByteArray:=⟨#[48,49,50,51,52,53,54,55,56,57]⟩
theorem Zzb (c:UInt8):inB c Zec=decide (97≤c.toNat∧c.toNat≤122):=by
 have:=Zdu (p:=fun c=>inB c Zec == decide (97≤c.toNat∧c.toNat≤122)) (by decide +kernel) c
 exact eq_of_beq this
theorem Yci (c:UInt8):inB c Zic=decide (65≤c.toNat∧c.toNat≤90):=by
 have:=Zdu (p:=fun c=>inB c Zic == decide (65≤c.toNat∧c.toNat≤90)) (by decide +kernel) c
 exact eq_of_beq this
theorem Zzc (c:UInt8):inB c Zsn=decide (48≤c.toNat∧c.toNat≤57):=by
 have:=Zdu (p:=fun c=>inB c Zsn == decide (48≤c.toNat∧c.toNat≤57)) (by decide +kernel) c
 exact eq_of_beq this
theorem Ycj (c:UInt8):inB c Zgl=(inB c Zec || inB c Zic || inB c Zsn):=by
 have:=Zdu (p:=fun c=>inB c Zgl == (inB c Zec || inB c Zic || inB c Zsn)) (by decide +kernel) c
 exact eq_of_beq this
theorem Zmt (c:UInt8) (w:World):Calls Tryz.prog 194 #[.int .u8 c.toNat] w fun e w'=>e = .returned (.bool (Zgv c))∧w'=w:=by
 cases hb:Zgv c
 ·obtain ⟨h1,h2⟩:=Ybt hb
  go_enter Tryz.func194,Tryz.ntmps194
  go_wp2
  go_ret
  exact ⟨rfl,rfl⟩
 ·rcases Zuo hb with h1 | ⟨h1,h2⟩
  all_goals
   go_enter Tryz.func194,Tryz.ntmps194
   go_wp2
   go_ret
   exact ⟨rfl,rfl⟩
theorem Zch (c:UInt8) (w:World):Calls Tryz.prog 195 #[.int .u8 c.toNat] w fun e w'=>e = .returned (.bool (inB c Zec))∧w'=w:=by
 rw [Zzb]
 by_cases h1:(97:Int)≤(c.toNat:Int)
 ·by_cases h2:(c.toNat:Int)≤122
  all_goals
   go_enter Tryz.func195,Tryz.ntmps195
   go_wp2
   go_ret
   exact ⟨Zft (by symm; simp; omega),rfl⟩
 ·go_enter Tryz.func195,Tryz.ntmps195
  go_wp2
  go_ret
  exact ⟨Zft (by symm; simp; omega),rfl⟩
theorem Zbn (c:UInt8) (w:World):Calls Tryz.prog 196 #[.int .u8 c.toNat] w fun e w'=>e = .returned (.bool (inB c Zic))∧w'=w:=by
 rw [Yci]
 by_cases h1:(65:Int)≤(c.toNat:Int)
 ·by_cases h2:(c.toNat:Int)≤90
  all_goals
   go_enter Tryz.func196,Tryz.ntmps196
   go_wp2
   go_ret
   exact ⟨Zft (by symm; simp; omega),rfl⟩
 ·go_enter Tryz.func196,Tryz.ntmps196
  go_wp2
  go_ret
  exact ⟨Zft (by symm; simp; omega),rfl⟩
theorem Zjn (c:UInt8) (w:World):Calls Tryz.prog 213 #[.int .u8 c.toNat] w fun e w'=>e = .returned (.bool (inB c Zsn))∧w'=w:=by
 rw [Zzc]
 by_cases h1:(48:Int)≤(c.toNat:Int)
 ·by_cases h2:(c.toNat:Int)≤57
  all_goals
   go_enter Tryz.func213,Tryz.ntmps213
   go_wp2
   go_ret
   exact ⟨Zft (by symm; simp; omega),rfl⟩
 ·go_enter Tryz.func213,Tryz.ntmps213
  go_wp2
  go_ret
  exact ⟨Zft (by symm; simp; omega),rfl⟩
theorem Zov (c:UInt8) (w:World):Calls Tryz.prog 209 #[.int .u8 c.toNat] w fun e w'=>e = .returned (.bool (inB c Zgl))∧w'=w:=by
 rw [Ycj]
 cases h1:inB c Zec
 ·cases h2:inB c Zic
  ·go_enter Tryz.func209,Tryz.ntmps209
   go_wp2_with (first | (go_at_call 195; refine (Zch _ _).mono ?_; rintro e w' ⟨rfl,rfl⟩) | (go_at_call 196; refine (Zbn _ _).mono ?_; rintro e w' ⟨rfl,rfl⟩) | (go_at_call 213; refine (Zjn _ _).mono ?_; rintro e w' ⟨rfl,rfl⟩))
   go_ret
   exact ⟨rfl,rfl⟩
  ·go_enter Tryz.func209,Tryz.ntmps209
   go_wp2_with (first | (go_at_call 195; refine (Zch _ _).mono ?_; rintro e w' ⟨rfl,rfl⟩) | (go_at_call 196; refine (Zbn _ _).mono ?_; rintro e w' ⟨rfl,rfl⟩) | (go_at_call 213; refine (Zjn _ _).mono ?_; rintro e w' ⟨rfl,rfl⟩))
   go_ret
   exact ⟨rfl,rfl⟩
 ·go_enter Tryz.func209,Tryz.ntmps209
  go_wp2_with (first | (go_at_call 195; refine (Zch _ _).mono ?_; rintro e w' ⟨rfl,rfl⟩) | (go_at_call 196; refine (Zbn _ _).mono ?_; rintro e w' ⟨rfl,rfl⟩) | (go_at_call 213; refine (Zjn _ _).mono ?_; rintro e w' ⟨rfl,rfl⟩))
  go_ret
  exact ⟨rfl,rfl⟩
def Zed (s:ByteArray) (n:Nat):UInt8:=(s.data.toList[n]?).getD 0
theorem Zmu (s:ByteArray) (n:Nat) (h:n<s.size):Zed s n=s[n]:=by
 unfold Zed
 rw [Qb (by simpa using h)]
 rfl
theorem Zmv (s:ByteArray) (n:Nat) (h:¬ n<s.size):Zed s n=0:=by
 unfold Zed
 rw [List.getElem?_eq_none (by simp; omega)]
 rfl
theorem Zit (s:ByteArray) (n:Nat) (w:World) (hs:s.size≤4096) (hn:n≤5000):Calls Tryz.prog 163 #[.string s,.int .i64 n] w fun e w'=>e = .returned (.int .u8 (Zed s n).toNat)∧w'=w:=by
 by_cases h:n<s.size
 ·have Hb:=(show Hid _ from Zmu s n h)
  go_enter Tryz.func163,Tryz.ntmps163
  go_wp2
  go_ret
  rw [Hb.out]
  exact ⟨rfl,rfl⟩
 ·have Hb:=(show Hid _ from Zmv s n h)
  go_enter Tryz.func163,Tryz.ntmps163
  go_wp2
  go_ret
  rw [Hb.out]
  exact ⟨rfl,rfl⟩
def Zda:List UInt8→Nat
 | []=>0
 | c::r=>if Zgv c then Zda r+1 else 0
theorem Yck (l:List UInt8):Zda l≤l.length:=by
 induction l with
 | nil=>exact Qe _
 | cons c r ih=>unfold Zda; split <;> simp <;> omega
theorem Zjf (s:ByteArray) (n:Nat) (w:World) (hs:s.size≤4096) (hn:n≤s.size):Calls Tryz.prog 162 #[.string s,.int .i64 n] w fun e w'=>e = .returned (.int .i64 ((n+Zda (s.data.toList.drop n):Nat):Int))∧w'=w:=by
 go_enter Tryz.func162,Tryz.ntmps162
 go_wp2
 go_loop [1] (fun i=>∃ k:Nat,k≤s.size∧i = .int .i64 k∧n+Zda (s.data.toList.drop n)=k+Zda (s.data.toList.drop k)) (fun i=>s.size - (intOf i).toNat)
 case atStart=>exact ⟨n,hn,rfl,rfl⟩
 case round =>
  obtain ⟨k,hk,rfl,hn⟩:=hrel
  have Hn:=(show Hid _ from hn)
  clear hn
  by_cases hlt:k<s.size
  ·have hd:=Zds s k hlt
   cases hb:Zgv s[k]
   ·have Hd:Hid (Zda (s.data.toList.drop k)=0):=by show _=_; rw [hd,Zda,if_neg (by simp [hb])]
    clear hd
    go_wp2_with (go_at_call 194; refine (Zmt _ _).mono ?_; rintro e w' ⟨rfl,rfl⟩)
    go_ret
    exact ⟨Zkv (by have h1:=Hn.out; have h2:=Hd.out; omega),rfl⟩
   ·have Hd:Hid (Zda (s.data.toList.drop k)=Zda (s.data.toList.drop (k+1))+1):=by show _=_; rw [hd,Zda,if_pos hb]
    clear hd
    go_wp2_with (go_at_call 194; refine (Zmt _ _).mono ?_; rintro e w' ⟨rfl,rfl⟩)
    go_round
    case rel=>exact ⟨k+1,by omega,by go_num,by have h1:=Hn.out; have h2:=Hd.out; omega⟩
    case measure=>simp [intOf]; omega
  ·have Hd:Hid (Zda (s.data.toList.drop k)=0):=by show _=_; rw [Zid s k hlt]; rfl
   go_wp2
   go_ret
   exact ⟨Zkv (by have h1:=Hn.out; have h2:=Hd.out; omega),rfl⟩
theorem Zzd:inB 0 Zgl=false:=by decide +kernel
theorem Zkh (s:ByteArray) (n:Nat) (w:World) (hs:s.size≤4096) (hn:n≤s.size):Calls Tryz.prog 197 #[.string s,.int .i64 n] w fun e w'=>e = .returned (.int .i64 ((n+Zbe (s.data.toList.drop n):Nat):Int))∧w'=w:=by
 go_enter Tryz.func197,Tryz.ntmps197
 go_wp2
 go_loop [1] (fun i=>∃ k:Nat,k≤s.size∧i = .int .i64 k∧n+Zbe (s.data.toList.drop n)=k+Zbe (s.data.toList.drop k)) (fun i=>s.size - (intOf i).toNat)
 case atStart=>exact ⟨n,hn,rfl,rfl⟩
 case round =>
  obtain ⟨k,hk,rfl,hn⟩:=hrel
  have Hn:=(show Hid _ from hn)
  clear hn
  cases hb:inB (Zed s k) Zgl
  ·have Hd:Hid (Zbe (s.data.toList.drop k)=0):=by
    show _=_
    by_cases hlt:k<s.size
    ·rw [Zds s k hlt]
     rw [Zmu s k hlt] at hb
     exact Zbc _ _ hb
    ·rw [Zid s k hlt]; rfl
   go_wp2_with (first | (go_at_call 163; refine (Zit _ _ _ hs (by omega)).mono ?_; rintro e w' ⟨rfl,rfl⟩) | (go_at_call 209; refine (Zov _ _).mono ?_; rintro e w' ⟨rfl,rfl⟩))
   go_ret
   exact ⟨Zkv (by have h1:=Hn.out; have h2:=Hd.out; omega),rfl⟩
  ·have hlt:k<s.size:=by
    rcases Nat.lt_or_ge k s.size with h | h
    ·exact h
    ·rw [Zmv s k (by omega),Zzd] at hb; cases hb
   have Hd:Hid (Zbe (s.data.toList.drop k)=Zbe (s.data.toList.drop (k+1))+1):=by
    show _=_
    rw [Zds s k hlt]
    rw [Zmu s k hlt] at hb
    exact Zhl _ _ hb
   go_wp2_with (first | (go_at_call 163; refine (Zit _ _ _ hs (by omega)).mono ?_; rintro e w' ⟨rfl,rfl⟩) | (go_at_call 209; refine (Zov _ _).mono ?_; rintro e w' ⟨rfl,rfl⟩))
   go_round
   case rel=>exact ⟨k+1,by omega,by go_num,by have h1:=Hn.out; have h2:=Hd.out; omega⟩
   case measure=>simp [intOf]; omega
def Zdr (c d:UInt8):Nat :=
 if inB c Zec then 1 else if inB c Zic then 2 else if c=40 then 3 else if c=41 then 4 else if c=44 then 5 else if c=46 then 6 else if c=58∧d=45 then 7 else 8
theorem Zla {c k:UInt8} (h:c=k):((c.toNat:Int) == (k.toNat:Int))=true:=by subst h; simp
theorem Zhc {c k:UInt8} (h:¬ c=k):((c.toNat:Int) == (k.toNat:Int))=false:=by
 rw [Qu]
 intro e
 exact h (UInt8.toNat_inj.1 (by omega))
theorem Zze (c d:UInt8) (w:World):Calls Tryz.prog 164 #[.int .u8 c.toNat,.int .u8 d.toNat] w fun e w'=>e = .returned (.int .i64 (Zdr c d))∧w'=w:=by
 cases hA:inB c Zec
 case true =>
  have Hk:Hid (Zdr c d=1):=by show _=_; simp [Zdr,hA]
  go_enter Tryz.func164,Tryz.ntmps164
  go_wp2_with (first | (go_at_call 195; refine (Zch _ _).mono ?_; rintro e w' ⟨rfl,rfl⟩) | (go_at_call 196; refine (Zbn _ _).mono ?_; rintro e w' ⟨rfl,rfl⟩))
  go_ret
  rw [Hk.out]
  exact ⟨rfl,rfl⟩
 case false =>
  cases hB:inB c Zic
  case true =>
   have Hk:Hid (Zdr c d=2):=by show _=_; simp [Zdr,hA,hB]
   go_enter Tryz.func164,Tryz.ntmps164
   go_wp2_with (first | (go_at_call 195; refine (Zch _ _).mono ?_; rintro e w' ⟨rfl,rfl⟩) | (go_at_call 196; refine (Zbn _ _).mono ?_; rintro e w' ⟨rfl,rfl⟩))
   go_ret
   rw [Hk.out]
   exact ⟨rfl,rfl⟩
  case false =>
   by_cases h1:c=40
   ·have Hk:Hid (Zdr c d=3):=by show _=_; unfold Zdr; rw [if_neg (by rw [hA]; simp),if_neg (by rw [hB]; simp),if_pos h1]
    have t1:((c.toNat:Int) == 40)=true:=Zla h1
    clear h1
    go_enter Tryz.func164,Tryz.ntmps164
    go_wp2_with (first | (go_at_call 195; refine (Zch _ _).mono ?_; rintro e w' ⟨rfl,rfl⟩) | (go_at_call 196; refine (Zbn _ _).mono ?_; rintro e w' ⟨rfl,rfl⟩))
    go_ret
    rw [Hk.out]
    exact ⟨rfl,rfl⟩
   ·have t1:((c.toNat:Int) == 40)=false:=Zhc h1
    by_cases h2:c=41
    ·have Hk:Hid (Zdr c d=4):=by show _=_; unfold Zdr; rw [if_neg (by rw [hA]; simp),if_neg (by rw [hB]; simp),if_neg h1,if_pos h2]
     have t2:((c.toNat:Int) == 41)=true:=Zla h2
     clear h1 h2
     go_enter Tryz.func164,Tryz.ntmps164
     go_wp2_with (first | (go_at_call 195; refine (Zch _ _).mono ?_; rintro e w' ⟨rfl,rfl⟩) | (go_at_call 196; refine (Zbn _ _).mono ?_; rintro e w' ⟨rfl,rfl⟩))
     go_ret
     rw [Hk.out]
     exact ⟨rfl,rfl⟩
    ·have t2:((c.toNat:Int) == 41)=false:=Zhc h2
     by_cases h3:c=44
     ·have Hk:Hid (Zdr c d=5):=by show _=_; unfold Zdr; rw [if_neg (by rw [hA]; simp),if_neg (by rw [hB]; simp),if_neg h1,if_neg h2,if_pos h3]
      have t3:((c.toNat:Int) == 44)=true:=Zla h3
      clear h1 h2 h3
      go_enter Tryz.func164,Tryz.ntmps164
      go_wp2_with (first | (go_at_call 195; refine (Zch _ _).mono ?_; rintro e w' ⟨rfl,rfl⟩) | (go_at_call 196; refine (Zbn _ _).mono ?_; rintro e w' ⟨rfl,rfl⟩))
      go_ret
      rw [Hk.out]
      exact ⟨rfl,rfl⟩
     ·have t3:((c.toNat:Int) == 44)=false:=Zhc h3
      by_cases h4:c=46
      ·have Hk:Hid (Zdr c d=6):=by show _=_; unfold Zdr; rw [if_neg (by rw [hA]; simp),if_neg (by rw [hB]; simp),if_neg h1,if_neg h2,if_neg h3,if_pos h4]
       have t4:((c.toNat:Int) == 46)=true:=Zla h4
       clear h1 h2 h3 h4
       go_enter Tryz.func164,Tryz.ntmps164
       go_wp2_with (first | (go_at_call 195; refine (Zch _ _).mono ?_; rintro e w' ⟨rfl,rfl⟩) | (go_at_call 196; refine (Zbn _ _).mono ?_; rintro e w' ⟨rfl,rfl⟩))
       go_ret
       rw [Hk.out]
       exact ⟨rfl,rfl⟩
      ·have t4:((c.toNat:Int) == 46)=false:=Zhc h4
       by_cases h5:c=58
       ·have t5:((c.toNat:Int) == 58)=true:=Zla h5
        by_cases h6:d=45
        ·have t6:((d.toNat:Int) == 45)=true:=Zla h6
         have Hk:Hid (Zdr c d=7):=by show _=_; unfold Zdr; rw [if_neg (by rw [hA]; simp),if_neg (by rw [hB]; simp),if_neg h1,if_neg h2,if_neg h3,if_neg h4,if_pos ⟨h5,h6⟩]
         clear h1 h2 h3 h4 h5 h6
         go_enter Tryz.func164,Tryz.ntmps164
         go_wp2_with (first | (go_at_call 195; refine (Zch _ _).mono ?_; rintro e w' ⟨rfl,rfl⟩) | (go_at_call 196; refine (Zbn _ _).mono ?_; rintro e w' ⟨rfl,rfl⟩))
         go_ret
         rw [Hk.out]
         exact ⟨rfl,rfl⟩
        ·have t6:((d.toNat:Int) == 45)=false:=Zhc h6
         have Hk:Hid (Zdr c d=8):=by show _=_; unfold Zdr; rw [if_neg (by rw [hA]; simp),if_neg (by rw [hB]; simp),if_neg h1,if_neg h2,if_neg h3,if_neg h4,if_neg (fun h=>h6 h.2)]
         clear h1 h2 h3 h4 h5 h6
         go_enter Tryz.func164,Tryz.ntmps164
         go_wp2_with (first | (go_at_call 195; refine (Zch _ _).mono ?_; rintro e w' ⟨rfl,rfl⟩) | (go_at_call 196; refine (Zbn _ _).mono ?_; rintro e w' ⟨rfl,rfl⟩))
         go_ret
         rw [Hk.out]
         exact ⟨rfl,rfl⟩
       ·have t5:((c.toNat:Int) == 58)=false:=Zhc h5
        have Hk:Hid (Zdr c d=8):=by show _=_; unfold Zdr; rw [if_neg (by rw [hA]; simp),if_neg (by rw [hB]; simp),if_neg h1,if_neg h2,if_neg h3,if_neg h4,if_neg (fun h=>h5 h.1)]
        clear h1 h2 h3 h4 h5
        go_enter Tryz.func164,Tryz.ntmps164
        go_wp2_with (first | (go_at_call 195; refine (Zch _ _).mono ?_; rintro e w' ⟨rfl,rfl⟩) | (go_at_call 196; refine (Zbn _ _).mono ?_; rintro e w' ⟨rfl,rfl⟩))
        go_ret
        rw [Hk.out]
        exact ⟨rfl,rfl⟩
def endC (s:ByteArray) (p kd:Nat):Nat:=if kd=1∨kd=2 then p+Zbe (s.data.toList.drop p) else if kd=7 then p+2 else p+1
theorem Ycl (s:ByteArray) (p kd:Nat) (w:World) (hs:s.size≤4096) (hp:p≤s.size):Calls Tryz.prog 165 #[.string s,.int .i64 p,.int .i64 kd] w fun e w'=>e = .returned (.int .i64 (endC s p kd))∧w'=w:=by
 by_cases h1:kd=1
 ·subst h1
  have Hk:Hid (endC s p 1=p+Zbe (s.data.toList.drop p)):=by show _=_; simp [endC]
  go_enter Tryz.func165,Tryz.ntmps165
  go_wp2_with (go_at_call 197; refine (Zkh _ _ _ hs hp).mono ?_; rintro e w' ⟨rfl,rfl⟩)
  go_ret
  rw [Hk.out]
  exact ⟨rfl,rfl⟩
 ·have t1:((kd:Int) == 1)=false:=by rw [Qu]; omega
  by_cases h2:kd=2
  ·subst h2
   have Hk:Hid (endC s p 2=p+Zbe (s.data.toList.drop p)):=by show _=_; simp [endC]
   clear h1
   go_enter Tryz.func165,Tryz.ntmps165
   go_wp2_with (go_at_call 197; refine (Zkh _ _ _ hs hp).mono ?_; rintro e w' ⟨rfl,rfl⟩)
   go_ret
   rw [Hk.out]
   exact ⟨rfl,rfl⟩
  ·have t2:((kd:Int) == 2)=false:=by rw [Qu]; omega
   by_cases h7:kd=7
   ·have t7:((kd:Int) == 7)=true:=by rw [beq_iff_eq]; omega
    have Hk:Hid (endC s p kd=p+2):=by show _=_; simp [endC,h7]
    clear h1 h2 h7
    go_enter Tryz.func165,Tryz.ntmps165
    go_wp2
    go_ret
    rw [Hk.out]
    exact ⟨Zkv (by omega),rfl⟩
   ·have t7:((kd:Int) == 7)=false:=by rw [Qu]; omega
    have Hk:Hid (endC s p kd=p+1):=by show _=_; simp [endC,h1,h2,h7]
    clear h1 h2 h7
    go_enter Tryz.func165,Tryz.ntmps165
    go_wp2
    go_ret
    rw [Hk.out]
    exact ⟨Zkv (by omega),rfl⟩
def Zmw (s:ByteArray) (n:Nat):Nat × Nat × Nat :=
 if n+Zda (s.data.toList.drop n)<s.size then
  (Zdr (Zed s (n+Zda (s.data.toList.drop n))) (Zed s (n+Zda (s.data.toList.drop n)+1)),n+Zda (s.data.toList.drop n),
   endC s (n+Zda (s.data.toList.drop n)) (Zdr (Zed s (n+Zda (s.data.toList.drop n))) (Zed s (n+Zda (s.data.toList.drop n)+1))))
 else (0,s.size,s.size)
theorem Zxb (s:ByteArray) (n:Nat) (w:World) (hs:s.size≤4096) (hn:n≤s.size):Calls Tryz.prog 130 #[.string s,.int .i64 n] w fun e w' =>
  e = .returned (.agg #[.int .i64 (Zmw s n).1,.int .i64 (Zmw s n).2.1,.int .i64 (Zmw s n).2.2])∧Below w.heap.size w w':=by
 have hbl:=Yck (s.data.toList.drop n)
 simp only [List.length_drop,Array.length_toList] at hbl
 have hbl':n+Zda (s.data.toList.drop n)≤s.size:=by
  have:s.data.size=s.size:=rfl
  omega
 obtain ⟨p,hp⟩:∃ p,p=n+Zda (s.data.toList.drop n):=⟨_,rfl⟩
 have hps:p≤s.size:=by omega
 have Hp:=(show Hid _ from hp)
 by_cases h:p<s.size
 ·have Hr:Hid (Zmw s n=(Zdr (Zed s p) (Zed s (p+1)),p,endC s p (Zdr (Zed s p) (Zed s (p+1))))):=by
   show _=_
   unfold Zmw
   rw [← hp,if_pos h]
  clear hp hbl hbl'
  go_enter Tryz.func130,Tryz.ntmps130
  go_wp2_with fail
  refine (Zjf _ _ _ hs hn).mono ?_
  rintro e w' ⟨rfl,rfl⟩
  rw [← Hp.out]
  go_wp2_with fail
  refine (Zit _ _ _ hs (by omega)).mono ?_
  rintro e w' ⟨rfl,rfl⟩
  go_wp2_with fail
  refine (Zit s (p+1) _ hs (by omega)).mono ?_
  rintro e w' ⟨rfl,rfl⟩
  go_wp2_with fail
  refine (Zze _ _ _).mono ?_
  rintro e w' ⟨rfl,rfl⟩
  go_wp2_with fail
  refine (Ycl _ _ _ _ hs hps).mono ?_
  rintro e w' ⟨rfl,rfl⟩
  go_wp2
  rw [Hr.out]
  exact bodyPost_ret (v := .agg #[.int .i64 (Zdr (Zed s p) (Zed s (p+1))),.int .i64 p,.int .i64 (endC s p (Zdr (Zed s p) (Zed s (p+1))))]) (by simp [results,Tryz.results130,go_sem]) rfl ⟨rfl,(Below.refl _ _).alloc (Qe _) _⟩
 ·have Hr:Hid (Zmw s n=(0,s.size,s.size)):=by
   show _=_
   unfold Zmw
   rw [← hp,if_neg h]
  clear hp hbl hbl'
  go_enter Tryz.func130,Tryz.ntmps130
  go_wp2_with fail
  refine (Zjf _ _ _ hs hn).mono ?_
  rintro e w' ⟨rfl,rfl⟩
  rw [← Hp.out]
  go_wp2
  rw [Hr.out]
  exact bodyPost_ret (v := .agg #[.int .i64 0,.int .i64 s.size,.int .i64 s.size]) (by simp [results,Tryz.results130,go_sem]) rfl ⟨rfl,(Below.refl _ _).alloc (Qe _) _⟩
abbrev CC:=Cls
structure RS where
 query:Bool
 next:Nat
 inBody:Bool
 atom:List Sym
 opn:List Nat
 head:List Sym
 body:List (List Sym)
 vars:Names
 clauses:List CC
structure RV where
 a:Value
 o:Value
 h:Value
 b:Value
 v:Value
 c:Value
def Zbw (s:Sym):List Value:=[.string ⟨s.name.toArray⟩,.int .i64 s.num,.int .i64 s.args]
def Zaj (l:List Sym):List Value:=l.flatMap Zbw
theorem Zba (l:List Sym) (k:Nat) (t:Sym) (h:l[k]?=some t) (j:Nat) (hj:j<3):(Zaj l)[k * 3+j]?=(Zbw t)[j]?:=by
 induction l generalizing k with
 | nil=>simp at h
 | cons a l ih =>
  cases k with
  | zero =>
   simp at h; subst h
   show (Zbw a++Zaj l)[_]?=_
   rw [Qc (by simp [Zbw]; omega)]
   simp
  | succ k =>
   show (Zbw a++Zaj l)[_]?=_
   rw [Qd (by simp [Zbw]; omega)]
   rw [← ih k (by simpa using h)]
   congr 1
   simp [Zbw]
   omega
def Zde (st:RS) (V:RV):Array Value:=#[.bool st.query,.int .i64 st.next,.bool st.inBody,V.a,V.o,V.h,V.b,V.v,V.c]
structure ROpen (w:World) (B rb:Nat) (st:RS) (V:RV):Prop where
 blk:w.heap[rb]?=some (.cells (Zde st V) 169 (0,0))
 atom:w.ownsRow B 133 3 V.a st.atom.length (Zaj st.atom)
 opn:w.ownsRow B 3 1 V.o st.opn.length (ints st.opn.reverse)
 body:∃ x c,V.b = .slice x st.body.length c
 cls:∃ x c,V.c = .slice x st.clauses.length c
theorem ROpen.facts {w:World} {B rb:Nat} {st:RS} {V:RV} (h:ROpen w B rb st V) :
  w.cell? ⟨rb,0,none⟩=some (.bool st.query)∧w.cell? ⟨rb,1,none⟩=some (.int .i64 st.next)∧w.cell? ⟨rb,2,none⟩=some (.bool st.inBody)∧w.cell? ⟨rb,3,none⟩=some V.a∧w.cell? ⟨rb,4,none⟩=some V.o ∧
  w.cell? ⟨rb,5,none⟩=some V.h∧w.cell? ⟨rb,6,none⟩=some V.b∧w.cell? ⟨rb,7,none⟩=some V.v∧w.cell? ⟨rb,8,none⟩=some V.c :=
 ⟨Zaa h.blk 0 _ rfl,Zaa h.blk 1 _ rfl,Zaa h.blk 2 _ rfl,Zaa h.blk 3 _ rfl,Zaa h.blk 4 _ rfl,Zaa h.blk 5 _ rfl,Zaa h.blk 6 _ rfl,Zaa h.blk 7 _ rfl,Zaa h.blk 8 _ rfl⟩
def Zfr (st:RS):Int:=match st.opn with
 | [] => -1
 | n::_=>if st.atom.length≤n then -1 else n
theorem Zmx (w:World) (B rb:Nat) (st:RS) (V:RV) (h:ROpen w B rb st V) (hl:st.opn.length≤4096) (ha:st.atom.length≤4096) :
  Calls Tryz.prog 200 #[.pointer (some ⟨rb,0,none⟩)] w fun e w'=>e = .returned (.int .i64 (Zfr st))∧∃ n,w'=w.drewN n:=by
 obtain ⟨c0,c1,c2,c3,c4,c5,c6,c7,c8⟩:=h.facts
 obtain ⟨aa,acap,hva⟩:=Zae h.atom
 obtain ⟨oa,ocap,hvo⟩:=Zae h.opn
 rw [hva] at c3
 rw [hvo] at c4
 cases hst:st.opn with
 | nil =>
  have Ho:Hid (Zfr st = -1):=by show _=_; simp [Zfr,hst]
  simp only [hst,Jt] at c4
  clear hva hvo hst h
  go_enter Tryz.func200,Tryz.ntmps200
  go_wp2
  go_ret
  rw [Ho.out]
  exact ⟨rfl,0,rfl⟩
 | cons n r =>
  have hrl:r.length+1≤4096:=by rw [hst] at hl; simpa using hl
  have hop:=h.opn
  rw [hst,hvo,hst] at hop
  obtain ⟨g,gcap,gcur,he,hBg,hg,hcap⟩:=Zap hop (by simp)
  simp only [Value.slice.injEq] at he
  obtain ⟨rfl,_,rfl⟩:=he
  have cg:w.cell? ⟨g,r.length,none⟩=some (.int .i64 n):=Zai hop r.length _ (by simp [ints])
  simp only [hst,Qf] at c4
  simp only [Qf] at hcap
  have hlen0:(((r.length:Nat):Int)+1 == 0)=false:=by rw [Qu]; omega
  by_cases hn:st.atom.length≤n
  ·have Ho:Hid (Zfr st = -1):=by show _=_; simp [Zfr,hst,hn]
   clear hva hvo hst h hop hg
   go_enter Tryz.func200,Tryz.ntmps200
   go_wp2_with fail
   go_quiet (fail)
   go_wp2
   go_ret
   rw [Ho.out]
   exact ⟨rfl,_,rfl⟩
  ·have Ho:Hid (Zfr st=n):=by show _=_; simp [Zfr,hst,hn]
   clear hva hvo hst h hop hg
   go_enter Tryz.func200,Tryz.ntmps200
   go_wp2_with fail
   go_quiet (fail)
   go_wp2
   go_ret
   rw [Ho.out]
   exact ⟨rfl,_,rfl⟩
end Go.Proofs.YtlmjilpjmgjjcaaGreatDoor
