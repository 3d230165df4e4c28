/-
  PROVED HERE: plain facts: a search's answers are those of its tree, and each answer's warrant leads to it (no program, no memory; the conditions stand in each statement).
-/
import Derived.Test.YtlmjilpjmgjjcaaGreatDoorT4
import Derived.Deep.QuietTactic
import Derived.BigQuiet
set_option linter.unusedSimpArgs false
set_option linter.unusedVariables false
set_option maxRecDepth 10000
set_option maxHeartbeats 4000000
namespace Go.Proofs.YtlmjilpjmgjjcaaGreatDoor
theorem Ydl:∀ (f:Nat) {l:List Sym},IsT f l→Wf 1 l:=by
 intro f
 induction f with
 | zero=>intro l h; exact h.elim
 | succ f ih =>
  intro l h
  rcases h with ⟨n,rfl⟩ | ⟨nm,ls,h1,rfl,h2⟩
  ·exact Zur n
  ·refine ⟨by omega,fun e=>absurd e h1,fun _=>rfl,?_⟩
   have:=Zky (fun l hl=>ih (h2 l hl))
   simpa using this
theorem Ygy:∀ (l:List Sym) (k k':Nat),scan l k=some k'→∀ i,k≤i→i<k'→Occ i l:=by
 intro l
 induction l with
 | nil=>intro k k' h i h1 h2; simp [scan] at h; omega
 | cons s l ih =>
  intro k k' h i h1 h2
  simp only [scan] at h
  have up:Occ i l→Occ i (s::l):=fun ⟨t,ht,e1,e2⟩=>⟨t,by simp [ht],e1,e2⟩
  split at h
  ·rename_i hn
   split at h
   ·exact up (ih _ _ h i h1 h2)
   ·split at h
    ·rename_i hk
     rcases Nat.lt_or_ge k i with h3 | h3
     ·exact up (ih _ _ h i h3 h2)
     ·exact ⟨s,by simp,hn,by omega⟩
    ·simp at h
  ·exact up (ih _ _ h i h1 h2)
theorem Zvh {f:Nat}:∀ {g:Nat} {ts:List Tok} {names:Names} {acc:List (List Sym)} {q},Zcz f g ts names acc=some q→acc.length<q.1.length:=by
 intro g
 induction g with
 | zero=>intro ts names acc q h; simp [Zcz] at h
 | succ g ih =>
  intro ts names acc q h
  rw [Zcz] at h
  cases hq:Zcp f ts names with
  | none=>rw [hq] at h; simp at h
  | some r =>
   rw [hq] at h
   simp only at h
   cases hr:r.2.1 with
   | nil=>rw [hr] at h; simp at h
   | cons x rest =>
    rw [hr] at h
    simp only at h
    split at h
    ·simp at h; subst h; simp
    ·have:=ih h; simp at this; omega
def Ykf (c:Cls):Prop:=∃ k1,scan c.head 0=some k1∧scan c.body.flatten k1=some c.n
theorem Zsu (ts:List Tok) (c:Cls × List Tok) (hw:Worded ts) (h:Zdo ts=some c):Ykf c.1:=by
 rw [Zdo] at h
 cases hp:Zcp 1000 ts [] with
 | none=>rw [hp] at h; simp at h
 | some r =>
  rw [hp] at h
  simp only at h
  obtain ⟨i1,i2⟩:=Zna 1000 ts [] r hw hp
  obtain ⟨n,_,_,hn,_⟩:=Zgo 1000 ts [] r hp
  have hw1:Worded r.2.1:=by rw [hn]; exact hw.drop n
  cases hr:r.2.1 with
  | nil=>rw [hr] at h; simp at h
  | cons y ys =>
   rw [hr] at h hw1
   simp only at h
   split at h
   ·rw [Option.map_eq_some_iff] at h
    obtain ⟨q,hq,rfl⟩:=h
    obtain ⟨g1,g2,g3⟩:=Zhe 1000 r.2.2.length 1000 ys r.2.2 [] q hw1.tail (by simp) rfl hq
    exact ⟨_,i2,g2⟩
   ·simp at h
    subst h
    exact ⟨_,i2,rfl⟩
theorem Zzt:∀ (g:Nat) (ts:List Tok) (acc cs:List Cls),Worded ts→(∀ c ∈ acc,Ykf c)→Zgm g ts acc=some cs→∀ c ∈ cs,Ykf c:=by
 intro g
 induction g with
 | zero=>intro ts acc cs _ _ h; simp [Zgm] at h
 | succ g ih =>
  intro ts acc cs hw ha h
  cases ts with
  | nil=>simp [Zgm] at h
  | cons t ts =>
   rw [Zgm] at h
   split at h
   ·simp at h; subst h; exact ha
   ·cases hc:Zdo (t::ts) with
    | none=>rw [hc] at h; simp at h
    | some c =>
     rw [hc] at h
     simp only at h
     obtain ⟨_,g2⟩:=Znb _ c hw hc
     have g1:=Zsu _ c hw hc
     refine ih c.2 (acc++[c.1]) cs g2 ?_ h
     intro x hx
     simp at hx
     rcases hx with hx | rfl
     ·exact ha x hx
     ·exact g1
theorem Zsv (s:ByteArray) (hs:s.size≤800) (h0:(runs s false).1=0):∃ cs,Zgm 1000 (Zay s) []=some cs∧(runs s false).2.2.clauses=cs:=by
 obtain ⟨r1,_,r3⟩:=Zdx s false
 have hl:=Zfb s
 have hok:okk (Zay s) (Zdc false):=r1.symm.trans h0
 obtain ⟨cs,i,ex,h1,h2,h3,h4⟩:=Ygu 1000 (Zay s) (Zdc false) [] (st0 false) (by omega) (by omega) hok (Zqs _ _) rfl rfl rfl rfl ⟨rfl,rfl,rfl,rfl,rfl,rfl,rfl,rfl⟩
 rw [show (Zay s).take i=toks s.data.toList 0 from Yjj (Zlc _ _) h2] at h4
 rw [List.nil_append] at h3
 subst h3
 refine ⟨cs,h1,?_⟩
 rw [r3 h0,h4]
 rfl
theorem Zcx {s:ByteArray} {cs:List Cls} (h:Zcj s=some cs):s.size≤800∧(runs s false).1=0∧(runs s false).2.2.clauses=cs∧(∀ c ∈ cs,COk c∧CNm c)∧cs.length≤24:=by
 unfold Zcj at h
 split at h
 ·simp at h
 ·split at h
  ·simp at h
  ·rename_i hs he
   have hs:s.size≤800:=by omega
   obtain ⟨r1,_,_⟩:=Zdx s false
   have h0:(runs s false).1=0:=by rw [r1]; omega
   obtain ⟨cs',e1,e2⟩:=Zsv s hs h0
   rw [e1] at h
   simp at h
   subst h
   have hB:SB (runs s false).2.2:=(SB.start false).run h0
   have hg:=Ydk 1000 (Zay s) [] cs' (Zei s) (by simp) e1
   have hgn:=Zzt 1000 (Zay s) [] cs' (Zei s) (by simp) e1
   refine ⟨hs,h0,e2,fun c hc => ?_,by rw [← e2]; exact hB.clsn⟩
   obtain ⟨g1,g2,_⟩:=hg c hc
   obtain ⟨k1,n1,n2⟩:=hgn c hc
   obtain ⟨b1,b2,b3⟩:=hB.cls c (by rw [e2]; exact hc)
   obtain ⟨c1,c2,c3⟩:=hB.cn c (by rw [e2]; exact hc)
   obtain ⟨x1,x2,x3⟩:=Zfd _ _ _ n1
   obtain ⟨y1,y2,y3⟩:=Zfd _ _ _ n2
   have hfl:c.body.flatten.length≤180:=by
    have key:∀ ls:List (List Sym),(∀ t ∈ ls,t.length≤30)→ls.flatten.length≤30 * ls.length:=by
     intro ls
     induction ls with
     | nil=>intro _; simp
     | cons t ts ih =>
      intro h
      have h1:=h t (by simp)
      have h2:=ih (fun y hy=>h y (by simp [hy]))
      simp only [List.flatten_cons,Qg,Qf]; omega
    have:=key c.body b2
    omega
   refine ⟨⟨Ydl 1000 g1,fun t ht=>Ydl 1000 (g2 t ht),?_,?_,by omega,b1,b2,b3⟩,fun x hx=>Qq (c1 x hx) (by omega),fun t ht x hx=>Qq (c2 t ht x hx) (by omega)⟩
   ·rintro v ⟨x,hx,e1,e2⟩
    have:=x3 x hx e1
    omega
   ·rintro t ht v ⟨x,hx,e1,e2⟩
    have:=y3 x (List.mem_flatten.2 ⟨t,ht,hx⟩) e1
    omega
theorem Zdf {s:ByteArray} {a:List (List Sym) × Names} (h:Zep s=some a):s.size≤120∧(runs s true).1=0∧(runs s true).2.2.clauses=[⟨[],a.1,a.2⟩]∧NOk (topN a)∧NNm (topN a)∧a.1.length≤6∧a.1≠[]∧a.2.length≤121∧(∀ x ∈ a.2,x.length≤8):=by
 unfold Zep at h
 split at h
 ·simp at h
 ·split at h
  ·simp at h
  ·rename_i hs he
   have hs:s.size≤120:=by omega
   obtain ⟨r1,_,_⟩:=Zdx s true
   have h0:(runs s true).1=0:=by rw [r1]; omega
   obtain ⟨q,e1,e2,_⟩:=Ziw s hs h0
   rw [e1] at h
   simp at h
   subst h
   have hB:SB (runs s true).2.2:=(SB.start true).run h0
   obtain ⟨g1,g2,_⟩:=Zhe 1000 0 1000 (Zay s) [] [] q (Zei s) (by simp) rfl e1
   obtain ⟨b1,b2,b3⟩:=hB.cls ⟨[],q.1,q.2.2⟩ (by rw [e2]; simp)
   obtain ⟨c1,c2,c3⟩:=hB.cn ⟨[],q.1,q.2.2⟩ (by rw [e2]; simp)
   obtain ⟨x1,x2,x3⟩:=Zfd _ _ _ g2
   have hl:=Zfb s
   have hM:=Zms (M:=120) 1000 (Zay s) [] [] q (fun t ht=>Qq (Zlt s t ht) hs) (by simp) e1
   have hM1:=hM.1
   simp only [List.flatten_nil,Jt] at hM1
   simp only at b2 b3 c2 c3
   have hwf:∀ t ∈ q.1,Wf 1 t:=fun t ht=>Ydl 1000 (g1 t ht)
   have hne:q.1≠[]:=by
    intro e
    have:=Zvh e1
    rw [e] at this
    simp at this
   refine ⟨hs,h0,e2,⟨?_,?_,?_,by simp [topN],?_,by simp [topN]; omega,by simp [topN],by simp [topN],by simp [topN]; omega,by simp [topN]; omega⟩,?_,b3,hne,by simp only; omega,c3⟩
   ·intro t ht
    simp only [ND.terms,topN,List.map_map,List.map_nil,Qs,Qk,List.mem_map,Function.comp] at ht
    rcases ht with ⟨u,hu,rfl⟩ | ⟨i,_,rfl⟩
    ·exact hwf u hu
    ·exact Zur i
   ·intro t ht v hv
    simp only [ND.terms,topN,List.map_map,List.map_nil,Qs,Qk,List.mem_map,Function.comp,List.mem_range] at ht
    show v<q.2.2.length
    rcases ht with ⟨u,hu,rfl⟩ | ⟨i,hi,rfl⟩
    ·obtain ⟨x,hx,e3,e4⟩:=hv
     have:=x3 x (List.mem_flatten.2 ⟨_,hu,hx⟩) e3
     omega
    ·have:=Zlr.1 hv; omega
   ·intro g hg
    simp only [topN,List.mem_map] at hg
    obtain ⟨t,ht,rfl⟩:=hg
    exact ⟨b2 t ht,by simp [topN]⟩
   ·intro t ht
    simp only [topN,List.mem_map,List.mem_range] at ht
    obtain ⟨i,hi,rfl⟩:=ht
    obtain ⟨x,hx,e3,e4⟩:=Ygy _ _ _ g2 i (Qm _) hi
    obtain ⟨u,hu,hxu⟩:=List.mem_flatten.1 hx
    obtain ⟨p,r,e5⟩:=List.append_of_mem hxu
    have hargs:=Zuv (hwf u hu) x hxu e3
    have ex:x=⟨[],i,0⟩:=by
     cases x
     simp only at e3 e4 hargs
     subst e3 e4 hargs
     rfl
    refine ⟨(u,0),by simp only [topN,Qs,List.mem_map]; exact ⟨u,hu,rfl⟩,p,r,?_⟩
    show u=p++vr i++r
    rw [e5,ex]; simp [vr]
   ·intro t ht
    simp only [ND.terms,topN,List.map_map,List.map_nil,Qs,Qk,List.mem_map,Function.comp] at ht
    rcases ht with ⟨u,hu,rfl⟩ | ⟨i,_,rfl⟩
    ·exact fun x hx=>Qq (c2 u hu x hx) (by omega)
    ·exact Zsm i
end Go.Proofs.YtlmjilpjmgjjcaaGreatDoor
namespace Go.Proofs.YtlmjilpjmgjjcaaGreatDoor
open Go.RowKit
theorem Zix {c:UInt8} (h:figB c=true):48≤c.toNat∧c.toNat≤57:=by simpa [figB] using h
theorem Zsw (s:ByteArray) (p:Nat) (h:¬ p<s.size):Zak (s.data.toList.drop p)=(0,0):=by rw [Zid s p h]; rfl
theorem Zvi (s:ByteArray) (p:Nat) (h:p<s.size) (hf:figB s[p]=false):Zak (s.data.toList.drop p)=(0,0):=by
 rw [Zds s p h]; simp [Zak,hf]
theorem Zsx (s:ByteArray) (p:Nat) (h:p<s.size) (hf:figB s[p]=true) (h0:s[p].toNat - 48=0):Zak (s.data.toList.drop p)=(s[p].toNat - 48,1):=by
 have:=Zix hf
 rw [Zds s p h]; simp [Zak,hf,show s[p].toNat=48 by omega]
theorem Zvj (s:ByteArray) (p:Nat) (h:p<s.size) (hf:figB s[p]=true) (h1:¬ p+1<s.size):Zak (s.data.toList.drop p)=(s[p].toNat - 48,1):=by
 rw [Zds s p h,Zid s (p+1) h1]
 simp only [Zak,hf,if_true]
 split
 ·rename_i h0; rw [h0]
 ·rfl
theorem Zsy (s:ByteArray) (p:Nat) (h:p<s.size) (hf:figB s[p]=true) (h1:p+1<s.size) (hf1:figB s[p+1]=false):Zak (s.data.toList.drop p)=(s[p].toNat - 48,1):=by
 rw [Zds s p h,Zds s (p+1) h1]
 simp only [Zak,hf,hf1,if_true]
 split
 ·rename_i h0; rw [h0]
 ·simp
theorem Zvk (s:ByteArray) (p:Nat) (h:p<s.size) (hf:figB s[p]=true) (h0:¬ s[p].toNat - 48=0) (h1:p+1<s.size) (hf1:figB s[p+1]=true):Zak (s.data.toList.drop p)=(10 * (s[p].toNat - 48)+(s[p+1].toNat - 48),2):=by
 rw [Zds s p h,Zds s (p+1) h1]
 simp only [Zak,hf,hf1,if_true]
 rw [if_neg (by omega)]
def Zkl (f:Nat) (l:List UInt8) (p:Nat) (acc:List Nat):Option (List Nat) × Nat :=
 match l with
 | []=>(some acc,0)
 | c::r=>if c=46 then Zdz f r (p+1) acc else (none,p)
theorem Zqy (f:Nat) (l:List UInt8) (p:Nat) (acc:List Nat) (h:(Zak l).2≠0):Zdz (f+1) l p acc=Zkl f (l.drop (Zak l).2) (p+(Zak l).2) (acc++[(Zak l).1]):=by
 rw [Zdz,if_neg h]; rfl
theorem Zqz (f:Nat) (l:List UInt8) (p:Nat) (acc:List Nat) (h:(Zak l).2=0):Zdz (f+1) l p acc=(none,p):=by
 rw [Zdz,if_pos h]
theorem box2 {w:World} {b:Nat} {u0 u1:Value} {t:TypeId} (h:w.heap[b]?=some (.cells #[u0,u1] t (0,0))) :
  w.cell? ⟨b,0,none⟩=some u0∧w.cell? ⟨b,1,none⟩=some u1∧∀ i,w.frozen? ⟨b,i,none⟩=false :=
 ⟨Zaa h 0 _ rfl,Zaa h 1 _ rfl,fun i=>Zad h i⟩
theorem Zdj {cs:List Cls} {n:ND} {k i:Nat} {ks:List Nat} (h:n.goals=[]∨cs.length≤k):(Zaw cs n (k::ks) i).2=(7,i):=by
 unfold Zaw
 split
 ·rfl
 ·rename_i c hc
  rcases h with h | h
  ·rw [if_pos h]
  ·rw [List.getElem?_eq_none h] at hc; simp at hc
theorem Zgd {cs:List Cls} {n:ND} {k i:Nat} {ks:List Nat} {c:Cls} (hc:cs[k]?=some c) (h:¬ ((tryN n c k).2=1∨(tryN n c k).2=2)):(Zaw cs n (k::ks) i).2=(7,i):=by
 unfold Zaw
 simp only [hc]
 by_cases hg:n.goals=[]
 ·rw [if_pos hg]
 ·rw [if_neg hg,if_neg h]
theorem Ziy {cs:List Cls} {n:ND} {k i:Nat} {ks:List Nat} {c:Cls} (hc:cs[k]?=some c) (hg:n.goals≠[]) (h:(tryN n c k).2=1∨(tryN n c k).2=2):Zaw cs n (k::ks) i=Zaw cs (tryN n c k).1 ks (i+1):=by
 conv=>lhs; unfold Zaw
 simp only [hc]
 rw [if_neg hg,if_pos h]
theorem Znc {l:List Sym} (hl:l.length≤1000) (hw:Wf 1 l) (hn:∀ s ∈ l,s.name.length≤4096) {seen:List Nat} (hs:seen.length+l.length≤4000) :
  (Zby (Zat l seen).1 []).length≤4100 * l.length∧(Zat l seen).2.length≤seen.length+l.length:=by
 have hT:=Ymk 1000 hl hw
 obtain ⟨h1,h2⟩:=Zvg hT seen
 have:=Zrw 1000 l hT hn seen hs
 rw [h1,h2] at this
 omega
theorem Ydm:∀ (names:Names) (ts:List (List Sym)) (sep:List UInt8) (seen:List Nat),(∀ x ∈ names,x.length≤4096)→(∀ t ∈ ts,Wf 1 t∧t.length≤1000∧∀ s ∈ t,s.name.length≤4096)→sep.length≤1→seen.length+ts.flatten.length≤4000 →
  (Zjc sep names (Zaq ts seen).1).length≤4098 * names.length+4100 * ts.flatten.length:=by
 intro names
 induction names with
 | nil=>intro ts sep seen _ _ _ _; cases ts <;> simp [Zaq,Zjc]
 | cons x xs ih =>
  intro ts sep seen h1 h2 h3 h4
  cases ts with
  | nil=>simp [Zaq,Zjc]
  | cons t ts =>
   obtain ⟨t1,t2,t3⟩:=h2 t (by simp)
   simp only [List.flatten_cons,Qg] at h4 ⊢
   obtain ⟨c1,c2⟩:=Znc t2 t1 t3 (seen:=seen) (by omega)
   have h:=ih ts [44] (Zat t seen).2 (fun y hy=>h1 y (by simp [hy])) (fun y hy=>h2 y (by simp [hy])) (by simp) (by omega)
   have hx:=h1 x (by simp)
   simp only [Zaq,Zjc,Qg,Qf]
   omega
theorem Zkm {n:ND} {c:Cls} {k:Nat} (h:(tryN n c k).2=1∨(tryN n c k).2=2):(tryN n c k).1.vals.length=n.vals.length:=by
 by_cases hex:∃ r:ND × Nat,∃ m,NOk m∧Same m n∧Out m c k r.2 r.1
 ·have e:tryN n c k=Classical.choose hex:=by unfold tryN; rw [dif_pos hex]
  obtain ⟨m,_,hS,g,gs,_,ho⟩:=Classical.choose_spec hex
  rw [e] at h ⊢
  rcases ho with ⟨h0,_⟩ | ⟨h0,_⟩ | ⟨σ,_,_,_,h4⟩
  ·omega
  ·omega
  ·rw [h4]; simp [Zau,hS.vl]
 ·have e:tryN n c k=(⟨[],[],[],[],0⟩,0):=by unfold tryN; rw [dif_neg hex]
  rw [e] at h
  simp at h
theorem Zsz {cs:List Cls}:∀ {ks:List Nat} {n:ND} {i:Nat},(Zaw cs n ks i).2.1=0→(Zaw cs n ks i).1.vals.length=n.vals.length:=by
 intro ks
 induction ks with
 | nil=>intro n i h; unfold Zaw at h ⊢; split <;> rfl
 | cons k ks ih =>
  intro n i h
  cases hc:cs[k]? with
  | none =>
   have:=Zdj (cs:=cs) (n:=n) (k:=k) (i:=i) (ks:=ks) (Or.inr (List.getElem?_eq_none_iff.1 hc))
   rw [this] at h; simp at h
  | some c =>
   by_cases hg:n.goals=[]
   ·have:=Zdj (cs:=cs) (n:=n) (k:=k) (i:=i) (ks:=ks) (Or.inl hg)
    rw [this] at h; simp at h
   ·by_cases hq:(tryN n c k).2=1∨(tryN n c k).2=2
    ·rw [Ziy hc hg hq] at h ⊢
     rw [ih h,Zkm hq]
    ·have:=Zgd (i:=i) (ks:=ks) hc hq
     rw [this] at h; simp at h
theorem Zzu {p q x:ByteArray} {a:List (List Sym) × Names} {n0:ND} (ha:Zep q=some a) (h:Zdi p q x=(a.2,n0,0,0)):n0.vals.length=a.2.length:=by
 cases hp:Zcj p with
 | none=>simp [Zdi,hp] at h
 | some cs =>
  by_cases hx:400<x.size
  ·simp [Zdi,hp,ha,hx] at h
  ·cases hn:Zcu x with
   | mk o pl =>
    cases o with
    | none=>simp [Zdi,hp,ha,hx,hn] at h
    | some ks =>
     simp [Zdi,hp,ha,hx,hn] at h
     have h2:=Zsz (cs:=cs) (ks:=ks) (n:=topN a) (i:=0) (by rw [h])
     rw [h] at h2
     simpa [topN] using h2
theorem Zew {n:ND} {c:Cls} {k:Nat} (h:(tryN n c k).2=1∨(tryN n c k).2=2):(tryN n c k).1.used=n.used++[k]:=by
 by_cases hex:∃ r:ND × Nat,∃ m,NOk m∧Same m n∧Out m c k r.2 r.1
 ·have e:tryN n c k=Classical.choose hex:=by unfold tryN; rw [dif_pos hex]
  obtain ⟨m,_,hS,g,gs,_,ho⟩:=Classical.choose_spec hex
  rw [e] at h ⊢
  rcases ho with ⟨h0,_⟩ | ⟨h0,_⟩ | ⟨σ,_,_,_,h4⟩
  ·omega
  ·omega
  ·rw [h4]; simp [Zau,hS.used]
 ·have e:tryN n c k=(⟨[],[],[],[],0⟩,0):=by unfold tryN; rw [dif_neg hex]
  rw [e] at h
  simp at h
theorem Zta {cs:List Cls}:∀ {ks:List Nat} {n:ND} {i:Nat},(Zaw cs n ks i).2.1=0→(∀ k ∈ n.used,k<cs.length)→∀ k ∈ (Zaw cs n ks i).1.used,k<cs.length:=by
 intro ks
 induction ks with
 | nil=>intro n i h hu; unfold Zaw; split <;> exact hu
 | cons k ks ih =>
  intro n i h hu
  cases hc:cs[k]? with
  | none =>
   have:=Zdj (cs:=cs) (n:=n) (k:=k) (i:=i) (ks:=ks) (Or.inr (List.getElem?_eq_none_iff.1 hc))
   rw [this] at h; simp at h
  | some c =>
   by_cases hg:n.goals=[]
   ·have:=Zdj (cs:=cs) (n:=n) (k:=k) (i:=i) (ks:=ks) (Or.inl hg)
    rw [this] at h; simp at h
   ·by_cases hq:(tryN n c k).2=1∨(tryN n c k).2=2
    ·rw [Ziy hc hg hq] at h ⊢
     refine ih h (fun j hj => ?_)
     rw [Zew hq] at hj
     rcases Qk.1 hj with hj | hj
     ·exact hu j hj
     ·simp at hj; subst hj; exact (Qa.1 hc).1
    ·have:=Zgd (i:=i) (ks:=ks) hc hq
     rw [this] at h; simp at h
theorem Zzv {p q x:ByteArray} {a:List (List Sym) × Names} {n0:ND} (ha:Zep q=some a) (h:Zdi p q x=(a.2,n0,0,0)):∀ k ∈ n0.used,k<24:=by
 cases hp:Zcj p with
 | none=>simp [Zdi,hp] at h
 | some cs =>
  have hcl:=(Zcx hp).2.2.2.2
  by_cases hx:400<x.size
  ·simp [Zdi,hp,ha,hx] at h
  ·cases hn:Zcu x with
   | mk o pl =>
    cases o with
    | none=>simp [Zdi,hp,ha,hx,hn] at h
    | some ks =>
     simp [Zdi,hp,ha,hx,hn] at h
     have h2:=Zta (cs:=cs) (ks:=ks) (n:=topN a) (i:=0) (by rw [h]) (by simp [topN])
     rw [h] at h2
     exact fun k hk=>Nat.lt_of_lt_of_le (h2 k hk) hcl
theorem Ztb:∀ (ts:List (List Sym)) (ds ks:List Nat) (seen:List Nat),(∀ d ∈ ds,d≤100)→(∀ k ∈ ks,k≤99)→(∀ t ∈ ts,Wf 1 t∧t.length≤1000∧∀ s ∈ t,s.name.length≤4096)→seen.length+ts.flatten.length≤4000 →
  (Zen (Zaq ts seen).1 ds ks).length≤400 * ds.length+4100 * ts.flatten.length:=by
 intro ts
 induction ts with
 | nil=>intro ds ks seen _ _ _ _; simp [Zaq,Zen]
 | cons t ts ih =>
  intro ds ks seen h1 h2 h3 h4
  cases ds with
  | nil=>simp [Zaq,Zen]
  | cons d ds =>
   cases ks with
   | nil=>simp [Zaq,Zen]
   | cons k ks =>
    obtain ⟨t1,t2,t3⟩:=h3 t (by simp)
    simp only [List.flatten_cons,Qg] at h4 ⊢
    obtain ⟨c1,c2⟩:=Znc t2 t1 t3 (seen:=seen) (by omega)
    have h:=ih ds ks (Zat t seen).2 (fun y hy=>h1 y (by simp [hy])) (fun y hy=>h2 y (by simp [hy])) (fun y hy=>h3 y (by simp [hy])) (by omega)
    have hd:=h1 d (by simp)
    have hk:=h2 k (by simp)
    have hdl:=Zjj k
    simp only [Zaq,Zen,Qg,Qf,List.length_replicate,Jt]
    omega
theorem Zzw:∀ (ks:List Nat) (sep:List UInt8),sep.length≤1→(∀ k ∈ ks,k≤99)→(Zcb sep ks).length≤101 * ks.length:=by
 intro ks
 induction ks with
 | nil=>intro sep _ _; simp [Zcb]
 | cons k ks ih =>
  intro sep hs hk
  have h1:=ih [46] (by simp) (fun j hj=>hk j (by simp [hj]))
  have h2:=hk k (by simp)
  have h3:=Zjj k
  simp only [Zcb,Qg,Qf]
  omega
mutual
inductive TreeR (cs:List Cls):ND→List UInt8→Prop
 | leaf (n:ND) (h:n.goals=[]):TreeR cs n [33]
 | node (n:ND) (t:List UInt8) (h:n.goals≠[]) (hp:Part cs n cs.length t):TreeR cs n ([40]++t++[41])
inductive Part (cs:List Cls):ND→Nat→List UInt8→Prop
 | zero (n:ND):Part cs n 0 []
 | miss (n:ND) (k:Nat) (t:List UInt8) (c:Cls) (h:Part cs n k t) (hc:cs[k]?=some c) (hq:(tryN n c k).2=0):Part cs n (k+1) t
 | kid (n:ND) (k:Nat) (t u:List UInt8) (c:Cls) (h:Part cs n k t) (hc:cs[k]?=some c) (hq:(tryN n c k).2=1∨(tryN n c k).2=2) (hu:TreeR cs (tryN n c k).1 u):Part cs n (k+1) (t++Lib.decDigits k++u)
end
structure SN where
 way:List (ND × Nat)
 tries:Nat
 status:Nat
 found:ND
 tree:List UInt8
def Zdp (cs:List Cls):List (ND × Nat)→List UInt8→List (ND × Nat) × List UInt8
 | (n,k)::r,t=>if cs.length≤k then Zdp cs r (t++[41]) else ((n,k)::r,t)
 | [],t=>([],t)
noncomputable def Zbx (s:SN) (n:ND):SN:=open Classical in if n.goals=[] then { s with tree:=s.tree++[33],status:=1,found:=n } else { s with way:=(n,0)::s.way,tree:=s.tree++[40] }
noncomputable def Zcv (cs:List Cls) (s:SN):SN := { s with way:=(Zdp cs s.way s.tree).1,tree:=(Zdp cs s.way s.tree).2 }
noncomputable def Zam (cs:List Cls) (s:SN):SN:=match s.way with
 | []=>s
 | (n,k)::r=>match cs[k]? with
  | none=>s
  | some c=>Zcv cs (if (tryN n c k).2=3 then { s with way:=(n,k+1)::r,tries:=s.tries+1,status:=3 }
    else if (tryN n c k).2=1∨(tryN n c k).2=2 then Zbx { s with way:=(n,k+1)::r,tries:=s.tries+1,tree:=s.tree++Lib.decDigits k } (tryN n c k).1
    else { s with way:=(n,k+1)::r,tries:=s.tries+1 })
def PH (cs:List Cls) (top:ND):List (ND × Nat)→ND→Nat→List UInt8→Prop
 | [],n,k,T=>n=top∧n.goals≠[]∧k≤cs.length∧∃ t,Part cs n k t∧T=[40]++t
 | x::r,n,k,T=>n.goals≠[]∧k≤cs.length∧∃ t j' c T',x.2=j'+1∧cs[j']?=some c∧((tryN x.1 c j').2=1∨(tryN x.1 c j').2=2)∧n=(tryN x.1 c j').1∧PH cs top r x.1 j' T'∧Part cs n k t∧T=T'++Lib.decDigits j'++([40]++t)
def PW (cs:List Cls) (top:ND):List (ND × Nat)→List UInt8→Prop
 | [],T=>TreeR cs top T
 | (n,k)::r,T=>PH cs top r n k T
theorem PW.part {cs:List Cls} {top n:ND} {k:Nat} {r:List (ND × Nat)} {T:List UInt8} (h:PW cs top ((n,k)::r) T):n.goals≠[]∧k≤cs.length∧∃ t0 t,Part cs n k t∧T=t0++([40]++t)∧∀ k' t',Part cs n k' t'→k'≤cs.length→PW cs top ((n,k')::r) (t0++([40]++t')):=by
 cases r with
 | nil =>
  obtain ⟨h1,h2,h3,t,h4,h5⟩:=h
  exact ⟨h2,h3,[],t,h4,by simpa using h5,fun k' t' hp hk=>⟨h1,h2,hk,t',hp,by simp⟩⟩
 | cons m r =>
  obtain ⟨m,j⟩:=m
  obtain ⟨h1,h2,t,j',c,T',h3,h4,h5,h6,h7,h8,h9⟩:=h
  exact ⟨h1,h2,T'++Lib.decDigits j',t,h8,h9,fun k' t' hp hk=>⟨h1,hk,t',j',c,T',h3,h4,h5,h6,h7,hp,rfl⟩⟩
theorem PW.miss {cs:List Cls} {top n:ND} {k:Nat} {r:List (ND × Nat)} {T:List UInt8} {c:Cls} (h:PW cs top ((n,k)::r) T) (hc:cs[k]?=some c) (hq:(tryN n c k).2=0):PW cs top ((n,k+1)::r) T:=by
 obtain ⟨h1,h2,t0,t,h3,h4,h5⟩:=h.part
 rw [h4]
 exact h5 (k+1) t (.miss n k t c h3 hc hq) (by have:=(Qa.1 hc).1; omega)
theorem PW.kid {cs:List Cls} {top n:ND} {k:Nat} {r:List (ND × Nat)} {T u:List UInt8} {c:Cls} (h:PW cs top ((n,k)::r) T) (hc:cs[k]?=some c) (hq:(tryN n c k).2=1∨(tryN n c k).2=2) (hu:TreeR cs (tryN n c k).1 u):PW cs top ((n,k+1)::r) (T++Lib.decDigits k++u):=by
 obtain ⟨h1,h2,t0,t,h3,h4,h5⟩:=h.part
 rw [h4]
 have:=h5 (k+1) (t++Lib.decDigits k++u) (.kid n k t u c h3 hc hq hu) (by have:=(Qa.1 hc).1; omega)
 simpa using this
theorem PW.down {cs:List Cls} {top n:ND} {k:Nat} {r:List (ND × Nat)} {T:List UInt8} {c:Cls} (h:PW cs top ((n,k)::r) T) (hc:cs[k]?=some c) (hq:(tryN n c k).2=1∨(tryN n c k).2=2) (hg:(tryN n c k).1.goals≠[]):PW cs top (((tryN n c k).1,0)::(n,k+1)::r) (T++Lib.decDigits k++[40]) :=
 ⟨hg,Qm _,[],k,c,T,rfl,hc,hq,rfl,h,.zero _,by simp⟩
theorem PW.up {cs:List Cls} {top n:ND} {k:Nat} {r:List (ND × Nat)} {T:List UInt8} (h:PW cs top ((n,k)::r) T) (hk:cs.length≤k):PW cs top r (T++[41]):=by
 cases r with
 | nil =>
  obtain ⟨h1,h2,h3,t,h4,h5⟩:=h
  have e:k=cs.length:=by omega
  subst e h1 h5
  exact .node n t h2 h4
 | cons m r =>
  obtain ⟨m,j⟩:=m
  obtain ⟨h1,h2,t,j',c,T',h3,h4,h5,h6,h7,h8,h9⟩:=h
  have e:k=cs.length:=by omega
  simp only at h3 h5 h6 h7
  subst e h3 h6 h9
  have h7':PW cs top ((m,j')::r) T':=h7
  have:=h7'.kid h4 h5 (.node _ t h1 h8)
  simpa using this
theorem PW.leave {cs:List Cls} {top:ND}:∀ {way:List (ND × Nat)} {T:List UInt8},PW cs top way T→PW cs top (Zdp cs way T).1 (Zdp cs way T).2:=by
 intro way
 induction way with
 | nil=>intro T h; exact h
 | cons x r ih =>
  obtain ⟨n,k⟩:=x
  intro T h
  unfold Zdp
  split
  ·rename_i hk
   exact ih (h.up hk)
  ·exact h
theorem Zhf (n:ND) (c:Cls) (k:Nat):(tryN n c k).2=0∨(tryN n c k).2=1∨(tryN n c k).2=2∨(tryN n c k).2=3:=by
 by_cases hex:∃ r:ND × Nat,∃ m,NOk m∧Same m n∧Out m c k r.2 r.1
 ·have e:tryN n c k=Classical.choose hex:=by unfold tryN; rw [dif_pos hex]
  obtain ⟨m,_,_,g,gs,_,ho⟩:=Classical.choose_spec hex
  rw [e]
  rcases ho with ⟨h0,_⟩ | ⟨h0,_⟩ | ⟨σ,_,_,h3,_⟩
  ·exact Or.inl h0
  ·exact Or.inr (Or.inr (Or.inr h0))
  ·rw [h3]
   unfold Zfk
   split
   ·simp
   ·split <;> simp
 ·have e:tryN n c k=(⟨[],[],[],[],0⟩,0):=by unfold tryN; rw [dif_neg hex]
  rw [e]; simp
theorem PW.try' {cs:List Cls} {top:ND} {s:SN} (h:PW cs top s.way s.tree) (hf:(Zam cs s).status≠3):PW cs top (Zam cs s).way (Zam cs s).tree:=by
 unfold Zam at hf ⊢
 cases hw:s.way with
 | nil=>rw [hw] at hf h; simpa [hw] using h
 | cons x r =>
  obtain ⟨n,k⟩:=x
  rw [hw] at hf h
  simp only at hf ⊢
  cases hc:cs[k]? with
  | none=>rw [hc] at hf; simp only [hw]; exact h
  | some c =>
   rw [hc] at hf
   simp only at hf ⊢
   by_cases h3:(tryN n c k).2=3
   ·rw [if_pos h3] at hf
    exact absurd rfl hf
   ·rw [if_neg h3]
    by_cases h12:(tryN n c k).2=1∨(tryN n c k).2=2
    ·rw [if_pos h12]
     by_cases hg:(tryN n c k).1.goals=[]
     ·simp only [Zbx,if_pos hg,Zcv]
      have h':PW cs top ((n,k)::r) s.tree:=h
      exact (h'.kid hc h12 (.leaf _ hg)).leave
     ·simp only [Zbx,if_neg hg,Zcv]
      have h':PW cs top ((n,k)::r) s.tree:=h
      exact (h'.down hc h12 hg).leave
    ·rw [if_neg h12]
     simp only [Zcv]
     have h0:(tryN n c k).2=0:=by have:=Zhf n c k; omega
     have h':PW cs top ((n,k)::r) s.tree:=h
     exact (h'.miss hc h0).leave
theorem Ztc {w:World} {B:Nat} {e:TypeId} {s g n cap:Nat} {xs:List Value} (h:w.ownsRow B e s (.slice (some ⟨g,0,none⟩) (n+1) cap) (n+1) xs) :
  w.ownsRow B e s (.slice (some ⟨g,0,none⟩) n cap) n (xs.take (n * s)):=by
 have hm:(n+1) * s=n * s+s:=Nat.succ_mul n s
 refine ⟨by have:=h.1; rw [List.length_take]; omega,?_⟩
 rcases h.2 with ⟨h1,_⟩ | ⟨g',cap',cur,h1,hb,hg,hn,hc,hs,ht⟩
 ·simp at h1
 ·simp at h1
  obtain ⟨rfl,rfl⟩:=h1
  refine .inr ⟨g,cap,cur,rfl,hb,hg,by omega,hc,hs,?_⟩
  rw [← ht,List.take_take]
  congr 1
  omega
def Zih (N:Nat):List (ND × Nat)→List (ND × Nat)
 | []=>[]
 | x::r=>if N≤x.2 then Zih N r else x::r
theorem Zel (cs:List Cls):∀ (way:List (ND × Nat)) (t:List UInt8),(Zdp cs way t).1=Zih cs.length way:=by
 intro way
 induction way with
 | nil=>intro t; rfl
 | cons x r ih =>
  obtain ⟨n,k⟩:=x
  intro t
  simp only [Zdp,Zih]
  split
  ·exact ih _
  ·rfl
theorem Zpa {N:Nat}:∀ {way:List (ND × Nat)} {x:ND × Nat} {r:List (ND × Nat)},Zih N way=x::r→x.2<N:=by
 intro way
 induction way with
 | nil=>intro x r h; simp [Zih] at h
 | cons y s ih =>
  intro x r h
  simp only [Zih] at h
  split at h
  ·exact ih h
  ·rename_i hn
   simp at h
   rw [← h.1]; omega
theorem Zpb (N:Nat) (way:List (ND × Nat)):Zih N (Zih N way)=Zih N way:=by
 cases h:Zih N way with
 | nil=>rfl
 | cons x r =>
  have:=Zpa h
  simp only [Zih]
  rw [if_neg (by omega)]
noncomputable def Zcy (a:List (List Sym) × Names) (st:Nat) (found:ND) (T:List UInt8):List UInt8 × List UInt8 × List UInt8 :=
 if st=1 then (Zbp a.2 found,Zdl found,[]) else if st=2 then ([],[],T) else ([],[],[])
theorem box6 {w:World} {b:Nat} {u0 u1 u2 u3 u4 u5:Value} {t:TypeId} (h:w.heap[b]?=some (.cells #[u0,u1,u2,u3,u4,u5] t (0,0))) :
  w.cell? ⟨b,0,none⟩=some u0∧w.cell? ⟨b,1,none⟩=some u1∧w.cell? ⟨b,2,none⟩=some u2∧w.cell? ⟨b,3,none⟩=some u3∧w.cell? ⟨b,4,none⟩=some u4∧w.cell? ⟨b,5,none⟩=some u5∧∀ i,w.frozen? ⟨b,i,none⟩=false :=
 ⟨Zaa h 0 _ rfl,Zaa h 1 _ rfl,Zaa h 2 _ rfl,Zaa h 3 _ rfl,Zaa h 4 _ rfl,Zaa h 5 _ rfl,fun i=>Zad h i⟩
noncomputable def Znd (n:ND) (c:Cls) (k:Nat) (r:List (ND × Nat)):List (ND × Nat):=if (tryN n c k).2=1 then ((tryN n c k).1,0)::(n,k+1)::r else (n,k+1)::r
noncomputable def Zii (n:ND) (c:Cls) (k:Nat):Nat:=if (tryN n c k).2=2 then 1 else if (tryN n c k).2=3 then 3 else 0
theorem Zhg {n:ND} {c:Cls} {k:Nat} (h:(tryN n c k).2=1∨(tryN n c k).2=2):(tryN n c k).2=2↔(tryN n c k).1.goals=[]:=by
 by_cases hex:∃ r:ND × Nat,∃ m,NOk m∧Same m n∧Out m c k r.2 r.1
 ·have e:tryN n c k=Classical.choose hex:=by unfold tryN; rw [dif_pos hex]
  obtain ⟨m,_,hS,g,gs,_,ho⟩:=Classical.choose_spec hex
  rw [e] at h ⊢
  rcases ho with ⟨h0,_⟩ | ⟨h0,_⟩ | ⟨σ,_,_,h3,h4⟩
  ·omega
  ·omega
  ·rw [h3,← h4] at h
   rw [h3,← h4]
   unfold Zfk at h ⊢
   split at h
   ·omega
   ·rename_i ho
    rw [if_neg ho]
    split
    ·rename_i hg; simp [hg]
    ·rename_i hg; simp [hg]
 ·have e:tryN n c k=(⟨[],[],[],[],0⟩,0):=by unfold tryN; rw [dif_neg hex]
  rw [e] at h
  simp at h
def Zgn (way:List (ND × Nat)):List Nat:=(way.map (fun x=>x.2 - 1)).reverse
theorem Zld (n:ND) (k:Nat) (r:List (ND × Nat)):Zgn ((n,k+1)::r)=Zgn r++[k]:=by simp [Zgn]
def UsedW:List (ND × Nat)→Prop
 | []=>True
 | x::r=>x.1.used=Zgn r∧(∀ y ∈ r,1≤y.2)∧UsedW r
theorem UsedW.trim {N:Nat}:∀ {way:List (ND × Nat)},UsedW way→UsedW (Zih N way):=by
 intro way
 induction way with
 | nil=>intro h; exact h
 | cons x r ih =>
  intro h
  simp only [Zih]
  split
  ·exact ih h.2.2
  ·exact h
theorem Ztd {N:Nat}:∀ {way:List (ND × Nat)} {x:ND × Nat},x ∈ Zih N way→x ∈ way:=by
 intro way
 induction way with
 | nil=>intro x h; exact h
 | cons y r ih =>
  intro x h
  simp only [Zih] at h
  split at h
  ·exact List.mem_cons_of_mem _ (ih h)
  ·exact h
theorem Zpc (cs:List Cls):∀ (way:List (ND × Nat)) (t:List UInt8),(Zdp cs way t).2.length+(Zdp cs way t).1.length=t.length+way.length:=by
 intro way
 induction way with
 | nil=>intro t; rfl
 | cons x r ih =>
  obtain ⟨n,k⟩:=x
  intro t
  simp only [Zdp]
  split
  ·rw [ih]; simp; omega
  ·rfl
structure InvN (cs:List Cls) (a:List (List Sym) × Names) (s:SN):Prop where
 way:∀ x ∈ s.way,x.1.goals≠[]∧x.1.vals.length=a.2.length∧x.2≤cs.length∧∀ k ∈ x.1.used,k<cs.length
 used:UsedW s.way
 tree:s.status≠3→PW cs (topN a) s.way s.tree
 trim:Zih cs.length s.way=s.way
 found:s.status=1→s.found.goals=[]∧s.found.vals.length=a.2.length∧∀ k ∈ s.found.used,k<cs.length
 len:s.tree.length+s.way.length≤2+26 * s.tries
 tries:s.tries≤3000
 no:s.status=2→s.way=[]
 st:s.status≤3
theorem Zhp {cs:List Cls} {s:SN} {n:ND} {k:Nat} {r:List (ND × Nat)} {c:Cls} (hw:s.way=(n,k)::r) (hc:cs[k]?=some c) (h0:s.status=0) :
  (Zam cs s).way=Zih cs.length (Znd n c k r)∧(Zam cs s).status=Zii n c k∧(Zam cs s).tries=s.tries+1∧(Zii n c k=1→(Zam cs s).found=(tryN n c k).1):=by
 have hk:=Zhf n c k
 unfold Zam
 rw [hw]
 simp only [hc]
 by_cases h3:(tryN n c k).2=3
 ·rw [if_pos h3]
  simp [Zcv,Zel,Znd,Zii,h3]
 ·rw [if_neg h3]
  by_cases h12:(tryN n c k).2=1∨(tryN n c k).2=2
  ·rw [if_pos h12]
   by_cases hg:(tryN n c k).1.goals=[]
   ·have h2:=(Zhg h12).2 hg
    simp [Zcv,Zbx,hg,Zel,Znd,Zii,h2]
   ·have h2:(tryN n c k).2≠2:=fun h=>hg ((Zhg h12).1 h)
    have h1:(tryN n c k).2=1:=by omega
    simp [Zcv,Zbx,hg,Zel,Znd,Zii,h1,h0]
  ·rw [if_neg h12]
   have h00:(tryN n c k).2=0:=by omega
   simp [Zcv,Zel,Znd,Zii,h00,h0]
theorem Zte {cs:List Cls} {s:SN} {n:ND} {k:Nat} {r:List (ND × Nat)} {c:Cls} (hw:s.way=(n,k)::r) (hc:cs[k]?=some c) (hk:k<24):(Zam cs s).tree.length+(Zam cs s).way.length≤s.tree.length+s.way.length+26:=by
 have hd:(Lib.decDigits k).length≤24:=by
  have:=Zjj k
  omega
 unfold Zam
 rw [hw]
 simp only [hc,Zcv,Zpc]
 split
 ·simp
 ·split
  ·unfold Zbx
   split
   ·simp; omega
   ·simp; omega
  ·simp
theorem InvN.try' {cs:List Cls} {a:List (List Sym) × Names} {s:SN} (h:InvN cs a s) (hcl:cs.length≤24) (h0:s.status=0) {n:ND} {k:Nat} {r:List (ND × Nat)} {c:Cls} (hw:s.way=(n,k)::r) (hc:cs[k]?=some c) (ht:s.tries<3000):InvN cs a (Zam cs s):=by
 obtain ⟨e1,e2,e3,e4⟩:=Zhp hw hc h0
 have hkk:=Zhf n c k
 have hklt:=(Qa.1 hc).1
 obtain ⟨w1,w2,w3,w4⟩:=h.way (n,k) (by rw [hw]; simp)
 have hu:=h.used
 rw [hw] at hu
 have hr:∀ x ∈ r,x.1.goals≠[]∧x.1.vals.length=a.2.length∧x.2≤cs.length∧∀ k ∈ x.1.used,k<cs.length:=fun x hx=>h.way x (by rw [hw]; simp [hx])
 have hchild:(tryN n c k).2=1∨(tryN n c k).2=2→(tryN n c k).1.vals.length=a.2.length∧∀ j ∈ (tryN n c k).1.used,j<cs.length:=fun hq=>by
  refine ⟨by rw [Zkm hq]; exact w2,fun j hj => ?_⟩
  rw [Zew hq] at hj
  rcases Qk.1 hj with hj | hj
  ·exact w4 j hj
  ·simp at hj; omega
 refine ⟨?_,?_,?_,?_,?_,?_,?_,?_,?_⟩
 ·intro x hx
  rw [e1] at hx
  have hx:=Ztd hx
  unfold Znd at hx
  split at hx
  ·rename_i h1
   rcases Qp.1 hx with rfl | hx
   ·have h2:¬ (tryN n c k).1.goals=[]:=fun hg=>by have:=(Zhg (Or.inl h1)).2 hg; omega
    exact ⟨h2,(hchild (Or.inl h1)).1,Qm _,(hchild (Or.inl h1)).2⟩
   ·rcases Qp.1 hx with rfl | hx
    ·exact ⟨w1,w2,by show k+1≤_; omega,w4⟩
    ·exact hr x hx
  ·rcases Qp.1 hx with rfl | hx
   ·exact ⟨w1,w2,by show k+1≤_; omega,w4⟩
   ·exact hr x hx
 ·rw [e1]
  apply UsedW.trim
  unfold Znd
  split
  ·rename_i h1
   exact ⟨by rw [Zld,Zew (Or.inl h1),hu.1],fun y hy=>by
    rcases Qp.1 hy with rfl | hy
    ·exact Nat.succ_le_succ (Qm _)
    ·exact hu.2.1 y hy,hu.1,hu.2⟩
  ·exact ⟨hu.1,hu.2⟩
 ·intro h3
  exact PW.try' (h.tree (by omega)) h3
 ·rw [e1,Zpb]
 ·intro h1
  rw [e2] at h1
  rw [e4 h1]
  have hq2:(tryN n c k).2=2:=by
   unfold Zii at h1
   split at h1
   ·assumption
   ·split at h1 <;> omega
  exact ⟨(Zhg (Or.inr hq2)).1 hq2,(hchild (Or.inr hq2)).1,(hchild (Or.inr hq2)).2⟩
 ·have:=Zte hw hc (by omega)
  have:=h.len
  omega
 ·omega
 ·intro h2
  rw [e2] at h2
  unfold Zii at h2
  split at h2
  ·omega
  ·split at h2 <;> omega
 ·rw [e2]
  unfold Zii
  split
  ·omega
  ·split <;> omega
noncomputable def Zbl (cs:List Cls):Nat→SN→SN × Nat
 | 0,s=>(s,0)
 | n+1,s=>open Classical in if s.status=0∧s.way≠[]∧s.tries<3000 then ((Zbl cs n (Zam cs s)).1,(Zbl cs n (Zam cs s)).2+1) else (s,0)
def Zfu (s:SN):SN := { s with way:=[],tree:=[],status:=3 }
noncomputable def endN (s:SN):SN:=open Classical in if s.status=3 then Zfu s else if s.status=0 then (if s.way=[] then { s with status:=2 } else if 3000≤s.tries then Zfu s else s) else s
noncomputable def Zaz (cs:List Cls) (n:Nat) (s:SN):SN × Nat:=if s.status=2∨s.status=3 then (s,0) else (endN (Zbl cs n { s with status:=0 }).1,(Zbl cs n { s with status:=0 }).2)
theorem InvN.full {cs:List Cls} {a:List (List Sym) × Names} {s:SN} (h:InvN cs a s):InvN cs a (Zfu s) :=
 ⟨fun x hx=>by simp [Zfu] at hx,trivial,fun h3=>absurd rfl h3,rfl,fun h1=>by simp [Zfu] at h1,by simp [Zfu],h.tries,fun _=>rfl,by simp [Zfu]⟩
theorem InvN.end' {cs:List Cls} {a:List (List Sym) × Names} {s:SN} (h:InvN cs a s):InvN cs a (endN s):=by
 unfold endN
 split
 ·exact h.full
 ·split
  ·rename_i h3 h0
   split
   ·rename_i hw
    exact ⟨h.way,h.used,fun _=>h.tree (by omega),h.trim,fun h1=>by simp at h1,h.len,h.tries,fun _=>hw,by simp⟩
   ·split
    ·exact h.full
    ·exact h
  ·exact h
theorem InvN.seek {cs:List Cls} {a:List (List Sym) × Names} {s:SN} (h:InvN cs a s) (h3:s.status≠3):InvN cs a { s with status:=0 } :=
 ⟨h.way,h.used,fun _=>h.tree h3,h.trim,fun h1=>by simp at h1,h.len,h.tries,fun h2=>by simp at h2,by simp⟩
theorem InvN.head {cs:List Cls} {a:List (List Sym) × Names} {s:SN} (h:InvN cs a s) (hw:s.way≠[]):∃ n k r c,s.way=(n,k)::r∧cs[k]?=some c∧n.goals≠[]:=by
 cases e:s.way with
 | nil=>exact absurd e hw
 | cons x r =>
  obtain ⟨n,k⟩:=x
  have ht:=h.trim
  rw [e] at ht
  have hk:=Zpa ht
  exact ⟨n,k,r,_,rfl,Qb hk,(h.way (n,k) (by rw [e]; simp)).1⟩
theorem InvN.loop {cs:List Cls} {a:List (List Sym) × Names} (hcl:cs.length≤24):∀ {n:Nat} {s:SN},InvN cs a s→InvN cs a (Zbl cs n s).1:=by
 intro n
 induction n with
 | zero=>intro s h; exact h
 | succ n ih =>
  intro s h
  unfold Zbl
  split
  ·rename_i hc
   obtain ⟨n',k,r,c,h1,h2,h3⟩:=h.head hc.2.1
   exact ih (h.try' hcl hc.1 h1 h2 hc.2.2)
  ·exact h
theorem InvN.step {cs:List Cls} {a:List (List Sym) × Names} (hcl:cs.length≤24) {n:Nat} {s:SN} (h:InvN cs a s):InvN cs a (Zaz cs n s).1:=by
 unfold Zaz
 split
 ·exact h
 ·rename_i h3
  exact ((h.seek (by omega)).loop hcl).end'
noncomputable def newN (cs:List Cls) (a:List (List Sym) × Names):SN:=Zcv cs (Zbx ⟨[],0,0,⟨[],[],[],[],0⟩,[]⟩ (topN a))
theorem Zeo {a:List (List Sym) × Names} (h:a.1≠[]):(topN a).goals≠[]:=by simpa [topN] using h
theorem InvN.new (cs:List Cls) {a:List (List Sym) × Names} (ha:a.1≠[]):InvN cs a (newN cs a):=by
 have hg:=Zeo ha
 have hp:PW cs (topN a) [(topN a,0)] [40]:=⟨rfl,hg,Qm _,[],.zero _,by simp⟩
 unfold newN Zbx
 rw [if_neg hg]
 refine ⟨?_,?_,?_,?_,?_,?_,?_,?_,?_⟩
 ·intro x hx
  simp only [Zcv,Zel] at hx
  have hx:=Ztd hx
  simp at hx
  subst hx
  exact ⟨hg,by simp [topN],Qm _,fun k hk=>by simp [topN] at hk⟩
 ·simp only [Zcv,Zel]
  exact UsedW.trim ⟨rfl,fun y hy=>by simp at hy,trivial⟩
 ·intro _
  exact hp.leave
 ·simp only [Zcv,Zel]
  exact Zpb _ _
 ·intro h; simp [Zcv] at h
 ·simp only [Zcv,Zpc]
  simp
 ·simp [Zcv]
 ·intro h; simp [Zcv] at h
 ·simp [Zcv]
def Zdb (l:List UInt8):Nat→Nat→Nat→Bool→Option Nat
 | 0,p,_,_=>some p
 | f+1,p,o,due=>match l[p]? with
  | none=>if due=true∨0<o then some p else none
  | some c=>if due=true then (if c=33 then Zdb l f (p+1) o false else if c=40 then Zdb l f (p+1) (o+1) false else some p)
    else if o=0 then some p
    else if c=41 then Zdb l f (p+1) (o - 1) false
    else if (Zak (l.drop p)).2=0 then some p else Zdb l f (p+(Zak (l.drop p)).2) o true
def Zfn (l:List UInt8):Option Nat:=Zdb l (l.length+1) 0 0 true
def Sh (l:List UInt8) (p o:Nat) (due:Bool):Prop:=∃ f,l.length<f+p∧Zdb l f p o due=none
theorem Sh.start {l:List UInt8} (h:Zfn l=none):Sh l 0 0 true:=⟨l.length+1,by omega,h⟩
theorem Sh.due {l:List UInt8} {p o:Nat} (h:Sh l p o true):(l[p]?=some 33∧Sh l (p+1) o false)∨(l[p]?=some 40∧Sh l (p+1) (o+1) false):=by
 obtain ⟨f,h1,h2⟩:=h
 cases f with
 | zero=>simp [Zdb] at h2
 | succ f =>
  unfold Zdb at h2
  cases hc:l[p]? with
  | none=>rw [hc] at h2; simp at h2
  | some c =>
   rw [hc] at h2
   simp only [if_true] at h2
   split at h2
   ·rename_i e; subst e; exact Or.inl ⟨rfl,f,by omega,h2⟩
   ·split at h2
    ·rename_i e; subst e; exact Or.inr ⟨rfl,f,by omega,h2⟩
    ·simp at h2
theorem Sh.open {l:List UInt8} {p o:Nat} (h:Sh l p (o+1) false):(l[p]?=some 41∧Sh l (p+1) o false)∨(∃ c,l[p]?=some c∧c≠41∧(Zak (l.drop p)).2≠0∧Sh l (p+(Zak (l.drop p)).2) (o+1) true):=by
 obtain ⟨f,h1,h2⟩:=h
 cases f with
 | zero=>simp [Zdb] at h2
 | succ f =>
  unfold Zdb at h2
  cases hc:l[p]? with
  | none=>rw [hc] at h2; simp at h2
  | some c =>
   rw [hc] at h2
   simp only [Bool.false_eq_true,if_false,Nat.add_one_ne_zero,Nat.add_sub_cancel] at h2
   split at h2
   ·rename_i e; subst e; exact Or.inl ⟨rfl,f,by omega,h2⟩
   ·rename_i e
    split at h2
    ·simp at h2
    ·rename_i e2
     exact Or.inr ⟨c,rfl,e,e2,f,by omega,h2⟩
structure HN where
 at':Nat
 wrong:Bool
 ans:List (List UInt8)
mutual
inductive HoldR (cs:List Cls) (names:Names) (l:List UInt8):ND→Nat→List (List UInt8)→HN→Prop
 | leaf (n:ND) (p:Nat) (A:List (List UInt8)) (hc:l[p]?=some 33) (h:n.goals=[]):HoldR cs names l n p A ⟨p+1,false,A++[Zbp names n]⟩
 | noleaf (n:ND) (p:Nat) (A:List (List UInt8)) (hc:l[p]?=some 33) (h:n.goals≠[]):HoldR cs names l n p A ⟨p,true,A⟩
 | nonode (n:ND) (p:Nat) (A:List (List UInt8)) (hc:l[p]?=some 40) (h:n.goals=[]):HoldR cs names l n p A ⟨p,true,A⟩
 | node (n:ND) (p:Nat) (A:List (List UInt8)) (R:HN) (hc:l[p]?=some 40) (h:n.goals≠[]) (hk:KidsR cs names l n cs.length 0 (p+1) A R):HoldR cs names l n p A R
inductive KidsR (cs:List Cls) (names:Names) (l:List UInt8):ND→Nat→Nat→Nat→List (List UInt8)→HN→Prop
 | shut (n:ND) (k p:Nat) (A:List (List UInt8)) (hc:l[p]?=some 41):KidsR cs names l n 0 k p A ⟨p+1,false,A⟩
 | noshut (n:ND) (k p:Nat) (A:List (List UInt8)) (c:UInt8) (hc:l[p]?=some c) (hn:c≠41):KidsR cs names l n 0 k p A ⟨p,true,A⟩
 | miss (n:ND) (f k p:Nat) (A:List (List UInt8)) (c:Cls) (R:HN) (hc:cs[k]?=some c) (hq:(tryN n c k).2=0) (h:KidsR cs names l n f (k+1) p A R):KidsR cs names l n (f+1) k p A R
 | off (n:ND) (f k p:Nat) (A:List (List UInt8)) (c:Cls) (hc:cs[k]?=some c) (hq:(tryN n c k).2≠0) (hw:(Zak (l.drop p)).2=0∨(Zak (l.drop p)).1≠k∨(tryN n c k).2=3):KidsR cs names l n (f+1) k p A ⟨p,true,A⟩
 | bad (n:ND) (f k p:Nat) (A:List (List UInt8)) (c:Cls) (R:HN) (hc:cs[k]?=some c) (hq:(tryN n c k).2=1∨(tryN n c k).2=2) (hs:(Zak (l.drop p)).2≠0) (hv:(Zak (l.drop p)).1=k) (h:HoldR cs names l (tryN n c k).1 (p+(Zak (l.drop p)).2) A R) (hw:R.wrong=true):KidsR cs names l n (f+1) k p A R
 | kid (n:ND) (f k p:Nat) (A:List (List UInt8)) (c:Cls) (R R2:HN) (hc:cs[k]?=some c) (hq:(tryN n c k).2=1∨(tryN n c k).2=2) (hs:(Zak (l.drop p)).2≠0) (hv:(Zak (l.drop p)).1=k) (h:HoldR cs names l (tryN n c k).1 (p+(Zak (l.drop p)).2) A R) (hw:R.wrong=false) (h2:KidsR cs names l n f (k+1) R.at' R.ans R2):KidsR cs names l n (f+1) k p A R2
end
theorem Ykg (cs:List Cls) (names:Names) (l:List UInt8):∀ (d:Nat) (n:ND) (p o:Nat) (A:List (List UInt8)),l.length - p≤d→Sh l p o true→∃ R,HoldR cs names l n p A R∧(R.wrong=false→p<R.at'∧Sh l R.at' o false):=by
 intro d
 induction d with
 | zero =>
  intro n p o A hd hs
  exfalso
  rcases hs.due with ⟨h,_⟩ | ⟨h,_⟩
  ·have:=(Qa.1 h).1; omega
  ·have:=(Qa.1 h).1; omega
 | succ d ih =>
  intro n p o A hd hs
  rcases hs.due with ⟨hc,hs1⟩ | ⟨hc,hs1⟩
  ·by_cases hg:n.goals=[]
   ·exact ⟨_,.leaf n p A hc hg,fun _=>⟨Nat.lt_succ_self _,hs1⟩⟩
   ·exact ⟨_,.noleaf n p A hc hg,fun h=>by simp at h⟩
  ·have hpl:=(Qa.1 hc).1
   by_cases hg:n.goals=[]
   ·exact ⟨_,.nonode n p A hc hg,fun h=>by simp at h⟩
   ·have kids:∀ (f k p':Nat) (A:List (List UInt8)),f+k=cs.length→p<p'→Sh l p' (o+1) false→∃ R,KidsR cs names l n f k p' A R∧(R.wrong=false→p<R.at'∧Sh l R.at' o false):=by
     intro f
     induction f with
     | zero =>
      intro k p' A hk hp hs
      rcases hs.open with ⟨h1,h2⟩ | ⟨c,h1,h2,_⟩
      ·exact ⟨_,.shut n k p' A h1,fun _=>⟨by show p<p'+1; omega,h2⟩⟩
      ·exact ⟨_,.noshut n k p' A c h1 h2,fun h=>by simp at h⟩
     | succ f ihf =>
      intro k p' A hk hp hs
      obtain ⟨c,hc⟩:∃ c,cs[k]?=some c:=⟨_,Qb (by omega)⟩
      by_cases hq0:(tryN n c k).2=0
      ·obtain ⟨R,h1,h2⟩:=ihf (k+1) p' A (by omega) hp hs
       exact ⟨R,.miss n f k p' A c R hc hq0 h1,h2⟩
      ·by_cases hw:(Zak (l.drop p')).2=0∨(Zak (l.drop p')).1≠k∨(tryN n c k).2=3
       ·exact ⟨_,.off n f k p' A c hc hq0 hw,fun h=>by simp at h⟩
       ·have hsz:(Zak (l.drop p')).2≠0:=fun h=>hw (Or.inl h)
        have hv:(Zak (l.drop p')).1=k:=by
         by_cases h:(Zak (l.drop p')).1=k
         ·exact h
         ·exact absurd (Or.inr (Or.inl h)) hw
        have hq:(tryN n c k).2=1∨(tryN n c k).2=2:=by
         have:=Zhf n c k
         have h3:(tryN n c k).2≠3:=fun h=>hw (Or.inr (Or.inr h))
         omega
        rcases hs.open with ⟨h1,_⟩ | ⟨c',h1,h2,_,h4⟩
        ·exfalso
         have hl:p'<l.length:=(Qa.1 h1).1
         have e:l.drop p'=41::l.drop (p'+1):=by rw [List.drop_eq_getElem_cons hl,(Qa.1 h1).2]
         rw [e] at hsz
         simp [Zak,figB] at hsz
        ·obtain ⟨R,g1,g2⟩:=ih (tryN n c k).1 (p'+(Zak (l.drop p')).2) (o+1) A (by omega) h4
         cases hRw:R.wrong with
         | true=>exact ⟨R,.bad n f k p' A c R hc hq hsz hv g1 hRw,fun h=>by rw [hRw] at h; simp at h⟩
         | false =>
          obtain ⟨g3,g4⟩:=g2 hRw
          obtain ⟨R2,k1,k2⟩:=ihf (k+1) R.at' R.ans (by omega) (by omega) g4
          exact ⟨R2,.kid n f k p' A c R R2 hc hq hsz hv g1 hRw k1,k2⟩
    obtain ⟨R,h1,h2⟩:=kids cs.length 0 (p+1) A (by omega) (by omega) hs1
    exact ⟨R,.node n p A R hc hg h1,h2⟩
theorem Ykh {s:ByteArray} {p:Nat} (h:p<s.size):s.data.toList[p]?=some s[p]:=by
 have hl:p<s.data.toList.length:=by simpa using h
 rw [Qb hl]
 rfl
theorem Ygz {c d:UInt8} (h:c≠d):(c.toNat:Int)≠(d.toNat:Int):=fun e=>h (UInt8.toNat.inj (by omega))
def Ydn (P:ND→Nat→List (List UInt8)→HN→Prop) (cs:List Cls) (l:List UInt8) (n:ND):Nat→Nat→Nat→List (List UInt8)→HN→Prop
 | 0,k,p,A,R=>(l[p]?=some 41∧R=⟨p+1,false,A⟩)∨(∃ c,l[p]?=some c∧c≠41∧R=⟨p,true,A⟩)
 | f+1,k,p,A,R=>∃ c,cs[k]?=some c∧(((tryN n c k).2=0∧Ydn P cs l n f (k+1) p A R) ∨
   ((tryN n c k).2≠0∧((Zak (l.drop p)).2=0∨(Zak (l.drop p)).1≠k∨(tryN n c k).2=3)∧R=⟨p,true,A⟩) ∨
   (((tryN n c k).2=1∨(tryN n c k).2=2)∧(Zak (l.drop p)).2≠0∧(Zak (l.drop p)).1=k∧∃ R1,P (tryN n c k).1 (p+(Zak (l.drop p)).2) A R1∧((R1.wrong=true∧R=R1)∨(R1.wrong=false∧Ydn P cs l n f (k+1) R1.at' R1.ans R))))
theorem HoldR.ind {cs:List Cls} {names:Names} {l:List UInt8} {P:ND→Nat→List (List UInt8)→HN→Prop}
  (h1:∀ n p A,l[p]?=some 33→n.goals=[]→P n p A ⟨p+1,false,A++[Zbp names n]⟩) (h2:∀ n p A,l[p]?=some 33→n.goals≠[]→P n p A ⟨p,true,A⟩) (h3:∀ n p A,l[p]?=some 40→n.goals=[]→P n p A ⟨p,true,A⟩)
  (h4:∀ n p A R,l[p]?=some 40→n.goals≠[]→Ydn P cs l n cs.length 0 (p+1) A R→P n p A R) {n:ND} {p:Nat} {A:List (List UInt8)} {R:HN} (h:HoldR cs names l n p A R):P n p A R:=by
 refine HoldR.rec (motive_1:=fun n p A R _=>P n p A R) (motive_2:=fun n f k p A R _=>Ydn P cs l n f k p A R) ?_ ?_ ?_ ?_ ?_ ?_ ?_ ?_ ?_ ?_ h
 ·intro n p A hc hg; exact h1 n p A hc hg
 ·intro n p A hc hg; exact h2 n p A hc hg
 ·intro n p A hc hg; exact h3 n p A hc hg
 ·intro n p A R hc hg _ ih; exact h4 n p A R hc hg ih
 ·intro n k p A hc; exact Or.inl ⟨hc,rfl⟩
 ·intro n k p A c hc hn; exact Or.inr ⟨c,hc,hn,rfl⟩
 ·intro n f k p A c R hc hq _ ih; exact ⟨c,hc,Or.inl ⟨hq,ih⟩⟩
 ·intro n f k p A c hc hq hw; exact ⟨c,hc,Or.inr (Or.inl ⟨hq,hw,rfl⟩)⟩
 ·intro n f k p A c R hc hq hs hv _ hw ih; exact ⟨c,hc,Or.inr (Or.inr ⟨hq,hs,hv,R,ih,Or.inl ⟨hw,rfl⟩⟩)⟩
 ·intro n f k p A c R R2 hc hq hs hv _ hw _ ih ih2; exact ⟨c,hc,Or.inr (Or.inr ⟨hq,hs,hv,R,ih,Or.inr ⟨hw,ih2⟩⟩)⟩
theorem box3' {w:World} {b:Nat} {u0 u1 u2:Value} {t:TypeId} (h:w.heap[b]?=some (.cells #[u0,u1,u2] t (0,0))) :
  w.cell? ⟨b,0,none⟩=some u0∧w.cell? ⟨b,1,none⟩=some u1∧w.cell? ⟨b,2,none⟩=some u2∧∀ i,w.frozen? ⟨b,i,none⟩=false :=
 ⟨Zaa h 0 _ rfl,Zaa h 1 _ rfl,Zaa h 2 _ rfl,fun i=>Zad h i⟩
open Classical in
noncomputable def Zle (cs:List Cls) (a:List (List Sym) × Names) (l:List UInt8):HN:=if h:∃ R,HoldR cs a.2 l (topN a) 0 [] R then Classical.choose h else ⟨0,true,[]⟩
theorem Yha (cs:List Cls) (a:List (List Sym) × Names) {l:List UInt8} (h:Zfn l=none):HoldR cs a.2 l (topN a) 0 [] (Zle cs a l):=by
 obtain ⟨R,hR,_⟩:=Ykg cs a.2 l l.length (topN a) 0 0 [] (by omega) (Sh.start h)
 have hex:∃ R,HoldR cs a.2 l (topN a) 0 [] R:=⟨R,hR⟩
 unfold Zle
 rw [dif_pos hex]
 exact Classical.choose_spec hex
noncomputable def allN (p q t:ByteArray):List (List UInt8) × Nat × Nat :=
 match Zcj p with
 | none=>([],4,0)
 | some cs=>match Zep q with
  | none=>([],5,0)
  | some a=>if 20000<t.size then ([],1,0) else match Zfn t.data.toList with
   | some pl=>([],6,pl)
   | none=>if (Zle cs a t.data.toList).wrong=true then ([],7,(Zle cs a t.data.toList).at') else ((Zle cs a t.data.toList).ans,0,0)
def Zpd (p q t:ByteArray) (w:World) (e:Ending) (w':World):Prop:=Ext w w'∧∃ va vc,e = .returned (.tuple #[.slice va (allN p q t).1.length vc,.int .i64 (allN p q t).2.1,.int .i64 (allN p q t).2.2])∧w'.ownsRow w.heap.size 9 1 (.slice va (allN p q t).1.length vc) (allN p q t).1.length (strs (allN p q t).1)
theorem Ydo {p q t:ByteArray} {w w':World} {er pl:Nat} (h:allN p q t=([],er,pl)) (hE:Ext w w'):Zpd p q t w (.returned (.tuple #[.slice none 0 0,.int .i64 er,.int .i64 pl])) w':=by
 refine ⟨hE,none,0,?_,?_⟩
 ·rw [h]; rfl
 ·rw [h]; exact World.ownsRow_nil _ _ _ _
noncomputable def Zge (cs:List Cls) (n:ND):Nat→Nat→Option (Nat × Cls)
 | 0,_=>none
 | f+1,k=>match cs[k]? with
  | none=>none
  | some c=>if (tryN n c k).2=0 then Zge cs n f (k+1) else some (k,c)
structure HM where
 ok:Bool
 at':Nat
 way:List (ND × Nat)
 ans:List (List UInt8)
def Zcn (names:Names) (l:List UInt8) (n:ND) (p:Nat) (way:List (ND × Nat)) (A:List (List UInt8)):HM :=
 if n.goals=[] then (if l[p]?=some 33 then ⟨true,p+1,way,A++[Zbp names n]⟩ else ⟨false,p,way,A⟩)
 else if l[p]?=some 40 then ⟨true,p+1,(n,0)::way,A⟩ else ⟨false,p,way,A⟩
noncomputable def goM (cs:List Cls) (names:Names) (l:List UInt8) (n:ND) (k p:Nat) (r:List (ND × Nat)) (A:List (List UInt8)):HM :=
 match Zge cs n (cs.length - k) k with
 | none=>if l[p]?=some 41 then ⟨true,p+1,r,A⟩ else ⟨false,p,(n,cs.length)::r,A⟩
 | some (j,c)=>if (tryN n c j).2=3∨(Zak (l.drop p)).2=0∨(Zak (l.drop p)).1≠j then ⟨false,p,(n,j+1)::r,A⟩ else Zcn names l (tryN n c j).1 (p+(Zak (l.drop p)).2) ((n,j+1)::r) A
inductive Goes (cs:List Cls) (names:Names) (l:List UInt8):Nat→List (ND × Nat)→List (List UInt8)→HN→Prop
 | done (p:Nat) (A:List (List UInt8)):Goes cs names l p [] A ⟨p,false,A⟩
 | wrong (n:ND) (k p:Nat) (r:List (ND × Nat)) (A:List (List UInt8)) (R:HN) (h:(goM cs names l n k p r A).ok=false) (hw:R.wrong=true) (ha:R.at'=(goM cs names l n k p r A).at'):Goes cs names l p ((n,k)::r) A R
 | step (n:ND) (k p:Nat) (r:List (ND × Nat)) (A:List (List UInt8)) (R:HN) (h:(goM cs names l n k p r A).ok=true) (hg:Goes cs names l (goM cs names l n k p r A).at' (goM cs names l n k p r A).way (goM cs names l n k p r A).ans R):Goes cs names l p ((n,k)::r) A R
def Zoh (cs:List Cls) (names:Names) (l:List UInt8) (M:HM) (R:HN):Prop:=(M.ok=true→Goes cs names l M.at' M.way M.ans R)∧(M.ok=false→R.wrong=true∧R.at'=M.at')
theorem Zne {cs:List Cls} {names:Names} {l:List UInt8} {n:ND} {k p:Nat} {r:List (ND × Nat)} {A:List (List UInt8)} {R:HN} (h:Zoh cs names l (goM cs names l n k p r A) R):Goes cs names l p ((n,k)::r) A R:=by
 cases hk:(goM cs names l n k p r A).ok with
 | true=>exact .step n k p r A R hk (h.1 hk)
 | false=>exact .wrong n k p r A R hk (h.2 hk).1 (h.2 hk).2
theorem Znf {cs:List Cls} {names:Names} {l:List UInt8} {n:ND} {k p:Nat} {r:List (ND × Nat)} {A:List (List UInt8)} {R:HN} (h:Goes cs names l p ((n,k)::r) A R):Zoh cs names l (goM cs names l n k p r A) R:=by
 cases h with
 | wrong _ _ _ _ _ _ h hw ha=>exact ⟨fun e=>by rw [h] at e; simp at e,fun _=>⟨hw,ha⟩⟩
 | step _ _ _ _ _ _ h hg=>exact ⟨fun _=>hg,fun e=>by rw [h] at e; simp at e⟩
theorem Zxi {cs:List Cls} {names:Names} {l:List UInt8} {p:Nat} {A:List (List UInt8)} {R:HN} (h:Goes cs names l p [] A R):R=⟨p,false,A⟩:=by
 cases h; rfl
theorem Zxj {cs:List Cls} {names:Names} {l:List UInt8} {n:ND} {k p:Nat} {r:List (ND × Nat)} {A:List (List UInt8)} {c:Cls} (hc:cs[k]?=some c) (hq:(tryN n c k).2=0):goM cs names l n k p r A=goM cs names l n (k+1) p r A:=by
 have hk:=(Qa.1 hc).1
 unfold goM
 rw [show cs.length - k=(cs.length - (k+1))+1 by omega,Zge,hc]
 simp only [hq,if_true]
theorem Ydp {cs:List Cls} {names:Names} {l:List UInt8} {n:ND} {p:Nat} {A:List (List UInt8)} {R:HN} (h:HoldR cs names l n p A R):∀ (way:List (ND × Nat)) (Rf:HN),(R.wrong=false→Goes cs names l R.at' way R.ans Rf)→(R.wrong=true→Rf.wrong=true∧Rf.at'=R.at')→Zoh cs names l (Zcn names l n p way A) Rf:=by
 refine HoldR.ind (P:=fun n p A R=>∀ (way:List (ND × Nat)) (Rf:HN),(R.wrong=false→Goes cs names l R.at' way R.ans Rf)→(R.wrong=true→Rf.wrong=true∧Rf.at'=R.at')→Zoh cs names l (Zcn names l n p way A) Rf) ?_ ?_ ?_ ?_ h
 ·intro n p A hc hg way Rf h1 _
  unfold Zcn
  rw [if_pos hg,if_pos hc]
  exact ⟨fun _=>h1 rfl,fun e=>by simp at e⟩
 ·intro n p A hc hg way Rf _ h2
  unfold Zcn
  rw [if_neg hg,if_neg (by rw [hc]; simp)]
  exact ⟨fun e=>by simp at e,fun _=>h2 rfl⟩
 ·intro n p A hc hg way Rf _ h2
  unfold Zcn
  rw [if_pos hg,if_neg (by rw [hc]; simp)]
  exact ⟨fun e=>by simp at e,fun _=>h2 rfl⟩
 ·intro n p A R hc hg hk way Rf h1 h2
  unfold Zcn
  rw [if_neg hg,if_pos hc]
  refine ⟨fun _ => ?_,fun e=>by simp at e⟩
  show Goes cs names l (p+1) ((n,0)::way) A Rf
  have key:∀ (f k p:Nat) (A:List (List UInt8)),f+k=cs.length→Ydn (fun n p A R=>∀ (way:List (ND × Nat)) (Rf:HN),(R.wrong=false→Goes cs names l R.at' way R.ans Rf)→(R.wrong=true→Rf.wrong=true∧Rf.at'=R.at')→Zoh cs names l (Zcn names l n p way A) Rf) cs l n f k p A R→Goes cs names l p ((n,k)::way) A Rf:=by
   intro f
   induction f with
   | zero =>
    intro k p A hf hs
    refine Zne ?_
    unfold goM
    rw [show cs.length - k=0 by omega,Zge]
    simp only
    rcases hs with ⟨h3,rfl⟩ | ⟨c,h3,h4,rfl⟩
    ·rw [if_pos h3]
     exact ⟨fun _=>h1 rfl,fun e=>by simp at e⟩
    ·rw [if_neg (by rw [h3]; simpa using h4)]
     exact ⟨fun e=>by simp at e,fun _=>h2 rfl⟩
   | succ f ih =>
    intro k p A hf hs
    obtain ⟨c,hc,h⟩:=hs
    rcases h with ⟨hq,h⟩ | ⟨hq,hw,rfl⟩ | ⟨hq,hs,hv,R1,hP,h⟩
    ·have:=Znf (ih (k+1) p A (by omega) h)
     rw [← Zxj hc hq] at this
     exact Zne this
    ·refine Zne ?_
     unfold goM
     rw [show cs.length - k=f+1 by omega,Zge,hc]
     simp only
     rw [if_neg hq]
     simp only
     rw [if_pos (by rcases hw with h | h | h <;> simp [h])]
     exact ⟨fun e=>by simp at e,fun _=>h2 rfl⟩
    ·refine Zne ?_
     unfold goM
     rw [show cs.length - k=f+1 by omega,Zge,hc]
     simp only
     rw [if_neg (by omega)]
     simp only
     rw [if_neg (by rintro (h | h | h); omega; exact hs h; exact h hv)]
     refine hP _ Rf (fun hw => ?_) (fun hw => ?_)
     ·rcases h with ⟨h,_⟩ | ⟨_,h⟩
      ·rw [hw] at h; simp at h
      ·exact ih (k+1) _ _ (by omega) h
     ·rcases h with ⟨_,rfl⟩ | ⟨h,_⟩
      ·exact h2 hw
      ·rw [hw] at h; simp at h
  exact key cs.length 0 (p+1) A (by omega) hk
theorem Ztf (cs:List Cls) (a:List (List Sym) × Names) {l:List UInt8} (h:Zfn l=none):Zoh cs a.2 l (Zcn a.2 l (topN a) 0 [] []) (Zle cs a l) :=
 Ydp (Yha cs a h) [] _ (fun hw=>by
  have:Zle cs a l=⟨(Zle cs a l).at',false,(Zle cs a l).ans⟩:=by
   rw [← hw]
  rw [this]
  exact .done _ _) (fun hw=>⟨hw,rfl⟩)
def Zgf (s:SN):Prop:=s.status=1→s.found.used≠[]
theorem Ztg {s:SN} {n:ND} (h:s.status≠1) (hn:n.used≠[]):Zgf (Zbx s n):=by
 unfold Zbx
 split
 ·exact fun _=>hn
 ·exact fun e=>absurd e h
theorem Zzx {cs:List Cls} {s:SN} (h0:s.status=0):Zgf (Zam cs s):=by
 unfold Zam
 split
 ·exact fun e=>by omega
 ·split
  ·exact fun e=>by omega
  ·rename_i n k r _ c hc
   show Zgf (Zcv cs _)
   have hl:∀ u:SN,Zgf u→Zgf (Zcv cs u):=fun u h e=>h e
   apply hl
   split
   ·exact fun e=>by simp at e
   ·split
    ·rename_i h12
     exact Ztg (by simp only; omega) (by rw [Zew h12]; simp)
    ·exact fun e=>by simp only at e; omega
theorem Zvl {cs:List Cls}:∀ {n:Nat} {s:SN},Zgf s→Zgf (Zbl cs n s).1:=by
 intro n
 induction n with
 | zero=>intro s h; exact h
 | succ n ih =>
  intro s h
  unfold Zbl
  split
  ·rename_i hc
   exact ih (Zzx hc.1)
  ·exact h
theorem Zvm {cs:List Cls} {n:Nat} {s:SN} (h:Zgf s):Zgf (Zaz cs n s).1:=by
 unfold Zaz
 split
 ·exact h
 ·have h1:Zgf (Zbl cs n { s with status:=0 }).1:=Zvl (fun e=>by simp at e)
  show Zgf (endN _)
  unfold endN
  split
  ·exact fun e=>by simp [Zfu] at e
  ·split
   ·split
    ·exact fun e=>by simp at e
    ·split
     ·exact fun e=>by simp [Zfu] at e
     ·exact h1
   ·exact h1
def Zxk (s:SN):Prop:=s.status=0→s.way≠[]∧s.tries<3000
theorem Yki {cs:List Cls} {n:Nat} {s:SN} (h:Zxk s):Zxk (Zaz cs n s).1:=by
 unfold Zaz
 split
 ·exact h
 ·show Zxk (endN _)
  unfold endN
  split
  ·exact fun e=>by simp [Zfu] at e
  ·split
   ·split
    ·exact fun e=>by simp at e
    ·split
     ·exact fun e=>by simp [Zfu] at e
     ·rename_i h1 h2
      exact fun _=>⟨h1,by omega⟩
   ·rename_i h1
    exact fun e=>absurd e h1
theorem Yhb {cs:List Cls}:∀ {n:Nat} {s:SN},(Zbl cs n s).2≤n:=by
 intro n
 induction n with
 | zero=>intro s; simp [Zbl]
 | succ n ih=>intro s; unfold Zbl; split <;> simp [ih]
theorem Zmg {cs:List Cls} {n:Nat} {s:SN}:(Zaz cs n s).2≤n:=by
 unfold Zaz
 split
 ·simp
 ·exact Yhb
theorem Zzy {cs:List Cls}:∀ {n:Nat} {s:SN},(Zbl cs n s).2<n→¬ ((Zbl cs n s).1.status=0∧(Zbl cs n s).1.way≠[]∧(Zbl cs n s).1.tries<3000):=by
 intro n
 induction n with
 | zero=>intro s h; omega
 | succ n ih =>
  intro s h
  unfold Zbl at h ⊢
  split at h
  ·rename_i hc
   rw [if_pos hc]
   exact ih (by simpa using h)
  ·rename_i hc
   rw [if_neg hc]
   exact hc
theorem Zzz {cs:List Cls} {n:Nat} {s:SN} (h:(Zaz cs n s).2<n):(Zaz cs n s).1.status≠0:=by
 unfold Zaz at h ⊢
 split at h
 ·rename_i hc
  rw [if_pos hc]
  simp only; omega
 ·rename_i hc
  rw [if_neg hc]
  have h1:=Zzy h
  simp only
  unfold endN
  split
  ·simp [Zfu]
  ·split
   ·rename_i h3 h0
    split
    ·simp
    ·split
     ·simp [Zfu]
     ·rename_i hw ht
      exact absurd ⟨h0,hw,by omega⟩ h1
   ·rename_i h0
    exact h0
theorem Zlf {cs:List Cls} {n:Nat} {s:SN} (hn:0<n) (hs:s.status≠2∧s.status≠3) (h:(Zaz cs n s).1.status=0∨(Zaz cs n s).1.status=1):(Zaz cs n s).2≠0:=by
 intro h0
 unfold Zaz at h h0
 rw [if_neg (by omega)] at h h0
 simp only at h h0
 obtain ⟨m,rfl⟩:∃ m,n=m+1:=⟨n - 1,by omega⟩
 unfold Zbl at h h0
 split at h
 ·rename_i hc
  rw [if_pos hc] at h0
  simp at h0
 ·rename_i hc
  simp only at h
  unfold endN at h
  simp only at h hc
  rw [if_neg (by omega),if_pos trivial] at h
  split at h
  ·simp at h
  ·rename_i hw
   split at h
   ·simp [Zfu] at h
   ·rename_i ht
    exact hc ⟨trivial,hw,by omega⟩
theorem Zij (k:Nat):Lib.decDigits k≠[]:=by
 rw [Lib.decDigits]
 split <;> simp
theorem Yaa {names:Names} {n:ND} (h:n.vals.length=names.length):Zbp names n≠[]:=by
 unfold Zbp
 split
 ·simp
 ·rename_i hn
  have hl:=Zdw n.vals []
  cases names with
  | nil=>exact absurd rfl hn
  | cons x xs =>
   cases hc:(Zaq n.vals []).1 with
   | nil=>rw [hc] at hl; simp at hl h; omega
   | cons t ts=>simp [Zjc]
theorem Zvn {n:ND} (h:n.used≠[]):Zdl n≠[]:=by
 unfold Zdl
 cases hu:n.used with
 | nil=>exact absurd hu h
 | cons k ks =>
  simp only [Zcb]
  intro e
  have h1:=List.append_eq_nil_iff.1 e
  exact Zij k (List.append_eq_nil_iff.1 h1.2).1
theorem Yhc {cs:List Cls} {n:ND} {t:List UInt8} (h:TreeR cs n t):t≠[]:=by
 cases h <;> simp
theorem Zlg {cs:List Cls} {a:List (List Sym) × Names} {s:SN} (hI:InvN cs a s) (hF:Zgf s) :
  ((Zcy a s.status s.found s.tree).1=[]↔s.status≠1)∧((Zcy a s.status s.found s.tree).2.1=[]↔s.status≠1)∧((Zcy a s.status s.found s.tree).2.2=[]↔s.status≠2):=by
 unfold Zcy
 by_cases h1:s.status=1
 ·rw [if_pos h1]
  have ha:=Yaa (hI.found h1).2.1
  have hw:=Zvn (hF h1)
  simp [h1,ha,hw]
 ·rw [if_neg h1]
  by_cases h2:s.status=2
  ·rw [if_pos h2]
   have ht:=hI.tree (by omega)
   rw [hI.no h2] at ht
   have:=Yhc ht
   simp [h1,h2,this]
  ·rw [if_neg h2]
   simp [h1,h2]
structure Tr where
 ans:List (List UInt8)
 wts:List (List UInt8)
 tries:Nat
 status:Nat
def Zco (size left:Nat):Nat:=if left<size then left else size
noncomputable def addN (a:List (List Sym) × Names) (t:Tr) (r:SN × Nat):Tr :=
 if r.1.status=1 then ⟨t.ans++[(Zcy a r.1.status r.1.found r.1.tree).1],t.wts++[(Zcy a r.1.status r.1.found r.1.tree).2.1],t.tries+r.2,r.1.status⟩ else ⟨t.ans,t.wts,t.tries+r.2,r.1.status⟩
noncomputable def aftN (cs:List Cls) (a:List (List Sym) × Names) (tries size:Nat):Nat→SN→Tr→SN × Tr
 | 0,m,t=>(m,t)
 | f+1,m,t=>if t.tries<tries then
   (if (Zaz cs (Zco size (tries - t.tries)) m).1.status=2∨(Zaz cs (Zco size (tries - t.tries)) m).1.status=3 then ((Zaz cs (Zco size (tries - t.tries)) m).1,addN a t (Zaz cs (Zco size (tries - t.tries)) m))
    else aftN cs a tries size f (Zaz cs (Zco size (tries - t.tries)) m).1 (addN a t (Zaz cs (Zco size (tries - t.tries)) m)))
   else (m,t)
theorem Zvo {s:SN} (h:s.status=0∧s.way≠[]∧s.tries<3000):endN s=s:=by
 unfold endN
 rw [if_neg (by omega),if_pos h.1,if_neg h.2.1,if_neg (by omega)]
theorem Zng {s:SN} (h:(endN s).status=0):s.status=0∧s.way≠[]∧s.tries<3000:=by
 unfold endN at h
 split at h
 ·simp [Zfu] at h
 ·split at h
  ·rename_i h3 h0
   split at h
   ·simp at h
   ·rename_i hw
    split at h
    ·simp [Zfu] at h
    ·rename_i ht
     exact ⟨h0,hw,by omega⟩
  ·rename_i h0
   exact absurd h h0
theorem Yab {cs:List Cls} {n:Nat} {s:SN} (hs:s.status≠2∧s.status≠3) :
  Zaz cs (n+1) s=if (Zaz cs 1 s).1.status=0 then ((Zaz cs n (Zaz cs 1 s).1).1,(Zaz cs n (Zaz cs 1 s).1).2+1) else Zaz cs 1 s:=by
 obtain ⟨z,hz⟩:∃ z:SN,z = { s with status:=0 }:=⟨_,rfl⟩
 have e1:∀ k,Zaz cs k s=(endN (Zbl cs k z).1,(Zbl cs k z).2):=fun k=>by
  unfold Zaz
  rw [if_neg (by omega),hz]
 rw [e1 (n+1),e1 1]
 by_cases hc:z.status=0∧z.way≠[]∧z.tries<3000
 ·have l1:Zbl cs 1 z=(Zam cs z,1):=by
   simp only [Zbl]
   rw [if_pos hc]
  have l2:Zbl cs (n+1) z=((Zbl cs n (Zam cs z)).1,(Zbl cs n (Zam cs z)).2+1):=by
   rw [Zbl,if_pos hc]
  rw [l1,l2]
  simp only
  by_cases h0:(endN (Zam cs z)).status=0
  ·rw [if_pos h0]
   have hk:=Zng h0
   rw [Zvo hk]
   have e:({ Zam cs z with status:=0 }:SN)=Zam cs z:=by
    have:=hk.1
    cases hm:Zam cs z
    rw [hm] at this
    simp only at this
    subst this
    rfl
   unfold Zaz
   rw [if_neg (by omega),e]
  ·rw [if_neg h0]
   have hk:¬ ((Zam cs z).status=0∧(Zam cs z).way≠[]∧(Zam cs z).tries<3000):=fun hk=>h0 (by rw [Zvo hk]; exact hk.1)
   have l3:Zbl cs n (Zam cs z)=(Zam cs z,0):=by
    cases n with
    | zero=>rfl
    | succ n=>rw [Zbl,if_neg hk]
   rw [l3]
 ·have l1:∀ k,Zbl cs k z=(z,0):=fun k=>by
   cases k with
   | zero=>rfl
   | succ k=>rw [Zbl,if_neg hc]
  rw [l1,l1]
  simp only
  have h0:(endN z).status≠0:=fun h=>hc (Zng h)
  rw [if_neg h0]
theorem Zpe {d:Nat} (h:0<d):Zco 1 d=1:=by
 unfold Zco
 split
 ·omega
 ·rfl
noncomputable def aftG (cs:List Cls) (a:List (List Sym) × Names) (tries size f N:Nat) (m:SN) (t:Tr):SN × Tr :=
 if (Zaz cs N m).1.status=2∨(Zaz cs N m).1.status=3 then ((Zaz cs N m).1,addN a t (Zaz cs N m)) else aftN cs a tries size f (Zaz cs N m).1 (addN a t (Zaz cs N m))
theorem Zea {a:List (List Sym) × Names} {t:Tr} {r:SN × Nat}:(addN a t r).tries=t.tries+r.2:=by
 unfold addN
 split <;> rfl
theorem Yhd {cs:List Cls} {a:List (List Sym) × Names} {tries size:Nat} (hcl:cs.length≤24) (hs:0<size):∀ (d:Nat) (m:SN) (t:Tr) (N f f':Nat),InvN cs a m→tries - t.tries=d→(m.status=0∨m.status=1)→1≤N→N≤d→d≤f→d<f'→aftG cs a tries size f N m t=aftN cs a tries 1 f' m t:=by
 intro d
 induction d using Nat.strongRecOn with
 | ind d ih =>
  intro m t N f f' hI hd hm h1 hN hf hf'
  have hlt:t.tries<tries:=by omega
  obtain ⟨g,rfl⟩:∃ g,f'=g+1:=⟨f' - 1,by omega⟩
  have hst:m.status≠2∧m.status≠3:=by omega
  have hR:aftN cs a tries 1 (g+1) m t=aftG cs a tries 1 g 1 m t:=by
   rw [aftN,if_pos hlt,Zpe (by omega)]
   rfl
  rw [hR]
  obtain ⟨n,rfl⟩:∃ n,N=n+1:=⟨N - 1,by omega⟩
  have hsp:=Yab (cs:=cs) (n:=n) hst
  have hle:=Zmg (cs:=cs) (n:=1) (s:=m)
  have hsm:=Zlf (cs:=cs) (n:=1) (s:=m) (by omega) hst
  have go:∀ (m':SN) (t':Tr),InvN cs a m'→t.tries<t'.tries→(m'.status=0∨m'.status=1)→aftN cs a tries size f m' t'=aftN cs a tries 1 g m' t':=fun m' t' hI' ht hm'=>by
   by_cases hl:t'.tries<tries
   ·obtain ⟨k,rfl⟩:∃ k,f=k+1:=⟨f - 1,by omega⟩
    have:aftN cs a tries size (k+1) m' t'=aftG cs a tries size k (Zco size (tries - t'.tries)) m' t':=by
     rw [aftN,if_pos hl]
     rfl
    rw [this]
    exact ih (tries - t'.tries) (by omega) m' t' _ k g hI' rfl hm' (by unfold Zco; split <;> omega) (by unfold Zco; split <;> omega) (by omega) (by omega)
   ·obtain ⟨k,rfl⟩:∃ k,f=k+1:=⟨f - 1,by omega⟩
    have h2:aftN cs a tries size (k+1) m' t'=(m',t'):=by rw [aftN,if_neg hl]
    have h3:aftN cs a tries 1 g m' t'=(m',t'):=by
     cases g with
     | zero=>rfl
     | succ g=>rw [aftN,if_neg hl]
    rw [h2,h3]
  by_cases h0:(Zaz cs 1 m).1.status=0
  ·rw [if_pos h0] at hsp
   have hd1:(Zaz cs 1 m).2=1:=by
    have:=hsm (Or.inl h0)
    omega
   have hG1:Zxk (Zaz cs 1 m).1:=by
    have hz:(Zaz cs 1 m).1=endN (Zbl cs 1 { m with status:=0 }).1:=by
     unfold Zaz
     rw [if_neg (by omega)]
    intro _
    rw [hz] at h0 ⊢
    have:=Zng h0
    rw [Zvo this]
    exact this.2
   have hrhs:aftG cs a tries 1 g 1 m t=aftN cs a tries 1 g (Zaz cs 1 m).1 (addN a t (Zaz cs 1 m)):=by
    unfold aftG
    rw [if_neg (by omega)]
   have htr:(addN a t (Zaz cs 1 m)).tries=t.tries+1:=by rw [Zea,hd1]
   rw [hrhs]
   by_cases hn:n=0
   ·subst hn
    have e:Zaz cs (0+1) m=Zaz cs 1 m:=rfl
    unfold aftG
    rw [e,if_neg (by omega)]
    exact go _ _ (hI.step hcl) (by omega) (Or.inl h0)
   ·have hadd:addN a t (Zaz cs (n+1) m)=addN a (addN a t (Zaz cs 1 m)) (Zaz cs n (Zaz cs 1 m).1):=by
     have e0:addN a t (Zaz cs 1 m)=⟨t.ans,t.wts,t.tries+1,0⟩:=by
      unfold addN
      rw [if_neg (by omega),hd1,h0]
     rw [hsp,e0]
     unfold addN
     simp only
     rw [show t.tries+((Zaz cs n (Zaz cs 1 m).1).2+1)=t.tries+1+(Zaz cs n (Zaz cs 1 m).1).2 by omega]
    have hGG:aftG cs a tries size f (n+1) m t=aftG cs a tries size f n (Zaz cs 1 m).1 (addN a t (Zaz cs 1 m)):=by
     unfold aftG
     rw [hadd,hsp]
    rw [hGG]
    exact ih (tries - (addN a t (Zaz cs 1 m)).tries) (by omega) _ _ n f g (hI.step hcl) rfl (Or.inl h0) (by omega) (by omega) (by omega) (by omega)
  ·rw [if_neg h0] at hsp
   unfold aftG
   rw [hsp]
   by_cases h23:(Zaz cs 1 m).1.status=2∨(Zaz cs 1 m).1.status=3
   ·rw [if_pos h23,if_pos h23]
   ·rw [if_neg h23,if_neg h23]
    have h01:(Zaz cs 1 m).1.status=1:=by
     have hk:(Zaz cs 1 m).1.status≤3:=(hI.step hcl).st
     omega
    exact go _ _ (hI.step hcl) (by rw [Zea]; have:=hsm (Or.inr h01); omega) (Or.inr h01)
theorem Yhe {cs:List Cls} {a:List (List Sym) × Names} {tries size:Nat} (hcl:cs.length≤24) (hs:0<size) {m:SN} {t:Tr} (hI:InvN cs a m) (hm:m.status=0∨m.status=1) {f f':Nat} (hf:tries - t.tries<f) (hf':tries - t.tries<f'):aftN cs a tries size f m t=aftN cs a tries 1 f' m t:=by
 obtain ⟨k,rfl⟩:∃ k,f=k+1:=⟨f - 1,by omega⟩
 by_cases hl:t.tries<tries
 ·have:aftN cs a tries size (k+1) m t=aftG cs a tries size k (Zco size (tries - t.tries)) m t:=by
   rw [aftN,if_pos hl]
   rfl
  rw [this]
  exact Yhd hcl hs _ m t _ k f' hI rfl hm (by unfold Zco; split <;> omega) (by unfold Zco; split <;> omega) (by omega) hf'
 ·obtain ⟨g,rfl⟩:∃ g,f'=g+1:=⟨f' - 1,by omega⟩
  rw [aftN,if_neg hl,aftN,if_neg hl]
theorem Yhf {cs:List Cls} {a:List (List Sym) × Names} {tries size:Nat}:∀ {f:Nat} {m:SN} {t:Tr},t.tries≤(aftN cs a tries size f m t).2.tries:=by
 intro f
 induction f with
 | zero=>intro m t; exact Qe _
 | succ f ih =>
  intro m t
  rw [aftN]
  split
  ·split
   ·simp only; rw [Zea]; omega
   ·have:=ih (m:=(Zaz cs (Zco size (tries - t.tries)) m).1) (t:=addN a t (Zaz cs (Zco size (tries - t.tries)) m))
    rw [Zea] at this
    omega
  ·exact Qe _
theorem Yhg {cs:List Cls} {a:List (List Sym) × Names} (h:a.1≠[]) (hc:cs≠[]):(newN cs a).way≠[]:=by
 have hl:0<cs.length:=List.length_pos_iff.2 hc
 unfold newN Zcv Zbx
 rw [if_neg (Zeo h)]
 simp only [Zdp]
 rw [if_neg (by omega)]
 simp
theorem Yac {cs:List Cls} {a:List (List Sym) × Names} (h:a.1≠[]):(newN cs a).tries=0:=by
 unfold newN Zcv Zbx
 rw [if_neg (Zeo h)]
theorem Yhh {cs:List Cls} {a:List (List Sym) × Names} {tries:Nat} (h:a.1≠[]) (hc:cs≠[]) (ht:0<tries) {f:Nat} (hf:0<f) (h0:(newN cs a).status=0):0<(aftN cs a tries 1 f (newN cs a) ⟨[],[],0,0⟩).2.tries:=by
 obtain ⟨k,rfl⟩:∃ k,f=k+1:=⟨f - 1,by omega⟩
 have hz:({ newN cs a with status:=0 }:SN)=newN cs a:=by
  cases hm:newN cs a
  rw [hm] at h0
  simp only at h0
  subst h0
  rfl
 have hs:(Zaz cs 1 (newN cs a)).2=1:=by
  unfold Zaz
  rw [if_neg (by omega),hz]
  simp only [Zbl]
  rw [if_pos ⟨h0,Yhg h hc,by rw [Yac h]; omega⟩]
 rw [aftN,if_pos ht,Zpe (by simpa using ht)]
 split
 ·simp only; rw [Zea,hs]; omega
 ·have:=Yhf (cs:=cs) (a:=a) (tries:=tries) (size:=1) (f:=k) (m:=(Zaz cs 1 (newN cs a)).1) (t:=addN a ⟨[],[],0,0⟩ (Zaz cs 1 (newN cs a)))
  rw [Zea,hs] at this
  omega
theorem Znh:∀ k<10,Lib.decDigits k=[UInt8.ofNat (48+k)]:=by decide +kernel
theorem Zvp:∀ k<100,10≤k→Lib.decDigits k=[UInt8.ofNat (48+k / 10),UInt8.ofNat (48+k % 10)]:=by decide +kernel
theorem Zgg:∀ k<10,figB (UInt8.ofNat (48+k))=true∧(UInt8.ofNat (48+k)).toNat=48+k:=by decide +kernel
def NoFig (r:List UInt8):Prop:=∀ b r',r=b::r'→figB b=false
theorem Zjt {k:Nat} (hk:k<100) {r:List UInt8} (hr:NoFig r):Zak (Lib.decDigits k++r)=(k,(Lib.decDigits k).length):=by
 rcases Nat.lt_or_ge k 10 with h | h
 ·obtain ⟨f1,f2⟩:=Zgg k h
  rw [Znh k h]
  simp only [List.singleton_append,Zak,f1,if_true,Qn]
  by_cases h0:k=0
  ·subst h0
   rw [if_pos (by rw [f2])]
  ·rw [if_neg (by rw [f2]; omega)]
   cases r with
   | nil=>simp only; rw [f2]; simp
   | cons b r' =>
    simp only
    rw [hr b r' rfl]
    simp only [Bool.false_eq_true,if_false]
    rw [f2]
    simp
 ·obtain ⟨f1,f2⟩:=Zgg (k / 10) (by omega)
  obtain ⟨g1,g2⟩:=Zgg (k % 10) (by omega)
  rw [Zvp k hk h]
  simp only [List.cons_append,List.nil_append,Zak,f1,if_true]
  rw [if_neg (by rw [f2]; omega)]
  simp only [g1,if_true]
  rw [f2,g2]
  simp
  omega
theorem Zgh {k:Nat}:0<(Lib.decDigits k).length:=by
 have:=Zij k
 cases h:Lib.decDigits k with
 | nil=>exact absurd h this
 | cons a l=>simp
theorem Zkn {k:Nat} (hk:k<100):(Lib.decDigits k).length≤2:=by
 rcases Nat.lt_or_ge k 10 with h | h
 ·rw [Znh k h]; simp
 ·rw [Zvp k hk h]; simp
theorem Zth {l:List UInt8} {k m f p:Nat} {acc:List Nat} (hn:Zak l=(k,m)) (hm:m≠0):Zdz (f+1) l p acc=match l.drop m with
   | []=>(some (acc++[k]),0)
   | c::r=>if c=46 then Zdz f r (p+m+1) (acc++[k]) else (none,p+m):=by
 rw [Zdz]
 simp only [hn,hm,if_false]
 cases List.drop m l <;> rfl
theorem Zoi:∀ (ks:List Nat) (k f p:Nat) (acc:List Nat),k<100→(∀ j ∈ ks,j<100)→ks.length<f→(Zdz f (Lib.decDigits k++Zcb [46] ks) p acc).1=some (acc++k::ks):=by
 intro ks
 induction ks with
 | nil =>
  intro k f p acc hk _ hf
  obtain ⟨g,rfl⟩:∃ g,f=g+1:=⟨f - 1,by omega⟩
  have hn:=Zjt hk (r:=[]) (fun b r' e=>by simp at e)
  have e0:Zcb [46] []=[]:=rfl
  rw [e0,Zth hn (by have := @Zgh k; omega),List.drop_left]
 | cons j ks ih =>
  intro k f p acc hk hj hf
  simp only [Qf] at hf
  obtain ⟨g,rfl⟩:∃ g,f=g+1:=⟨f - 1,by omega⟩
  have hn:=Zjt hk (r:=Zcb [46] (j::ks)) (fun b r' e=>by
   simp only [Zcb,List.cons_append,List.nil_append,List.cons.injEq] at e
   rw [← e.1]
   decide)
  rw [Zth hn (by have := @Zgh k; omega),List.drop_left]
  have e:Zcb [46] (j::ks)=46::(Lib.decDigits j++Zcb [46] ks):=rfl
  rw [e]
  simp only [if_true]
  rw [ih j g _ _ (hj j (by simp)) (fun i hi=>hj i (by simp [hi])) (by omega)]
  simp
theorem Yjl:∀ (ks:List Nat),(∀ j ∈ ks,j<100)→(Zcb [46] ks).length≤3 * ks.length∧ks.length≤(Zcb [46] ks).length:=by
 intro ks
 induction ks with
 | nil=>intro _; simp [Zcb]
 | cons k ks ih =>
  intro h
  have h1:=ih (fun j hj=>h j (by simp [hj]))
  have h2:=Zkn (h k (by simp))
  have h3 := @Zgh k
  simp only [Zcb,Qg,Qf,Jt]
  omega
theorem Zni (ks:List Nat) (h0:ks≠[]) (h:∀ j ∈ ks,j<100):(Zcu ⟨(Zcb [] ks).toArray⟩).1=some ks:=by
 cases ks with
 | nil=>exact absurd rfl h0
 | cons k ks =>
  unfold Zcu
  have:=Zoi ks k ((⟨(Zcb [] (k::ks)).toArray⟩:ByteArray).size+1) 0 [] (h k (by simp)) (fun j hj=>h j (by simp [hj])) (by
   have h1:=(Yjl ks (fun j hj=>h j (by simp [hj]))).2
   simp only [ByteArray.size,List.size_toArray,Zcb,List.nil_append,Qg]
   omega)
  simpa [Zcb] using this
theorem Znj (ks:List Nat) (h:∀ j ∈ ks,j<100):(Zcb [] ks).length≤3 * ks.length:=by
 cases ks with
 | nil=>simp [Zcb]
 | cons k ks =>
  have h1:=(Yjl ks (fun j hj=>h j (by simp [hj]))).1
  have h2:=Zkn (h k (by simp))
  simp only [Zcb,List.nil_append,Qg,Qf]
  omega
def Reach (cs:List Cls):ND→List Nat→ND→Prop
 | n,[],m=>m=n
 | n,k::ks,m=>∃ c,cs[k]?=some c∧n.goals≠[]∧((tryN n c k).2=1∨(tryN n c k).2=2)∧Reach cs (tryN n c k).1 ks m
theorem Reach.snoc {cs:List Cls}:∀ {ks:List Nat} {n m:ND} {k:Nat} {c:Cls},Reach cs n ks m→cs[k]?=some c→m.goals≠[]→((tryN m c k).2=1∨(tryN m c k).2=2)→Reach cs n (ks++[k]) (tryN m c k).1:=by
 intro ks
 induction ks with
 | nil=>intro n m k c h hc hg hq; obtain rfl:m=n:=h; exact ⟨c,hc,hg,hq,rfl⟩
 | cons j ks ih =>
  intro n m k c h hc hg hq
  obtain ⟨d,h1,h2,h3,h4⟩:=h
  exact ⟨d,h1,h2,h3,ih h4 hc hg hq⟩
theorem Reach.follow {cs:List Cls}:∀ {ks:List Nat} {n m:ND} (i:Nat),Reach cs n ks m→m.goals=[]→Zaw cs n ks i=(m,0,0):=by
 intro ks
 induction ks with
 | nil =>
  intro n m i h hg
  obtain rfl:m=n:=h
  unfold Zaw
  rw [if_pos hg]
 | cons k ks ih =>
  intro n m i h hg
  obtain ⟨c,h1,h2,h3,h4⟩:=h
  unfold Zaw
  rw [h1]
  simp only
  rw [if_neg h2,if_pos h3]
  exact ih _ h4 hg
theorem Ydq {cs:List Cls} {top:ND}:∀ {r:List (ND × Nat)} {n:ND} {k:Nat} {T:List UInt8},PH cs top r n k T→Reach cs top (Zgn r) n:=by
 intro r
 induction r with
 | nil=>intro n k T h; obtain ⟨h1,_⟩:=h; exact h1
 | cons x r ih =>
  intro n k T h
  obtain ⟨m,j⟩:=x
  obtain ⟨h1,h2,t,j',c,T',h3,h4,h5,h6,h7,h8,h9⟩:=h
  simp only at h3 h5 h6 h7
  subst h3
  rw [Zld,h6]
  have hg:m.goals≠[]:=by
   cases r with
   | nil=>exact h7.2.1
   | cons y r=>exact h7.1
  exact (ih h7).snoc h4 hg h5
def Zpf (cs:List Cls) (top:ND) (s:SN):Prop:=s.status=1→Reach cs top s.found.used s.found∧s.found.goals=[]∧s.found.used≠[]∧s.found.used.length≤100
theorem Yhi {n:ND} {c:Cls} {k:Nat} (h:(tryN n c k).2=1∨(tryN n c k).2=2):(tryN n c k).1.used.length≤100:=by
 by_cases hex:∃ r:ND × Nat,∃ m,NOk m∧Same m n∧Out m c k r.2 r.1
 ·have e:tryN n c k=Classical.choose hex:=by unfold tryN; rw [dif_pos hex]
  obtain ⟨m,_,hS,g,gs,_,ho⟩:=Classical.choose_spec hex
  rw [e] at h ⊢
  rcases ho with ⟨h0,_⟩ | ⟨h0,_⟩ | ⟨σ,_,_,h3,h4⟩
  ·omega
  ·omega
  ·rw [h3,← h4] at h
   unfold Zfk at h
   split at h
   ·omega
   ·rename_i ho
    unfold Zof at ho
    simp only [Bool.or_eq_true,decide_eq_true_eq,not_or] at ho
    omega
 ·have e:tryN n c k=(⟨[],[],[],[],0⟩,0):=by unfold tryN; rw [dif_neg hex]
  rw [e]
  simp
theorem Yad {cs:List Cls} {a:List (List Sym) × Names} {s:SN} (hI:InvN cs a s) (h0:s.status=0):Zpf cs (topN a) (Zam cs s):=by
 unfold Zam
 split
 ·exact fun e=>by omega
 ·split
  ·exact fun e=>by omega
  ·rename_i n k r hw _ c hc
   show Zpf cs (topN a) (Zcv cs _)
   have hl:∀ u:SN,Zpf cs (topN a) u→Zpf cs (topN a) (Zcv cs u):=fun u h e=>h e
   apply hl
   split
   ·exact fun e=>by simp at e
   ·split
    ·rename_i h12
     intro e
     unfold Zbx at e ⊢
     split
     ·rename_i hg
      have hp:=hI.tree (by omega)
      rw [hw] at hp
      have hu:=hI.used
      rw [hw] at hu
      have hr:=Ydq hp
      have hgn:n.goals≠[]:=(hI.way (n,k) (by rw [hw]; simp)).1
      have e1:n.used=Zgn r:=hu.1
      simp only
      rw [Zew h12,e1]
      refine ⟨hr.snoc hc hgn h12,hg,by simp,?_⟩
      rw [← e1,← Zew h12]
      exact Yhi h12
     ·rename_i hg
      rw [if_neg hg] at e
      simp only at e
      omega
    ·exact fun e=>by simp only at e; omega
mutual
inductive TreeA (cs:List Cls) (names:Names):ND→List UInt8→List (List UInt8)→Prop
 | leaf (n:ND) (h:n.goals=[]):TreeA cs names n [33] [Zbp names n]
 | node (n:ND) (t:List UInt8) (A:List (List UInt8)) (h:n.goals≠[]) (hp:PartA cs names n cs.length t A):TreeA cs names n ([40]++t++[41]) A
inductive PartA (cs:List Cls) (names:Names):ND→Nat→List UInt8→List (List UInt8)→Prop
 | zero (n:ND):PartA cs names n 0 [] []
 | miss (n:ND) (k:Nat) (t:List UInt8) (A:List (List UInt8)) (c:Cls) (h:PartA cs names n k t A) (hc:cs[k]?=some c) (hq:(tryN n c k).2=0):PartA cs names n (k+1) t A
 | kid (n:ND) (k:Nat) (t u:List UInt8) (A B:List (List UInt8)) (c:Cls) (h:PartA cs names n k t A) (hc:cs[k]?=some c) (hq:(tryN n c k).2=1∨(tryN n c k).2=2) (hu:TreeA cs names (tryN n c k).1 u B):PartA cs names n (k+1) (t++Lib.decDigits k++u) (A++B)
end
def PHA (cs:List Cls) (names:Names) (top:ND):List (ND × Nat)→ND→Nat→List UInt8→List (List UInt8)→Prop
 | [],n,k,T,A=>n=top∧n.goals≠[]∧k≤cs.length∧∃ t,PartA cs names n k t A∧T=[40]++t
 | x::r,n,k,T,A=>n.goals≠[]∧k≤cs.length∧∃ t j' c T' A' B,x.2=j'+1∧cs[j']?=some c∧((tryN x.1 c j').2=1∨(tryN x.1 c j').2=2)∧n=(tryN x.1 c j').1∧PHA cs names top r x.1 j' T' A'∧PartA cs names n k t B∧T=T'++Lib.decDigits j'++([40]++t)∧A=A'++B
def PWA (cs:List Cls) (names:Names) (top:ND):List (ND × Nat)→List UInt8→List (List UInt8)→Prop
 | [],T,A=>TreeA cs names top T A
 | (n,k)::r,T,A=>PHA cs names top r n k T A
theorem PWA.part {cs:List Cls} {names:Names} {top n:ND} {k:Nat} {r:List (ND × Nat)} {T:List UInt8} {A:List (List UInt8)} (h:PWA cs names top ((n,k)::r) T A):n.goals≠[]∧k≤cs.length∧∃ t0 t A0 B,PartA cs names n k t B∧T=t0++([40]++t)∧A=A0++B∧∀ k' t' B',PartA cs names n k' t' B'→k'≤cs.length→PWA cs names top ((n,k')::r) (t0++([40]++t')) (A0++B'):=by
 cases r with
 | nil =>
  obtain ⟨h1,h2,h3,t,h4,h5⟩:=h
  exact ⟨h2,h3,[],t,[],A,h4,by simpa using h5,by simp,fun k' t' B' hp hk=>⟨h1,h2,hk,t',by simpa using hp,by simp⟩⟩
 | cons m r =>
  obtain ⟨m,j⟩:=m
  obtain ⟨h1,h2,t,j',c,T',A',B,h3,h4,h5,h6,h7,h8,h9,h10⟩:=h
  exact ⟨h1,h2,T'++Lib.decDigits j',t,A',B,h8,h9,h10,fun k' t' B' hp hk=>⟨h1,hk,t',j',c,T',A',B',h3,h4,h5,h6,h7,hp,rfl,rfl⟩⟩
theorem PWA.miss {cs:List Cls} {names:Names} {top n:ND} {k:Nat} {r:List (ND × Nat)} {T:List UInt8} {A:List (List UInt8)} {c:Cls} (h:PWA cs names top ((n,k)::r) T A) (hc:cs[k]?=some c) (hq:(tryN n c k).2=0):PWA cs names top ((n,k+1)::r) T A:=by
 obtain ⟨h1,h2,t0,t,A0,B,h3,h4,h6,h5⟩:=h.part
 rw [h4,h6]
 exact h5 (k+1) t B (.miss n k t B c h3 hc hq) (by have:=(Qa.1 hc).1; omega)
theorem PWA.kid {cs:List Cls} {names:Names} {top n:ND} {k:Nat} {r:List (ND × Nat)} {T u:List UInt8} {A B':List (List UInt8)} {c:Cls} (h:PWA cs names top ((n,k)::r) T A) (hc:cs[k]?=some c) (hq:(tryN n c k).2=1∨(tryN n c k).2=2) (hu:TreeA cs names (tryN n c k).1 u B'):PWA cs names top ((n,k+1)::r) (T++Lib.decDigits k++u) (A++B'):=by
 obtain ⟨h1,h2,t0,t,A0,B,h3,h4,h6,h5⟩:=h.part
 rw [h4,h6]
 have:=h5 (k+1) (t++Lib.decDigits k++u) (B++B') (.kid n k t u B B' c h3 hc hq hu) (by have:=(Qa.1 hc).1; omega)
 simpa using this
theorem PWA.down {cs:List Cls} {names:Names} {top n:ND} {k:Nat} {r:List (ND × Nat)} {T:List UInt8} {A:List (List UInt8)} {c:Cls} (h:PWA cs names top ((n,k)::r) T A) (hc:cs[k]?=some c) (hq:(tryN n c k).2=1∨(tryN n c k).2=2) (hg:(tryN n c k).1.goals≠[]):PWA cs names top (((tryN n c k).1,0)::(n,k+1)::r) (T++Lib.decDigits k++[40]) A :=
 ⟨hg,Qm _,[],k,c,T,A,[],rfl,hc,hq,rfl,h,.zero _,by simp,by simp⟩
theorem PWA.up {cs:List Cls} {names:Names} {top n:ND} {k:Nat} {r:List (ND × Nat)} {T:List UInt8} {A:List (List UInt8)} (h:PWA cs names top ((n,k)::r) T A) (hk:cs.length≤k):PWA cs names top r (T++[41]) A:=by
 cases r with
 | nil =>
  obtain ⟨h1,h2,h3,t,h4,h5⟩:=h
  have e:k=cs.length:=by omega
  subst e h1 h5
  exact .node n t A h2 h4
 | cons m r =>
  obtain ⟨m,j⟩:=m
  obtain ⟨h1,h2,t,j',c,T',A',B,h3,h4,h5,h6,h7,h8,h9,h10⟩:=h
  have e:k=cs.length:=by omega
  simp only at h3 h5 h6 h7
  subst e h3 h6 h9 h10
  have h7':PWA cs names top ((m,j')::r) T' A':=h7
  have:=h7'.kid h4 h5 (.node _ t B h1 h8)
  simpa using this
theorem PWA.leave {cs:List Cls} {names:Names} {top:ND} {A:List (List UInt8)}:∀ {way:List (ND × Nat)} {T:List UInt8},PWA cs names top way T A→PWA cs names top (Zdp cs way T).1 (Zdp cs way T).2 A:=by
 intro way
 induction way with
 | nil=>intro T h; exact h
 | cons x r ih =>
  obtain ⟨n,k⟩:=x
  intro T h
  unfold Zdp
  split
  ·rename_i hk
   exact ih (h.up hk)
  ·exact h
noncomputable def ansB (names:Names) (A:List (List UInt8)) (s:SN):List (List UInt8):=if s.status=1 then A++[Zbp names s.found] else A
theorem PWA.try' {cs:List Cls} {names:Names} {top:ND} {s:SN} {A:List (List UInt8)} (h0:s.status=0) (h:PWA cs names top s.way s.tree A) (hf:(Zam cs s).status≠3):PWA cs names top (Zam cs s).way (Zam cs s).tree (ansB names A (Zam cs s)):=by
 unfold Zam at hf ⊢
 cases hw:s.way with
 | nil =>
  rw [hw] at h
  unfold ansB
  simp only [hw,h0]
  simpa using h
 | cons x r =>
  obtain ⟨n,k⟩:=x
  rw [hw] at hf h
  simp only at hf ⊢
  have h':PWA cs names top ((n,k)::r) s.tree A:=h
  cases hc:cs[k]? with
  | none =>
   rw [hc] at hf
   unfold ansB
   simp only [hw,h0]
   simpa using h
  | some c =>
   rw [hc] at hf
   simp only at hf ⊢
   by_cases h3:(tryN n c k).2=3
   ·rw [if_pos h3] at hf
    exact absurd rfl hf
   ·rw [if_neg h3]
    by_cases h12:(tryN n c k).2=1∨(tryN n c k).2=2
    ·rw [if_pos h12]
     by_cases hg:(tryN n c k).1.goals=[]
     ·simp only [Zbx,if_pos hg,Zcv,ansB,if_true]
      exact (h'.kid hc h12 (.leaf _ hg)).leave
     ·simp only [Zbx,if_neg hg,Zcv,ansB,h0]
      exact (h'.down hc h12 hg).leave
    ·rw [if_neg h12]
     simp only [Zcv,ansB,h0]
     have hq0:(tryN n c k).2=0:=by have:=Zhf n c k; omega
     exact (h'.miss hc hq0).leave
theorem Ydr {cs:List Cls} {a:List (List Sym) × Names} (hcl:cs.length≤24):∀ {n:Nat} {s:SN} {A:List (List UInt8)},InvN cs a s→(s.status=0→PWA cs a.2 (topN a) s.way s.tree A)→s.status=0→((Zbl cs n s).1.status≠3→PWA cs a.2 (topN a) (Zbl cs n s).1.way (Zbl cs n s).1.tree (ansB a.2 A (Zbl cs n s).1))∧Zpf cs (topN a) (Zbl cs n s).1:=by
 intro n
 induction n with
 | zero =>
  intro s A hI h h0
  simp only [Zbl]
  exact ⟨fun _=>by unfold ansB; rw [if_neg (by omega)]; exact h h0,fun e=>by omega⟩
 | succ n ih =>
  intro s A hI h h0
  simp only [Zbl]
  split
  ·rename_i hgo
   simp only
   obtain ⟨m,k,r,c,hw,hc,_⟩:=hI.head hgo.2.1
   have hI1:InvN cs a (Zam cs s):=hI.try' hcl h0 hw hc hgo.2.2
   have hF:=Yad hI h0
   by_cases h1:(Zam cs s).status=0
   ·refine ih hI1 (fun _ => ?_) h1
    have:=PWA.try' h0 (h h0) (by omega)
    unfold ansB at this
    rw [if_neg (by omega)] at this
    exact this
   ·have e:Zbl cs n (Zam cs s)=(Zam cs s,0):=by
     cases n with
     | zero=>rfl
     | succ n=>simp only [Zbl]; rw [if_neg (fun h=>h1 h.1)]
    rw [e]
    exact ⟨fun h3=>PWA.try' h0 (h h0) h3,hF⟩
  ·refine ⟨fun _ => ?_,fun e => ?_⟩
   ·show PWA cs a.2 (topN a) s.way s.tree (ansB a.2 A s)
    unfold ansB
    rw [if_neg (by omega)]
    exact h h0
   ·have e:s.status=1:=e
    omega
theorem Yds {cs:List Cls} {a:List (List Sym) × Names} (hcl:cs.length≤24) {n:Nat} {s:SN} {A:List (List UInt8)} (hI:InvN cs a s) (h:PWA cs a.2 (topN a) s.way s.tree A) (hs:s.status≠2∧s.status≠3):((Zaz cs n s).1.status≠3→PWA cs a.2 (topN a) (Zaz cs n s).1.way (Zaz cs n s).1.tree (ansB a.2 A (Zaz cs n s).1))∧Zpf cs (topN a) (Zaz cs n s).1:=by
 unfold Zaz
 rw [if_neg (by omega)]
 simp only
 obtain ⟨h1,h2⟩:=Ydr (n:=n) hcl (hI.seek (by omega)) (fun _=>h) rfl
 generalize (Zbl cs n { s with status:=0 }).1=z at h1 h2
 unfold endN
 split
 ·exact ⟨fun h3=>absurd rfl h3,fun e=>by simp [Zfu] at e⟩
 ·rename_i h3
  split
  ·rename_i h0
   split
   ·refine ⟨fun _ => ?_,fun e=>by simp at e⟩
    have:=h1 h3
    unfold ansB at this ⊢
    rw [if_neg (by omega)] at this
    simpa using this
   ·split
    ·exact ⟨fun h3=>absurd rfl h3,fun e=>by simp [Zfu] at e⟩
    ·exact ⟨fun _=>h1 h3,h2⟩
  ·exact ⟨fun _=>h1 h3,h2⟩
structure Told (cs:List Cls) (a:List (List Sym) × Names) (m:SN) (t:Tr):Prop where
 tree:m.status≠3→PWA cs a.2 (topN a) m.way m.tree t.ans
 len:t.ans.length=t.wts.length
 each:∀ (i:Nat) (A W:List UInt8),t.ans[i]?=some A→t.wts[i]?=some W→∃ n,Reach cs (topN a) n.used n∧n.goals=[]∧n.used≠[]∧n.used.length≤100∧(∀ k ∈ n.used,k<cs.length)∧A=Zbp a.2 n∧W=Zdl n
theorem Told.new (cs:List Cls) {a:List (List Sym) × Names} (ha:a.1≠[]):Told cs a (newN cs a) ⟨[],[],0,0⟩:=by
 refine ⟨fun _ => ?_,rfl,fun i A W h=>by simp at h⟩
 have hg:=Zeo ha
 unfold newN Zbx
 rw [if_neg hg]
 have hp:PWA cs a.2 (topN a) [(topN a,0)] [40] []:=⟨rfl,hg,Qm _,[],.zero _,by simp⟩
 simp only [Zcv]
 exact hp.leave
theorem Told.step {cs:List Cls} {a:List (List Sym) × Names} (hcl:cs.length≤24) {n:Nat} {m:SN} {t:Tr} (h:Told cs a m t) (hI:InvN cs a m) (hs:m.status≠2∧m.status≠3):Told cs a (Zaz cs n m).1 (addN a t (Zaz cs n m)):=by
 obtain ⟨h1,h2⟩:=Yds (n:=n) hcl hI (h.tree hs.2) hs
 have hI2:=hI.step hcl (n:=n)
 generalize Zaz cs n m=z at h1 h2 hI2
 unfold addN
 split
 ·rename_i e
  obtain ⟨g1,g2,g3,g4⟩:=h2 e
  refine ⟨fun h3 => ?_,by simp [h.len],fun i A W hA hW => ?_⟩
  ·have:=h1 h3
   unfold ansB at this
   rw [if_pos e] at this
   simpa [Zcy,e] using this
  ·simp only at hA hW
   rcases Nat.lt_or_ge i t.ans.length with hi | hi
   ·rw [Qc hi] at hA
    rw [Qc (by rw [← h.len]; exact hi)] at hW
    exact h.each i A W hA hW
   ·have hl:=h.len
    have:i=t.ans.length:=by
     have:=(Qa.1 hA).1
     simp at this
     omega
    subst this
    simp only [Qd (Qe _),Nat.sub_self,List.getElem?_cons_zero,Qo] at hA
    rw [hl,Qd (Qe _)] at hW
    simp only [Nat.sub_self,List.getElem?_cons_zero,Qo] at hW
    refine ⟨z.1.found,g1,g2,g3,g4,(hI2.found e).2.2,?_,?_⟩
    ·rw [← hA]; simp [Zcy,e]
    ·rw [← hW]; simp [Zcy,e]
 ·rename_i e
  refine ⟨fun h3 => ?_,h.len,h.each⟩
  have:=h1 h3
  unfold ansB at this
  rw [if_neg e] at this
  exact this
theorem Told.aft {cs:List Cls} {a:List (List Sym) × Names} (hcl:cs.length≤24) {tries size:Nat}:∀ {f:Nat} {m:SN} {t:Tr},Told cs a m t→InvN cs a m→(m.status=0∨m.status=1)→Told cs a (aftN cs a tries size f m t).1 (aftN cs a tries size f m t).2:=by
 intro f
 induction f with
 | zero=>intro m t h _ _; exact h
 | succ f ih =>
  intro m t h hI hm
  rw [aftN]
  split
  ·have h1:=h.step hcl (n:=Zco size (tries - t.tries)) hI (by omega)
   have hI1:=hI.step hcl (n:=Zco size (tries - t.tries))
   split
   ·exact h1
   ·rename_i h23
    exact ih h1 hI1 (by have:=hI1.st; omega)
  ·exact h
theorem Yml (c:UInt8) (h:c=33∨c=40∨c=41):figB c=false:=by rcases h with rfl | rfl | rfl <;> decide
theorem Yae {cs:List Cls} {names:Names} {n:ND} {t:List UInt8} {A:List (List UInt8)} (h:TreeA cs names n t A):∃ c r,t=c::r∧(c=33∨c=40):=by
 cases h with
 | leaf _ h=>exact ⟨33,[],rfl,Or.inl rfl⟩
 | node _ t A h hp=>exact ⟨40,t++[41],rfl,Or.inr rfl⟩
theorem Zpg (l:List UInt8):∀ (f g p o:Nat) (due:Bool),p≤l.length→l.length<f+p→l.length<g+p→Zdb l f p o due=Zdb l g p o due:=by
 intro f
 induction f with
 | zero=>intro g p o due h1 h2 _; omega
 | succ f ih =>
  intro g p o due h1 h2 h3
  obtain ⟨g,rfl⟩:∃ g',g=g'+1:=⟨g - 1,by omega⟩
  unfold Zdb
  cases hc:l[p]? with
  | none=>rfl
  | some c =>
   have hp:=(Qa.1 hc).1
   have hz:=(Zdy (l.drop p)).1
   rw [List.length_drop] at hz
   simp only
   rw [ih g (p+1) o false (by omega) (by omega) (by omega),ih g (p+1) (o+1) false (by omega) (by omega) (by omega),ih g (p+1) (o - 1) false (by omega) (by omega) (by omega)]
   by_cases h0:(Zak (l.drop p)).2=0
   ·rw [if_pos h0,if_pos h0]
   ·rw [if_neg h0,if_neg h0,ih g (p+(Zak (l.drop p)).2) o true (by omega) (by omega) (by omega)]
theorem Yaf {l:List UInt8} (h:Sh l 0 0 true):Zfn l=none:=by
 obtain ⟨f,h1,h2⟩:=h
 unfold Zfn
 rw [Zpg l (l.length+1) f 0 0 true (by omega) (by omega) (by omega)]
 exact h2
theorem Ykj {l:List UInt8} {p o:Nat} (hc:l[p]?=some 33) (h:Sh l (p+1) o false):Sh l p o true:=by
 obtain ⟨f,h1,h2⟩:=h
 refine ⟨f+1,by omega,?_⟩
 unfold Zdb
 rw [hc]
 simpa using h2
theorem Ykk {l:List UInt8} {p o:Nat} (hc:l[p]?=some 40) (h:Sh l (p+1) (o+1) false):Sh l p o true:=by
 obtain ⟨f,h1,h2⟩:=h
 refine ⟨f+1,by omega,?_⟩
 unfold Zdb
 rw [hc]
 simpa using h2
theorem Ykl {l:List UInt8} {p o:Nat} (hc:l[p]?=some 41) (h:Sh l (p+1) o false):Sh l p (o+1) false:=by
 obtain ⟨f,h1,h2⟩:=h
 refine ⟨f+1,by omega,?_⟩
 unfold Zdb
 rw [hc]
 simpa using h2
theorem Ymm {l:List UInt8} {p o k m:Nat} {c:UInt8} (hc:l[p]?=some c) (h41:c≠41) (hn:Zak (l.drop p)=(k,m)) (hm:m≠0) (h:Sh l (p+m) (o+1) true):Sh l p (o+1) false:=by
 obtain ⟨f,h1,h2⟩:=h
 refine ⟨f+m,by omega,?_⟩
 have hf:Zdb l (f+m - 1) (p+m) (o+1) true=none:=by
  rw [Zpg l (f+m - 1) f (p+m) (o+1) true ?_ (by omega) h1]
  ·exact h2
  ·have hz:=(Zdy (l.drop p)).1
   rw [hn,List.length_drop] at hz
   have hp:=(Qa.1 hc).1
   simp only at hz
   omega
 obtain ⟨g,hg⟩:∃ g,f+m=g+1:=⟨f+m - 1,by omega⟩
 rw [hg] at hf ⊢
 unfold Zdb
 rw [hc]
 simp only [hn,hm,h41,if_false,Bool.false_eq_true,Nat.add_one_ne_zero]
 simpa using hf
theorem Zph {pre post:List UInt8} {c:UInt8} {r:List UInt8}:(pre++(c::r)++post)[pre.length]?=some c:=by
 rw [Qi,Qd (Qe _)]
 simp
theorem Zxl {pre t post:List UInt8}:(pre++([40]++t++[41])++post)[(pre++[40]).length+t.length]?=some 41:=by
 have h:=Zph (pre:=pre++[40]++t) (c:=41) (r:=[]) (post:=post)
 have e:(pre++[40]++t).length=(pre++[40]).length+t.length:=Qg
 rw [e] at h
 rw [show pre++([40]++t++[41])++post=pre++[40]++t++[41]++post by simp]
 exact h
theorem Yhj {k:Nat} (hk:k<100):∃ c r,Lib.decDigits k=c::r∧c≠41:=by
 rcases Nat.lt_or_ge k 10 with h | h
 ·refine ⟨_,_,Znh k h,fun e => ?_⟩
  have:=(Zgg k h).1
  rw [e] at this
  exact absurd this (by decide)
 ·refine ⟨_,_,Zvp k hk h,fun e => ?_⟩
  have:=(Zgg (k / 10) (by omega)).1
  rw [e] at this
  exact absurd this (by decide)
theorem Yjm {k:Nat} (hk:k<100) {cs:List Cls} {names:Names} {n:ND} {u:List UInt8} {B:List (List UInt8)} (hu:TreeA cs names n u B) (pre post:List UInt8):Zak ((pre++(Lib.decDigits k++u)++post).drop pre.length)=(k,(Lib.decDigits k).length):=by
 rw [Qi,List.drop_left,Qi]
 refine Zjt hk (fun b r' e => ?_)
 obtain ⟨c,r,rfl,hc⟩:=Yae hu
 simp only [List.cons_append,List.cons.injEq] at e
 rw [← e.1]
 exact Yml c (by rcases hc with h | h <;> simp [h])
theorem Ykm {cs:List Cls} {names:Names} (hcl:cs.length≤24) {n:ND} {t:List UInt8} {A:List (List UInt8)} (h:TreeA cs names n t A):∀ (l pre post:List UInt8) (o:Nat),l=pre++t++post→Sh l (pre.length+t.length) o false→Sh l pre.length o true:=by
 refine TreeA.rec (cs:=cs) (names:=names) (motive_1:=fun n t A _=>∀ (l pre post:List UInt8) (o:Nat),l=pre++t++post→Sh l (pre.length+t.length) o false→Sh l pre.length o true)
  (motive_2:=fun n k t A _=>∀ (l pre post:List UInt8) (o:Nat),l=pre++t++post→Sh l (pre.length+t.length) (o+1) false→Sh l pre.length (o+1) false) ?_ ?_ ?_ ?_ ?_ h
 ·intro n hg l pre post o hl hs
  exact Ykj (by rw [hl]; exact Zph) hs
 ·intro n t A hg hp ih l pre post o hl hs
  refine Ykk (by rw [hl]; exact Zph) ?_
  have h1:Sh l ((pre++[40]).length+t.length) (o+1) false:=by
   refine Ykl ?_ ?_
   ·rw [hl]
    exact Zxl
   ·simp only [Qg,Qf,Jt] at hs ⊢
    rw [show pre.length+(0+1)+t.length+1=pre.length+(0+1+t.length+(0+1)) by omega]
    exact hs
  have:=ih l (pre++[40]) ([41]++post) o (by rw [hl]; simp) h1
  simpa using this
 ·intro n l pre post o hl hs
  simpa using hs
 ·intro n k t A c hp hc hq ih l pre post o hl hs
  exact ih l pre post o hl hs
 ·intro n k t u A B c hp hc hq hu ihp ihu l pre post o hl hs
  have hk:k<100:=by have:=(Qa.1 hc).1; omega
  have h1:Sh l ((pre++t++Lib.decDigits k).length+u.length) (o+1) false:=by
   simp only [Qg] at hs ⊢
   rw [show pre.length+t.length+(Lib.decDigits k).length+u.length=pre.length+(t.length+(Lib.decDigits k).length+u.length) by omega]
   exact hs
  have h2:=ihu l (pre++t++Lib.decDigits k) post (o+1) (by rw [hl]; simp) h1
  obtain ⟨d,r,hd,h41⟩:=Yhj hk
  have hl2:l=(pre++t)++(Lib.decDigits k++u)++post:=by rw [hl]; simp
  have h3:Sh l (pre++t).length (o+1) false:=by
   refine Ymm (c:=d) (k:=k) (m:=(Lib.decDigits k).length) ?_ h41 ?_ (by have := @Zgh k; omega) ?_
   ·rw [hl2,hd,List.cons_append]
    exact Zph
   ·rw [hl2]
    exact Yjm hk hu _ _
   ·rw [← Qg]
    exact h2
  refine ihp l pre (Lib.decDigits k++u++post) o (by rw [hl]; simp) ?_
  simpa using h3
theorem Ydt {cs:List Cls} {names:Names} (hcl:cs.length≤24) {l:List UInt8} {Rf:HN} {n:ND} {t:List UInt8} {B:List (List UInt8)} (h:TreeA cs names n t B):∀ (pre post:List UInt8) (way:List (ND × Nat)) (A:List (List UInt8)),l=pre++t++post→Zoh cs names l (Zcn names l n pre.length way A) Rf→Goes cs names l (pre.length+t.length) way (A++B) Rf:=by
 refine TreeA.rec (cs:=cs) (names:=names) (motive_1:=fun n t B _=>∀ (pre post:List UInt8) (way:List (ND × Nat)) (A:List (List UInt8)),l=pre++t++post→Zoh cs names l (Zcn names l n pre.length way A) Rf→Goes cs names l (pre.length+t.length) way (A++B) Rf)
  (motive_2:=fun n k t B _=>∀ (pre post:List UInt8) (way:List (ND × Nat)) (A:List (List UInt8)),l=pre++t++post→Goes cs names l pre.length ((n,0)::way) A Rf→Goes cs names l (pre.length+t.length) ((n,k)::way) (A++B) Rf) ?_ ?_ ?_ ?_ ?_ h
 ·intro n hg pre post way A hl hG
  unfold Zcn at hG
  rw [if_pos hg,if_pos (by rw [hl]; exact Zph)] at hG
  exact hG.1 rfl
 ·intro n t B hg hp ih pre post way A hl hG
  unfold Zcn at hG
  rw [if_neg hg,if_pos (by rw [hl]; exact Zph)] at hG
  have h1:=ih (pre++[40]) ([41]++post) way A (by rw [hl]; simp) (by simpa using hG.1 rfl)
  have h2:=Znf h1
  unfold goM at h2
  rw [Nat.sub_self,Zge] at h2
  simp only at h2
  rw [if_pos (by rw [hl]; exact Zxl)] at h2
  have h3:=h2.1 rfl
  simp only [Qg,Qf,Jt] at h3 ⊢
  rw [show pre.length+(0+1+t.length+(0+1))=pre.length+(0+1)+t.length+1 by omega]
  exact h3
 ·intro n pre post way A hl hG
  simpa using hG
 ·intro n k t B c hp hc hq ih pre post way A hl hG
  have h1:=Znf (ih pre post way A hl hG)
  rw [Zxj hc hq] at h1
  exact Zne h1
 ·intro n k t u A' B c hp hc hq hu ihp ihu pre post way A hl hG
  have hkl:=(Qa.1 hc).1
  have hk:k<100:=by omega
  have hl2:l=(pre++t)++(Lib.decDigits k++u)++post:=by rw [hl]; simp
  have h1:=Znf (ihp pre (Lib.decDigits k++u++post) way A (by rw [hl]; simp) hG)
  have hn:Zak (l.drop (pre.length+t.length))=(k,(Lib.decDigits k).length):=by
   have:=Yjm hk hu (pre++t) post
   rw [← hl2] at this
   simpa using this
  unfold goM at h1
  rw [show cs.length - k=(cs.length - (k+1))+1 by omega,Zge,hc] at h1
  simp only at h1
  rw [if_neg (by omega)] at h1
  simp only [hn] at h1
  rw [if_neg (by have := @Zgh k; omega)] at h1
  have h2:=ihu (pre++t++Lib.decDigits k) post ((n,k+1)::way) (A++A') (by rw [hl]; simp) (by rw [Qg,Qg]; exact h1)
  simp only [Qg] at h2 ⊢
  rw [show pre.length+(t.length+(Lib.decDigits k).length+u.length)=pre.length+t.length+(Lib.decDigits k).length+u.length by omega,← Qi]
  exact h2
theorem Zxm {p q:ByteArray} {cs:List Cls} {a:List (List Sym) × Names} {T:List UInt8} {A:List (List UInt8)} (hp:Zcj p=some cs) (hq:Zep q=some a) (hcl:cs.length≤24) (h:TreeA cs a.2 (topN a) T A) (hT:T.length≤20000):allN p q ⟨T.toArray⟩=(A,0,0):=by
 have hsh:Zfn T=none:=by
  refine Yaf ?_
  have:=Ykm hcl h T [] [] 0 (by simp) ⟨1,by simp,by simp [Zdb]⟩
  simpa using this
 have hG:=Ztf cs a hsh
 have h1:=Ydt (l:=T) hcl h [] [] [] [] (by simp) hG
 have h2:=Zxi h1
 unfold allN
 rw [hp]
 simp only
 rw [hq]
 simp only
 rw [if_neg (by simp [ByteArray.size]; omega)]
 show (match Zfn T with
  | some pl=>([],6,pl)
  | none=>if (Zle cs a T).wrong=true then ([],7,(Zle cs a T).at') else ((Zle cs a T).ans,0,0))=_
 rw [hsh]
 simp only
 rw [h2]
 simp
theorem Zpi {p q:ByteArray} {cs:List Cls} {a:List (List Sym) × Names} {n:ND} (hp:Zcj p=some cs) (hq:Zep q=some a) (hcl:cs.length≤24) (h:Reach cs (topN a) n.used n) (hg:n.goals=[]) (h0:n.used≠[]) (hl:n.used.length≤100) (hk:∀ k ∈ n.used,k<cs.length):yesN p q ⟨(Zdl n).toArray⟩=(Zbp a.2 n,0,0)∧Zqx p q ⟨(Zdl n).toArray⟩=(Zev n,0,0):=by
 have h100:∀ j ∈ n.used,j<100:=fun j hj=>by have:=hk j hj; omega
 have hn:=Zni n.used h0 h100
 have hw:=Znj n.used h100
 have hh:Zdi p q ⟨(Zdl n).toArray⟩=(a.2,n,0,0):=by
  unfold Zdi
  rw [hp]
  simp only
  rw [hq]
  simp only
  rw [if_neg (by simp [ByteArray.size,Zdl]; omega)]
  have hn':Zcu ⟨(Zdl n).toArray⟩=(some n.used,(Zcu ⟨(Zdl n).toArray⟩).2):=Prod.ext hn rfl
  rw [hn']
  simp only
  rw [h.follow 0 hg]
 unfold yesN Zqx
 rw [hh]
 simp
end Go.Proofs.YtlmjilpjmgjjcaaGreatDoor
