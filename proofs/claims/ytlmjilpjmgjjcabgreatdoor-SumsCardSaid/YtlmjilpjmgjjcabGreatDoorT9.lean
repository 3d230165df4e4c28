/-
  PROVED HERE: what the reference's 'Step' makes of a search (the conditions stand in each statement).
-/
import Derived.Test.YtlmjilpjmgjjcabGreatDoorT8
import Derived.Deep.QuietTactic
import Derived.BigQuiet
set_option linter.unusedSimpArgs false
set_option linter.unusedVariables false
set_option maxRecDepth 10000
set_option maxHeartbeats 4000000
namespace Go.Proofs.YtlmjilpjmgjjcabGreatDoor
open Go.RowKit
def Zfm (s:SN):Prop:=s.status=1→s.found.used≠[]
theorem Zqi {s:SN} {n:ND} (h:s.status≠1) (hn:n.used≠[]):Zfm (Zbz s n):=by
 unfold Zbz
 split
 ·exact fun _=>hn
 ·exact fun e=>absurd e h
theorem Zwp {cs:List Cls} {s:SN} (h0:s.status=0):Zfm (Zay cs s):=by
 unfold Zay
 split
 ·exact fun e=>by omega
 ·split
  ·exact fun e=>by omega
  ·rename_i n k r _ c hc
   show Zfm (Zde cs _)
   have hl:∀ u:SN,Zfm u→Zfm (Zde cs u):=fun u h e=>h e
   apply hl
   split
   ·exact fun e=>by simp at e
   ·split
    ·rename_i h12
     exact Zqi (by simp only; omega) (by rw [Zja h12]; simp)
    ·exact fun e=>by simp only at e; omega
theorem Zsk {cs:List Cls}:∀ {n:Nat} {s:SN},Zfm s→Zfm (Zct cs n s).1:=by
 intro n
 induction n with
 | zero=>intro s h; exact h
 | succ n ih =>
  intro s h
  unfold Zct
  split
  ·rename_i hc
   exact ih (Zwp hc.1)
  ·exact h
theorem Zsl {cs:List Cls} {n:Nat} {s:SN} (h:Zfm s):Zfm (Zdf cs n s).1:=by
 unfold Zdf
 split
 ·exact h
 ·have h1:Zfm (Zct cs n { s with status:=0 }).1:=Zsk (fun e=>by simp at e)
  show Zfm (endN _)
  unfold endN
  split
  ·exact fun e=>by simp [Zfz] at e
  ·split
   ·split
    ·exact fun e=>by simp at e
    ·split
     ·exact fun e=>by simp [Zfz] at e
     ·exact h1
   ·exact h1
def Zzz (s:SN):Prop:=s.status=0→s.way≠[]∧s.tries<3000
theorem Yeu {cs:List Cls} {n:Nat} {s:SN} (h:Zzz s):Zzz (Zdf cs n s).1:=by
 unfold Zdf
 split
 ·exact h
 ·show Zzz (endN _)
  unfold endN
  split
  ·exact fun e=>by simp [Zfz] at e
  ·split
   ·split
    ·exact fun e=>by simp at e
    ·split
     ·exact fun e=>by simp [Zfz] at e
     ·rename_i h1 h2
      exact fun _=>⟨h1,by omega⟩
   ·rename_i h1
    exact fun e=>absurd e h1
theorem Ych {cs:List Cls}:∀ {n:Nat} {s:SN},(Zct cs n s).2≤n:=by
 intro n
 induction n with
 | zero=>intro s; simp [Zct]
 | succ n ih=>intro s; unfold Zct; split <;> simp [ih]
theorem Yci {cs:List Cls} {n:Nat} {s:SN}:(Zdf cs n s).2≤n:=by
 unfold Zdf
 split
 ·simp
 ·exact Ych
theorem Zwq {cs:List Cls}:∀ {n:Nat} {s:SN},(Zct cs n s).2<n→¬ ((Zct cs n s).1.status=0∧(Zct cs n s).1.way≠[]∧(Zct cs n s).1.tries<3000):=by
 intro n
 induction n with
 | zero=>intro s h; omega
 | succ n ih =>
  intro s h
  unfold Zct at h ⊢
  split at h
  ·rename_i hc
   rw [if_pos hc]
   exact ih (by simpa using h)
  ·rename_i hc
   rw [if_neg hc]
   exact hc
theorem Zwr {cs:List Cls} {n:Nat} {s:SN} (h:(Zdf cs n s).2<n):(Zdf cs n s).1.status≠0:=by
 unfold Zdf at h ⊢
 split at h
 ·rename_i hc
  rw [if_pos hc]
  simp only; omega
 ·rename_i hc
  rw [if_neg hc]
  have h1:=Zwq h
  simp only
  unfold endN
  split
  ·simp [Zfz]
  ·split
   ·rename_i h3 h0
    split
    ·simp
    ·split
     ·simp [Zfz]
     ·rename_i hw ht
      exact absurd ⟨h0,hw,by omega⟩ h1
   ·rename_i h0
    exact h0
theorem Zws {cs:List Cls} {n:Nat} {s:SN} (hn:0<n) (hs:s.status≠2∧s.status≠3) (h:(Zdf cs n s).1.status=0∨(Zdf cs n s).1.status=1):(Zdf cs n s).2≠0:=by
 intro h0
 unfold Zdf at h h0
 rw [if_neg (by omega)] at h h0
 simp only at h h0
 obtain ⟨m,rfl⟩:∃ m,n=m+1:=⟨n - 1,by omega⟩
 unfold Zct at h h0
 split at h
 ·rename_i hc
  rw [if_pos hc] at h0
  simp at h0
 ·rename_i hc
  simp only at h
  unfold endN at h
  simp only at h hc
  rw [if_neg (by omega),if_pos trivial] at h
  split at h
  ·simp at h
  ·rename_i hw
   split at h
   ·simp [Zfz] at h
   ·rename_i ht
    exact hc ⟨trivial,hw,by omega⟩
theorem Zqj (k:Nat):Lib.decDigits k≠[]:=by
 rw [Lib.decDigits]
 split <;> simp
theorem Zwt {names:Names} {n:ND} (h:n.vals.length=names.length):Zbb names n≠[]:=by
 unfold Zbb
 split
 ·simp
 ·rename_i hn
  have hl:=Zeu n.vals []
  cases names with
  | nil=>exact absurd rfl hn
  | cons x xs =>
   cases hc:(Zaw n.vals []).1 with
   | nil=>rw [hc] at hl; simp at hl h; omega
   | cons t ts=>simp [Zhl]
theorem Zsm {n:ND} (h:n.used≠[]):Zis n≠[]:=by
 unfold Zis
 cases hu:n.used with
 | nil=>exact absurd hu h
 | cons k ks =>
  simp only [Zek]
  intro e
  have h1:=List.append_eq_nil_iff.1 e
  exact Zqj k (List.append_eq_nil_iff.1 h1.2).1
theorem Ycj {cs:List Cls} {n:ND} {t:List UInt8} (h:TreeR cs n t):t≠[]:=by
 cases h <;> simp
theorem Zjt {cs:List Cls} {a:List (List Sym) × Names} {s:SN} (hI:InvN cs a s) (hF:Zfm s) :
  ((Zcs a s.status s.found s.tree).1=[]↔s.status≠1)∧((Zcs a s.status s.found s.tree).2.1=[]↔s.status≠1)∧((Zcs a s.status s.found s.tree).2.2=[]↔s.status≠2):=by
 unfold Zcs
 by_cases h1:s.status=1
 ·rw [if_pos h1]
  have ha:=Zwt (hI.found h1).2.1
  have hw:=Zsm (hF h1)
  simp [h1,ha,hw]
 ·rw [if_neg h1]
  by_cases h2:s.status=2
  ·rw [if_pos h2]
   have ht:=hI.tree (by omega)
   rw [hI.no h2] at ht
   have:=Ycj ht
   simp [h1,h2,this]
  ·rw [if_neg h2]
   simp [h1,h2]
structure Tr where
 ans:List (List UInt8)
 wts:List (List UInt8)
 tries:Nat
 status:Nat
def Zgn (size left:Nat):Nat:=if left<size then left else size
noncomputable def addN (a:List (List Sym) × Names) (t:Tr) (r:SN × Nat):Tr :=
 if r.1.status=1 then ⟨t.ans++[(Zcs a r.1.status r.1.found r.1.tree).1],t.wts++[(Zcs a r.1.status r.1.found r.1.tree).2.1],t.tries+r.2,r.1.status⟩ else ⟨t.ans,t.wts,t.tries+r.2,r.1.status⟩
noncomputable def aftN (cs:List Cls) (a:List (List Sym) × Names) (tries size:Nat):Nat→SN→Tr→SN × Tr
 | 0,m,t=>(m,t)
 | f+1,m,t=>if t.tries<tries then
   (if (Zdf cs (Zgn size (tries - t.tries)) m).1.status=2∨(Zdf cs (Zgn size (tries - t.tries)) m).1.status=3 then ((Zdf cs (Zgn size (tries - t.tries)) m).1,addN a t (Zdf cs (Zgn size (tries - t.tries)) m))
    else aftN cs a tries size f (Zdf cs (Zgn size (tries - t.tries)) m).1 (addN a t (Zdf cs (Zgn size (tries - t.tries)) m)))
   else (m,t)
def Zoe:List UInt8→List Nat→List UInt8
 | _,[]=>[]
 | sep,k::ks=>sep++(decC k++Zoe [46] ks)
theorem Zwu:∀ (sep:List UInt8) (ks:List Nat),Zoe sep ks=Zek sep ks:=by
 intro sep ks
 induction ks generalizing sep with
 | nil=>rfl
 | cons k ks ih=>simp only [Zoe,Zek,Zzy,ih]
def Yaa (a:List (List Sym) × Names) (s:SN):List UInt8 × List UInt8 × List UInt8:=if s.status=1 then (Zbb a.2 s.found,Zoe [] s.found.used,[]) else if s.status=2 then ([],[],s.tree) else ([],[],[])
theorem Zua {a:List (List Sym) × Names} {s t:SN} (h:RelS s t):Yaa a s=Zcs a t.status t.found t.tree:=by
 unfold Yaa Zcs
 rw [h.status,h.tree]
 split
 ·rename_i h1
  obtain ⟨hn,hs⟩:=h.found (by rw [h.status]; exact h1)
  rw [show Zbb a.2 s.found=Zbb a.2 t.found by unfold Zbb; rw [hs.valsC hn],Zwu,Zis,hs.used]
 ·rfl
def addC (a:List (List Sym) × Names) (t:Tr) (r:SN × Nat):Tr :=
 if r.1.status=1 then ⟨t.ans++[(Yaa a r.1).1],t.wts++[(Yaa a r.1).2.1],t.tries+r.2,r.1.status⟩ else ⟨t.ans,t.wts,t.tries+r.2,r.1.status⟩
def aftC (cs:List Cls) (a:List (List Sym) × Names) (tries size:Nat):Nat→SN→Tr→Option (SN × Tr)
 | 0,m,t=>some (m,t)
 | f+1,m,t=>if t.tries<tries then match Zki cs (Zgn size (tries - t.tries)) m with
   | none=>none
   | some r=>if r.1.status=2∨r.1.status=3 then some (r.1,addC a t r) else aftC cs a tries size f r.1 (addC a t r)
  else some (m,t)
theorem Yev {a:List (List Sym) × Names} {t:Tr} {r u:SN × Nat} (h:RelS r.1 u.1) (h2:r.2=u.2):addC a t r=addN a t u:=by
 unfold addC addN
 rw [Zua h,h.status,h2]
theorem Yew {cs:List Cls} (hcs:∀ c ∈ cs,COk c) {a:List (List Sym) × Names} {tries size:Nat}:∀ {f:Nat} {s m:SN} {t:Tr} {r:SN × Tr},RelS s m→aftC cs a tries size f s t=some r→RelS r.1 (aftN cs a tries size f m t).1∧r.2=(aftN cs a tries size f m t).2:=by
 intro f
 induction f with
 | zero=>intro s m t r h he; simp [aftC] at he; subst he; exact ⟨h,rfl⟩
 | succ f ih =>
  intro s m t r h he
  unfold aftC at he
  unfold aftN
  split at he
  ·rename_i hlt
   rw [if_pos hlt]
   cases hs:Zki cs (Zgn size (tries - t.tries)) s with
   | none=>rw [hs] at he; simp at he
   | some u =>
    rw [hs] at he
    simp only at he
    obtain ⟨h1,h2⟩:=h.step hcs hs
    rw [Yev h1 h2,h1.status] at he
    split at he
    ·rename_i hd
     rw [if_pos hd]
     simp at he
     subst he
     exact ⟨h1,rfl⟩
    ·rename_i hd
     rw [if_neg hd]
     exact ih h1 he
  ·rename_i hlt
   rw [if_neg hlt]
   simp at he
   subst he
   exact ⟨h,rfl⟩
def Zub (p q:List UInt8):Option (Tr × List UInt8):=match Zcl ⟨p.toArray⟩,Zdt ⟨q.toArray⟩ with
 | some cs,some a=>match aftC cs a 3001 3000 3002 (Zsj cs a) ⟨[],[],0,0⟩ with
  | some (u,t)=>some (t,(Yaa a u).2.2)
  | none=>none
 | _,_=>none
def Zhj (cs:List Cls):ND→List Nat→Nat→Option (ND × Nat × Nat)
 | n,[],i=>if n.goals.isEmpty then some (n,0,0) else some (n,7,i)
 | n,k::ks,i=>match cs[k]? with
  | none=>some (n,7,i)
  | some c=>if n.goals.isEmpty then some (n,7,i) else match tryC n c k with
   | none=>none
   | some (ch,q)=>if q=1∨q=2 then Zhj cs ch ks (i+1) else some (n,7,i)
theorem Zwv {cs:List Cls} (hcs:∀ c ∈ cs,COk c):∀ {ks:List Nat} {n m:ND} {i:Nat} {r:ND × Nat × Nat},NOk n→Same n m→Zhj cs n ks i=some r→(NOk r.1∧Same r.1 (Zas cs m ks i).1)∧r.2=(Zas cs m ks i).2:=by
 intro ks
 induction ks with
 | nil =>
  intro n m i r hn hs h
  have hg:=hs.gl
  unfold Zhj at h
  unfold Zas
  by_cases he:n.goals=[]
  ·have he':m.goals=[]:=List.eq_nil_of_length_eq_zero (by rw [← hg,he]; rfl)
   rw [if_pos (by simp [he])] at h
   rw [if_pos he']
   simp at h
   subst h
   exact ⟨⟨hn,hs⟩,rfl⟩
  ·have he':m.goals≠[]:=fun e=>he (List.eq_nil_of_length_eq_zero (by rw [hg,e]; rfl))
   rw [if_neg (by simpa using he)] at h
   rw [if_neg he']
   simp at h
   subst h
   exact ⟨⟨hn,hs⟩,rfl⟩
 | cons k ks ih =>
  intro n m i r hn hs h
  have hg:=hs.gl
  unfold Zhj at h
  unfold Zas
  cases hc:cs[k]? with
  | none =>
   rw [hc] at h
   simp at h
   subst h
   exact ⟨⟨hn,hs⟩,rfl⟩
  | some c =>
   rw [hc] at h
   simp only at h ⊢
   by_cases he:n.goals=[]
   ·have he':m.goals=[]:=List.eq_nil_of_length_eq_zero (by rw [← hg,he]; rfl)
    rw [if_pos (by simp [he])] at h
    rw [if_pos he']
    simp at h
    subst h
    exact ⟨⟨hn,hs⟩,rfl⟩
   ·have he':m.goals≠[]:=fun e=>he (List.eq_nil_of_length_eq_zero (by rw [hg,e]; rfl))
    rw [if_neg (by simpa using he)] at h
    rw [if_neg he']
    cases hq:tryC n c k with
    | none=>rw [hq] at h; simp at h
    | some cq =>
     obtain ⟨ch,q⟩:=cq
     rw [hq] at h
     simp only at h
     have hcc:=hcs c (Qh hc)
     obtain ⟨e1,e2⟩:=Zeo hn hs hcc (Zoc hn hcc hq)
     rw [← e1]
     split at h
     ·rename_i h12
      rw [if_pos h12]
      exact ih (e2 h12).1 (e2 h12).2 h
     ·rename_i h12
      rw [if_neg h12]
      simp at h
      subst h
      exact ⟨⟨hn,hs⟩,rfl⟩
def Yck (p q x:List UInt8):Option (List UInt8 × Nat × Nat):=match Zcl ⟨p.toArray⟩,Zdt ⟨q.toArray⟩ with
 | some cs,some a=>if 400<x.length then none else match Zdm (x.length+1) x 0 [] with
  | (none,at')=>some ([],6,at')
  | (some ks,_)=>match Zhj cs (topN a) ks 0 with
   | none=>none
   | some r=>if r.2.1=0 then some (Zbb a.2 r.1,0,0) else some ([],r.2.1,r.2.2)
 | _,_=>none
theorem Ycl {p q x:List UInt8} {r:List UInt8 × Nat × Nat} (h:Yck p q x=some r):yesN ⟨p.toArray⟩ ⟨q.toArray⟩ ⟨x.toArray⟩=r∧p.length≤800∧q.length≤120∧x.length≤400:=by
 unfold Yck at h
 cases hp:Zcl ⟨p.toArray⟩ with
 | none=>rw [hp] at h; simp at h
 | some cs =>
  cases hq:Zdt ⟨q.toArray⟩ with
  | none=>rw [hp,hq] at h; simp at h
  | some a =>
   rw [hp,hq] at h
   simp only at h
   obtain ⟨hps,_,_,hcs,_⟩:=Zcp hp
   obtain ⟨hqs,_,_,hOk,_,_,_,_,_⟩:=Zcm hq
   split at h
   ·simp at h
   ·rename_i hx
    have hx':¬ 400<(⟨x.toArray⟩:ByteArray).size:=by simpa [ByteArray.size] using hx
    refine ⟨?_,by simpa [ByteArray.size] using hps,by simpa [ByteArray.size] using hqs,by omega⟩
    have hnl:Zcv ⟨x.toArray⟩=Zdm (x.length+1) x 0 []:=by
     unfold Zcv
     simp [ByteArray.size]
    unfold yesN Zdx
    rw [hp,hq]
    simp only
    rw [if_neg hx',hnl]
    cases hn:Zdm (x.length+1) x 0 [] with
    | mk o at' =>
     rw [hn] at h
     cases o with
     | none=>simp at h; subst h; simp
     | some ks =>
      simp only at h ⊢
      cases hf:Zhj cs (topN a) ks 0 with
      | none=>rw [hf] at h; simp at h
      | some u =>
       rw [hf] at h
       simp only at h
       obtain ⟨⟨h1,h2⟩,h3⟩:=Zwv (fun c hc=>(hcs c hc).1) hOk (Same.refl hOk) hf
       have h4:(Zas cs (topN a) ks 0).2.1=u.2.1:=by rw [h3]
       have h5:(Zas cs (topN a) ks 0).2.2=u.2.2:=by rw [h3]
       rw [h4,h5]
       split at h
       ·rename_i h0
        rw [if_pos h0]
        simp at h
        rw [← h,show Zbb a.2 u.1=Zbb a.2 (Zas cs (topN a) ks 0).1 by unfold Zbb; rw [h2.valsC h1]]
       ·rename_i h0
        rw [if_neg h0]
        simp at h
        exact h
theorem Ycm {p q x:List UInt8} {r:List UInt8 × Nat × Nat} (h:Yck p q x=some r) (w:World) :
  Calls Tryz.prog 18 #[.string ⟨p.toArray⟩,.string ⟨q.toArray⟩,.string ⟨x.toArray⟩] w fun e w'=>e = .returned (.tuple #[.string ⟨r.1.toArray⟩,.int .i64 r.2.1,.int .i64 r.2.2])∧Ext w w':=by
 obtain ⟨h1,h2,h3,h4⟩:=Ycl h
 have:=Ycg ⟨p.toArray⟩ ⟨q.toArray⟩ ⟨x.toArray⟩ w (by simp only [maxLen,ByteArray.size,List.size_toArray]; omega) (by simp only [maxLen,ByteArray.size,List.size_toArray]; omega) (by simp only [maxLen,ByteArray.size,List.size_toArray]; omega)
 rw [h1] at this
 exact this
def Zdv (l:List UInt8):Nat→Nat→Nat→Bool→Option Nat
 | 0,p,_,_=>some p
 | f+1,p,o,due=>match l[p]? with
  | none=>if due=true∨0<o then some p else none
  | some c=>if due=true then (if c=33 then Zdv l f (p+1) o false else if c=40 then Zdv l f (p+1) (o+1) false else some p)
    else if o=0 then some p
    else if c=41 then Zdv l f (p+1) (o - 1) false
    else if (Zak (l.drop p)).2=0 then some p else Zdv l f (p+(Zak (l.drop p)).2) o true
def Zff (l:List UInt8):Option Nat:=Zdv l (l.length+1) 0 0 true
def Sh (l:List UInt8) (p o:Nat) (due:Bool):Prop:=∃ f,l.length<f+p∧Zdv l f p o due=none
theorem Sh.start {l:List UInt8} (h:Zff l=none):Sh l 0 0 true:=⟨l.length+1,by omega,h⟩
theorem Sh.due {l:List UInt8} {p o:Nat} (h:Sh l p o true):(l[p]?=some 33∧Sh l (p+1) o false)∨(l[p]?=some 40∧Sh l (p+1) (o+1) false):=by
 obtain ⟨f,h1,h2⟩:=h
 cases f with
 | zero=>simp [Zdv] at h2
 | succ f =>
  unfold Zdv at h2
  cases hc:l[p]? with
  | none=>rw [hc] at h2; simp at h2
  | some c =>
   rw [hc] at h2
   simp only [if_true] at h2
   split at h2
   ·rename_i e; subst e; exact Or.inl ⟨rfl,f,by omega,h2⟩
   ·split at h2
    ·rename_i e; subst e; exact Or.inr ⟨rfl,f,by omega,h2⟩
    ·simp at h2
theorem Sh.open {l:List UInt8} {p o:Nat} (h:Sh l p (o+1) false):(l[p]?=some 41∧Sh l (p+1) o false)∨(∃ c,l[p]?=some c∧c≠41∧(Zak (l.drop p)).2≠0∧Sh l (p+(Zak (l.drop p)).2) (o+1) true):=by
 obtain ⟨f,h1,h2⟩:=h
 cases f with
 | zero=>simp [Zdv] at h2
 | succ f =>
  unfold Zdv at h2
  cases hc:l[p]? with
  | none=>rw [hc] at h2; simp at h2
  | some c =>
   rw [hc] at h2
   simp only [Bool.false_eq_true,if_false,Nat.add_one_ne_zero,Nat.add_sub_cancel] at h2
   split at h2
   ·rename_i e; subst e; exact Or.inl ⟨rfl,f,by omega,h2⟩
   ·rename_i e
    split at h2
    ·simp at h2
    ·rename_i e2
     exact Or.inr ⟨c,rfl,e,e2,f,by omega,h2⟩
structure HN where
 at':Nat
 wrong:Bool
 ans:List (List UInt8)
mutual
inductive HoldR (cs:List Cls) (names:Names) (l:List UInt8):ND→Nat→List (List UInt8)→HN→Prop
 | leaf (n:ND) (p:Nat) (A:List (List UInt8)) (hc:l[p]?=some 33) (h:n.goals=[]):HoldR cs names l n p A ⟨p+1,false,A++[Zbb names n]⟩
 | noleaf (n:ND) (p:Nat) (A:List (List UInt8)) (hc:l[p]?=some 33) (h:n.goals≠[]):HoldR cs names l n p A ⟨p,true,A⟩
 | nonode (n:ND) (p:Nat) (A:List (List UInt8)) (hc:l[p]?=some 40) (h:n.goals=[]):HoldR cs names l n p A ⟨p,true,A⟩
 | node (n:ND) (p:Nat) (A:List (List UInt8)) (R:HN) (hc:l[p]?=some 40) (h:n.goals≠[]) (hk:KidsR cs names l n cs.length 0 (p+1) A R):HoldR cs names l n p A R
inductive KidsR (cs:List Cls) (names:Names) (l:List UInt8):ND→Nat→Nat→Nat→List (List UInt8)→HN→Prop
 | shut (n:ND) (k p:Nat) (A:List (List UInt8)) (hc:l[p]?=some 41):KidsR cs names l n 0 k p A ⟨p+1,false,A⟩
 | noshut (n:ND) (k p:Nat) (A:List (List UInt8)) (c:UInt8) (hc:l[p]?=some c) (hn:c≠41):KidsR cs names l n 0 k p A ⟨p,true,A⟩
 | miss (n:ND) (f k p:Nat) (A:List (List UInt8)) (c:Cls) (R:HN) (hc:cs[k]?=some c) (hq:(tryN n c k).2=0) (h:KidsR cs names l n f (k+1) p A R):KidsR cs names l n (f+1) k p A R
 | off (n:ND) (f k p:Nat) (A:List (List UInt8)) (c:Cls) (hc:cs[k]?=some c) (hq:(tryN n c k).2≠0) (hw:(Zak (l.drop p)).2=0∨(Zak (l.drop p)).1≠k∨(tryN n c k).2=3):KidsR cs names l n (f+1) k p A ⟨p,true,A⟩
 | bad (n:ND) (f k p:Nat) (A:List (List UInt8)) (c:Cls) (R:HN) (hc:cs[k]?=some c) (hq:(tryN n c k).2=1∨(tryN n c k).2=2) (hs:(Zak (l.drop p)).2≠0) (hv:(Zak (l.drop p)).1=k) (h:HoldR cs names l (tryN n c k).1 (p+(Zak (l.drop p)).2) A R) (hw:R.wrong=true):KidsR cs names l n (f+1) k p A R
 | kid (n:ND) (f k p:Nat) (A:List (List UInt8)) (c:Cls) (R R2:HN) (hc:cs[k]?=some c) (hq:(tryN n c k).2=1∨(tryN n c k).2=2) (hs:(Zak (l.drop p)).2≠0) (hv:(Zak (l.drop p)).1=k) (h:HoldR cs names l (tryN n c k).1 (p+(Zak (l.drop p)).2) A R) (hw:R.wrong=false) (h2:KidsR cs names l n f (k+1) R.at' R.ans R2):KidsR cs names l n (f+1) k p A R2
end
theorem Yex (cs:List Cls) (names:Names) (l:List UInt8):∀ (d:Nat) (n:ND) (p o:Nat) (A:List (List UInt8)),l.length - p≤d→Sh l p o true→∃ R,HoldR cs names l n p A R∧(R.wrong=false→p<R.at'∧Sh l R.at' o false):=by
 intro d
 induction d with
 | zero =>
  intro n p o A hd hs
  exfalso
  rcases hs.due with ⟨h,_⟩ | ⟨h,_⟩
  ·have:=(Qa.1 h).1; omega
  ·have:=(Qa.1 h).1; omega
 | succ d ih =>
  intro n p o A hd hs
  rcases hs.due with ⟨hc,hs1⟩ | ⟨hc,hs1⟩
  ·by_cases hg:n.goals=[]
   ·exact ⟨_,.leaf n p A hc hg,fun _=>⟨Nat.lt_succ_self _,hs1⟩⟩
   ·exact ⟨_,.noleaf n p A hc hg,fun h=>by simp at h⟩
  ·have hpl:=(Qa.1 hc).1
   by_cases hg:n.goals=[]
   ·exact ⟨_,.nonode n p A hc hg,fun h=>by simp at h⟩
   ·have kids:∀ (f k p':Nat) (A:List (List UInt8)),f+k=cs.length→p<p'→Sh l p' (o+1) false→∃ R,KidsR cs names l n f k p' A R∧(R.wrong=false→p<R.at'∧Sh l R.at' o false):=by
     intro f
     induction f with
     | zero =>
      intro k p' A hk hp hs
      rcases hs.open with ⟨h1,h2⟩ | ⟨c,h1,h2,_⟩
      ·exact ⟨_,.shut n k p' A h1,fun _=>⟨by show p<p'+1; omega,h2⟩⟩
      ·exact ⟨_,.noshut n k p' A c h1 h2,fun h=>by simp at h⟩
     | succ f ihf =>
      intro k p' A hk hp hs
      obtain ⟨c,hc⟩:∃ c,cs[k]?=some c:=⟨_,Qb (by omega)⟩
      by_cases hq0:(tryN n c k).2=0
      ·obtain ⟨R,h1,h2⟩:=ihf (k+1) p' A (by omega) hp hs
       exact ⟨R,.miss n f k p' A c R hc hq0 h1,h2⟩
      ·by_cases hw:(Zak (l.drop p')).2=0∨(Zak (l.drop p')).1≠k∨(tryN n c k).2=3
       ·exact ⟨_,.off n f k p' A c hc hq0 hw,fun h=>by simp at h⟩
       ·have hsz:(Zak (l.drop p')).2≠0:=fun h=>hw (Or.inl h)
        have hv:(Zak (l.drop p')).1=k:=by
         by_cases h:(Zak (l.drop p')).1=k
         ·exact h
         ·exact absurd (Or.inr (Or.inl h)) hw
        have hq:(tryN n c k).2=1∨(tryN n c k).2=2:=by
         have:=Zfx n c k
         have h3:(tryN n c k).2≠3:=fun h=>hw (Or.inr (Or.inr h))
         omega
        rcases hs.open with ⟨h1,_⟩ | ⟨c',h1,h2,_,h4⟩
        ·exfalso
         have hl:p'<l.length:=(Qa.1 h1).1
         have e:l.drop p'=41::l.drop (p'+1):=by rw [List.drop_eq_getElem_cons hl,(Qa.1 h1).2]
         rw [e] at hsz
         simp [Zak,figB] at hsz
        ·obtain ⟨R,g1,g2⟩:=ih (tryN n c k).1 (p'+(Zak (l.drop p')).2) (o+1) A (by omega) h4
         cases hRw:R.wrong with
         | true=>exact ⟨R,.bad n f k p' A c R hc hq hsz hv g1 hRw,fun h=>by rw [hRw] at h; simp at h⟩
         | false =>
          obtain ⟨g3,g4⟩:=g2 hRw
          obtain ⟨R2,k1,k2⟩:=ihf (k+1) R.at' R.ans (by omega) (by omega) g4
          exact ⟨R2,.kid n f k p' A c R R2 hc hq hsz hv g1 hRw k1,k2⟩
    obtain ⟨R,h1,h2⟩:=kids cs.length 0 (p+1) A (by omega) (by omega) hs1
    exact ⟨R,.node n p A R hc hg h1,h2⟩
theorem Yey {s:ByteArray} {p:Nat} (h:p<s.size):s.data.toList[p]?=some s[p]:=by
 have hl:p<s.data.toList.length:=by simpa using h
 rw [Qb hl]
 rfl
theorem Ycn {c d:UInt8} (h:c≠d):(c.toNat:Int)≠(d.toNat:Int):=fun e=>h (UInt8.toNat.inj (by omega))
def Yab (P:ND→Nat→List (List UInt8)→HN→Prop) (cs:List Cls) (l:List UInt8) (n:ND):Nat→Nat→Nat→List (List UInt8)→HN→Prop
 | 0,k,p,A,R=>(l[p]?=some 41∧R=⟨p+1,false,A⟩)∨(∃ c,l[p]?=some c∧c≠41∧R=⟨p,true,A⟩)
 | f+1,k,p,A,R=>∃ c,cs[k]?=some c∧(((tryN n c k).2=0∧Yab P cs l n f (k+1) p A R) ∨
   ((tryN n c k).2≠0∧((Zak (l.drop p)).2=0∨(Zak (l.drop p)).1≠k∨(tryN n c k).2=3)∧R=⟨p,true,A⟩) ∨
   (((tryN n c k).2=1∨(tryN n c k).2=2)∧(Zak (l.drop p)).2≠0∧(Zak (l.drop p)).1=k∧∃ R1,P (tryN n c k).1 (p+(Zak (l.drop p)).2) A R1∧((R1.wrong=true∧R=R1)∨(R1.wrong=false∧Yab P cs l n f (k+1) R1.at' R1.ans R))))
theorem HoldR.ind {cs:List Cls} {names:Names} {l:List UInt8} {P:ND→Nat→List (List UInt8)→HN→Prop}
  (h1:∀ n p A,l[p]?=some 33→n.goals=[]→P n p A ⟨p+1,false,A++[Zbb names n]⟩) (h2:∀ n p A,l[p]?=some 33→n.goals≠[]→P n p A ⟨p,true,A⟩) (h3:∀ n p A,l[p]?=some 40→n.goals=[]→P n p A ⟨p,true,A⟩)
  (h4:∀ n p A R,l[p]?=some 40→n.goals≠[]→Yab P cs l n cs.length 0 (p+1) A R→P n p A R) {n:ND} {p:Nat} {A:List (List UInt8)} {R:HN} (h:HoldR cs names l n p A R):P n p A R:=by
 refine HoldR.rec (motive_1:=fun n p A R _=>P n p A R) (motive_2:=fun n f k p A R _=>Yab P cs l n f k p A R) ?_ ?_ ?_ ?_ ?_ ?_ ?_ ?_ ?_ ?_ h
 ·intro n p A hc hg; exact h1 n p A hc hg
 ·intro n p A hc hg; exact h2 n p A hc hg
 ·intro n p A hc hg; exact h3 n p A hc hg
 ·intro n p A R hc hg _ ih; exact h4 n p A R hc hg ih
 ·intro n k p A hc; exact Or.inl ⟨hc,rfl⟩
 ·intro n k p A c hc hn; exact Or.inr ⟨c,hc,hn,rfl⟩
 ·intro n f k p A c R hc hq _ ih; exact ⟨c,hc,Or.inl ⟨hq,ih⟩⟩
 ·intro n f k p A c hc hq hw; exact ⟨c,hc,Or.inr (Or.inl ⟨hq,hw,rfl⟩)⟩
 ·intro n f k p A c R hc hq hs hv _ hw ih; exact ⟨c,hc,Or.inr (Or.inr ⟨hq,hs,hv,R,ih,Or.inl ⟨hw,rfl⟩⟩)⟩
 ·intro n f k p A c R R2 hc hq hs hv _ hw _ ih ih2; exact ⟨c,hc,Or.inr (Or.inr ⟨hq,hs,hv,R,ih,Or.inr ⟨hw,ih2⟩⟩)⟩
theorem box3' {w:World} {b:Nat} {u0 u1 u2:Value} {t:TypeId} (h:w.heap[b]?=some (.cells #[u0,u1,u2] t (0,0))) :
  w.cell? ⟨b,0,none⟩=some u0∧w.cell? ⟨b,1,none⟩=some u1∧w.cell? ⟨b,2,none⟩=some u2∧∀ i,w.frozen? ⟨b,i,none⟩=false :=
 ⟨Zaa h 0 _ rfl,Zaa h 1 _ rfl,Zaa h 2 _ rfl,fun i=>Zad h i⟩
open Classical in
noncomputable def Zlw (cs:List Cls) (a:List (List Sym) × Names) (l:List UInt8):HN:=if h:∃ R,HoldR cs a.2 l (topN a) 0 [] R then Classical.choose h else ⟨0,true,[]⟩
theorem Yco (cs:List Cls) (a:List (List Sym) × Names) {l:List UInt8} (h:Zff l=none):HoldR cs a.2 l (topN a) 0 [] (Zlw cs a l):=by
 obtain ⟨R,hR,_⟩:=Yex cs a.2 l l.length (topN a) 0 0 [] (by omega) (Sh.start h)
 have hex:∃ R,HoldR cs a.2 l (topN a) 0 [] R:=⟨R,hR⟩
 unfold Zlw
 rw [dif_pos hex]
 exact Classical.choose_spec hex
noncomputable def allN (p q t:ByteArray):List (List UInt8) × Nat × Nat :=
 match Zcl p with
 | none=>([],4,0)
 | some cs=>match Zdt q with
  | none=>([],5,0)
  | some a=>if 20000<t.size then ([],1,0) else match Zff t.data.toList with
   | some pl=>([],6,pl)
   | none=>if (Zlw cs a t.data.toList).wrong=true then ([],7,(Zlw cs a t.data.toList).at') else ((Zlw cs a t.data.toList).ans,0,0)
def Zqk (p q t:ByteArray) (w:World) (e:Ending) (w':World):Prop:=Ext w w'∧∃ va vc,e = .returned (.tuple #[.slice va (allN p q t).1.length vc,.int .i64 (allN p q t).2.1,.int .i64 (allN p q t).2.2])∧w'.ownsRow w.heap.size 9 1 (.slice va (allN p q t).1.length vc) (allN p q t).1.length (strs (allN p q t).1)
theorem Yac {p q t:ByteArray} {w w':World} {er pl:Nat} (h:allN p q t=([],er,pl)) (hE:Ext w w'):Zqk p q t w (.returned (.tuple #[.slice none 0 0,.int .i64 er,.int .i64 pl])) w':=by
 refine ⟨hE,none,0,?_,?_⟩
 ·rw [h]; rfl
 ·rw [h]; exact World.ownsRow_nil _ _ _ _
noncomputable def Zec (cs:List Cls) (n:ND):Nat→Nat→Option (Nat × Cls)
 | 0,_=>none
 | f+1,k=>match cs[k]? with
  | none=>none
  | some c=>if (tryN n c k).2=0 then Zec cs n f (k+1) else some (k,c)
structure HM where
 ok:Bool
 at':Nat
 way:List (ND × Nat)
 ans:List (List UInt8)
def Zca (names:Names) (l:List UInt8) (n:ND) (p:Nat) (way:List (ND × Nat)) (A:List (List UInt8)):HM :=
 if n.goals=[] then (if l[p]?=some 33 then ⟨true,p+1,way,A++[Zbb names n]⟩ else ⟨false,p,way,A⟩)
 else if l[p]?=some 40 then ⟨true,p+1,(n,0)::way,A⟩ else ⟨false,p,way,A⟩
noncomputable def goM (cs:List Cls) (names:Names) (l:List UInt8) (n:ND) (k p:Nat) (r:List (ND × Nat)) (A:List (List UInt8)):HM :=
 match Zec cs n (cs.length - k) k with
 | none=>if l[p]?=some 41 then ⟨true,p+1,r,A⟩ else ⟨false,p,(n,cs.length)::r,A⟩
 | some (j,c)=>if (tryN n c j).2=3∨(Zak (l.drop p)).2=0∨(Zak (l.drop p)).1≠j then ⟨false,p,(n,j+1)::r,A⟩ else Zca names l (tryN n c j).1 (p+(Zak (l.drop p)).2) ((n,j+1)::r) A
inductive Goes (cs:List Cls) (names:Names) (l:List UInt8):Nat→List (ND × Nat)→List (List UInt8)→HN→Prop
 | done (p:Nat) (A:List (List UInt8)):Goes cs names l p [] A ⟨p,false,A⟩
 | wrong (n:ND) (k p:Nat) (r:List (ND × Nat)) (A:List (List UInt8)) (R:HN) (h:(goM cs names l n k p r A).ok=false) (hw:R.wrong=true) (ha:R.at'=(goM cs names l n k p r A).at'):Goes cs names l p ((n,k)::r) A R
 | step (n:ND) (k p:Nat) (r:List (ND × Nat)) (A:List (List UInt8)) (R:HN) (h:(goM cs names l n k p r A).ok=true) (hg:Goes cs names l (goM cs names l n k p r A).at' (goM cs names l n k p r A).way (goM cs names l n k p r A).ans R):Goes cs names l p ((n,k)::r) A R
def Zof (cs:List Cls) (names:Names) (l:List UInt8) (M:HM) (R:HN):Prop:=(M.ok=true→Goes cs names l M.at' M.way M.ans R)∧(M.ok=false→R.wrong=true∧R.at'=M.at')
theorem Zog {cs:List Cls} {names:Names} {l:List UInt8} {n:ND} {k p:Nat} {r:List (ND × Nat)} {A:List (List UInt8)} {R:HN} (h:Zof cs names l (goM cs names l n k p r A) R):Goes cs names l p ((n,k)::r) A R:=by
 cases hk:(goM cs names l n k p r A).ok with
 | true=>exact .step n k p r A R hk (h.1 hk)
 | false=>exact .wrong n k p r A R hk (h.2 hk).1 (h.2 hk).2
theorem Zsn {cs:List Cls} {names:Names} {l:List UInt8} {n:ND} {k p:Nat} {r:List (ND × Nat)} {A:List (List UInt8)} {R:HN} (h:Goes cs names l p ((n,k)::r) A R):Zof cs names l (goM cs names l n k p r A) R:=by
 cases h with
 | wrong _ _ _ _ _ _ h hw ha=>exact ⟨fun e=>by rw [h] at e; simp at e,fun _=>⟨hw,ha⟩⟩
 | step _ _ _ _ _ _ h hg=>exact ⟨fun _=>hg,fun e=>by rw [h] at e; simp at e⟩
theorem Zuc {cs:List Cls} {names:Names} {l:List UInt8} {p:Nat} {A:List (List UInt8)} {R:HN} (h:Goes cs names l p [] A R):R=⟨p,false,A⟩:=by
 cases h; rfl
theorem Ycp {cs:List Cls} {names:Names} {l:List UInt8} {n:ND} {k p:Nat} {r:List (ND × Nat)} {A:List (List UInt8)} {c:Cls} (hc:cs[k]?=some c) (hq:(tryN n c k).2=0):goM cs names l n k p r A=goM cs names l n (k+1) p r A:=by
 have hk:=(Qa.1 hc).1
 unfold goM
 rw [show cs.length - k=(cs.length - (k+1))+1 by omega,Zec,hc]
 simp only [hq,if_true]
theorem Yad {cs:List Cls} {names:Names} {l:List UInt8} {n:ND} {p:Nat} {A:List (List UInt8)} {R:HN} (h:HoldR cs names l n p A R):∀ (way:List (ND × Nat)) (Rf:HN),(R.wrong=false→Goes cs names l R.at' way R.ans Rf)→(R.wrong=true→Rf.wrong=true∧Rf.at'=R.at')→Zof cs names l (Zca names l n p way A) Rf:=by
 refine HoldR.ind (P:=fun n p A R=>∀ (way:List (ND × Nat)) (Rf:HN),(R.wrong=false→Goes cs names l R.at' way R.ans Rf)→(R.wrong=true→Rf.wrong=true∧Rf.at'=R.at')→Zof cs names l (Zca names l n p way A) Rf) ?_ ?_ ?_ ?_ h
 ·intro n p A hc hg way Rf h1 _
  unfold Zca
  rw [if_pos hg,if_pos hc]
  exact ⟨fun _=>h1 rfl,fun e=>by simp at e⟩
 ·intro n p A hc hg way Rf _ h2
  unfold Zca
  rw [if_neg hg,if_neg (by rw [hc]; simp)]
  exact ⟨fun e=>by simp at e,fun _=>h2 rfl⟩
 ·intro n p A hc hg way Rf _ h2
  unfold Zca
  rw [if_pos hg,if_neg (by rw [hc]; simp)]
  exact ⟨fun e=>by simp at e,fun _=>h2 rfl⟩
 ·intro n p A R hc hg hk way Rf h1 h2
  unfold Zca
  rw [if_neg hg,if_pos hc]
  refine ⟨fun _ => ?_,fun e=>by simp at e⟩
  show Goes cs names l (p+1) ((n,0)::way) A Rf
  have key:∀ (f k p:Nat) (A:List (List UInt8)),f+k=cs.length→Yab (fun n p A R=>∀ (way:List (ND × Nat)) (Rf:HN),(R.wrong=false→Goes cs names l R.at' way R.ans Rf)→(R.wrong=true→Rf.wrong=true∧Rf.at'=R.at')→Zof cs names l (Zca names l n p way A) Rf) cs l n f k p A R→Goes cs names l p ((n,k)::way) A Rf:=by
   intro f
   induction f with
   | zero =>
    intro k p A hf hs
    refine Zog ?_
    unfold goM
    rw [show cs.length - k=0 by omega,Zec]
    simp only
    rcases hs with ⟨h3,rfl⟩ | ⟨c,h3,h4,rfl⟩
    ·rw [if_pos h3]
     exact ⟨fun _=>h1 rfl,fun e=>by simp at e⟩
    ·rw [if_neg (by rw [h3]; simpa using h4)]
     exact ⟨fun e=>by simp at e,fun _=>h2 rfl⟩
   | succ f ih =>
    intro k p A hf hs
    obtain ⟨c,hc,h⟩:=hs
    rcases h with ⟨hq,h⟩ | ⟨hq,hw,rfl⟩ | ⟨hq,hs,hv,R1,hP,h⟩
    ·have:=Zsn (ih (k+1) p A (by omega) h)
     rw [← Ycp hc hq] at this
     exact Zog this
    ·refine Zog ?_
     unfold goM
     rw [show cs.length - k=f+1 by omega,Zec,hc]
     simp only
     rw [if_neg hq]
     simp only
     rw [if_pos (by rcases hw with h | h | h <;> simp [h])]
     exact ⟨fun e=>by simp at e,fun _=>h2 rfl⟩
    ·refine Zog ?_
     unfold goM
     rw [show cs.length - k=f+1 by omega,Zec,hc]
     simp only
     rw [if_neg (by omega)]
     simp only
     rw [if_neg (by rintro (h | h | h); omega; exact hs h; exact h hv)]
     refine hP _ Rf (fun hw => ?_) (fun hw => ?_)
     ·rcases h with ⟨h,_⟩ | ⟨_,h⟩
      ·rw [hw] at h; simp at h
      ·exact ih (k+1) _ _ (by omega) h
     ·rcases h with ⟨_,rfl⟩ | ⟨h,_⟩
      ·exact h2 hw
      ·rw [hw] at h; simp at h
  exact key cs.length 0 (p+1) A (by omega) hk
theorem Zql (cs:List Cls) (a:List (List Sym) × Names) {l:List UInt8} (h:Zff l=none):Zof cs a.2 l (Zca a.2 l (topN a) 0 [] []) (Zlw cs a l) :=
 Yad (Yco cs a h) [] _ (fun hw=>by
  have:Zlw cs a l=⟨(Zlw cs a l).at',false,(Zlw cs a l).ans⟩:=by
   rw [← hw]
  rw [this]
  exact .done _ _) (fun hw=>⟨hw,rfl⟩)
def Zce (t:TypeId):Prop:=t=102∨t=72∨t=74∨t=9∨t=3
def OffCode (S:Nat→Prop) (w:World):Prop:=∀ k,S k→∃ cl t fr,w.heap[k]?=some (.cells cl t fr)∧¬ Zce t
theorem OffCode.own {S:Nat→Prop} {w w':World} {B:Nat} {e:TypeId} {size n:Nat} {v:Value} {xs:List Value} (hS:OffCode S w) (he:Zce e) (hk:Kept S w w') (h:w.ownsRow B e size v n xs):w'.ownsRow B e size v n xs :=
 Zaj h (fun k hj=>hk.block k (h.lt k hj).2 (fun hs=>by
  obtain ⟨cl,t,fr,h1,h2⟩:=hS k hs
  rcases h.2 with ⟨rfl,_⟩ | ⟨g,cap,cur,rfl,_,hg,_⟩
  ·simp [Zbj,Value.ownBlock] at hj
  ·simp [Zbj,Value.ownBlock] at hj
   subst hj
   rw [hg] at h1
   simp at h1
   exact h2 (h1.2.1 ▸ he)))
theorem OffCode.terms {S:Nat→Prop} {w w':World} {v:Value} {ls:List (List Sym)} (hS:OffCode S w) (hk:Kept S w w') (h:TermsIn w v ls):TermsIn w' v ls:=by
 obtain ⟨vs,h⟩:=h
 exact ⟨vs,hS.own (by simp [Zce]) hk h.owns,fun i l hl=>by
  obtain ⟨x,h1,h2⟩:=h.all i l hl
  exact ⟨x,h1,hS.own (by simp [Zce]) hk h2⟩⟩
theorem OffCode.prog {S:Nat→Prop} {w w':World} {v:Value} {cs:List Cls} {xs:List (List Value)} (hS:OffCode S w) (hk:Kept S w w') (h:ProgIn w v cs xs):ProgIn w' v cs xs :=
 ⟨hS.own (by simp [Zce]) hk h.owns,h.len,h.three,fun i c hc=>by
  obtain ⟨hv,bv,vv,h1,h2⟩:=h.all i c hc
  exact ⟨hv,bv,vv,h1,hS.own (by simp [Zce]) hk h2.head,hS.terms hk h2.body,hS.own (by simp [Zce]) hk h2.names⟩⟩
def CNode (w:World) (gv vv rv uv:Value) (n0:ND):Prop:=∃ n,NodeIn w gv vv rv n∧uv = .int .i64 n.vars∧NOk n∧NNm n∧NFew n∧Same n n0
theorem CNode.ext {w w':World} {gv vv rv uv:Value} {n0:ND} (h:CNode w gv vv rv uv n0) (e:Ext w w'):CNode w' gv vv rv uv n0:=by
 obtain ⟨n,h1,h2⟩:=h
 exact ⟨n,h1.ext e,h2⟩
theorem CNode.keep {S:Nat→Prop} {w w':World} {gv vv rv uv:Value} {n0:ND} (h:CNode w gv vv rv uv n0) (hk:Kept S w w') (hS:OffCode S w):CNode w' gv vv rv uv n0:=by
 obtain ⟨n,h1,h2⟩:=h
 exact ⟨n,⟨hS.terms hk h1.goals,hS.terms hk h1.vals,hS.terms hk h1.done⟩,h2⟩
theorem CNode.shape {w:World} {gv vv rv uv:Value} {n0:ND} (h:CNode w gv vv rv uv n0):∃ ga gc va vl vc ra rl rc,∃ u:Nat,gv = .slice ga n0.goals.length gc∧vv = .slice va vl vc∧rv = .slice ra rl rc∧uv = .int .i64 u∧u≤101000:=by
 obtain ⟨n,h1,rfl,h3,_,_,hs⟩:=h
 obtain ⟨ga,gcap,rfl⟩:=h1.goals.shape
 obtain ⟨va,vcap,rfl⟩:=h1.vals.shape
 obtain ⟨ra,rcap,rfl⟩:=h1.done.shape
 exact ⟨ga,gcap,va,_,vcap,ra,_,rcap,n.vars,by rw [Ql,hs.gl],rfl,rfl,rfl,by have:=h3.vars; have:=h3.ul; omega⟩
structure RowL (w:World) (v:Value) (ds:List (ND × Nat)) (xs:List Value):Prop where
 owns:w.ownsRow 0 104 5 v ds.length xs
 all:∀ (i:Nat) (d:ND × Nat),ds[i]?=some d→∃ x0 x1 x2 x3,xs[i * 5]?=some x0∧xs[i * 5+1]?=some x1∧xs[i * 5+2]?=some x2∧xs[i * 5+3]?=some x3∧xs[i * 5+4]?=some (.int .i64 d.2)∧CNode w x0 x1 x2 x3 d.1
theorem RowL.nil (w:World):RowL w (.slice none 0 0) [] []:=⟨World.ownsRow_nil _ _ _ _,fun i d h=>by simp at h⟩
theorem RowL.ext {w w':World} {v:Value} {ds:List (ND × Nat)} {xs:List Value} (h:RowL w v ds xs) (e:Ext w w'):RowL w' v ds xs :=
 ⟨Zaj h.owns (fun k hk=>e.block k (h.owns.lt k hk).2),fun i d hd=>by
  obtain ⟨x0,x1,x2,x3,y0,y1,y2,y3,y4,g⟩:=h.all i d hd
  exact ⟨x0,x1,x2,x3,y0,y1,y2,y3,y4,g.ext e⟩⟩
theorem RowL.keep {S:Nat→Prop} {w w':World} {v:Value} {ds:List (ND × Nat)} {xs:List Value} (h:RowL w v ds xs) (hk:Kept S w w') (hS:OffCode S w) (ho:∀ k,v.ownBlock=some k→¬ S k):RowL w' v ds xs :=
 ⟨Zaj h.owns (fun k hj=>hk.block k (h.owns.lt k hj).2 (ho k hj)),fun i d hd=>by
  obtain ⟨x0,x1,x2,x3,y0,y1,y2,y3,y4,g⟩:=h.all i d hd
  exact ⟨x0,x1,x2,x3,y0,y1,y2,y3,y4,g.keep hk hS⟩⟩
theorem RowL.pop {w:World} {g n cap:Nat} {ds:List (ND × Nat)} {d:ND × Nat} {xs:List Value} (h:RowL w (.slice (some ⟨g,0,none⟩) (n+1) cap) (ds++[d]) xs) (hn:ds.length=n):RowL w (.slice (some ⟨g,0,none⟩) n cap) ds (xs.take (n * 5)):=by
 have ho:=h.owns
 rw [Qg,Qn,hn] at ho
 refine ⟨by rw [hn]; exact Zqf ho,fun i x hx => ?_⟩
 have hi:=(Qa.1 hx).1
 obtain ⟨x0,x1,x2,x3,y0,y1,y2,y3,y4,g⟩:=h.all i x (by rw [Qc hi]; exact hx)
 exact ⟨x0,x1,x2,x3,by rw [List.getElem?_take_of_lt (by omega)]; exact y0,by rw [List.getElem?_take_of_lt (by omega)]; exact y1,by rw [List.getElem?_take_of_lt (by omega)]; exact y2,by rw [List.getElem?_take_of_lt (by omega)]; exact y3,by rw [List.getElem?_take_of_lt (by omega)]; exact y4,g⟩
theorem Zij {w:World} {B n size:Nat} {v:Value} {xs:List Value} (h:w.ownsRow B 104 size v n xs):OffCode (Zbj v) w:=fun j hj=>by
 rcases h.2 with ⟨rfl,_⟩ | ⟨g,cap,cur,rfl,_,hg,_⟩
 ·simp [Zbj,Value.ownBlock] at hj
 ·simp [Zbj,Value.ownBlock] at hj
  subst hj
  exact ⟨_,_,_,hg,by simp [Zce]⟩
theorem RowL.step {w w':World} {cv cv':Value} {ds:List (ND × Nat)} {xs:List Value} {x0 x1 x2 x3:Value} {n:ND} {k:Nat} (h:RowL w cv ds xs) (hn:CNode w x0 x1 x2 x3 n) (ha:Appended w 0 104 5 cv (ds.length+1) (xs++[x0,x1,x2,x3,.int .i64 k]) cv' w') :
  RowL w' cv' (ds++[(n,k)]) (xs++[x0,x1,x2,x3,.int .i64 k]):=by
 have hS:=Zij h.owns
 have hxl:=h.owns.1
 refine ⟨by simpa using ha.owns,fun i d hd => ?_⟩
 rcases Nat.lt_or_ge i ds.length with hi | hi
 ·rw [Qc hi] at hd
  obtain ⟨p0,p1,p2,p3,y0,y1,y2,y3,y4,g⟩:=h.all i d hd
  exact ⟨p0,p1,p2,p3,by rw [Qc (by omega)]; exact y0,by rw [Qc (by omega)]; exact y1,by rw [Qc (by omega)]; exact y2,by rw [Qc (by omega)]; exact y3,by rw [Qc (by omega)]; exact y4,g.keep ha.kept hS⟩
 ·have e:i=ds.length:=by
   have:=(Qa.1 hd).1
   simp at this; omega
  subst e
  rw [Qd (Qe _)] at hd
  simp at hd
  subst hd
  exact ⟨x0,x1,x2,x3,by rw [Qd (by omega)]; simp [hxl],by rw [Qd (by omega),show ds.length * 5+1 - xs.length=1 by omega]; rfl,by rw [Qd (by omega),show ds.length * 5+2 - xs.length=2 by omega]; rfl,by rw [Qd (by omega),show ds.length * 5+3 - xs.length=3 by omega]; rfl,by rw [Qd (by omega),show ds.length * 5+4 - xs.length=4 by omega]; rfl,hn.keep ha.kept hS⟩
structure CX where
 ca:Option Addr
 cc:Nat
 na:Option Addr
 nc:Nat
 wa:Option Addr
 wc:Nat
 va:Option Addr
 vl:Nat
 vc:Nat
 fa:Option Addr
 fl:Nat
 fc:Nat
def CX.cells (x:CX) (cl nl wl tr st:Nat) (T:List UInt8):Array Value:=#[.slice x.ca cl x.cc,.slice x.na nl x.nc,.slice x.wa wl x.wc,.int .i64 tr,.int .i64 st,.slice x.va x.vl x.vc,.slice x.fa x.fl x.fc,.string ⟨T.toArray⟩]
structure CSr (w:World) (b:Nat) (x:CX) (cs:List Cls) (a:List (List Sym) × Names) (m:SN):Prop where
 box:w.heap[b]?=some (.cells (x.cells cs.length a.2.length m.way.length m.tries m.status m.tree) 79 (0,0))
 prog:∃ xs,ProgIn w (.slice x.ca cs.length x.cc) cs xs
 names:w.ownsRow 0 9 1 (.slice x.na a.2.length x.nc) a.2.length (strs a.2)
 way:∃ ys,RowL w (.slice x.wa m.way.length x.wc) m.way.reverse ys
 found:m.status=1→(∃ n,TermsIn w (.slice x.va x.vl x.vc) n.vals∧NOk n∧NNm n∧Same n m.found)∧w.ownsRow 0 3 1 (.slice x.fa x.fl x.fc) m.found.used.length (ints m.found.used)
theorem CSr.ext {w w':World} {b:Nat} {x:CX} {cs:List Cls} {a:List (List Sym) × Names} {m:SN} (h:CSr w b x cs a m) (e:Ext w w'):CSr w' b x cs a m:=by
 obtain ⟨xs,h1⟩:=h.prog
 obtain ⟨ys,h2⟩:=h.way
 refine ⟨(e.block _ (Zab h.box)).trans h.box,⟨xs,h1.ext e⟩,Zaj h.names (fun k hk=>e.block k (h.names.lt k hk).2),⟨ys,h2.ext e⟩,fun hs => ?_⟩
 obtain ⟨⟨n,g1,g2⟩,g3⟩:=h.found hs
 exact ⟨⟨n,g1.ext e,g2⟩,Zaj g3 (fun k hk=>e.block k (g3.lt k hk).2)⟩
def ownS (b:Nat) (x:CX):Nat→Prop:=fun k=>k=b∨(∃ a,x.wa=some a∧a.block=k)
theorem CSr.keep {S:Nat→Prop} {w w':World} {b:Nat} {x:CX} {cs:List Cls} {a:List (List Sym) × Names} {m:SN} (h:CSr w b x cs a m) (hk:Kept S w w') (hS:OffCode S w) (ho:∀ k,ownS b x k→¬ S k):CSr w' b x cs a m:=by
 obtain ⟨xs,h1⟩:=h.prog
 obtain ⟨ys,h2⟩:=h.way
 refine ⟨(hk.block _ (Zab h.box) (ho _ (Or.inl rfl))).trans h.box,⟨xs,hS.prog hk h1⟩,hS.own (by simp [Zce]) hk h.names,⟨ys,h2.keep hk hS (fun k hj=>ho k (Or.inr ?_))⟩,fun hs => ?_⟩
 ·rcases h2.owns.2 with ⟨e,_⟩ | ⟨g,cap,cur,e,_⟩
  ·rw [e] at hj; simp [Value.ownBlock] at hj
  ·rw [e] at hj
   simp [Value.ownBlock] at hj
   simp at e
   exact ⟨_,e.1,hj⟩
 ·obtain ⟨⟨n,g1,g2⟩,g3⟩:=h.found hs
  exact ⟨⟨n,hS.terms hk g1,g2⟩,hS.own (by simp [Zce]) hk g3⟩
theorem CSr.upd {w w':World} {b:Nat} {x x':CX} {cs:List Cls} {a:List (List Sym) × Names} {m m':SN} (h:CSr w b x cs a m) (hk:Kept (only b) w w') (hbox:w'.heap[b]?=some (.cells (x'.cells cs.length a.2.length m'.way.length m'.tries m'.status m'.tree) 79 (0,0))) (hx:x'.ca=x.ca∧x'.cc=x.cc∧x'.na=x.na∧x'.nc=x.nc)
  (hway:∃ ys,RowL w (.slice x'.wa m'.way.length x'.wc) m'.way.reverse ys) (hf:m'.status=1→(∃ n,TermsIn w (.slice x'.va x'.vl x'.vc) n.vals∧NOk n∧NNm n∧Same n m'.found)∧w.ownsRow 0 3 1 (.slice x'.fa x'.fl x'.fc) m'.found.used.length (ints m'.found.used)):CSr w' b x' cs a m':=by
 obtain ⟨xs,h1⟩:=h.prog
 obtain ⟨ys,h2⟩:=hway
 have hS:OffCode (only b) w:=fun k e=>by
  have e:k=b:=e
  subst e
  exact ⟨_,_,_,h.box,by simp [Zce]⟩
 obtain ⟨e1,e2,e3,e4⟩:=hx
 refine ⟨hbox,⟨xs,by rw [e1,e2]; exact hS.prog hk h1⟩,by rw [e3,e4]; exact hS.own (by simp [Zce]) hk h.names,⟨ys,h2.keep hk hS (fun k hj e => ?_)⟩,fun hs => ?_⟩
 ·have e:k=b:=e
  subst e
  rcases h2.owns.2 with ⟨e,_⟩ | ⟨g,cap,cur,e,_,hg,_⟩
  ·rw [e] at hj; simp [Value.ownBlock] at hj
  ·rw [e] at hj
   simp [Value.ownBlock] at hj
   subst hj
   rw [h.box] at hg
   simp at hg
 ·obtain ⟨⟨n,g1,g2⟩,g3⟩:=hf hs
  exact ⟨⟨n,hS.terms hk g1,g2⟩,hS.own (by simp [Zce]) hk g3⟩
theorem CSr.off {w:World} {b:Nat} {x:CX} {cs:List Cls} {a:List (List Sym) × Names} {m:SN} (h:CSr w b x cs a m):OffCode (only b) w:=fun k e=>by
 have e:k=b:=e
 subst e
 exact ⟨_,_,_,h.box,by simp [Zce]⟩
theorem CSr.upd' {w w':World} {b:Nat} {x x':CX} {cs:List Cls} {a:List (List Sym) × Names} {m m':SN} (h:CSr w b x cs a m) (hk:Kept (only b) w w') (hbox:w'.heap[b]?=some (.cells (x'.cells cs.length a.2.length m'.way.length m'.tries m'.status m'.tree) 79 (0,0))) (hx:x'.ca=x.ca∧x'.cc=x.cc∧x'.na=x.na∧x'.nc=x.nc)
  (hway:∃ ys,RowL w (.slice x'.wa m'.way.length x'.wc) m'.way.reverse ys) (hf:m'.status=1→(∃ n,TermsIn w' (.slice x'.va x'.vl x'.vc) n.vals∧NOk n∧NNm n∧Same n m'.found)∧w'.ownsRow 0 3 1 (.slice x'.fa x'.fl x'.fc) m'.found.used.length (ints m'.found.used)):CSr w' b x' cs a m':=by
 obtain ⟨xs,h1⟩:=h.prog
 obtain ⟨ys,h2⟩:=hway
 have hS:=h.off
 obtain ⟨e1,e2,e3,e4⟩:=hx
 refine ⟨hbox,⟨xs,by rw [e1,e2]; exact hS.prog hk h1⟩,by rw [e3,e4]; exact hS.own (by simp [Zce]) hk h.names,⟨ys,h2.keep hk hS (fun k hj e => ?_)⟩,hf⟩
 have e:k=b:=e
 subst e
 rcases h2.owns.2 with ⟨e,_⟩ | ⟨g,cap,cur,e,_,hg,_⟩
 ·rw [e] at hj; simp [Value.ownBlock] at hj
 ·rw [e] at hj
  simp [Value.ownBlock] at hj
  subst hj
  rw [h.box] at hg
  simp at hg
def Zga (w:World) (x x':CX):Prop:=(∀ k,(∃ p,x'.wa=some p∧p.block=k)→(∃ p,x.wa=some p∧p.block=k)∨w.heap.size≤k)∧x'.ca=x.ca∧x'.cc=x.cc∧x'.na=x.na∧x'.nc=x.nc
theorem Zju {wa:Option Addr} {n c k:Nat}:(Value.slice wa n c).ownBlock=some k↔∃ p,wa=some p∧p.block=k:=by
 cases wa <;> simp [Value.ownBlock]
theorem CSr.offS {w:World} {b:Nat} {x:CX} {cs:List Cls} {a:List (List Sym) × Names} {m:SN} (h:CSr w b x cs a m):OffCode (ownS b x) w:=fun k hk=>by
 rcases hk with rfl | hk
 ·exact ⟨_,_,_,h.box,by simp [Zce]⟩
 ·obtain ⟨ys,h2⟩:=h.way
  exact Zij h2.owns k (Zju.2 hk)
theorem box8 {w:World} {b:Nat} {u0 u1 u2 u3 u4 u5 u6 u7:Value} {t:TypeId} (h:w.heap[b]?=some (.cells #[u0,u1,u2,u3,u4,u5,u6,u7] t (0,0))) :
  w.cell? ⟨b,0,none⟩=some u0∧w.cell? ⟨b,1,none⟩=some u1∧w.cell? ⟨b,2,none⟩=some u2∧w.cell? ⟨b,3,none⟩=some u3∧w.cell? ⟨b,4,none⟩=some u4∧w.cell? ⟨b,5,none⟩=some u5∧w.cell? ⟨b,6,none⟩=some u6∧w.cell? ⟨b,7,none⟩=some u7∧∀ i,w.frozen? ⟨b,i,none⟩=false :=
 ⟨Zaa h 0 _ rfl,Zaa h 1 _ rfl,Zaa h 2 _ rfl,Zaa h 3 _ rfl,Zaa h 4 _ rfl,Zaa h 5 _ rfl,Zaa h 6 _ rfl,Zaa h 7 _ rfl,fun i=>Zad h i⟩
theorem Yae {way:List (ND × Nat)} {i:Nat} {d:ND × Nat} (h:way.reverse[i]?=some d):(Zfy way)[i]?=some (d.2 - 1):=by
 unfold Zfy
 rw [← List.map_reverse,Qj,h]
 rfl
theorem Zoh (w:World) (b:Nat) (wa:Option Addr) (wc:Nat) (way:List (ND × Nat)) (ys:List Value) (hb2:w.cell? ⟨b,2,none⟩=some (.slice wa way.length wc)) (hW:RowL w (.slice wa way.length wc) way.reverse ys) (hw:way.length≤200000) (hk:∀ y ∈ way,1≤y.2∧y.2≤4000) :
  Calls Tryz.prog 43 #[.pointer (some ⟨b,0,none⟩)] w fun e w'=>∃ fa fc,e = .returned (.slice fa way.length fc)∧Ext w w'∧w'.ownsRow w.heap.size 3 1 (.slice fa way.length fc) way.length (ints (Zfy way)):=by
 have hbl:b<w.heap.size:=World.block_lt_of_cell? w ⟨b,2,none⟩ hb2
 obtain ⟨L,hL⟩:∃ L,L=way.length:=⟨_,rfl⟩
 rw [← hL] at hW hb2 hw ⊢
 have hul:(Zfy way).length=L:=by rw [hL]; simp [Zfy]
 have HW:=Zac hW
 have Hul:=Zac hul
 have Hk:=Zac hk
 have HL:=Zac hL
 clear hW hul hk hL
 go_enter Tryz.func43,Tryz.ntmps43
 go_wp2
 go_loopg [3,11] (L+1) (fun gk nv iv wr=>∃ (i:Nat) (ga:Option Addr) (gc:Nat),nv = .slice ga i gc∧iv = .int .i64 i∧i≤L∧L - i<gk∧Ext w wr∧wr.ownsRow w.heap.size 3 1 (.slice ga i gc) i (ints ((Zfy way).take i)))
 case atStart=>exact ⟨0,none,0,rfl,by go_num,by omega,by omega,Ext.of (Qx _ _),by simpa [ints] using World.ownsRow_nil w w.heap.size 3 1⟩
 case round =>
  obtain ⟨i,ga,gc,rfl,rfl,hi,hgk,hE,hrow⟩:=hrel
  have hs:=hE.size
  have HE:=Zac hE
  have Hrow:=Zac hrow
  clear hE hrow
  by_cases hlt:i<L
  ·obtain ⟨d,hd⟩:∃ d,way.reverse[i]?=some d:=⟨_,Qb (by rw [List.length_reverse,← HL.out]; exact hlt)⟩
   have hu:=Yae hd
   have hdm:d ∈ way:=List.mem_reverse.1 (Qh hd)
   obtain ⟨hd1,hd2⟩:=Hk.out d hdm
   obtain ⟨x0,x1,x2,x3,y0,y1,y2,y3,y4,hnode⟩:=HW.out.all i d hd
   obtain ⟨ga',gc',va',vl',vc',ra',rl',rc',u',rfl,rfl,rfl,rfl,hu'⟩:=hnode.shape
   have ho:=HW.out.owns
   rw [List.length_reverse,← HL.out] at ho
   obtain ⟨wb,wcap,wcur,hwe,_,hwb,_⟩:=Zao ho (by omega)
   simp only [Value.slice.injEq] at hwe
   obtain ⟨rfl,_,rfl⟩:=hwe
   have hwl:=Zab hwb
   have c0:=(HE.out.cell (p:=⟨wb,i * 5,none⟩) hwl).trans (Zai ho _ _ y0)
   have c1:=(HE.out.cell (p:=⟨wb,i * 5+1,none⟩) hwl).trans (Zai ho _ _ y1)
   have c2:=(HE.out.cell (p:=⟨wb,i * 5+2,none⟩) hwl).trans (Zai ho _ _ y2)
   have c3:=(HE.out.cell (p:=⟨wb,i * 5+3,none⟩) hwl).trans (Zai ho _ _ y3)
   have c4:=(HE.out.cell (p:=⟨wb,i * 5+4,none⟩) hwl).trans (Zai ho _ _ y4)
   obtain ⟨W1,hW1⟩:∃ W1,W1=wr.alloc (.cells #[.slice ga' d.1.goals.length gc',.slice va' vl' vc',.slice ra' rl' rc',.int .i64 u',.int .i64 d.2] 104):=⟨_,rfl⟩
   have hE1:Ext wr W1:=by rw [hW1]; exact (Ext.of (by repeat' (first | with_reducible(first|exact Qx _ _|apply Kept.drew|apply Kept.drewN|apply Qz|refine Qy ?_ ?_ _)|exact fun h=>absurd h (by simp <;> omega))))
   have Hrow1:=Zac (Zaj Hrow.out (fun k hk=>hE1.block k (Hrow.out.lt k hk).2))
   have hs1:W1.heap.size=wr.heap.size+1:=by rw [hW1]; simp
   have Htk:Hid (ints ((Zfy way).take (i+1))=ints ((Zfy way).take i)++[.int .i64 ((d.2:Int) - 1)]):=by
    show _=_
    rw [List.take_add_one,hu]
    simp [ints]
    omega
   have HE1:=Zac hE1
   have HW1:=Zac hW1
   have hd3:(-(2:Int) ^ 63≤(d.2:Int) - 1):=by omega
   clear hd hu hdm y0 y1 y2 y3 y4 hnode ho hwb hE1 hW1
   go_wp2_with (at_builtin; rw [← HW1.out]; go_loud (refine Zal W1 rfl (.tmp 15) (.tmp 19) 22 rfl w.heap.size 3 Tryz.infoInt Tryz.underlying22 rfl (by decide) (.slice ga i gc) i (ints ((Zfy way).take i)) rfl Hrow1.out #[.int .i64 ((d.2:Int) - 1)] rfl (by omega) rfl (Zgq _) ?_ ?_ ?_))
   ·omega
   ·omega
   intro v' w2 hap
   obtain ⟨ga2,gc2,rfl⟩:=Zae hap.owns
   have Hap:=Zac hap
   clear hap
   go_wp2
   go_roundg (L - i)
   case measure=>omega
   case rel =>
    refine ⟨i+1,ga2,gc2,rfl,by go_num,by omega,by omega,(HE.out.trans (HE1.out.mono hs)).trans (Hap.out.kept.below (by omega) (fun k e=>(Hrow1.out.lt k e).1)),?_⟩
    rw [Htk.out]
    exact Hap.out.owns
  ·have he:i=L:=by omega
   subst he
   have Hfin:Hid (ints ((Zfy way).take i)=ints (Zfy way)):=by
    show _=_
    rw [List.take_of_length_le (by rw [Hul.out]; omega)]
   go_wp2
   go_ret
   exact ⟨ga,gc,rfl,HE.out,by rw [← Hfin.out]; exact Hrow.out⟩
def Zjd (l:List UInt8) (p:Nat):UInt8:=(l[p]?).getD 0
theorem Ycq {s:ByteArray} {p:Nat} (h:p<s.size):Zjd s.data.toList p=s[p]:=by unfold Zjd; rw [Yey h]; rfl
theorem Ycr {s:ByteArray} {p:Nat} (h:s.size≤p):Zjd s.data.toList p=0:=by
 unfold Zjd
 rw [List.getElem?_eq_none (by simpa using h)]
 rfl
theorem Zud {l:List UInt8} {p:Nat} {c:UInt8} (hc:c≠0):Zjd l p=c↔l[p]?=some c:=by
 unfold Zjd
 cases l[p]? with
 | none=>simp; exact fun h=>hc h.symm
 | some d=>simp
theorem Zqm (s:ByteArray) (p:Nat) (w:World) (hs:s.size≤100000) (hp:p≤100000):Calls Tryz.prog 56 #[.string s,.int .i64 p] w fun e w'=>e = .returned (.int .u8 (Zjd s.data.toList p).toNat)∧w'=w:=by
 by_cases h:p<s.size
 ·have Hb:=Zac (Ycq h)
  have h1:¬ ((s.size:Int)≤(p:Int)):=by omega
  go_enter Tryz.func56,Tryz.ntmps56
  go_wp2
  go_ret
  exact ⟨by rw [Hb.out]; rfl,rfl⟩
 ·have Hb:=Zac (Ycr (Nat.le_of_not_lt h))
  have h1:((s.size:Int)≤(p:Int)):=by omega
  go_enter Tryz.func56,Tryz.ntmps56
  go_wp2
  go_ret
  exact ⟨by rw [Hb.out]; rfl,rfl⟩
theorem Zso (w:World) (b:Nat) (o:Int) (due:Bool) (hb:w.heap[b]?=some (.cells #[.int .i64 o,.bool due] 108 (0,0))):Calls Tryz.prog 47 #[.pointer (some ⟨b,0,none⟩)] w fun e w'=>e = .returned (.bool (!due && (o == 0)))∧w'=w:=by
 obtain ⟨b0,b1,bf⟩:=box2 hb
 have hbl:=Zab hb
 clear hb
 cases due with
 | true =>
  go_enter Tryz.func47,Tryz.ntmps47
  go_wp2
  go_ret
  exact ⟨rfl,rfl⟩
 | false =>
  go_enter Tryz.func47,Tryz.ntmps47
  go_wp2
  go_ret
  exact ⟨rfl,rfl⟩
def Zed (l:List UInt8) (p o:Nat) (due:Bool):Nat × Nat × Bool :=
 if due=true then (if Zjd l p=33 then (p+1,o,false) else if Zjd l p=40 then (p+1,o+1,false) else (p,o,true))
 else if Zjd l p=41 then (p+1,o - 1,false) else (p+(Zak (l.drop p)).2,o,decide (0<(Zak (l.drop p)).2))
def Zgy (l:List UInt8) (p o:Nat) (due:Bool) (b:Nat) (w:World) (e:Ending) (w':World):Prop:=e = .returned (.int .i64 (Zed l p o due).1)∧Kept (only b) w w'∧w'.heap[b]?=some (.cells #[.int .i64 (Zed l p o due).2.1,.bool (Zed l p o due).2.2] 108 (0,0))
theorem Yaf (s:ByteArray) (p o:Nat) (due:Bool) (b:Nat) (w:World) (hs:s.size≤20000) (hp:p≤20000) (ho:o≤20000) (ho1:due=false→0<o) (hb:w.heap[b]?=some (.cells #[.int .i64 o,.bool due] 108 (0,0))) :
  Calls Tryz.prog 48 #[.pointer (some ⟨b,0,none⟩),.string s,.int .i64 p] w (Zgy s.data.toList p o due b w):=by
 obtain ⟨b0,b1,bf⟩:=box2 hb
 have hbl:=Zab hb
 have Hb:=Zac hb
 have HB:=Zac (Zqm s p w (by omega) (by omega))
 obtain ⟨c,hc⟩:∃ c,c=Zjd s.data.toList p:=⟨_,rfl⟩
 rw [← hc] at HB
 clear hb
 cases due with
 | true =>
  by_cases h33:c=33
  ·have Hfin:Hid (Zed s.data.toList p o true=(p+1,o,false)):=by show _=_; unfold Zed; rw [if_pos rfl,if_pos (by rw [← hc]; exact h33)]
   have k1:((c.toNat:Int) != 33)=false:=by rw [h33]; rfl
   have k2:((c.toNat:Int) == 40)=false:=by rw [h33]; rfl
   clear hc h33 ho1
   go_enter Tryz.func48,Tryz.ntmps48
   go_wp2_with fail
   refine HB.out.mono ?_
   rintro e w1 ⟨rfl,rfl⟩
   go_wp2
   go_ret
   unfold Zgy
   rw [Hfin.out]
   exact ⟨by simp,(Qx _ _).put 1 _,Zaf Hb.out 1 _⟩
  ·have k1:((c.toNat:Int) != 33)=true:=by rw [bne_iff_ne]; exact Ycn h33
   by_cases h40:c=40
   ·have Hfin:Hid (Zed s.data.toList p o true=(p+1,o+1,false)):=by show _=_; unfold Zed; rw [if_pos rfl,if_neg (by rw [← hc]; exact h33),if_pos (by rw [← hc]; exact h40)]
    have k2:((c.toNat:Int) != 40)=false:=by rw [h40]; rfl
    have k3:((c.toNat:Int) == 40)=true:=by rw [h40]; rfl
    clear hc h33 h40 ho1
    go_enter Tryz.func48,Tryz.ntmps48
    go_wp2_with fail
    refine HB.out.mono ?_
    rintro e w1 ⟨rfl,rfl⟩
    go_wp2
    go_ret
    unfold Zgy
    rw [Hfin.out]
    exact ⟨by simp,((Qx _ _).put 0 _).put 1 _,Zaf (Zaf Hb.out 0 _) 1 _⟩
   ·have Hfin:Hid (Zed s.data.toList p o true=(p,o,true)):=by show _=_; unfold Zed; rw [if_pos rfl,if_neg (by rw [← hc]; exact h33),if_neg (by rw [← hc]; exact h40)]
    have k2:((c.toNat:Int) != 40)=true:=by rw [bne_iff_ne]; exact Ycn h40
    clear hc h33 h40 ho1
    go_enter Tryz.func48,Tryz.ntmps48
    go_wp2_with fail
    refine HB.out.mono ?_
    rintro e w1 ⟨rfl,rfl⟩
    go_wp2
    go_ret
    unfold Zgy
    rw [Hfin.out]
    exact ⟨rfl,Qx _ _,Hb.out⟩
 | false =>
  have ho2:=ho1 rfl
  by_cases h41:c=41
  ·have Hfin:Hid (Zed s.data.toList p o false=(p+1,o - 1,false)):=by show _=_; unfold Zed; rw [if_neg (by simp),if_pos (by rw [← hc]; exact h41)]
   have k1:((c.toNat:Int) == 41)=true:=by rw [h41]; rfl
   clear hc h41 ho1
   go_enter Tryz.func48,Tryz.ntmps48
   go_wp2_with fail
   refine HB.out.mono ?_
   rintro e w1 ⟨rfl,rfl⟩
   go_wp2
   go_ret
   unfold Zgy
   rw [Hfin.out]
   refine ⟨by simp,(Qx _ _).put 0 _,?_⟩
   rw [show ((p+1,o - 1,false):Nat × Nat × Bool).2.1=o - 1 from rfl,show ((o - 1:Nat):Int)=(o:Int) - 1 by omega]
   exact Zaf Hb.out 0 _
  ·obtain ⟨N,hN⟩:∃ N,N=(Zak (s.data.toList.drop p)).2:=⟨_,rfl⟩
   have Hfin:Hid (Zed s.data.toList p o false=(p+N,o,decide (0<N))):=by show _=_; unfold Zed; rw [if_neg (by simp),if_neg (by rw [← hc]; exact h41),← hN]
   have k1:((c.toNat:Int) == 41)=false:=by rw [Qu]; exact Ycn h41
   have HA:=Zac (Zzr s p w (by omega) (by omega))
   obtain ⟨V,hV⟩:∃ V,V=(Zak (s.data.toList.drop p)).1:=⟨_,rfl⟩
   rw [← hN,← hV] at HA
   clear hc h41 ho1 hN hV
   go_enter Tryz.func48,Tryz.ntmps48
   go_wp2_with fail
   refine HB.out.mono ?_
   rintro e w1 ⟨rfl,rfl⟩
   go_wp2_with fail
   refine HA.out.mono ?_
   rintro e w1 ⟨rfl,rfl⟩
   by_cases h0:0<N
   ·have h2:(p:Int)<(p:Int)+(N:Int):=by omega
    go_wp2
    go_ret
    unfold Zgy
    rw [Hfin.out]
    refine ⟨by simp,(Qx _ _).put 1 _,?_⟩
    rw [show ((p+N,o,decide (0<N)):Nat × Nat × Bool).2.2=true from decide_eq_true h0]
    exact Zaf Hb.out 1 _
   ·obtain rfl:N=0:=by omega
    go_wp2
    go_ret
    unfold Zgy
    rw [Hfin.out]
    refine ⟨by simp,(Qx _ _).put 1 _,?_⟩
    exact Zaf Hb.out 1 _
def Zsp (l:List UInt8) (w:World) (e:Ending) (w':World):Prop:=Ext w w'∧e = .returned (match Zff l with | none => .agg #[.int .i64 0,.int .i64 0] | some p => .agg #[.int .i64 6,.int .i64 p])
theorem Zww {l:List UInt8} {f p o:Nat} {due:Bool} (h:l.length≤p):Zdv l (f+1) p o due=if due=true∨0<o then some p else none:=by
 unfold Zdv
 rw [List.getElem?_eq_none h]
theorem Zqn {l:List UInt8} {f p:Nat} (h:p<l.length):Zdv l (f+1) p 0 false=some p:=by
 unfold Zdv
 rw [Qb h]
 simp
theorem Zsq {l:List UInt8} {f p o:Nat} {due:Bool} (h:p<l.length) (ho:due=false→0<o):Zdv l (f+1) p o due=if (Zed l p o due).1=p then some p else Zdv l f (Zed l p o due).1 (Zed l p o due).2.1 (Zed l p o due).2.2:=by
 have hb:Zjd l p=l[p]:=by unfold Zjd; rw [Qb h]; rfl
 rw [Zdv,Zed,Qb h,hb]
 simp only
 cases due with
 | true =>
  simp only [if_true]
  split
  ·simp
  ·split
   ·simp
   ·simp
 | false =>
  have:=ho rfl
  simp only [Bool.false_eq_true,if_false]
  rw [if_neg (by omega)]
  split
  ·simp
  ·by_cases h0:(Zak (l.drop p)).2=0
   ·simp [h0]
   ·rw [if_neg h0,if_neg (by simp only; omega)]
    simp [show 0<(Zak (l.drop p)).2 by omega]
theorem Ycs {l:List UInt8} {p o:Nat} {due:Bool} (h:p<l.length) (ho:o≤p):p≤(Zed l p o due).1∧(Zed l p o due).1≤l.length∧((Zed l p o due).1≠p→(Zed l p o due).2.1≤(Zed l p o due).1):=by
 have hn:=Zev (l.drop p)
 simp only [List.length_drop] at hn
 unfold Zed
 split
 ·split
  ·exact ⟨Nat.le_succ _,h,fun _=>by show o≤p+1; omega⟩
  ·split
   ·exact ⟨Nat.le_succ _,h,fun _=>by show o+1≤p+1; omega⟩
   ·exact ⟨Qe _,Nat.le_of_lt h,fun h=>absurd rfl h⟩
 ·split
  ·exact ⟨Nat.le_succ _,h,fun _=>by show o - 1≤p+1; omega⟩
  ·exact ⟨Nat.le_add_right _ _,by show p+_≤_; omega,fun _=>by show o≤p+_; omega⟩
theorem Zdj {w w1 w2:World} {b:Nat} (h:Ext w w1) (hk:Kept (only b) w1 w2) (hb:w.heap.size≤b):Ext w w2 :=
 h.trans (hk.below h.size (fun k e=>by have e:k=b:=e; omega))
theorem Zoi (s:ByteArray) (w:World) (hs:s.size≤20000):Calls Tryz.prog 34 #[.string s] w (Zsp s.data.toList w):=by
 have hsl:s.data.toList.length=s.size:=by simp
 obtain ⟨l,hl⟩:∃ l,l=s.data.toList:=⟨_,rfl⟩
 have HT:=Zac (fun p o due b u (h1:p≤20000) (h2:o≤20000) h3 h4=>Yaf s p o due b u hs h1 h2 h3 h4)
 rw [← hl] at hsl HT ⊢
 have HW:=Zac (fun u b o due hb=>Zso u b o due hb)
 have Hsl:=Zac hsl
 clear hsl
 go_enter Tryz.func34,Tryz.ntmps34
 go_wp2
 go_loopg [4] (s.size+1) (fun gk av wr=>∃ (p o f:Nat) (due:Bool),av = .int .i64 p∧p≤s.size∧s.size - p<gk∧o≤p∧s.size<f+p∧Zdv l f p o due=Zff l∧Ext w wr∧wr.heap[w.heap.size]?=some (.cells #[.int .i64 0,.int .i64 0] 60 (0,0))∧wr.heap[w.heap.size+1]?=some (.cells #[.int .i64 o,.bool due] 108 (0,0)))
 case atStart=>exact ⟨0,0,s.size+1,true,by go_num,by omega,by omega,by omega,by omega,by unfold Zff; rw [Hsl.out],(Ext.of (by repeat' (first | with_reducible(first|exact Qx _ _|apply Kept.drew|apply Kept.drewN|apply Qz|refine Qy ?_ ?_ _)|exact fun h=>absurd h (by simp <;> omega)))),Zaq (heap_alloc_new w _) _,Zcw (by simp) _⟩
 case round =>
  obtain ⟨p,o,f,due,rfl,hp,hgk,hop,hf,hsh,hE,hb0,hb1⟩:=hrel
  obtain ⟨f,rfl⟩:∃ f',f=f'+1:=⟨f - 1,by omega⟩
  have hs1:=Zab hb1
  have HWr:=Zac (HW.out wr _ o due hb1)
  by_cases hgo:p<s.size∧¬ (due=false∧o=0)
  ·obtain ⟨hlt,hnw⟩:=hgo
   have how:due=false→0<o:=fun h=>Nat.pos_of_ne_zero (fun h'=>hnw ⟨h,h'⟩)
   have hw0:(!due && ((o:Int) == 0))=false:=by
    cases due with
    | true=>rfl
    | false =>
     have:=how rfl
     simp
     omega
   rw [hw0] at HWr
   have HTr:=Zac (HT.out p o due (w.heap.size+1) wr (by omega) (by omega) how hb1)
   rw [Zsq (by rw [Hsl.out]; exact hlt) how] at hsh
   obtain ⟨p2,hp2⟩:∃ p2,p2=(Zed l p o due).1:=⟨_,rfl⟩
   obtain ⟨o2,ho2⟩:∃ o2,o2=(Zed l p o due).2.1:=⟨_,rfl⟩
   obtain ⟨d2,hd2⟩:∃ d2,d2=(Zed l p o due).2.2:=⟨_,rfl⟩
   unfold Zgy at HTr
   rw [← hp2,← ho2,← hd2] at hsh HTr
   have hbd:=Ycs (l:=l) (p:=p) (o:=o) (due:=due) (by rw [Hsl.out]; exact hlt) hop
   rw [← hp2,← ho2,Hsl.out] at hbd
   obtain ⟨hbd1,hbd2,hbd3⟩:=hbd
   have Hsh:=Zac hsh
   have HE:=Zac hE
   have Hb0:=Zac hb0
   have hlt':(p:Int)<(s.size:Int):=by omega
   clear hsh hE hb0 hb1 hw0 hp2 ho2 hd2
   go_wp2_with fail
   refine HWr.out.mono ?_
   rintro e w1 ⟨rfl,rfl⟩
   go_wp2_with fail
   refine HTr.out.mono ?_
   rintro e w2 ⟨rfl,hK2,hb2⟩
   have hb0':=(hK2.block w.heap.size (by omega) (fun e=>by have e:w.heap.size=w.heap.size+1:=e; omega)).trans Hb0.out
   have HE2:Hid (Ext w w2):=Zdj HE.out hK2 (by omega)
   by_cases he:p2=p
   ·have Hn:Hid (Zff l=some p):=by show _=_; rw [← Hsh.out,if_pos he]
    subst he
    obtain ⟨c0,c1,cf⟩:=box2 hb0'
    have hlb:=Zab hb0'
    clear hb0' hK2 hb2
    go_wp2
    refine bodyPost_ret (v := .agg #[.int .i64 6,.int .i64 p2]) (by simp [results,Tryz.results34,go_sem,c0,c1,cf]) rfl ?_
    exact ⟨Zdj HE2.out (((Qx _ _).put 0 _).put 1 _) (Qe _),by rw [Hn.out]⟩
   ·have he2:((p2:Int) == (p:Int))=false:=by rw [Qu]; omega
    have Hn:Hid (Zdv l f p2 o2 d2=Zff l):=by show _=_; rw [← Hsh.out,if_neg he]
    have Hb0':=Zac hb0'
    have Hb2:=Zac hb2
    have ho3:=hbd3 he
    clear hb0' hK2 hb2 Hsh
    go_wp2
    go_roundg (s.size - p)
    case measure=>omega
    case rel=>exact ⟨p2,o2,f,d2,rfl,hbd2,by omega,ho3,by omega,Hn.out,HE2.out,Hb0'.out,Hb2.out⟩
  ·have hend:¬ (((!(!due && ((o:Int) == 0))) && decide ((p:Int)<(s.size:Int)))=true):=fun h=>by
    rw [Bool.and_eq_true,decide_eq_true_iff] at h
    refine hgo ⟨by omega,fun ⟨h1,h2⟩ => ?_⟩
    rw [h1,h2] at h
    simp at h
   obtain ⟨c0,c1,cf⟩:=box2 hb0
   have HE:=Zac hE
   have hlb:=Zab hb0
   by_cases hlt:p<s.size
   ·have hwh:due=false∧o=0:=by
     by_cases h:due=false∧o=0
     ·exact h
     ·exact absurd ⟨hlt,h⟩ hgo
    obtain ⟨rfl,rfl⟩:=hwh
    have Hn:Hid (Zff l=some p):=by show _=_; rw [← hsh]; exact Zqn (by rw [Hsl.out]; exact hlt)
    have hlt':(p:Int)<(s.size:Int):=by omega
    clear hsh hE hb0 hb1 hend hgo
    go_wp2_with fail
    refine HWr.out.mono ?_
    rintro e w1 ⟨rfl,rfl⟩
    go_wp2
    refine bodyPost_ret (v := .agg #[.int .i64 6,.int .i64 p]) (by simp [results,Tryz.results34,go_sem,c0,c1,cf]) rfl ?_
    exact ⟨Zdj HE.out (((Qx _ _).put 0 _).put 1 _) (Qe _),by rw [Hn.out]⟩
   ·have hlt':¬ (p:Int)<(s.size:Int):=by omega
    have hn:=Zww (l:=l) (f:=f) (p:=p) (o:=o) (due:=due) (by rw [Hsl.out]; omega)
    rw [hsh] at hn
    by_cases hwh:due=false∧o=0
    ·obtain ⟨rfl,rfl⟩:=hwh
     have Hn:Hid (Zff l=none):=by show _=_; rw [hn]; simp
     clear hsh hE hb0 hb1 hend hgo hn
     go_wp2_with fail
     refine HWr.out.mono ?_
     rintro e w1 ⟨rfl,rfl⟩
     go_wp2_with fail
     refine HWr.out.mono ?_
     rintro e w1 ⟨rfl,rfl⟩
     go_wp2
     refine bodyPost_ret (v := .agg #[.int .i64 0,.int .i64 0]) (by simp [results,Tryz.results34,go_sem,c0,c1,cf]) rfl ?_
     exact ⟨Zdj HE.out (((Qx _ _).put 0 _).put 1 _) (Qe _),by rw [Hn.out]⟩
    ·have Hn:Hid (Zff l=some p):=by
      show _=_
      rw [hn,if_pos]
      by_cases h:due=true
      ·exact Or.inl h
      ·refine Or.inr (Nat.pos_of_ne_zero (fun h'=>hwh ⟨by simpa using h,h'⟩))
     have hw0:(!due && ((o:Int) == 0))=false:=by
      cases due with
      | true=>rfl
      | false =>
       simp
       intro h
       exact hwh ⟨rfl,by omega⟩
     rw [hw0] at HWr
     clear hsh hE hb0 hb1 hend hgo hn hw0 hwh
     go_wp2_with fail
     refine HWr.out.mono ?_
     rintro e w1 ⟨rfl,rfl⟩
     go_wp2_with fail
     refine HWr.out.mono ?_
     rintro e w1 ⟨rfl,rfl⟩
     go_wp2
     refine bodyPost_ret (v := .agg #[.int .i64 6,.int .i64 p]) (by simp [results,Tryz.results34,go_sem,c0,c1,cf]) rfl ?_
     exact ⟨Zdj HE.out (((Qx _ _).put 0 _).put 1 _) (Qe _),by rw [Hn.out]⟩
set_option maxHeartbeats 8000000 in
theorem Zqo (w:World) (b:Nat) (x:CX) (cs:List Cls) (a:List (List Sym) × Names) (m:SN) (h:CSr w b x cs a m) (hw:m.way.length≤200000) (hk:∀ y ∈ m.way,y.2≤4000) (hcl:cs.length≤24) (hT:m.tree.length+m.way.length≤200000) :
  Calls Tryz.prog 28 #[.pointer (some ⟨b,0,none⟩)] w fun e w'=>e = .returned (.tuple #[])∧Kept (only b) w w'∧CSr w' b x cs a (Zde cs m):=by
 have hbx:=h.box
 obtain ⟨ca,cc,na,nc,wa,wc,va,vl,vc,fa,fl,fc⟩:=x
 simp only [CX.cells] at hbx
 obtain ⟨b0,b1,b2,b3,b4,b5,b6,b7,bf⟩:=box8 hbx
 have H:=Zac h
 have Hk:=Zac hk
 have HT:=Zac hT
 have hbl:=Zab hbx
 clear h hbx hk hT
 go_enter Tryz.func28,Tryz.ntmps28
 go_wp2
 go_loopg [2] (m.way.length+1) (fun gk lv wr=>∃ (way':List (ND × Nat)) (T':List UInt8),way'.length<gk∧lv = .int .i64 ((way'.length:Int) - 1)∧Zcx cs way' T'=Zcx cs m.way m.tree∧T'.length+way'.length≤200000∧way'.length≤200000∧(∀ y ∈ way',y.2≤4000)∧Kept (only b) w wr∧CSr wr b ⟨ca,cc,na,nc,wa,wc,va,vl,vc,fa,fl,fc⟩ cs a { m with way:=way',tree:=T' })
 case atStart=>exact ⟨m.way,m.tree,by omega,rfl,rfl,HT.out,hw,Hk.out,Qx _ _,H.out⟩
 case round =>
  clear b0 b1 b2 b3 b4 b5 b6 b7 bf
  obtain ⟨way',T',hgk,hlv,hlw,hT,hwl,hk',hK,hC⟩:=hrel
  have hbx:=hC.box
  simp only [CX.cells] at hbx
  obtain ⟨b0,b1,b2,b3,b4,b5,b6,b7,bf⟩:=box8 hbx
  have hbl':=Zab hbx
  cases hw':way' with
  | nil =>
   have hlv':u2 = .int .i64 (-1):=by rw [hlv,hw']; rfl
   subst hlv'
   have Hfin:Hid (∀ u,Kept (only b) wr u→(∀ k,u.heap[k]?=wr.heap[k]?)→Kept (only b) w u∧CSr u b ⟨ca,cc,na,nc,wa,wc,va,vl,vc,fa,fl,fc⟩ cs a (Zde cs m)):=fun u hu he=>by
    refine ⟨hK.trans hu,?_⟩
    have e:Zde cs m = { m with way:=way',tree:=T' }:=by
     unfold Zde
     rw [← hlw,hw']
     rfl
    rw [e]
    exact hC.ext ⟨hu.os,hu.tape,hu.output,hu.size,fun k _=>he k⟩
   clear hC hbx hK hlw hk' hlv hw' hgk hwl hT
   go_wp2_with fail
   go_quiet (fail)
   go_wp2
   go_end0
   exact ⟨rfl,Hfin.out _ ((Qx _ wr).drewN _) (fun _=>rfl)⟩
  | cons y r =>
   obtain ⟨yn,yk⟩:=y
   have hlv':u2 = .int .i64 (r.length:Int):=by rw [hlv,hw']; simp
   subst hlv'
   subst hw'
   simp only [Qf] at b2 hgk hwl hT
   obtain ⟨ys,hrow⟩:=hC.way
   simp only [List.reverse_cons,Qf] at hrow
   have ho:=hrow.owns
   rw [Qg,List.length_reverse,Qn] at ho
   obtain ⟨wb,wcap,wcur,hwe,_,hwb,_⟩:=Zao ho (by omega)
   simp only [Value.slice.injEq] at hwe
   obtain ⟨rfl,_,rfl⟩:=hwe
   obtain ⟨x0,x1,x2,x3,y0,y1,y2,y3,y4,hnode⟩:=hrow.all r.length (yn,yk) (by rw [Qd (by simp)]; simp)
   have c4:=Zai ho _ _ y4
   simp only at c4
   have hyk:=hk' (yn,yk) (by simp)
   simp only at hyk
   have hwbl:=Zab hwb
   by_cases hN:cs.length≤yk
   ·have hN':(cs.length:Int)≤(yk:Int):=by omega
    have hpop:=hrow.pop List.length_reverse
    have Hstr:=Zac (Zbg T' [41])
    have Hbx:=Zac hbx
    have Hnext:Hid (∀ u,Kept (only b) wr u→u.heap[b]?=some (.cells #[.slice ca cs.length cc,.slice na a.2.length nc,.slice (some ⟨wb,0,none⟩) r.length wc,.int .i64 m.tries,.int .i64 m.status,.slice va vl vc,.slice fa fl fc,.string ⟨(T'++[41]).toArray⟩] 79 (0,0))→Kept (only b) w u∧CSr u b ⟨ca,cc,na,nc,some ⟨wb,0,none⟩,wc,va,vl,vc,fa,fl,fc⟩ cs a { m with way:=r,tree:=T'++[41] }):=fun u hu hb=>⟨hK.trans hu,hC.upd hu hb ⟨rfl,rfl,rfl,rfl⟩ ⟨_,hpop⟩ hC.found⟩
    have Hlw:Hid (Zcx cs r (T'++[41])=Zcx cs m.way m.tree):=by
     have h1:=hlw
     simp only [Zcx] at h1
     rw [if_pos hN] at h1
     exact h1
    have Hk2:Hid (∀ y ∈ r,y.2≤4000):=fun y hy=>hk' y (by simp [hy])
    clear hC hbx hK hlw hk' hlv hrow ho y0 y1 y2 y3 y4 hnode hwb hpop hN
    go_wp2_with fail
    go_quiet (fail)
    go_wp2
    go_roundg (r.length+1)
    case measure=>omega
    case rel =>
     obtain ⟨g1,g2⟩:=Hnext.out _ ((((Qx (only b) wr).drewN _).put 7 _).put 2 _) (Zaf (Zaf (w:=wr.drewN _) Hbx.out 7 _) 2 _)
     exact ⟨r,T'++[41],by omega,rfl,Hlw.out,by simp; omega,by omega,Hk2.out,g1,g2⟩
   ·have hN':¬ (cs.length:Int)≤(yk:Int):=by omega
    have Hfin:Hid (∀ u,Kept (only b) wr u→(∀ k,u.heap[k]?=wr.heap[k]?)→Kept (only b) w u∧CSr u b ⟨ca,cc,na,nc,some ⟨wb,0,none⟩,wc,va,vl,vc,fa,fl,fc⟩ cs a (Zde cs m)):=fun u hu he=>by
     refine ⟨hK.trans hu,?_⟩
     have e:Zde cs m = { m with way:=(yn,yk)::r,tree:=T' }:=by
      unfold Zde
      rw [← hlw]
      simp only [Zcx]
      rw [if_neg hN]
     rw [e]
     exact hC.ext ⟨hu.os,hu.tape,hu.output,hu.size,fun k _=>he k⟩
    clear hC hbx hK hlw hk' hlv hrow ho y0 y1 y2 y3 y4 hnode hwb hN
    go_wp2_with fail
    go_quiet (fail)
    go_wp2
    go_end0
    exact ⟨rfl,Hfin.out _ ((Qx _ wr).drewN _) (fun _=>rfl)⟩
theorem Tryz.infoLevel:(Tryz.prog.info? 104).map (fun i=>(i.zero,i.size,i.bytes))=some (some (.agg #[.slice none 0 0,.slice none 0 0,.slice none 0 0,.int .i64 0,.int .i64 0]),5,88):=by kernel_rfl
theorem Zqp {a0 a1 a2:Option Addr} {l0 l1 l2 c0 c1 c2:Nat} {v k:Int}:∀ u ∈ (#[Value.slice a0 l0 c0,.slice a1 l1 c1,.slice a2 l2 c2,.int .i64 v,.int .i64 k]:Array Value).toList,u.oneCell'=true:=by
 intro u hu
 simp at hu
 rcases hu with rfl | rfl | rfl | rfl | rfl <;> rfl
theorem Zwx (w:World) (b:Nat) (x:CX) (cs:List Cls) (a:List (List Sym) × Names) (m:SN) (gv vv rv uv:Value) (n:ND) (h:CSr w b x cs a m) (hn:CNode w gv vv rv uv n) (hw:m.way.length≤200000) (hg:n.goals=[]) (hu:n.used=Zfy m.way) (hk:∀ y ∈ m.way,1≤y.2∧y.2≤4000) (hT:m.tree.length≤200000) :
  Calls Tryz.prog 27 #[.pointer (some ⟨b,0,none⟩),.agg #[gv,vv,rv,uv]] w fun e w'=>e = .returned (.tuple #[])∧∃ x',Kept (ownS b x) w w'∧CSr w' b x' cs a (Zbz m n)∧Zga w x x':=by
 obtain ⟨n1,hN,hU,hOk,hNm,hFw,hS⟩:=hn
 obtain ⟨ga,gc,va',vl',vc',ra,rl,rc,u,rfl,rfl,rfl,rfl,hu4⟩:=CNode.shape ⟨n1,hN,hU,hOk,hNm,hFw,hS⟩
 have hbx:=h.box
 obtain ⟨ca,cc,na,nc,wa,wc,va,vl,vc,fa,fl,fc⟩:=x
 simp only [CX.cells] at hbx
 obtain ⟨b0,b1,b2,b3,b4,b5,b6,b7,bf⟩:=box8 hbx
 have hbl:=Zab hbx
 obtain ⟨ys,hrow⟩:=h.way
 have Hstr:=Zac (Zbg m.tree [33])
 have hen:Zbz m n = { m with tree:=m.tree++[33],status:=1,found:=n }:=by unfold Zbz; rw [if_pos hg]
 have HTL:Hid (∀ y,Kept (only b) w y→y.heap[b]?=some (.cells #[.slice ca cs.length cc,.slice na a.2.length nc,.slice wa m.way.length wc,.int .i64 m.tries,.int .i64 1,.slice va' vl' vc',.slice fa fl fc,.string ⟨(m.tree++[33]).toArray⟩] 79 (0,0))→Calls Tryz.prog 43 #[.pointer (some ⟨b,0,none⟩)] y fun e y'=>∃ fa' fc',e = .returned (.slice fa' m.way.length fc')∧Kept (only b) w y'∧y'.heap[b]?=some (.cells #[.slice ca cs.length cc,.slice na a.2.length nc,.slice wa m.way.length wc,.int .i64 m.tries,.int .i64 1,.slice va' vl' vc',.slice fa fl fc,.string ⟨(m.tree++[33]).toArray⟩] 79 (0,0))∧y'.ownsRow 0 3 1 (.slice fa' m.way.length fc') m.way.length (ints (Zfy m.way))):=fun y hy hb=>by
  refine (Zoh y b wa wc m.way ys (Zaa hb 2 _ rfl) (hrow.keep hy h.off (fun k hj e => ?_)) hw hk).mono ?_
  ·have e:k=b:=e
   subst e
   rcases hrow.owns.2 with ⟨e,_⟩ | ⟨g,cap,cur,e,_,hg,_⟩
   ·rw [e] at hj; simp [Value.ownBlock] at hj
   ·rw [e] at hj
    simp [Value.ownBlock] at hj
    subst hj
    rw [hbx] at hg
    simp at hg
  ·rintro e y' ⟨fa',fc',rfl,hE,ho⟩
   exact ⟨fa',fc',rfl,hy.then (Kept.of_below hE) (fun i hi h=>by have:=hy.size; omega),(hE.block _ (Zab hb)).trans hb,Zbd ho (Qm _)⟩
 have Hfin:Hid (∀ y fa' fc',Kept (only b) w y→y.heap[b]?=some (.cells #[.slice ca cs.length cc,.slice na a.2.length nc,.slice wa m.way.length wc,.int .i64 m.tries,.int .i64 1,.slice va' vl' vc',.slice fa fl fc,.string ⟨(m.tree++[33]).toArray⟩] 79 (0,0))→y.ownsRow 0 3 1 (.slice fa' m.way.length fc') m.way.length (ints (Zfy m.way))→∃ x',Kept (ownS b ⟨ca,cc,na,nc,wa,wc,va,vl,vc,fa,fl,fc⟩) w (y.setCell ⟨b,6,none⟩ (.slice fa' m.way.length fc'))∧CSr (y.setCell ⟨b,6,none⟩ (.slice fa' m.way.length fc')) b x' cs a (Zbz m n)∧Zga w ⟨ca,cc,na,nc,wa,wc,va,vl,vc,fa,fl,fc⟩ x'):=fun y fa' fc' hy hb ho=>by
  have hk2:Kept (only b) w (y.setCell ⟨b,6,none⟩ (.slice fa' m.way.length fc')):=hy.put 6 _
  have hoff:OffCode (only b) y:=fun k e=>by
   have e:k=b:=e
   subst e
   exact ⟨_,_,_,hb,by simp [Zce]⟩
  have hk3:Kept (only b) y (y.setCell ⟨b,6,none⟩ (.slice fa' m.way.length fc')):=(Qx _ _).put 6 _
  refine ⟨⟨ca,cc,na,nc,wa,wc,va',vl',vc',fa',m.way.length,fc'⟩,hk2.mono (fun i hi e=>Or.inl e),?_,⟨fun k hk=>Or.inl hk,rfl,rfl,rfl,rfl⟩⟩
  rw [hen]
  refine h.upd' hk2 (Zaf hb 6 _) ⟨rfl,rfl,rfl,rfl⟩ ⟨ys,hrow⟩ (fun _=>⟨⟨n1,h.off.terms hk2 hN.vals,hOk,hNm,hS⟩,?_⟩)
  have hl:n.used.length=m.way.length:=by rw [hu]; simp [Zfy]
  show World.ownsRow _ 0 _ 1 _ n.used.length (ints n.used)
  rw [hl,hu]
  exact hoff.own (by simp [Zce]) hk3 ho
 have Hbx:=Zac hbx
 rw [hg]
 clear h hN hrow hbx hk hu hen hS hOk hNm hFw hU
 go_enter Tryz.func27,Tryz.ntmps27
 go_wp2_with fail
 refine (HTL.out _ (by repeat (first | exact Qx _ _ | apply Qz | apply Kept.put | apply Kept.drew)) (Zaq (by rw [← Hstr.out]; exact Zaf (Zaf (Zaf Hbx.out 7 _) 4 _) 5 _) _)).mono ?_
 rintro e w3 ⟨fa',fc',rfl,hK3,hb3,ho3⟩
 have c6:=Zaa hb3 6 _ rfl
 have cf:=fun i=>Zad hb3 i
 have H3:=Zac (Hfin.out w3 fa' fc' hK3 hb3 ho3)
 have hbl3:=Zab hb3
 clear hK3 hb3 ho3 b0 b1 b2 b3 b4 b5 b6 b7 bf
 go_wp2
 go_end0
 exact ⟨rfl,H3.out⟩
theorem Zmx (w:World) (b:Nat) (x:CX) (cs:List Cls) (a:List (List Sym) × Names) (m:SN) (gv vv rv uv:Value) (n:ND) (h:CSr w b x cs a m) (hn:CNode w gv vv rv uv n) (hw:m.way.length≤200000) (hg:n.goals≠[]) (hT:m.tree.length≤200000) :
  Calls Tryz.prog 27 #[.pointer (some ⟨b,0,none⟩),.agg #[gv,vv,rv,uv]] w fun e w'=>e = .returned (.tuple #[])∧∃ x',Kept (ownS b x) w w'∧CSr w' b x' cs a (Zbz m n)∧Zga w x x':=by
 obtain ⟨ga,gc,va',vl',vc',ra,rl,rc,u,rfl,rfl,rfl,rfl,hu4⟩:=hn.shape
 have hgl:0<n.goals.length:=List.length_pos_iff.2 hg
 obtain ⟨z,hz⟩:∃ z,z=n.goals.length:=⟨_,rfl⟩
 rw [← hz] at hgl hn ⊢
 have hbx:=h.box
 obtain ⟨ca,cc,na,nc,wa,wc,va,vl,vc,fa,fl,fc⟩:=x
 simp only [CX.cells] at hbx
 obtain ⟨b0,b1,b2,b3,b4,b5,b6,b7,bf⟩:=box8 hbx
 have hbl:=Zab hbx
 obtain ⟨ys,hrow⟩:=h.way
 obtain ⟨L,hL⟩:∃ L,L=m.way.length:=⟨_,rfl⟩
 have ho:=hrow.owns
 rw [List.length_reverse] at ho
 simp only [← hL] at b2 ho hw
 have Hstr:=Zac (Zbg m.tree [40])
 have hen:Zbz m n = { m with way:=(n,0)::m.way,tree:=m.tree++[40] }:=by unfold Zbz; rw [if_neg hg]
 have HL:=Zac hL
 have Hbx:=Zac hbx
 have H:=Zac h
 have Hn:=Zac hn
 have Hrow:=Zac hrow
 have Ho:=Zac ho
 have Hen:=Zac hen
 have hzi:(0:Int)<(z:Int):=by omega
 clear h hn hrow ho hbx hen hg hz hL
 go_enter Tryz.func27,Tryz.ntmps27
 go_wp2_with fail
 obtain ⟨U,hU⟩:∃ U,U=(w.setCell ⟨b,7,none⟩ (.string (⟨m.tree.toArray⟩++⟨#[40]⟩))).alloc (.cells #[.slice ga z gc,.slice va' vl' vc',.slice ra rl rc,.int .i64 u] 65):=⟨_,rfl⟩
 rw [← hU]
 have hKU:Kept (only b) w U:=by rw [hU]; exact ((Qx _ _).put 7 _).alloc _
 have hbU:U.heap[b]?=some (.cells #[.slice ca cs.length cc,.slice na a.2.length nc,.slice wa L wc,.int .i64 m.tries,.int .i64 m.status,.slice va vl vc,.slice fa fl fc,.string ⟨(m.tree++[40]).toArray⟩] 79 (0,0)):=by rw [hU,← Hstr.out,HL.out]; exact Zaq (Zaf Hbx.out 7 _) _
 have hnU:U.heap[w.heap.size]?=some (.cells #[.slice ga z gc,.slice va' vl' vc',.slice ra rl rc,.int .i64 u] 65 (0,0)):=by rw [hU]; exact Zcw (by simp) _
 have hsU:U.heap.size=w.heap.size+1:=by rw [hU]; simp
 have hap0:∀ k,(Value.slice wa L wc).ownBlock=some k→k≠b:=fun k hj e=>by
  subst e
  rcases Ho.out.2 with ⟨e,_⟩ | ⟨g,cap,cur,e,_,hg,_⟩
  ·rw [e] at hj; simp [Value.ownBlock] at hj
  ·rw [e] at hj
   simp [Value.ownBlock] at hj
   subst hj
   rw [Hbx.out] at hg
   simp at hg
 have hrU:=Hrow.out.keep hKU H.out.off (fun k hj e=>hap0 k (by rw [HL.out]; exact hj) e)
 have hoU:U.ownsRow 0 104 5 (.slice wa L wc) L ys:=by
  have:=hrU.owns
  rw [List.length_reverse,← HL.out] at this
  exact this
 have Hfin:Hid (∀ w2 wa2 wc2,Appended (U.drewN 1) 0 104 5 (.slice wa L wc) (L+1) (ys++[.slice ga z gc,.slice va' vl' vc',.slice ra rl rc,.int .i64 u,.int .i64 0]) (.slice wa2 (L+1) wc2) w2→w2.heap[b]?=some (.cells #[.slice ca cs.length cc,.slice na a.2.length nc,.slice wa L wc,.int .i64 m.tries,.int .i64 m.status,.slice va vl vc,.slice fa fl fc,.string ⟨(m.tree++[40]).toArray⟩] 79 (0,0))∧∃ x',Kept (ownS b ⟨ca,cc,na,nc,wa,wc,va,vl,vc,fa,fl,fc⟩) w (w2.setCell ⟨b,2,none⟩ (.slice wa2 (L+1) wc2))∧CSr (w2.setCell ⟨b,2,none⟩ (.slice wa2 (L+1) wc2)) b x' cs a (Zbz m n)∧Zga w ⟨ca,cc,na,nc,wa,wc,va,vl,vc,fa,fl,fc⟩ x'):=fun w2 wa2 wc2 hap=>by
  have hb2:w2.heap[b]?=_:=(hap.kept.block b (by show b<U.heap.size; omega) (fun e=>hap0 b e rfl)).trans hbU
  refine ⟨hb2,?_⟩
  have hK2:Kept (Zbj (.slice wa L wc)) U w2:=⟨hap.kept.os,hap.kept.tape,hap.kept.output,hap.kept.size,hap.kept.block⟩
  have hK3:Kept (only b) w2 (w2.setCell ⟨b,2,none⟩ (.slice wa2 (L+1) wc2)):=(Qx _ _).put 2 _
  have hK:Kept (ownS b ⟨ca,cc,na,nc,wa,wc,va,vl,vc,fa,fl,fc⟩) w (w2.setCell ⟨b,2,none⟩ (.slice wa2 (L+1) wc2)):=((hKU.mono (fun i _ e=>Or.inl e)).trans ((hK2.mono (fun i _ e=>Or.inr (Zju.1 e))):Kept (ownS b ⟨ca,cc,na,nc,wa,wc,va,vl,vc,fa,fl,fc⟩) U w2)).trans (hK3.mono (fun i _ e=>Or.inl e))
  have hS:=H.out.offS
  obtain ⟨xs,hP⟩:=H.out.prog
  have hR2:RowL w2 (.slice wa2 (L+1) wc2) (m.way.reverse++[(n,0)]) _:=hrU.step (k:=0) (Hn.out.keep hKU H.out.off) ⟨by rw [List.length_reverse,← HL.out]; exact hap.owns,by rw [← HL.out]; exact hK2,by rw [← HL.out]; exact hap.where_⟩
  have hoff2:OffCode (only b) w2:=fun k e=>by
   have e:k=b:=e
   subst e
   exact ⟨_,_,_,hb2,by simp [Zce]⟩
  have hR3:=hR2.keep hK3 hoff2 (fun k hj e=>by
   have e:k=b:=e
   subst e
   rcases hR2.owns.2 with ⟨e,_⟩ | ⟨g,cap,cur,e,_,hg,_⟩
   ·rw [e] at hj; simp [Value.ownBlock] at hj
   ·rw [e] at hj
    simp [Value.ownBlock] at hj
    subst hj
    rw [hb2] at hg
    simp at hg)
  refine ⟨⟨ca,cc,na,nc,wa2,wc2,va,vl,vc,fa,fl,fc⟩,hK,?_,⟨fun k hk => ?_,rfl,rfl,rfl,rfl⟩⟩
  ·rw [Hen.out]
   refine ⟨?_,⟨xs,hS.prog hK hP⟩,hS.own (by simp [Zce]) hK H.out.names,⟨ys++[.slice ga z gc,.slice va' vl' vc',.slice ra rl rc,.int .i64 u,.int .i64 ((0:Nat):Int)],?_⟩,fun hs => ?_⟩
   ·simp only [CX.cells,Qf]
    rw [← HL.out]
    exact Zaf hb2 2 _
   ·simp only [List.reverse_cons,Qf]
    rw [← HL.out]
    exact hR3
   ·obtain ⟨⟨n',g1,g2⟩,g3⟩:=H.out.found hs
    exact ⟨⟨n',hS.terms hK g1,g2⟩,hS.own (by simp [Zce]) hK g3⟩
  ·have hj:(Value.slice wa2 (L+1) wc2).ownBlock=some k:=Zju.2 hk
   rcases hap.where_ with e | ⟨g,e,hg⟩
   ·rw [e] at hj
    exact Or.inl (Zju.1 hj)
   ·rw [e] at hj
    simp at hj
    subst hj
    exact Or.inr (by have:U.heap.size≤g:=hg; omega)
 have HoU:=Zac hoU
 have c2:=Zaa hbU 2 _ rfl
 have cf:=fun i=>Zad hbU i
 have k0:=Zaa hnU 0 _ rfl
 have k1:=Zaa hnU 1 _ rfl
 have k2:=Zaa hnU 2 _ rfl
 have k3:=Zaa hnU 3 _ rfl
 clear hU hKU hbU hnU hap0 hrU hoU b0 b1 b2 b3 b4 b5 b6 b7 bf
 go_region_law (refine Zcg (U.drewN 1) rfl (.tmp 19) (.tmp 22) 77 rfl 0 104 Tryz.infoLevel Tryz.underlying77 rfl (by decide) (.slice wa L wc) L ys rfl HoU.out #[.slice ga z gc,.slice va' vl' vc',.slice ra rl rc,.int .i64 u,.int .i64 0] rfl (by show _=U.heap.size; omega) rfl Zqp (by omega) (by omega) rfl ?_; intro v' w2 hap; obtain ⟨wa2,wc2,rfl⟩:=Zae hap.owns; obtain ⟨hb2,hfin⟩:=Hfin.out _ _ _ hap; have d2:=Zaa hb2 2 _ rfl; have df:=fun i=>Zad hb2 i; have H2:=Zac hfin; clear hap hb2 hfin)
 all_goals
  go_wp2
  (try simp only [Exit.inBlock,Exit.then])
  refine bodyPost_ret (results_none rfl _ _ _) rfl ?_
  exact ⟨rfl,H2.out⟩
theorem RowL.bump {w:World} {wb cap:Nat} {ds:List (ND × Nat)} {n:ND} {k:Nat} {xs:List Value} (h:RowL w (.slice (some ⟨wb,0,none⟩) (ds.length+1) cap) (ds++[(n,k)]) xs) (k':Nat) :
  RowL (w.setCell ⟨wb,ds.length * 5+4,none⟩ (.int .i64 k')) (.slice (some ⟨wb,0,none⟩) (ds.length+1) cap) (ds++[(n,k')]) (xs.set (ds.length * 5+4) (.int .i64 k')):=by
 have ho:=h.owns
 have hxl:=ho.1
 rw [Qg,Qn] at ho hxl
 have hS:=Zij ho
 have hk:=Zgt w wb (ds.length+1) cap (ds.length * 5+4) (.int .i64 k')
 refine ⟨by rw [Qg,Qn]; exact Zip ho _ _,fun i d hd => ?_⟩
 rcases Nat.lt_or_ge i ds.length with hi | hi
 ·rw [Qc hi] at hd
  obtain ⟨p0,p1,p2,p3,y0,y1,y2,y3,y4,g⟩:=h.all i d (by rw [Qc hi]; exact hd)
  exact ⟨p0,p1,p2,p3,by rw [List.getElem?_set_ne (by omega)]; exact y0,by rw [List.getElem?_set_ne (by omega)]; exact y1,by rw [List.getElem?_set_ne (by omega)]; exact y2,by rw [List.getElem?_set_ne (by omega)]; exact y3,by rw [List.getElem?_set_ne (by omega)]; exact y4,g.keep hk hS⟩
 ·have e:i=ds.length:=by
   have:=(Qa.1 hd).1
   simp at this; omega
  subst e
  rw [Qd (Qe _)] at hd
  simp at hd
  subst hd
  obtain ⟨p0,p1,p2,p3,y0,y1,y2,y3,y4,g⟩:=h.all ds.length (n,k) (by rw [Qd (Qe _)]; simp)
  exact ⟨p0,p1,p2,p3,by rw [List.getElem?_set_ne (by omega)]; exact y0,by rw [List.getElem?_set_ne (by omega)]; exact y1,by rw [List.getElem?_set_ne (by omega)]; exact y2,by rw [List.getElem?_set_ne (by omega)]; exact y3,by rw [List.getElem?_set_self (by omega)],g.keep hk hS⟩
theorem CSr.bump {w:World} {b wb:Nat} {x:CX} {cs:List Cls} {a:List (List Sym) × Names} {m:SN} {n:ND} {k:Nat} {r:List (ND × Nat)} (h:CSr w b x cs a m) (hw:m.way=(n,k)::r) (hx:x.wa=some ⟨wb,0,none⟩) :
  Kept (ownS b x) w ((w.setCell ⟨wb,r.length * 5+4,none⟩ (.int .i64 ((k+1:Nat):Int))).setCell ⟨b,3,none⟩ (.int .i64 ((m.tries+1:Nat):Int)))∧CSr ((w.setCell ⟨wb,r.length * 5+4,none⟩ (.int .i64 ((k+1:Nat):Int))).setCell ⟨b,3,none⟩ (.int .i64 ((m.tries+1:Nat):Int))) b x cs a { m with way:=(n,k+1)::r,tries:=m.tries+1 }:=by
 obtain ⟨ys,hrow⟩:=h.way
 obtain ⟨xs,hP⟩:=h.prog
 rw [hw,hx,Qf,List.reverse_cons] at hrow
 have hbx:=h.box
 have hne:wb≠b:=fun e=>by
  subst e
  rcases hrow.owns.2 with ⟨e,_⟩ | ⟨g,cap,cur,e,_,hg,_⟩
  ·simp at e
  ·simp at e
   obtain ⟨rfl,_⟩:=e
   rw [hbx] at hg
   simp at hg
 have hK1:Kept (Zbj (.slice (some ⟨wb,0,none⟩) (r.length+1) x.wc)) w (w.setCell ⟨wb,r.length * 5+4,none⟩ (.int .i64 ((k+1:Nat):Int))):=Zgt w wb (r.length+1) x.wc _ _
 have hb1:(w.setCell ⟨wb,r.length * 5+4,none⟩ (.int .i64 ((k+1:Nat):Int))).heap[b]?=_:=(hK1.block b (Zab hbx) (fun e=>hne (by simpa [Zbj,Value.ownBlock] using e))).trans hbx
 have hK2:Kept (only b) (w.setCell ⟨wb,r.length * 5+4,none⟩ (.int .i64 ((k+1:Nat):Int))) _:=(Qx (only b) _).put 3 (.int .i64 ((m.tries+1:Nat):Int))
 have hK:Kept (ownS b x) w ((w.setCell ⟨wb,r.length * 5+4,none⟩ (.int .i64 ((k+1:Nat):Int))).setCell ⟨b,3,none⟩ (.int .i64 ((m.tries+1:Nat):Int))):=(hK1.mono (fun i _ e=>Or.inr (by rw [hx]; exact Zju.1 e))).trans (hK2.mono (fun i _ e=>Or.inl e))
 have hS:=h.offS
 have hR1:=RowL.bump (ds:=r.reverse) (n:=n) (k:=k) (xs:=ys) (by rw [List.length_reverse]; exact hrow) (k+1)
 rw [List.length_reverse] at hR1
 have hoff1:OffCode (only b) (w.setCell ⟨wb,r.length * 5+4,none⟩ (.int .i64 ((k+1:Nat):Int))):=fun j e=>by
  have e:j=b:=e
  subst e
  exact ⟨_,_,_,hb1,by simp [Zce]⟩
 have hR2:=hR1.keep hK2 hoff1 (fun j hj e=>by
  have e:j=b:=e
  subst e
  exact hne (by simpa [Value.ownBlock] using hj))
 refine ⟨hK,(by have:=Zaf hb1 3 (.int .i64 ((m.tries+1:Nat):Int)); rw [hw] at this; exact this),⟨xs,hS.prog hK hP⟩,hS.own (by simp [Zce]) hK h.names,⟨_,by rw [hx]; simp only [List.reverse_cons,Qf]; exact hR2⟩,fun hs => ?_⟩
 obtain ⟨⟨n',g1,g2⟩,g3⟩:=h.found hs
 exact ⟨⟨n',hS.terms hK g1,g2⟩,hS.own (by simp [Zce]) hK g3⟩
def TreePh (W:World) (b:Nat) (T X:List UInt8):List Value→World→Prop
 | [],y=>y=W
 | [v],y=>y=W∧v = .string ⟨X.toArray⟩
 | [v,_],y=>v = .string ⟨X.toArray⟩∧y=W.setCell ⟨b,7,none⟩ (.string ⟨(T++X).toArray⟩)
 | _,_=>False
theorem TreePh.at {W:World} {b:Nat} {T X:List UInt8} {vs:List Value} {y:World} (h:TreePh W b T X vs y):(vs.length≤1→y=W)∧(1≤vs.length→vs.getD 0 undef = .string ⟨X.toArray⟩):=by
 match vs,h with
 | [],h=>exact ⟨fun _=>h,fun h=>by simp at h⟩
 | [v],h=>exact ⟨fun _=>h.1,fun _=>by simpa using h.2⟩
 | [v,v'],h=>exact ⟨fun h=>by simp at h,fun _=>by simpa using h.1⟩
theorem Zsr (w:World) (b:Nat) (x:CX) (cs:List Cls) (a:List (List Sym) × Names) (m:SN) (h:CSr w b x cs a m) (hI:InvN cs a m) (h0:m.status=0) (hw:m.way≠[]) (ht:m.tries<3000) (hcs:∀ c ∈ cs,COk c∧CNm c) (hcf:∀ c ∈ cs,CFew c) (hcl:cs.length≤24) :
  Calls Tryz.prog 44 #[.pointer (some ⟨b,0,none⟩)] w fun e w'=>e = .returned (.tuple #[])∧∃ x',Kept (ownS b x) w w'∧CSr w' b x' cs a (Zay cs m)∧Zga w x x':=by
 obtain ⟨n,k,r,c,hw1,hc,hg⟩:=hI.head hw
 have hkl:=(Qa.1 hc).1
 have hlen:=hI.len
 rw [hw1,Qf] at hlen
 have hrl:r.length+1≤100000:=by omega
 obtain ⟨xs,hP⟩:=h.prog
 obtain ⟨ys,hrow⟩:=h.way
 have hbx:=h.box
 obtain ⟨ca,cc,na,nc,wa,wc,va,vl,vc,fa,fl,fc⟩:=x
 simp only [CX.cells] at hbx hP hrow
 rw [hw1,Qf,List.reverse_cons] at hrow
 rw [hw1,Qf,h0] at hbx
 have ho:=hrow.owns
 rw [Qg,List.length_reverse,Qn] at ho
 obtain ⟨wb,wcap,wcur,hwe,_,hwb,hwcap⟩:=Zao ho (by omega)
 simp only [Value.slice.injEq] at hwe
 obtain ⟨rfl,_,rfl⟩:=hwe
 obtain ⟨x0,x1,x2,x3,y0,y1,y2,y3,y4,hnode⟩:=hrow.all r.length (n,k) (by rw [Qd (by simp)]; simp)
 obtain ⟨lb,lcap,lcur,hle,_,hlb,_⟩:=Zao hP.owns (by omega)
 simp only [Value.slice.injEq] at hle
 obtain ⟨rfl,_,rfl⟩:=hle
 obtain ⟨b0,b1,b2,b3,b4,b5,b6,b7,bf⟩:=box8 hbx
 have c4:=Zai ho _ _ y4
 simp only at c4
 have hwf:=fun i=>Zad hwb i
 have hbl:=Zab hbx
 have hwbl:=Zab hwb
 have hne:wb≠b:=fun e=>by
  subst e
  rw [hbx] at hwb
  simp at hwb
 have hne':b≠wb:=fun e=>hne e.symm
 have hki:¬ ((cs.length:Int)≤(k:Int)):=by omega
 have hgd:decide ((r.length:Int)<0)=false:=by rw [decide_eq_false_iff_not]; omega
 obtain ⟨tr,htr⟩:∃ x,x=m.tries:=⟨_,rfl⟩
 rw [← htr] at hbx b3
 have htr3:tr≤3000:=by omega
 have HI:=Zac hI
 have H:=Zac h
 have Hcs:=Zac hcs
 have Hcf:=Zac hcf
 have Hw1:=Zac hw1
 have Hc:=Zac hc
 have Hg:=Zac hg
 have H0:=Zac h0
 have Htr:=Zac htr
 have Ht:=Zac ht
 clear h hI hcs hcf hw1 hc hg h0 hw hP hrow ho hwb hlb hbx y0 y1 y2 y3 y4 hnode htr ht hlen
 go_enter Tryz.func44,Tryz.ntmps44
 go_wp2_with fail
 go_quiet (fail)
 go_wp2_with fail
 obtain ⟨W4,hW4⟩:∃ W4,W4=((w.drewN nq).setCell ⟨wb,r.length * 5+4,none⟩ (.int .i64 ((k:Int)+1))).setCell ⟨b,3,none⟩ (.int .i64 ((tr:Int)+1)):=⟨_,rfl⟩
 rw [← hW4]
 have hE0:Ext w (w.drewN nq):=Ext.of ((Qx _ w).drewN _)
 obtain ⟨hK4,hC4⟩:=(H.out.ext hE0).bump Hw1.out rfl
 rw [show ((k+1:Nat):Int)=(k:Int)+1 by omega,← Htr.out,show ((tr+1:Nat):Int)=(tr:Int)+1 by omega,← hW4] at hK4 hC4
 have hKw:Kept (ownS b ⟨some ⟨lb,0,none⟩,cc,na,nc,some ⟨wb,0,none⟩,wc,va,vl,vc,fa,fl,fc⟩) w W4:=((Qx _ w).drewN nq).trans hK4
 obtain ⟨M4,hM4⟩:∃ M4:SN,M4 = { m with way:=(n,k+1)::r,tries:=tr+1 }:=⟨_,rfl⟩
 rw [← hM4] at hC4
 have hbx4:=hC4.box
 rw [hM4] at hbx4
 simp only [CX.cells,Qf] at hbx4
 rw [H0.out] at hbx4
 clear b0 b1 b2 b3 b4 b5 b6 b7 bf c4 hwf
 obtain ⟨b0,b1,b2,b3,b4,b5,b6,b7,bf⟩:=box8 hbx4
 obtain ⟨ys4,hrow4⟩:=hC4.way
 rw [hM4] at hrow4
 simp only [Qf,List.reverse_cons] at hrow4
 have ho4:=hrow4.owns
 rw [Qg,List.length_reverse,Qn] at ho4
 obtain ⟨x0,x1,x2,x3,y0,y1,y2,y3,y4,hnode⟩:=hrow4.all r.length (n,k+1) (by rw [Qd (by simp)]; simp)
 obtain ⟨n1,hN1,rfl,hOk,hNm,hFw,hSm⟩:=hnode
 obtain ⟨ga,gcap,rfl⟩:=hN1.goals.shape
 obtain ⟨va',vcap',rfl⟩:=hN1.vals.shape
 obtain ⟨ra',rcap',rfl⟩:=hN1.done.shape
 simp only [Ql] at hN1 y0 y1 y2
 have c0:=Zai ho4 _ _ y0
 have c1:=Zai ho4 _ _ y1
 have c2:=Zai ho4 _ _ y2
 have c3:=Zai ho4 _ _ y3
 obtain ⟨xs4,hP4⟩:=hC4.prog
 obtain ⟨cv0,cv1,cv2,l0,l1,l2,hcl2⟩:=hP4.cell Hc.out
 obtain ⟨d0,d1,rfl⟩:=Zae hcl2.head
 obtain ⟨d2,d3,rfl⟩:=hcl2.body.shape
 obtain ⟨d4,d5,rfl⟩:=Zae hcl2.names
 have hbl4:=Zab hbx4
 have hwbl4:wb<W4.heap.size:=Nat.lt_of_lt_of_le hwbl hKw.size
 have hlbl:lb<W4.heap.size:=World.block_lt_of_cell? W4 ⟨lb,k * 3,none⟩ l0
 obtain ⟨hco,hcm⟩:=Hcs.out c (Qh Hc.out)
 have HIc:Hid (∀ Z u,Ext W4.drew u→(∀ k,Z k→W4.heap.size≤k∧k<u.heap.size)→Calls Tryz.prog 52 #[.agg #[.slice ga n1.goals.length gcap,.slice va' n1.vals.length vcap',.slice ra' n1.done.length rcap',.int .i64 n1.vars],.agg #[.slice d0 c.head.length d1,.slice d2 c.body.length d3,.slice d4 c.names.length d5]] u fun e u'=>∃ r,e = .returned r∧Ext u u'∧TryX n1 c k Z r u'):=fun Z u hu hZ=>by
  have hwu:Ext W4 u:=hu.undrew
  refine (Znx u _ _ _ _ _ _ n1 c k hOk hco (hN1.ext hwu) (hcl2.ext hwu)).mono ?_
  intro e u' h
  exact h.toX (fun j hj=>(hZ j hj).2)
 have Hco:=Zac hco
 have HOk:=Zac hOk
 have HNm:=Zac hNm
 have HFw:=Zac hFw
 have HSm:=Zac hSm
 have Hcm:=Zac hcm
 have HCf:Hid (CFew c):=Hcf.out c (Qh Hc.out)
 have HC4:=Zac hC4
 have HK4:=Zac hKw
 have HM4:=Zac hM4
 have hrlt:r.length<r.length+1:=by omega
 clear hW4 hE0 hK4 hC4 hKw hM4 hbx4 hrow4 ho4 y0 y1 y2 y3 y4 hN1 hP4 hcl2 hco hOk hNm hFw hSm hcm
 refine Zid (by kernel_rfl) [.pur (.pointer (some ⟨b,0,none⟩)),.pur (.pointer (some ⟨b,0,none⟩)),.pur (.pointer (some ⟨b,2,none⟩)),.pur (.slice (some ⟨wb,0,none⟩) (r.length+1) wc),.pur (.int .i64 r.length),.pur (.pointer (some ⟨wb,r.length * 5,none⟩)),.pur (.pointer (some ⟨wb,r.length * 5,none⟩)),.pur (.agg #[.slice ga n1.goals.length gcap,.slice va' n1.vals.length vcap',.slice ra' n1.done.length rcap',.int .i64 n1.vars]),
  .pur (.pointer (some ⟨b,0,none⟩)),.pur (.pointer (some ⟨b,0,none⟩)),.pur (.pointer (some ⟨b,0,none⟩)),.pur (.slice (some ⟨lb,0,none⟩) cs.length cc),.pur (.int .i64 k),.pur (.pointer (some ⟨lb,k * 3,none⟩)),.pur (.agg #[.slice d0 c.head.length d1,.slice d2 c.body.length d3,.slice d4 c.names.length d5]),
  .cal,.post (fun v=>v),.post (Zfp 0),.post (Zfp 1),.alo 65 #[.slice none 0 0,.slice none 0 0,.slice none 0 0,.int .i64 0] 20 (fun v=>Zro (Zfp 0 v)),.sto 19,.post (Zfp 1)] 15 (by kernel_rfl) (TryX n1 c k) 52 _ TryX.stable HIc.out ?_ rfl (by decide) ?_
 ·refine ⟨fun vc β u hu => ?_,fun vc β u hu => ?_,fun vc β u hu => ?_,fun vc β u hu => ?_,fun vc β u hu => ?_,fun vc β u hu => ?_,fun vc β u hu => ?_,fun vc β u hu => ?_,fun vc β u hu => ?_,fun vc β u hu => ?_,fun vc β u hu => ?_,fun vc β u hu => ?_,fun vc β u hu => ?_,fun vc β u hu => ?_,fun vc β u hu => ?_,fun vc β u => ?_,?_,?_,?_,fun vc β u => ?_,?_,?_,trivial⟩
  all_goals try (simp [pa,Kd.val,go_sem,hu.up b0,hu.up b2,hu.up c0,hu.up c1,hu.up c2,hu.up c3,hu.up l0,hu.up l1,hu.up l2,hkl]; done)
  all_goals try (simp [pa,Kd.val,go_sem]; done)
  all_goals try (rintro vc β Z u ⟨g1,g2,g3,v1,v2,v3,q1,q2,q3,uu,qq,rfl,_⟩; simp [pa,Kd.val,go_sem,Zfp]; done)
  all_goals try (simp [pa,Kd.val,go_sem]; intro h; omega)
  rintro vc β Z u t z sx cl he ⟨g1,g2,g3,v1,v2,v3,q1,q2,q3,uu,qq,rfl,_⟩ hb
  simp at he
  obtain ⟨rfl,rfl,rfl,rfl⟩:=he
  have z0:=Zaa hb 0 _ rfl
  have z1:=Zaa hb 1 _ rfl
  have z2:=Zaa hb 2 _ rfl
  have z3:=Zaa hb 3 _ rfl
  have zf:=fun i=>Zad hb i
  refine ⟨_,?_,Zaf (Zaf (Zaf (Zaf hb 0 _) 1 _) 2 _) 3 _,((((Qx (only (β 19)) u).put 0 _).put 1 _).put 2 _).put 3 _⟩
  simp [pa,Kd.val,go_sem,z0,z1,z2,z3,zf,Zfp]
 rintro vc β w5 hext5 ⟨g1,g2,g3,v1,v2,v3,q1,q2,q3,uu,qq,rfl,hqq⟩ hbox _
 have hext5:=hext5.undrew
 have hs5:=hext5.size
 obtain ⟨hb0,hbx⟩:=hbox 19 _ _ _ _ rfl
 have hbx':w5.heap[β 19]?=some (.cells #[.slice g1 g2 g3,.slice v1 v2 v3,.slice q1 q2 q3,.int .i64 uu] 65 (0,0)):=hbx
 generalize hbe:β 19=bt at *
 have z0:=Zaa hbx' 0 _ rfl
 have z1:=Zaa hbx' 1 _ rfl
 have z2:=Zaa hbx' 2 _ rfl
 have z3:=Zaa hbx' 3 _ rfl
 have hC5:=HC4.out.ext hext5
 have HK5:=Zac (HK4.out.then (Kept.of_below hext5) (S':=fun j=>W4.heap.size≤j) (fun i hi hh=>by have:=HK4.out.size; omega))
 have hbx5:=hC5.box
 rw [HM4.out] at hbx5
 simp only [CX.cells,Qf] at hbx5
 rw [H0.out] at hbx5
 clear b0 b1 b2 b3 b4 b5 b6 b7 bf c0 c1 c2 c3 l0 l1 l2
 obtain ⟨b0,b1,b2,b3,b4,b5,b6,b7,bf⟩:=box8 hbx5
 have hbl5:=Zab hbx5
 have hbtl:=Zab hbx'
 have Hbx5:=Zac hbx5
 have HC5:=Zac hC5
 have hway4:M4.way=(n,k+1)::r:=by rw [HM4.out]
 have hlen4:M4.tree.length+M4.way.length≤100000:=by
  have h1:=HI.out.len
  have h2:=Ht.out
  rw [Hw1.out] at h1
  rw [HM4.out]
  simp only [Qf] at h1 ⊢
  omega
 have hnx4:∀ y ∈ M4.way,1≤y.2∧y.2≤4000:=fun y hy=>by
  rw [hway4] at hy
  rcases Qp.1 hy with rfl | hy
  ·exact ⟨Nat.succ_le_succ (Qm _),by show k+1≤_; omega⟩
  ·have h1:=(HI.out.way y (by rw [Hw1.out]; simp [hy])).2.2.1
   have h2:=HI.out.used
   rw [Hw1.out] at h2
   exact ⟨h2.2.1 y hy,by omega⟩
 have HL:Hid (∀ u (xx:CX) (mm:SN),CSr u b xx cs a mm→mm.way.length≤200000→(∀ y ∈ mm.way,y.2≤4000)→mm.tree.length+mm.way.length≤200000→Calls Tryz.prog 28 #[.pointer (some ⟨b,0,none⟩)] u fun e w'=>e = .returned (.tuple #[])∧Kept (only b) u w'∧CSr w' b xx cs a (Zde cs mm)):=fun u xx mm h1 h2 h3 h4=>Zqo u b xx cs a mm h1 h2 h3 hcl h4
 have Hlen4:=Zac hlen4
 have Hnx4:=Zac hnx4
 have Hway4:=Zac hway4
 clear hlen4 hnx4 hway4 hbx hbx' hbx5 hC5 hbox hext5
 simp only [paAll,pa,Kd.val,if_true,Act.put,Zfp]
 rw [hbe]
 rcases hqq with ⟨rfl,hq⟩ | ⟨rfl,ch,hq⟩ | ⟨rfl,ch,q0,hq12,hq,rfl,rfl,hg',hv',hr'⟩
 ·have hq0:(tryN n c k).2=0:=by
   rcases hq with h | h
   ·exact absurd (List.eq_nil_of_length_eq_zero (by rw [← HSm.out.gl,h]; rfl)) Hg.out
   ·exact (Zeo HOk.out HSm.out Hco.out h).1.symm
  have hmk:Zay cs m=Zde cs M4:=by
   unfold Zay
   rw [Hw1.out]
   simp only [Hc.out]
   rw [if_neg (by omega),if_neg (by omega),HM4.out,Htr.out]
  have HL5:=Zac (HL.out w5 _ M4 HC5.out (by have:=Hlen4.out; omega) (fun y hy=>(Hnx4.out y hy).2) (by have:=Hlen4.out; omega))
  have Hmk:=Zac hmk
  clear hq hq0 hmk HL
  go_wp2_with fail
  refine HL5.out.mono ?_
  rintro e w6 ⟨rfl,hK6,hC6⟩
  have H6:Hid (∃ x',Kept (ownS b ⟨some ⟨lb,0,none⟩,cc,na,nc,some ⟨wb,0,none⟩,wc,va,vl,vc,fa,fl,fc⟩) w w6∧CSr w6 b x' cs a (Zay cs m)∧Zga w ⟨some ⟨lb,0,none⟩,cc,na,nc,some ⟨wb,0,none⟩,wc,va,vl,vc,fa,fl,fc⟩ x'):=⟨_,HK5.out.trans (hK6.mono (fun i _ e=>Or.inl e)),by rw [Hmk.out]; exact hC6,⟨fun j hj=>Or.inl hj,rfl,rfl,rfl,rfl⟩⟩
  clear hK6 hC6
  go_wp2
  go_end0
  exact ⟨rfl,H6.out⟩
 ·have hq3:(tryN n c k).2=3:=(Zeo HOk.out HSm.out Hco.out hq).1.symm
  obtain ⟨M5,hM5⟩:∃ M5:SN,M5 = { M4 with status:=3 }:=⟨_,rfl⟩
  have hmk:Zay cs m=Zde cs M5:=by
   unfold Zay
   rw [Hw1.out]
   simp only [Hc.out]
   rw [if_pos hq3,hM5,HM4.out,Htr.out]
  have hKs:Kept (only b) w5 (w5.setCell ⟨b,4,none⟩ (.int .i64 3)):=(Qx _ _).put 4 _
  have hC5':CSr (w5.setCell ⟨b,4,none⟩ (.int .i64 3)) b ⟨some ⟨lb,0,none⟩,cc,na,nc,some ⟨wb,0,none⟩,wc,va,vl,vc,fa,fl,fc⟩ cs a M5:=by
   refine HC5.out.upd hKs ?_ ⟨rfl,rfl,rfl,rfl⟩ (by rw [hM5]; exact HC5.out.way) (fun h=>by rw [hM5] at h; simp at h)
   have:=Zaf HC5.out.box 4 (.int .i64 3)
   rw [hM5]
   exact this
  have hw5:M5.way=M4.way∧M5.tree=M4.tree:=by rw [hM5]; exact ⟨rfl,rfl⟩
  have HL5:=Zac (HL.out _ _ M5 hC5' (by rw [hw5.1]; have:=Hlen4.out; omega) (fun y hy=>(Hnx4.out y (by rw [← hw5.1]; exact hy)).2) (by rw [hw5.1,hw5.2]; have:=Hlen4.out; omega))
  have Hmk:=Zac hmk
  have HK5':=Zac (HK5.out.trans (hKs.mono (fun i _ e=>Or.inl e)))
  clear hq hq3 hmk HL hC5' hKs hw5 hM5
  go_wp2_with fail
  refine HL5.out.mono ?_
  rintro e w6 ⟨rfl,hK6,hC6⟩
  have H6:Hid (∃ x',Kept (ownS b ⟨some ⟨lb,0,none⟩,cc,na,nc,some ⟨wb,0,none⟩,wc,va,vl,vc,fa,fl,fc⟩) w w6∧CSr w6 b x' cs a (Zay cs m)∧Zga w ⟨some ⟨lb,0,none⟩,cc,na,nc,some ⟨wb,0,none⟩,wc,va,vl,vc,fa,fl,fc⟩ x'):=⟨_,HK5'.out.trans (hK6.mono (fun i _ e=>Or.inl e)),by rw [Hmk.out]; exact hC6,⟨fun j hj=>Or.inl hj,rfl,rfl,rfl,rfl⟩⟩
  clear hK6 hC6
  go_wp2
  go_end0
  exact ⟨rfl,H6.out⟩
 ·obtain ⟨e1,e2⟩:=Zeo HOk.out HSm.out Hco.out hq
  obtain ⟨hOk2,hSm2⟩:=e2 hq12
  have hk12:(tryN n c k).2=1∨(tryN n c k).2=2:=by rw [← e1]; exact hq12
  have hNm2:=Zyt hq hq12 HNm.out Hcm.out
  have hFw2:=Zrz hq hq12 HFw.out HCf.out
  obtain ⟨vs1,hg1,_⟩:=hg'
  obtain ⟨vs2,hv1,_⟩:=hv'
  obtain ⟨vs3,hr1,_⟩:=hr'
  have hN5:NodeIn w5 (.slice g1 ch.goals.length g3) (.slice v1 v2 v3) (.slice q1 q2 q3) ch:=⟨⟨vs1,hg1⟩,⟨vs2,hv1⟩,⟨vs3,hr1⟩⟩
  have hCN:CNode w5 (.slice g1 ch.goals.length g3) (.slice v1 v2 v3) (.slice q1 q2 q3) (.int .i64 ch.vars) (tryN n c k).1:=⟨ch,hN5,rfl,hOk2,hNm2,hFw2,hSm2⟩
  obtain ⟨X,hX⟩:∃ X,X=Lib.decDigits k:=⟨_,rfl⟩
  have hXl:X.length≤24:=by rw [hX]; have:=Zjf k; omega
  obtain ⟨T,hT⟩:∃ T,T=m.tree:=⟨_,rfl⟩
  have hTl:T.length≤100000:=by
   have:=Hlen4.out
   rw [HM4.out] at this
   simp only at this
   rw [hT]; omega
  obtain ⟨M5,hM5⟩:∃ M5:SN,M5 = { M4 with tree:=T++X }:=⟨_,rfl⟩
  have hMt:M4.tree=T:=by rw [HM4.out,hT]
  have hmk:Zay cs m=Zde cs (Zbz M5 (tryN n c k).1):=by
   unfold Zay
   rw [Hw1.out]
   simp only [Hc.out]
   rw [if_neg (by omega),if_pos hk12,hM5,HM4.out,Htr.out,hT,hX]
  obtain ⟨w6,hw6⟩:∃ w6,w6=w5.drew.setCell ⟨b,7,none⟩ (.string ⟨(T++X).toArray⟩):=⟨_,rfl⟩
  have hK56:Kept (only b) w5 w6:=by rw [hw6]; exact ((Qx _ _).drew).put 7 _
  have hC6:CSr w6 b ⟨some ⟨lb,0,none⟩,cc,na,nc,some ⟨wb,0,none⟩,wc,va,vl,vc,fa,fl,fc⟩ cs a M5:=by
   refine HC5.out.upd hK56 ?_ ⟨rfl,rfl,rfl,rfl⟩ (by rw [hM5]; exact HC5.out.way) (fun h=>by rw [hM5] at h ⊢; exact HC5.out.found h)
   have:=Zaf (w:=w5.drew) HC5.out.box 7 (.string ⟨(T++X).toArray⟩)
   rw [hw6,hM5]
   exact this
  have hCN6:=hCN.keep hK56 HC5.out.off
  have hw5:M5.way=M4.way∧M5.tree=T++X:=by rw [hM5]; exact ⟨rfl,rfl⟩
  have hlen5:M5.tree.length+M5.way.length≤150000:=by
   have:=Hlen4.out
   rw [hw5.1,hw5.2,Qg]
   rw [hMt] at this
   omega
  have hused:(tryN n c k).1.used=Zfy M5.way:=by
   have h2:=HI.out.used
   rw [Hw1.out] at h2
   rw [Zja hk12,hw5.1,Hway4.out,Zmu,h2.1]
  have hnx5:∀ y ∈ M5.way,1≤y.2∧y.2≤4000:=fun y hy=>Hnx4.out y (by rw [← hw5.1]; exact hy)
  have HEn:Hid (Calls Tryz.prog 27 #[.pointer (some ⟨b,0,none⟩),.agg #[.slice g1 ch.goals.length g3,.slice v1 v2 v3,.slice q1 q2 q3,.int .i64 ch.vars]] w6 fun e w'=>e = .returned (.tuple #[])∧∃ x',Kept (ownS b ⟨some ⟨lb,0,none⟩,cc,na,nc,some ⟨wb,0,none⟩,wc,va,vl,vc,fa,fl,fc⟩) w6 w'∧CSr w' b x' cs a (Zbz M5 (tryN n c k).1)∧Zga w6 ⟨some ⟨lb,0,none⟩,cc,na,nc,some ⟨wb,0,none⟩,wc,va,vl,vc,fa,fl,fc⟩ x'):=by
   by_cases hgl:(tryN n c k).1.goals=[]
   ·exact Zwx w6 b _ cs a M5 _ _ _ _ _ hC6 hCN6 (by omega) hgl hused hnx5 (by rw [hw5.2,Qg]; omega)
   ·exact Zmx w6 b _ cs a M5 _ _ _ _ _ hC6 hCN6 (by omega) hgl (by rw [hw5.2,Qg]; omega)
  have Hbd:Hid ((Zbz M5 (tryN n c k).1).way.length≤200000∧(∀ y ∈ (Zbz M5 (tryN n c k).1).way,y.2≤4000)∧(Zbz M5 (tryN n c k).1).tree.length+(Zbz M5 (tryN n c k).1).way.length≤200000):=by
   show _∧_∧_
   unfold Zbz
   split
   ·simp only [Qg,Qn]
    exact ⟨by omega,fun y hy=>(hnx5 y hy).2,by omega⟩
   ·simp only [Qg,Jt,Qf]
    refine ⟨by omega,fun y hy => ?_,by omega⟩
    rcases Qp.1 hy with rfl | hy
    ·exact Qm _
    ·exact (hnx5 y hy).2
  have HXt:=Zac (Znl k w5.drew (by omega))
  rw [← hX] at HXt
  have Hmk:=Zac hmk
  have HK56:=Zac hK56
  have hs6:=hK56.size
  have Hw6:=Zac hw6
  have z6:∀ i v,w5.cell? ⟨bt,i,none⟩=some v→w6.cell? ⟨bt,i,none⟩=some v:=fun i v hv=>hK56.cell hv (fun e=>by
   have e:bt=b:=e
   have:W4.heap.size≤bt:=hb0
   omega)
  have z0:=z6 0 _ z0
  have z1:=z6 1 _ z1
  have z2:=z6 2 _ z2
  have z3:=z6 3 _ z3
  have b7':w5.drew.cell? ⟨b,7,none⟩=some (.string ⟨T.toArray⟩):=by rw [hT]; exact b7
  have bf':∀ i,w5.drew.frozen? ⟨b,i,none⟩=false:=bf
  have hbt6:bt<w6.heap.size:=by omega
  clear hq e1 e2 hOk2 hSm2 hk12 hNm2 hFw2 hg1 hv1 hr1 hN5 hCN hX hT hM5 hMt hmk hC6 hCN6 hw5 hlen5 hused hnx5 hK56 hw6 z6 b0 b1 b2 b3 b4 b5 b6 b7 bf
  go_wp2_with fail
  refine Zfe (by kernel_rfl) [.rd 0 2 (fun _ => .pointer (some ⟨b,0,none⟩)),.rd 0 2 (fun _ => .pointer (some ⟨b,0,none⟩)),.rd 0 2 (fun _ => .pointer (some ⟨b,7,none⟩)),.rd 0 1 (fun _ => .string ⟨T.toArray⟩),.rd 0 2 (fun _ => .int .i64 k),.st 0,.rd 1 2 (fun _ => .string ⟨(T++X).toArray⟩),.rd 0 2 (fun _ => .pointer (some ⟨b,0,none⟩)),.rd 0 2 (fun _ => .pointer (some ⟨b,7,none⟩)),.st 1] 2 7 (by kernel_rfl) (TreePh w5.drew b T X) rfl ?_ ?_
  ·refine ⟨⟨trivial,fun vs y _ hl hS => ?_⟩,⟨trivial,fun vs y _ hl hS => ?_⟩,⟨trivial,fun vs y _ hl hS => ?_⟩,⟨trivial,fun vs y _ hl hS => ?_⟩,⟨trivial,fun vs y _ hl hS => ?_⟩,⟨trivial,fun vs y hl hS => ?_⟩,⟨trivial,fun vs y hl0 hl hS => ?_⟩,⟨trivial,fun vs y _ hl hS => ?_⟩,⟨trivial,fun vs y _ hl hS => ?_⟩,⟨trivial,fun vs y hl hS => ?_⟩,trivial⟩
   ·simp [phAll,phA,pa,Ph.kd,Ph.val,Kd.val,go_sem]
   ·simp [phAll,phA,pa,Ph.kd,Ph.val,Kd.val,go_sem]
   ·simp [phAll,phA,pa,Ph.kd,Ph.val,Kd.val,go_sem]
   ·obtain rfl:=hS.at.1 hl
    simp [phAll,phA,pa,Ph.kd,Ph.val,Kd.val,go_sem,b7']
   ·simp [phAll,phA,pa,Ph.kd,Ph.val,Kd.val,go_sem]
   ·obtain rfl:=List.length_eq_zero_iff.1 hl
    obtain rfl:y=w5.drew:=hS
    refine .call 55 #[.int .i64 k] _ (by simp [phAll,phA,pa,Ph.kd,Ph.val,Kd.val,go_sem]) (HXt.out.mono ?_)
    rintro e u ⟨rfl,rfl⟩
    exact ⟨_,rfl,rfl,rfl⟩
   ·have h0:=hS.at.2 hl0
    rw [List.getD_eq_getElem?_getD] at h0
    simp [phAll,phA,pa,Ph.kd,Ph.val,Kd.val,go_sem,h0,Zbg,show ¬ 9223372036854775807<T.length+X.length by omega]
   ·simp [phAll,phA,pa,Ph.kd,Ph.val,Kd.val,go_sem]
   ·simp [phAll,phA,pa,Ph.kd,Ph.val,Kd.val,go_sem]
   ·obtain ⟨v,rfl⟩:=List.length_eq_one_iff.1 hl
    obtain ⟨rfl,hv⟩:=hS
    exact .skip _ (by simp [phAll,phA,pa,Ph.kd,Ph.val,Kd.val,go_sem,b7',bf']) ⟨hv,rfl⟩
  rintro vs y hl hS
  obtain ⟨v,v',rfl⟩:∃ v v',vs=[v,v']:=by
   match vs,hl with
   | [v,v'],_=>exact ⟨v,v',rfl⟩
  obtain ⟨hv,hy⟩:=hS
  rw [← Hw6.out] at hy
  subst hy
  simp only [phAll,phA,paAll,pa,Ph.kd,Ph.val,Kd.val,List.map_cons,List.map_nil,if_true,Act.put,List.setIfInBounds_toArray,List.set_cons_succ,List.set_cons_zero]
  clear hv b7' bf'
  go_wp2_with fail
  refine HEn.out.mono ?_
  rintro e w7 ⟨rfl,x7,hK7,hC7,hN7⟩
  have HL7:=Zac (HL.out w7 x7 _ hC7 Hbd.out.1 Hbd.out.2.1 Hbd.out.2.2)
  have HK7:=Zac hK7
  have HN7:=Zac hN7
  clear hK7 hC7 hN7 HL HEn
  go_wp2_with fail
  refine HL7.out.mono ?_
  rintro e w8 ⟨rfl,hK8,hC8⟩
  have H8:Hid (∃ x',Kept (ownS b ⟨some ⟨lb,0,none⟩,cc,na,nc,some ⟨wb,0,none⟩,wc,va,vl,vc,fa,fl,fc⟩) w w8∧CSr w8 b x' cs a (Zay cs m)∧Zga w ⟨some ⟨lb,0,none⟩,cc,na,nc,some ⟨wb,0,none⟩,wc,va,vl,vc,fa,fl,fc⟩ x'):=⟨x7,((HK5.out.trans (HK56.out.mono (fun i _ e=>Or.inl e))).trans HK7.out).trans (hK8.mono (fun i _ e=>Or.inl e)),by rw [Hmk.out]; exact hC8,⟨fun j hj=>by
   rcases HN7.out.1 j hj with h | h
   ·exact Or.inl h
   ·have:=HK5.out.size
    have:=HK56.out.size
    exact Or.inr (by omega),HN7.out.2⟩⟩
  clear hK8 hC8
  go_wp2
  go_end0
  exact ⟨rfl,H8.out⟩
def HoTy (t:TypeId):Prop:=t=88∨t=126∨t=9
def FrT (w w':World):Prop:=∀ (k:Nat) (cl:Array Value) (t:TypeId) (fr:Nat × Nat),w.heap[k]?=some (.cells cl t fr)→¬ HoTy t→w'.heap[k]?=some (.cells cl t fr)
theorem FrT.trans {w1 w2 w3:World} (h:FrT w1 w2) (h':FrT w2 w3):FrT w1 w3:=fun k cl t fr e ht=>h' k cl t fr (h k cl t fr e ht) ht
theorem FrT.of_ext {w w':World} (h:Ext w w'):FrT w w':=fun k cl t fr e _=>(h.block k (Zab e)).trans e
theorem FrT.of_kept {S:Nat→Prop} {w w':World} (h:Kept S w w') (hS:∀ k,S k→∃ cl t fr,w.heap[k]?=some (.cells cl t fr)∧HoTy t):FrT w w':=fun k cl t fr e ht=>(h.block k (Zab e) (fun hs=>by
 obtain ⟨cl',t',fr',h1,h2⟩:=hS k hs
 rw [h1] at e
 simp at e
 exact ht (e.2.1 ▸ h2))).trans e
theorem FrT.own {w w':World} {B:Nat} {e:TypeId} {size n:Nat} {v:Value} {xs:List Value} (hF:FrT w w') (he:¬ HoTy e) (h:w.ownsRow B e size v n xs):w'.ownsRow B e size v n xs :=
 Zaj h (fun k hj=>by
  rcases h.2 with ⟨rfl,_⟩ | ⟨g,cap,cur,rfl,_,hg,_⟩
  ·simp [Value.ownBlock] at hj
  ·simp [Value.ownBlock] at hj
   subst hj
   rw [hF _ _ _ _ hg he,hg])
theorem FrT.terms {w w':World} {v:Value} {ls:List (List Sym)} (hF:FrT w w') (h:TermsIn w v ls):TermsIn w' v ls:=by
 obtain ⟨vs,h⟩:=h
 exact ⟨vs,hF.own (by simp [HoTy]) h.owns,fun i l hl=>by
  obtain ⟨x,h1,h2⟩:=h.all i l hl
  exact ⟨x,h1,hF.own (by simp [HoTy]) h2⟩⟩
theorem CNode.fr {w w':World} {gv vv rv uv:Value} {n0:ND} (h:CNode w gv vv rv uv n0) (hF:FrT w w'):CNode w' gv vv rv uv n0:=by
 obtain ⟨n,h1,h2⟩:=h
 exact ⟨n,⟨hF.terms h1.goals,hF.terms h1.vals,hF.terms h1.done⟩,h2⟩
structure RowH (B:Nat) (w:World) (v:Value) (ds:List (ND × Nat)) (xs:List Value):Prop where
 owns:w.ownsRow B 126 5 v ds.length xs
 all:∀ (i:Nat) (d:ND × Nat),ds[i]?=some d→∃ x0 x1 x2 x3,xs[i * 5]?=some x0∧xs[i * 5+1]?=some x1∧xs[i * 5+2]?=some x2∧xs[i * 5+3]?=some x3∧xs[i * 5+4]?=some (.int .i64 d.2)∧CNode w x0 x1 x2 x3 d.1
theorem RowH.keep {B:Nat} {w w':World} {v:Value} {ds:List (ND × Nat)} {xs:List Value} (h:RowH B w v ds xs) (hF:FrT w w') (ho:∀ k,v.ownBlock=some k→w'.heap[k]?=w.heap[k]?):RowH B w' v ds xs :=
 ⟨Zaj h.owns ho,fun i d hd=>by
  obtain ⟨x0,x1,x2,x3,y0,y1,y2,y3,y4,g⟩:=h.all i d hd
  exact ⟨x0,x1,x2,x3,y0,y1,y2,y3,y4,g.fr hF⟩⟩
theorem RowH.pop {B:Nat} {w:World} {g n cap:Nat} {ds:List (ND × Nat)} {d:ND × Nat} {xs:List Value} (h:RowH B w (.slice (some ⟨g,0,none⟩) (n+1) cap) (ds++[d]) xs) (hn:ds.length=n):RowH B w (.slice (some ⟨g,0,none⟩) n cap) ds (xs.take (n * 5)):=by
 have ho:=h.owns
 rw [Qg,Qn,hn] at ho
 refine ⟨by rw [hn]; exact Zqf ho,fun i x hx => ?_⟩
 have hi:=(Qa.1 hx).1
 obtain ⟨x0,x1,x2,x3,y0,y1,y2,y3,y4,g⟩:=h.all i x (by rw [Qc hi]; exact hx)
 exact ⟨x0,x1,x2,x3,by rw [List.getElem?_take_of_lt (by omega)]; exact y0,by rw [List.getElem?_take_of_lt (by omega)]; exact y1,by rw [List.getElem?_take_of_lt (by omega)]; exact y2,by rw [List.getElem?_take_of_lt (by omega)]; exact y3,by rw [List.getElem?_take_of_lt (by omega)]; exact y4,g⟩
structure CHo (w0 w:World) (b:Nat) (cv nv:Value) (s:ByteArray) (p:Nat) (way:List (ND × Nat)) (A:List (List UInt8)) (wa:Option Addr) (wc:Nat) (aa:Option Addr) (ac:Nat):Prop where
 ext:Ext w0 w
 low:w0.heap.size≤b
 box:w.heap[b]?=some (.cells #[cv,nv,.string s,.int .i64 p,.slice wa way.length wc,.slice aa A.length ac] 88 (0,0))
 row:∃ ys,RowH w0.heap.size w (.slice wa way.length wc) way.reverse ys
 ans:w.ownsRow w0.heap.size 9 1 (.slice aa A.length ac) A.length (strs A)
def HoIn (w0 w:World) (b:Nat) (cv nv:Value) (s:ByteArray) (p:Nat) (way:List (ND × Nat)) (A:List (List UInt8)):Prop:=∃ wa wc aa ac,CHo w0 w b cv nv s p way A wa wc aa ac
theorem Zes {w:World} {B e size n:Nat} {v:Value} {xs:List Value} {b:Nat} {cl:Array Value} {t:TypeId} {fr:Nat × Nat} (h:w.ownsRow B e size v n xs) (hb:w.heap[b]?=some (.cells cl t fr)) (ht:e≠t):∀ k,v.ownBlock=some k→k≠b:=fun k hj e'=>by
 subst e'
 rcases h.2 with ⟨rfl,_⟩ | ⟨g,cap,cur,rfl,_,hg,_⟩
 ·simp [Value.ownBlock] at hj
 ·simp [Value.ownBlock] at hj
  subst hj
  rw [hg] at hb
  simp at hb
  exact ht hb.2.1
theorem CHo.grow {w0 w w':World} {b:Nat} {cv nv:Value} {s:ByteArray} {p:Nat} {way:List (ND × Nat)} {A:List (List UInt8)} {wa:Option Addr} {wc:Nat} {aa:Option Addr} {ac:Nat} (h:CHo w0 w b cv nv s p way A wa wc aa ac) (e:Ext w w'):CHo w0 w' b cv nv s p way A wa wc aa ac:=by
 obtain ⟨ys,h2⟩:=h.row
 exact ⟨h.ext.trans (e.mono h.ext.size),h.low,(e.block _ (Zab h.box)).trans h.box,⟨ys,h2.keep (FrT.of_ext e) (fun k hk=>e.block k (h2.owns.lt k hk).2)⟩,Zaj h.ans (fun k hk=>e.block k (h.ans.lt k hk).2)⟩
theorem CHo.upd {w0 w w':World} {b:Nat} {cv nv:Value} {s:ByteArray} {p p':Nat} {way way':List (ND × Nat)} {A:List (List UInt8)} {wa wa':Option Addr} {wc wc':Nat} {aa:Option Addr} {ac:Nat} (h:CHo w0 w b cv nv s p way A wa wc aa ac) (hk:Kept (only b) w w') (hbox:w'.heap[b]?=some (.cells #[cv,nv,.string s,.int .i64 p',.slice wa' way'.length wc',.slice aa A.length ac] 88 (0,0)))
  (hrow:∃ ys,RowH w0.heap.size w (.slice wa' way'.length wc') way'.reverse ys):CHo w0 w' b cv nv s p' way' A wa' wc' aa ac∧FrT w w':=by
 obtain ⟨ys,h2⟩:=hrow
 have hF:FrT w w':=FrT.of_kept hk (fun k e=>by
  have e:k=b:=e
  subst e
  exact ⟨_,_,_,h.box,by simp [HoTy]⟩)
 refine ⟨⟨Zdj h.ext hk h.low,h.low,hbox,⟨ys,h2.keep hF (fun k hj=>hk.block k (h2.owns.lt k hj).2 (Zes h2.owns h.box (by decide) k hj))⟩,Zaj h.ans (fun k hj=>hk.block k (h.ans.lt k hj).2 (Zes h.ans h.box (by decide) k hj))⟩,hF⟩
theorem Zoj (w0 w:World) (b:Nat) (cv nv:Value) (s:ByteArray) (p:Nat) (way:List (ND × Nat)) (A:List (List UInt8)) (c:UInt8) (hc:c≠0) (h:HoIn w0 w b cv nv s p way A) (hs:s.size≤20000) (hp:p≤s.size) :
  Calls Tryz.prog 57 #[.pointer (some ⟨b,0,none⟩),.int .u8 c.toNat] w fun e w'=>FrT w w'∧((s.data.toList[p]?=some c∧e = .returned (.bool true)∧HoIn w0 w' b cv nv s (p+1) way A)∨(s.data.toList[p]?≠some c∧e = .returned (.bool false)∧HoIn w0 w' b cv nv s p way A)):=by
 obtain ⟨wa,wc,aa,ac,h⟩:=h
 obtain ⟨b0,b1,b2,b3,b4,b5,bf⟩:=box6 h.box
 have hbl:=Zab h.box
 have H:=Zac h
 have HB:=Zac (fun u=>Zqm s p u (by omega) (by omega))
 by_cases he:s.data.toList[p]?=some c
 ·rw [(Zud hc).2 he] at HB
  have k1:((c.toNat:Int) != (c.toNat:Int))=false:=by simp
  clear h
  go_enter Tryz.func57,Tryz.ntmps57
  go_wp2_with fail
  go_quiet ((go_at_call 56; exact Calls.quiet_of_same (HB.out _)))
  go_wp2
  go_ret
  obtain ⟨g1,g2⟩:=H.out.upd (p':=p+1) (((Qx (only b) w).drewN nq).put 3 (.int .i64 ((p:Int)+1))) (Zaf (w:=w.drewN nq) H.out.box 3 _) H.out.row
  exact ⟨g2,Or.inl ⟨he,rfl,_,_,_,_,g1⟩⟩
 ·obtain ⟨d,hd⟩:∃ d,d=Zjd s.data.toList p:=⟨_,rfl⟩
  rw [← hd] at HB
  have k1:((d.toNat:Int) != (c.toNat:Int))=true:=by
   rw [bne_iff_ne]
   exact Ycn (fun e=>he ((Zud hc).1 (hd ▸ e)))
  clear h hd
  go_enter Tryz.func57,Tryz.ntmps57
  go_wp2_with fail
  go_quiet ((go_at_call 56; exact Calls.quiet_of_same (HB.out _)))
  go_wp2
  go_ret
  have hE:Ext w (w.drewN nq):=Ext.of ((Qx _ w).drewN _)
  exact ⟨FrT.of_ext hE,Or.inr ⟨he,rfl,_,_,_,_,H.out.grow hE⟩⟩
theorem Zwy (w0 w:World) (b:Nat) (cv nv:Value) (s:ByteArray) (p:Nat) (d:ND × Nat) (r:List (ND × Nat)) (A:List (List UInt8)) (h:HoIn w0 w b cv nv s p (d::r) A) (hs:s.size≤20000) (hp:p≤s.size) (hr:r.length≤20000) :
  Calls Tryz.prog 59 #[.pointer (some ⟨b,0,none⟩)] w fun e w'=>FrT w w'∧((s.data.toList[p]?=some 41∧e = .returned (.bool true)∧HoIn w0 w' b cv nv s (p+1) r A)∨(s.data.toList[p]?≠some 41∧e = .returned (.bool false)∧HoIn w0 w' b cv nv s p (d::r) A)):=by
 have HP:=Zac (Zoj w0 w b cv nv s p (d::r) A 41 (by decide) h hs hp)
 obtain ⟨wa,wc,aa,ac,h⟩:=h
 have hbx:=h.box
 simp only [Qf] at hbx
 obtain ⟨b0,b1,b2,b3,b4,b5,bf⟩:=box6 hbx
 have hbl:=Zab hbx
 have hgd:decide ((r.length:Int)<0)=false:=by rw [decide_eq_false_iff_not]; omega
 simp only [show ((41:UInt8).toNat:Int)=41 from rfl] at HP
 clear h hbx
 go_enter Tryz.func59,Tryz.ntmps59
 go_wp2_with fail
 refine HP.out.mono ?_
 rintro e w1 ⟨hF1,⟨hc,rfl,h1⟩ | ⟨hc,rfl,h1⟩⟩
 ·obtain ⟨wa1,wc1,aa1,ac1,h1⟩:=h1
  have hbx1:=h1.box
  simp only [Qf] at hbx1
  clear b0 b1 b2 b3 b4 b5 bf
  obtain ⟨b0,b1,b2,b3,b4,b5,bf⟩:=box6 hbx1
  obtain ⟨ys,hrow⟩:=h1.row
  simp only [Qf,List.reverse_cons] at hrow
  have ho:=hrow.owns
  rw [Qg,List.length_reverse,Qn] at ho
  obtain ⟨wb,wcap,wcur,hwe,_,hwb,hwcap⟩:=Zao ho (by omega)
  simp only [Value.slice.injEq] at hwe
  obtain ⟨rfl,_,rfl⟩:=hwe
  have hpop:=Zac (hrow.pop List.length_reverse)
  have hbl1:=Zab hbx1
  have H1:=Zac h1
  have HF1:=Zac hF1
  have Hbx1:=Zac hbx1
  have Hc:=Zac hc
  clear h1 hbx1 hrow ho hwb hF1 hc HP
  go_wp2
  go_ret
  obtain ⟨g1,g2⟩:=H1.out.upd (way':=r) ((Qx (only b) w1).put 4 (.slice (some ⟨wb,0,none⟩) r.length wc1)) (Zaf Hbx1.out 4 _) ⟨_,hpop.out⟩
  exact ⟨HF1.out.trans g2,Or.inl ⟨Hc.out,rfl,_,_,_,_,g1⟩⟩
 ·have H1:=Zac h1
  have HF1:=Zac hF1
  have Hc:=Zac hc
  clear h1 hF1 hc HP
  go_wp2
  go_ret
  exact ⟨HF1.out,Or.inr ⟨Hc.out,rfl,H1.out⟩⟩
theorem Yag (n:ND) (c:Cls) (k:Nat):Zgx n c k≠2:=by
 unfold Zgx
 split
 ·omega
 ·split <;> omega
theorem Zey {cs:List Cls} {n:Nat} {s:SN} (h:n=0∨s.status≠0∨s.way=[]∨3000≤s.tries):Zct cs n s=(s,0):=by
 cases n with
 | zero=>rfl
 | succ n =>
  unfold Zct
  rw [if_neg]
  rintro ⟨h1,h2,h3⟩
  rcases h with h | h | h | h
  ·omega
  ·exact h h1
  ·exact h2 h
  ·omega
theorem Yct {cs:List Cls} {n:Nat} {s:SN} (h1:s.status=0) (h2:s.way≠[]) (h3:s.tries<3000):Zct cs (n+1) s=((Zct cs n (Zay cs s)).1,(Zct cs n (Zay cs s)).2+1):=by
 rw [Zct,if_pos ⟨h1,h2,h3⟩]
theorem Ycu {cs:List Cls} {n j:Nat} {m m':SN} (h:m.status≠2∧m.status≠3) (hl:Zct cs n { m with status:=0 }=((Zct cs (n - j) m').1,(Zct cs (n - j) m').2+j)) (hs:Zct cs (n - j) m'=(m',0)):Zdf cs n m=(endN m',j):=by
 unfold Zdf
 rw [if_neg (by omega),hl,hs]
 simp
end Go.Proofs.YtlmjilpjmgjjcabGreatDoor
