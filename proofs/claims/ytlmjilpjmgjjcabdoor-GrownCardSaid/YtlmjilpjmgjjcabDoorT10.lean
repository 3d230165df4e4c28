/-
  PROVED HERE: the given card of 'Grown' (no conditions).
-/
import Derived.Test.YtlmjilpjmgjjcabDoorT9
import Derived.Test.YtlmjilpjmgjjcabDoorRows
import Derived.Test.YtlmjilpjmgjjcabDoorCards
import Derived.Test.YtlmjilpjmgjjcabDoorTie
import Derived.ProofKit
import Derived.LaidMore
import Derived.OpenShut
import Derived.Stop.Joined
import Derived.SevenTiedAt
import Derived.Deep.Slices
import Derived.Carry
set_option linter.unusedSimpArgs false
set_option linter.unusedVariables false
set_option maxRecDepth 10000
set_option maxHeartbeats 4000000
namespace Go.Proofs.YtlmjilpjmgjjcabDoor
open Go.RowKit
def symB (s t:Sym):Bool:=s.name == t.name && s.num == t.num && s.args == t.args
theorem Zyr {s t:Sym} (h:symB s t=true):s=t:=by
 unfold symB at h
 simp only [Bool.and_eq_true,beq_iff_eq] at h
 obtain ⟨⟨h1,h2⟩,h3⟩:=h
 cases s; cases t
 simp_all
theorem Ycj {s t:Sym} (h:symB s t=false):s≠t:=by
 rintro rfl
 simp [symB] at h
def Zni:List Sym→List Sym→Option (List Sym × List Sym)
 | s::a,t::b=>if symB s t then Zni a b else some ((s::a).take (skip 1 (s::a)),(t::b).take (skip 1 (t::b)))
 | _,_=>none
theorem Zsg {l:List Sym} {j:Nat} (h:Wf j l) (hj:0<j):Wf 1 (l.take (skip 1 l))∧l=l.take (skip 1 l)++l.drop (skip 1 l):=by
 refine ⟨?_,(List.take_append_drop _ _).symm⟩
 obtain ⟨k,rfl⟩:∃ k,j=1+k:=⟨j - 1,by omega⟩
 obtain ⟨a,b,rfl,ha,hb⟩:=Zhz h
 rw [Zhs b ha,List.take_left]
 exact ha
theorem Zme {s:Sym} {l:List Sym}:((s::l).take (skip 1 (s::l))).head?=some s:=by simp [skip]
theorem Zve:∀ {a b:List Sym} {j:Nat} {x y:List Sym},Wf j a→Wf j b→Zni a b=some (x,y)→Parts a b x y:=by
 intro a
 induction a with
 | nil=>intro b j x y _ _ h; simp [Zni] at h
 | cons s a ih =>
  intro b j x y ha hb h
  cases b with
  | nil=>simp [Zni] at h
  | cons t b =>
   unfold Zni at h
   split at h
   ·rename_i e
    obtain rfl:=Zyr e
    obtain ⟨_,_,_,h1⟩:=ha
    obtain ⟨_,_,_,h2⟩:=hb
    obtain ⟨⟨p,ra,rb,rfl,rfl⟩,wx,wy,ne⟩:=ih h1 h2 h
    exact ⟨⟨s::p,ra,rb,by simp,by simp⟩,wx,wy,ne⟩
   ·rename_i e
    obtain ⟨rfl,rfl⟩:(s::a).take (skip 1 (s::a))=x∧(t::b).take (skip 1 (t::b))=y:=by simpa using h
    obtain ⟨w1,e1⟩:=Zsg ha ha.1
    obtain ⟨w2,e2⟩:=Zsg hb hb.1
    refine ⟨⟨[],_,_,by rw [List.nil_append]; exact e1,by rw [List.nil_append]; exact e2⟩,w1,w2,?_⟩
    rw [Zme,Zme]
    intro h1
    exact Ycj (by simpa using e) (by simpa using h1)
theorem Zvf:∀ {a b:List Sym} {j:Nat},Wf j a→Wf j b→Zni a b=none→a=b:=by
 intro a
 induction a with
 | nil =>
  intro b j ha hb h
  cases b with
  | nil=>rfl
  | cons t b=>have h1:j=0:=ha; have h2:=hb.1; omega
 | cons s a ih =>
  intro b j ha hb h
  cases b with
  | nil=>have h1:j=0:=hb; have h2:=ha.1; omega
  | cons t b =>
   unfold Zni at h
   split at h
   ·rename_i e
    obtain rfl:=Zyr e
    obtain ⟨_,_,_,h1⟩:=ha
    obtain ⟨_,_,_,h2⟩:=hb
    rw [ih h1 h2 h]
   ·simp at h
def occB (v:Nat) (l:List Sym):Bool:=l.any (fun s=>s.name.isEmpty && s.num == v)
theorem Zsh {v:Nat} {l:List Sym} (h:occB v l=true):Occ v l:=by
 unfold occB at h
 rw [List.any_eq_true] at h
 obtain ⟨s,h1,h2⟩:=h
 simp only [Bool.and_eq_true,beq_iff_eq,List.isEmpty_iff] at h2
 exact ⟨s,h1,h2.1,h2.2⟩
def sgC (bs:List (Nat × List Sym)):Nat→List Sym:=fun n=>bs.foldl (fun t b=>ap (sub1 b.1 b.2) t) (vr n)
theorem Zsi (bs:List (Nat × List Sym)) (v:Nat) (y:List Sym):sgC (bs++[(v,y)])=fun n=>ap (sub1 v y) (sgC bs n):=by
 funext n
 simp [sgC,List.foldl_append]
def fitC:Nat→List Sym→List Sym→List (Nat × List Sym)→Option (Option (List (Nat × List Sym)))
 | 0,_,_,_=>none
 | f+1,a,b,bs=>match Zni a b with
  | none=>some (some bs)
  | some (x,y)=>match x.head?,y.head? with
   | some s,some t=>if s.name.isEmpty then (if occB s.num y then some none else fitC f (ap (sub1 s.num y) a) (ap (sub1 s.num y) b) (bs++[(s.num,y)]))
     else if t.name.isEmpty then (if occB t.num x then some none else fitC f (ap (sub1 t.num x) a) (ap (sub1 t.num x) b) (bs++[(t.num,x)]))
     else some none
   | _,_=>none
theorem Zsj {x:List Sym} {s:Sym} (h:Wf 1 x) (hs:x.head?=some s) (hn:s.name.isEmpty=true):x=vr s.num:=by
 obtain ⟨s',r,rfl,_,h2⟩:=Zji h
 simp at hs
 subst hs
 exact h2 (by simpa using hn)
theorem Yck {a0 b0:List Sym} {j:Nat}:∀ {f:Nat} {a b:List Sym} {bs:List (Nat × List Sym)},Carr a0 b0 (sgC bs) a b→Wf j a→Wf j b →
  (fitC f a b bs=some none→NoFit a0 b0)∧(∀ bs',fitC f a b bs=some (some bs')→Mgu (sgC bs') a0 b0):=by
 intro f
 induction f with
 | zero=>intro a b bs _ _ _; exact ⟨fun h=>by simp [fitC] at h,fun _ h=>by simp [fitC] at h⟩
 | succ f ih =>
  intro a b bs hC ha hb
  unfold fitC
  cases hp:Zni a b with
  | none =>
   refine ⟨fun h=>by simp at h,fun bs' h => ?_⟩
   simp at h
   subst h
   exact hC.done (Zvf ha hb hp)
  | some xy =>
   obtain ⟨x,y⟩:=xy
   have hP:=Zve ha hb hp
   simp only
   obtain ⟨s,r,hx,_,_⟩:=Zji hP.wx
   obtain ⟨t,q,hy,_,_⟩:=Zji hP.wy
   have hsx:x.head?=some s:=by rw [hx]; rfl
   have hty:y.head?=some t:=by rw [hy]; rfl
   rw [hsx,hty]
   simp only
   split
   ·rename_i e
    have hv:=Zsj hP.wx hsx e
    split
    ·rename_i o
     exact ⟨fun _=>hC.none (Or.inl (Zjx hP hv (Zsh o))),fun _ h=>by simp at h⟩
    ·have hC':=hC.step (Or.inl hP) hv
     rw [← Zsi] at hC'
     exact ih hC' (Zhi (Zjw hP.wy) ha) (Zhi (Zjw hP.wy) hb)
   ·rename_i e
    split
    ·rename_i e2
     have hv:=Zsj hP.wy hty e2
     split
     ·rename_i o
      exact ⟨fun _=>hC.none (Or.inr (Zjx hP.symm hv (Zsh o))),fun _ h=>by simp at h⟩
     ·have hC':=hC.step (Or.inr hP.symm) hv
      rw [← Zsi] at hC'
      exact ih hC' (Zhi (Zjw hP.wx) ha) (Zhi (Zjw hP.wx) hb)
    ·rename_i e2
     exact ⟨fun _=>hC.none (Or.inl (Zsu hP hx hy (by simpa using e) (by simpa using e2))),fun _ h=>by simp at h⟩
def tryC (n:ND) (c:Cls) (k:Nat):Option (ND × Nat):=match n.goals with
 | []=>none
 | g::gs=>match fitC 200 g.1 (ap (Zda n.vars) c.head) [] with
  | none=>none
  | some none=>some (⟨[],[],[],[],0⟩,0)
  | some (some bs)=>if 30<(ap (sgC bs) g.1).length then some (⟨[],[],[],[],0⟩,3) else some (Zat (sgC bs) n c k g gs,Zek (Zat (sgC bs) n c k g gs))
theorem Zsk {n:ND} {c:Cls} {k q:Nat} {ch:ND} (hn:NOk n) (hc:COk c) (h:tryC n c k=some (ch,q)):Out n c k q ch:=by
 unfold tryC at h
 split at h
 ·simp at h
 ·rename_i g gs hg
  have w1:Wf 1 g.1:=hn.wf g.1 (by unfold ND.terms; rw [hg]; simp)
  have w2:Wf 1 (ap (Zda n.vars) c.head):=Zhi (fun m=>Zpr _) hc.wfh
  have hC:=Yck (f:=200) (bs:=[]) (j:=1) (Carr.start w1 w2) w1 w2
  refine ⟨g,gs,hg,?_⟩
  split at h
  ·simp at h
  ·rename_i e
   simp at h
   exact Or.inl ⟨h.2.symm,hC.1 e⟩
  ·rename_i bs e
   have hM:=hC.2 bs e
   split at h
   ·rename_i hl
    simp at h
    exact Or.inr (Or.inl ⟨h.2.symm,hM.small hl⟩)
   ·rename_i hl
    simp at h
    exact Or.inr (Or.inr ⟨sgC bs,hM,by omega,h.2.symm,h.1.symm⟩)
def RelW:List (ND × Nat)→List (ND × Nat)→Prop
 | [],[]=>True
 | x::r,y::q=>(NOk x.1∧Same x.1 y.1∧x.2=y.2)∧RelW r q
 | _,_=>False
structure RelS (s t:SN):Prop where
 way:RelW s.way t.way
 tries:s.tries=t.tries
 status:s.status=t.status
 found:s.status=1→NOk s.found∧Same s.found t.found
 tree:s.tree=t.tree
theorem RelW.nil_iff {a b:List (ND × Nat)} (h:RelW a b):a=[]↔b=[]:=by
 cases a <;> cases b <;> simp_all [RelW]
theorem RelW.leave (cs:List Cls):∀ {a b:List (ND × Nat)} {t:List UInt8},RelW a b→RelW (Zcw cs a t).1 (Zcw cs b t).1∧(Zcw cs a t).2=(Zcw cs b t).2:=by
 intro a
 induction a with
 | nil =>
  intro b t h
  cases b with
  | nil=>exact ⟨trivial,rfl⟩
  | cons y q=>exact h.elim
 | cons x r ih =>
  intro b t h
  cases b with
  | nil=>exact h.elim
  | cons y q =>
   obtain ⟨n,k⟩:=x
   obtain ⟨m,j⟩:=y
   obtain ⟨⟨h1,h2,h3⟩,h4⟩:=h
   simp only at h3
   subst h3
   unfold Zcw
   split
   ·exact ih h4
   ·exact ⟨⟨⟨h1,h2,rfl⟩,h4⟩,rfl⟩
def Zsl (cs:List Cls) (s:SN):SN:=⟨(Zcw cs s.way s.tree).1,s.tries,s.status,s.found,(Zcw cs s.way s.tree).2⟩
theorem RelS.left (cs:List Cls) {s t:SN} (h:RelS s t):RelS (Zsl cs s) (Zdd cs t):=by
 have h1:=h.way.leave cs (t:=s.tree)
 unfold Zsl Zdd
 refine ⟨?_,h.tries,h.status,h.found,?_⟩
 ·simp only; rw [← h.tree]; exact h1.1
 ·simp only; rw [← h.tree]; exact h1.2
def Znj (s:SN) (n:ND):SN:=if n.goals.isEmpty then ⟨s.way,s.tries,1,n,s.tree++[33]⟩ else ⟨(n,0)::s.way,s.tries,s.status,s.found,s.tree++[40]⟩
theorem RelS.enter {s t:SN} (h:RelS s t) {n m:ND} (hn:NOk n) (hs:Same n m):RelS (Znj s n) (Zbz t m):=by
 have hg:=hs.gl
 unfold Znj Zbz
 by_cases he:n.goals=[]
 ·have he':m.goals=[]:=List.eq_nil_of_length_eq_zero (by rw [← hg,he]; rfl)
  rw [if_pos (by simp [he]),if_pos he']
  exact ⟨h.way,h.tries,rfl,fun _=>⟨hn,hs⟩,by simp only; rw [h.tree]⟩
 ·have he':m.goals≠[]:=fun e=>he (List.eq_nil_of_length_eq_zero (by rw [hg,e]; rfl))
  rw [if_neg (by simpa using he),if_neg he']
  exact ⟨⟨⟨hn,hs,rfl⟩,h.way⟩,h.tries,h.status,h.found,by simp only; rw [h.tree]⟩
def decC (k:Nat):List UInt8:=if k<10 then [UInt8.ofNat (48+k)] else Lib.decDigits k
theorem Zys (k:Nat):decC k=Lib.decDigits k:=by
 unfold decC
 split
 ·rename_i h
  rw [Lib.decDigits_one h]
 ·rfl
def Zip (cs:List Cls) (s:SN):Option SN:=match s.way with
 | []=>some s
 | (n,k)::r=>match cs[k]? with
  | none=>some s
  | some c=>match tryC n c k with
   | none=>none
   | some (ch,q)=>some (Zsl cs (if q=3 then ⟨(n,k+1)::r,s.tries+1,3,s.found,s.tree⟩
    else if q=1∨q=2 then Znj ⟨(n,k+1)::r,s.tries+1,s.status,s.found,s.tree++decC k⟩ ch
    else ⟨(n,k+1)::r,s.tries+1,s.status,s.found,s.tree⟩))
theorem RelS.try' {cs:List Cls} (hcs:∀ c ∈ cs,COk c) {s t s':SN} (h:RelS s t) (he:Zip cs s=some s'):RelS s' (Zax cs t):=by
 unfold Zip at he
 unfold Zax
 have hw:=h.way
 cases hs:s.way with
 | nil =>
  rw [hs] at he hw
  cases ht:t.way with
  | nil=>simp at he; subst he; exact h
  | cons y q=>rw [ht] at hw; exact hw.elim
 | cons x r =>
  rw [hs] at he hw
  cases ht:t.way with
  | nil=>rw [ht] at hw; exact hw.elim
  | cons y q =>
   rw [ht] at hw
   obtain ⟨n,k⟩:=x
   obtain ⟨m,j⟩:=y
   obtain ⟨⟨h1,h2,h3⟩,h4⟩:=hw
   simp only at h1 h2 h3
   subst h3
   simp only at he ⊢
   cases hc:cs[k]? with
   | none=>rw [hc] at he; simp at he; subst he; exact h
   | some c =>
    rw [hc] at he
    simp only at he ⊢
    cases hq:tryC n c k with
    | none=>rw [hq] at he; simp at he
    | some cq =>
     obtain ⟨ch,q'⟩:=cq
     rw [hq] at he
     simp only [Qo] at he
     subst he
     rw [Zys]
     have hcc:=hcs c (Qh hc)
     obtain ⟨e1,e2⟩:=Zgg h1 h2 hcc (Zsk h1 hcc hq)
     refine RelS.left cs ?_
     rw [← e1]
     split
     ·exact ⟨⟨⟨h1,h2,rfl⟩,h4⟩,by simp only; rw [h.tries],rfl,fun h=>by simp at h,h.tree⟩
     ·split
      ·rename_i h12
       exact RelS.enter (s:=⟨(n,k+1)::r,s.tries+1,s.status,s.found,s.tree++Lib.decDigits k⟩) (t:=⟨(m,k+1)::q,t.tries+1,t.status,t.found,t.tree++Lib.decDigits k⟩) ⟨⟨⟨h1,h2,rfl⟩,h4⟩,by simp only; rw [h.tries],h.status,h.found,by simp only; rw [h.tree]⟩ (e2 h12).1 (e2 h12).2
      ·exact ⟨⟨⟨h1,h2,rfl⟩,h4⟩,by simp only; rw [h.tries],h.status,h.found,h.tree⟩
def Zkz (cs:List Cls):Nat→SN→Option (SN × Nat)
 | 0,s=>some (s,0)
 | n+1,s=>if s.status=0∧s.way.isEmpty=false∧s.tries<3000 then match Zip cs s with
   | none=>none
   | some s'=>match Zkz cs n s' with
    | none=>none
    | some (u,m)=>some (u,m+1)
  else some (s,0)
theorem RelS.loop {cs:List Cls} (hcs:∀ c ∈ cs,COk c):∀ {n:Nat} {s t:SN} {r:SN × Nat},RelS s t→Zkz cs n s=some r→RelS r.1 (Zcr cs n t).1∧r.2=(Zcr cs n t).2:=by
 intro n
 induction n with
 | zero=>intro s t r h he; simp [Zkz] at he; subst he; exact ⟨h,rfl⟩
 | succ n ih =>
  intro s t r h he
  have hiff:(s.status=0∧s.way.isEmpty=false∧s.tries<3000)↔(t.status=0∧t.way≠[]∧t.tries<3000):=by
   rw [h.status,h.tries,List.isEmpty_eq_false_iff,Ne,h.way.nil_iff]
  unfold Zkz at he
  unfold Zcr
  split at he
  ·rename_i hc
   rw [if_pos (hiff.1 hc)]
   cases hm:Zip cs s with
   | none=>rw [hm] at he; simp at he
   | some s' =>
    rw [hm] at he
    simp only at he
    cases hl:Zkz cs n s' with
    | none=>rw [hl] at he; simp at he
    | some um =>
     obtain ⟨u,m⟩:=um
     rw [hl] at he
     simp at he
     subst he
     have:=ih (h.try' hcs hm) hl
     exact ⟨this.1,by simp only; rw [← this.2]⟩
  ·rename_i hc
   rw [if_neg (fun e=>hc (hiff.2 e))]
   simp at he
   subst he
   exact ⟨h,rfl⟩
def Zsm (s:SN):SN:=⟨[],s.tries,3,s.found,[]⟩
def Ycl (s:SN):SN:=if s.status=3 then Zsm s else if s.status=0 then (if s.way.isEmpty then ⟨s.way,s.tries,2,s.found,s.tree⟩ else if 3000≤s.tries then Zsm s else s) else s
theorem RelS.full {s t:SN} (h:RelS s t):RelS (Zsm s) (Zfn t):=⟨trivial,h.tries,rfl,fun h=>by simp [Zsm] at h,rfl⟩
theorem RelS.end' {s t:SN} (h:RelS s t):RelS (Ycl s) (endN t):=by
 unfold Ycl endN
 rw [h.status]
 split
 ·exact h.full
 ·split
  ·rename_i h3 h0
   by_cases hw:s.way=[]
   ·rw [if_pos (by simp [hw]),if_pos (h.way.nil_iff.1 hw)]
    exact ⟨h.way,h.tries,rfl,fun h=>by simp at h,h.tree⟩
   ·rw [if_neg (by simpa using hw),if_neg (fun e=>hw (h.way.nil_iff.2 e)),h.tries]
    split
    ·exact h.full
    ·exact h
  ·exact h
def Zfe (cs:List Cls) (n:Nat) (s:SN):Option (SN × Nat):=if s.status=2∨s.status=3 then some (s,0) else match Zkz cs n ⟨s.way,s.tries,0,s.found,s.tree⟩ with
 | none=>none
 | some (u,m)=>some (Ycl u,m)
theorem RelS.step {cs:List Cls} (hcs:∀ c ∈ cs,COk c) {n:Nat} {s t:SN} {r:SN × Nat} (h:RelS s t) (he:Zfe cs n s=some r):RelS r.1 (Zcb cs n t).1∧r.2=(Zcb cs n t).2:=by
 unfold Zfe at he
 unfold Zcb
 rw [h.status] at he
 split at he
 ·rename_i hc
  simp at he
  subst he
  rw [if_pos hc]
  exact ⟨h,rfl⟩
 ·rename_i hc
  rw [if_neg hc]
  cases hl:Zkz cs n ⟨s.way,s.tries,0,s.found,s.tree⟩ with
  | none=>rw [hl] at he; simp at he
  | some um =>
   obtain ⟨u,m⟩:=um
   rw [hl] at he
   simp at he
   subst he
   have:=RelS.loop hcs (s:=⟨s.way,s.tries,0,s.found,s.tree⟩) (t := { t with status:=0 }) ⟨h.way,h.tries,rfl,fun h=>by simp at h,h.tree⟩ hl
   exact ⟨this.1.end',this.2⟩
def Zjg (cs:List Cls) (a:List (List Sym) × Names):SN:=Zsl cs (Znj ⟨[],0,0,⟨[],[],[],[],0⟩,[]⟩ (topN a))
theorem RelS.new {cs:List Cls} {a:List (List Sym) × Names} (h:NOk (topN a)):RelS (Zjg cs a) (newN cs a) :=
 RelS.left cs (RelS.enter (s:=⟨[],0,0,⟨[],[],[],[],0⟩,[]⟩) (t:=⟨[],0,0,⟨[],[],[],[],0⟩,[]⟩) ⟨trivial,rfl,rfl,fun h=>by simp at h,rfl⟩ h (Same.refl h))
def Znk:List UInt8→List Nat→List UInt8
 | _,[]=>[]
 | sep,k::ks=>sep++(decC k++Znk [46] ks)
theorem Zvg:∀ (sep:List UInt8) (ks:List Nat),Znk sep ks=Zef sep ks:=by
 intro sep ks
 induction ks generalizing sep with
 | nil=>rfl
 | cons k ks ih=>simp only [Znk,Zef,Zys,ih]
def Zyt (a:List (List Sym) × Names) (s:SN):List UInt8 × List UInt8 × List UInt8:=if s.status=1 then (Zbr a.2 s.found,Znk [] s.found.used,[]) else if s.status=2 then ([],[],s.tree) else ([],[],[])
theorem Zsn {a:List (List Sym) × Names} {s t:SN} (h:RelS s t):Zyt a s=Zcq a t.status t.found t.tree:=by
 unfold Zyt Zcq
 rw [h.status,h.tree]
 split
 ·rename_i h1
  obtain ⟨hn,hs⟩:=h.found (by rw [h.status]; exact h1)
  rw [show Zbr a.2 s.found=Zbr a.2 t.found by unfold Zbr; rw [hs.valsC hn],Zvg,Zig,hs.used]
 ·rfl
def addC (a:List (List Sym) × Names) (t:Tr) (r:SN × Nat):Tr :=
 if r.1.status=1 then ⟨t.ans++[(Zyt a r.1).1],t.wts++[(Zyt a r.1).2.1],t.tries+r.2,r.1.status⟩ else ⟨t.ans,t.wts,t.tries+r.2,r.1.status⟩
def aftC (cs:List Cls) (a:List (List Sym) × Names) (tries size:Nat):Nat→SN→Tr→Option (SN × Tr)
 | 0,m,t=>some (m,t)
 | f+1,m,t=>if t.tries<tries then match Zfe cs (Zgd size (tries - t.tries)) m with
   | none=>none
   | some r=>if r.1.status=2∨r.1.status=3 then some (r.1,addC a t r) else aftC cs a tries size f r.1 (addC a t r)
  else some (m,t)
theorem Ycm {a:List (List Sym) × Names} {t:Tr} {r u:SN × Nat} (h:RelS r.1 u.1) (h2:r.2=u.2):addC a t r=addN a t u:=by
 unfold addC addN
 rw [Zsn h,h.status,h2]
theorem Ycn {cs:List Cls} (hcs:∀ c ∈ cs,COk c) {a:List (List Sym) × Names} {tries size:Nat}:∀ {f:Nat} {s m:SN} {t:Tr} {r:SN × Tr},RelS s m→aftC cs a tries size f s t=some r→RelS r.1 (aftN cs a tries size f m t).1∧r.2=(aftN cs a tries size f m t).2:=by
 intro f
 induction f with
 | zero=>intro s m t r h he; simp [aftC] at he; subst he; exact ⟨h,rfl⟩
 | succ f ih =>
  intro s m t r h he
  unfold aftC at he
  unfold aftN
  split at he
  ·rename_i hlt
   rw [if_pos hlt]
   cases hs:Zfe cs (Zgd size (tries - t.tries)) s with
   | none=>rw [hs] at he; simp at he
   | some u =>
    rw [hs] at he
    simp only at he
    obtain ⟨h1,h2⟩:=h.step hcs hs
    rw [Ycm h1 h2,h1.status] at he
    split at he
    ·rename_i hd
     rw [if_pos hd]
     simp at he
     subst he
     exact ⟨h1,rfl⟩
    ·rename_i hd
     rw [if_neg hd]
     exact ih h1 he
  ·rename_i hlt
   rw [if_neg hlt]
   simp at he
   subst he
   exact ⟨h,rfl⟩
def Zso (p q:List UInt8):Option (Tr × List UInt8):=match Zck ⟨p.toArray⟩,Zdr ⟨q.toArray⟩ with
 | some cs,some a=>match aftC cs a 3001 3000 3002 (Zjg cs a) ⟨[],[],0,0⟩ with
  | some (u,t)=>some (t,(Zyt a u).2.2)
  | none=>none
 | _,_=>none
theorem Zyu {p q:List UInt8} {t:Tr} {T:List UInt8} (h:Zso p q=some (t,T)):∃ cs a,Zck ⟨p.toArray⟩=some cs∧Zdr ⟨q.toArray⟩=some a∧(aftN cs a 3001 3000 3002 (newN cs a) ⟨[],[],0,0⟩).2=t ∧
  (Zcq a (aftN cs a 3001 3000 3002 (newN cs a) ⟨[],[],0,0⟩).1.status (aftN cs a 3001 3000 3002 (newN cs a) ⟨[],[],0,0⟩).1.found (aftN cs a 3001 3000 3002 (newN cs a) ⟨[],[],0,0⟩).1.tree).2.2=T:=by
 unfold Zso at h
 cases hp:Zck ⟨p.toArray⟩ with
 | none=>rw [hp] at h; simp at h
 | some cs =>
  cases hq:Zdr ⟨q.toArray⟩ with
  | none=>rw [hp,hq] at h; simp at h
  | some a =>
   rw [hp,hq] at h
   simp only at h
   obtain ⟨_,_,_,hcs,_⟩:=Zcp hp
   obtain ⟨_,_,_,hOk,_,_,_,_,_⟩:=Zcl hq
   cases hA:aftC cs a 3001 3000 3002 (Zjg cs a) ⟨[],[],0,0⟩ with
   | none=>rw [hA] at h; simp at h
   | some r =>
    obtain ⟨u,t'⟩:=r
    rw [hA] at h
    simp only [Qo,Prod.mk.injEq] at h
    obtain ⟨h1,h2⟩:=Ycn (fun c hc=>(hcs c hc).1) (RelS.new hOk) hA
    exact ⟨cs,a,rfl,rfl,by rw [← h2]; exact h.1,by rw [← Zsn h1]; exact h.2⟩
theorem Zvh {p q:List UInt8} {t:Tr} {T:List UInt8} (h:Zso p q=some (t,T)) (w:World) :
  Calls Tryd.prog 14 #[.string ⟨p.toArray⟩,.string ⟨q.toArray⟩] w fun e w'=>Ext w w'∧∃ aa ac wa wc,e = .returned (.tuple #[.agg #[.slice aa t.ans.length ac,.slice wa t.wts.length wc,.int .i64 t.tries,.int .i64 t.status,.string ⟨T.toArray⟩],.bool true]) ∧
   w'.ownsRow w.heap.size 9 1 (.slice aa t.ans.length ac) t.ans.length (strs t.ans)∧w'.ownsRow w.heap.size 9 1 (.slice wa t.wts.length wc) t.wts.length (strs t.wts):=by
 obtain ⟨cs,a,hp,hq,h1,h2⟩:=Zyu h
 have hps:(⟨p.toArray⟩:ByteArray).size≤maxLen:=by
  have:=(Zcp hp).1
  simp only [maxLen]; omega
 have hqs:(⟨q.toArray⟩:ByteArray).size≤maxLen:=by
  have:=(Zcl hq).1
  simp only [maxLen]; omega
 have:=Zyq ⟨p.toArray⟩ ⟨q.toArray⟩ w cs a hps hqs hp hq
 unfold Zyp at this
 rw [h1,h2] at this
 exact this
def Zgy (cs:List Cls):ND→List Nat→Nat→Option (ND × Nat × Nat)
 | n,[],i=>if n.goals.isEmpty then some (n,0,0) else some (n,7,i)
 | n,k::ks,i=>match cs[k]? with
  | none=>some (n,7,i)
  | some c=>if n.goals.isEmpty then some (n,7,i) else match tryC n c k with
   | none=>none
   | some (ch,q)=>if q=1∨q=2 then Zgy cs ch ks (i+1) else some (n,7,i)
theorem Zvi {cs:List Cls} (hcs:∀ c ∈ cs,COk c):∀ {ks:List Nat} {n m:ND} {i:Nat} {r:ND × Nat × Nat},NOk n→Same n m→Zgy cs n ks i=some r→(NOk r.1∧Same r.1 (Zar cs m ks i).1)∧r.2=(Zar cs m ks i).2:=by
 intro ks
 induction ks with
 | nil =>
  intro n m i r hn hs h
  have hg:=hs.gl
  unfold Zgy at h
  unfold Zar
  by_cases he:n.goals=[]
  ·have he':m.goals=[]:=List.eq_nil_of_length_eq_zero (by rw [← hg,he]; rfl)
   rw [if_pos (by simp [he])] at h
   rw [if_pos he']
   simp at h
   subst h
   exact ⟨⟨hn,hs⟩,rfl⟩
  ·have he':m.goals≠[]:=fun e=>he (List.eq_nil_of_length_eq_zero (by rw [hg,e]; rfl))
   rw [if_neg (by simpa using he)] at h
   rw [if_neg he']
   simp at h
   subst h
   exact ⟨⟨hn,hs⟩,rfl⟩
 | cons k ks ih =>
  intro n m i r hn hs h
  have hg:=hs.gl
  unfold Zgy at h
  unfold Zar
  cases hc:cs[k]? with
  | none =>
   rw [hc] at h
   simp at h
   subst h
   exact ⟨⟨hn,hs⟩,rfl⟩
  | some c =>
   rw [hc] at h
   simp only at h ⊢
   by_cases he:n.goals=[]
   ·have he':m.goals=[]:=List.eq_nil_of_length_eq_zero (by rw [← hg,he]; rfl)
    rw [if_pos (by simp [he])] at h
    rw [if_pos he']
    simp at h
    subst h
    exact ⟨⟨hn,hs⟩,rfl⟩
   ·have he':m.goals≠[]:=fun e=>he (List.eq_nil_of_length_eq_zero (by rw [hg,e]; rfl))
    rw [if_neg (by simpa using he)] at h
    rw [if_neg he']
    cases hq:tryC n c k with
    | none=>rw [hq] at h; simp at h
    | some cq =>
     obtain ⟨ch,q⟩:=cq
     rw [hq] at h
     simp only at h
     have hcc:=hcs c (Qh hc)
     obtain ⟨e1,e2⟩:=Zgg hn hs hcc (Zsk hn hcc hq)
     rw [← e1]
     split at h
     ·rename_i h12
      rw [if_pos h12]
      exact ih (e2 h12).1 (e2 h12).2 h
     ·rename_i h12
      rw [if_neg h12]
      simp at h
      subst h
      exact ⟨⟨hn,hs⟩,rfl⟩
def Yat (p q x:List UInt8):Option (List UInt8 × Nat × Nat):=match Zck ⟨p.toArray⟩,Zdr ⟨q.toArray⟩ with
 | some cs,some a=>if 400<x.length then none else match Zdj (x.length+1) x 0 [] with
  | (none,at')=>some ([],6,at')
  | (some ks,_)=>match Zgy cs (topN a) ks 0 with
   | none=>none
   | some r=>if r.2.1=0 then some (Zbr a.2 r.1,0,0) else some ([],r.2.1,r.2.2)
 | _,_=>none
theorem Yau {p q x:List UInt8} {r:List UInt8 × Nat × Nat} (h:Yat p q x=some r):yesN ⟨p.toArray⟩ ⟨q.toArray⟩ ⟨x.toArray⟩=r∧p.length≤800∧q.length≤120∧x.length≤400:=by
 unfold Yat at h
 cases hp:Zck ⟨p.toArray⟩ with
 | none=>rw [hp] at h; simp at h
 | some cs =>
  cases hq:Zdr ⟨q.toArray⟩ with
  | none=>rw [hp,hq] at h; simp at h
  | some a =>
   rw [hp,hq] at h
   simp only at h
   obtain ⟨hps,_,_,hcs,_⟩:=Zcp hp
   obtain ⟨hqs,_,_,hOk,_,_,_,_,_⟩:=Zcl hq
   split at h
   ·simp at h
   ·rename_i hx
    have hx':¬ 400<(⟨x.toArray⟩:ByteArray).size:=by simpa [ByteArray.size] using hx
    refine ⟨?_,by simpa [ByteArray.size] using hps,by simpa [ByteArray.size] using hqs,by omega⟩
    have hnl:Zcv ⟨x.toArray⟩=Zdj (x.length+1) x 0 []:=by
     unfold Zcv
     simp [ByteArray.size]
    unfold yesN Zdu
    rw [hp,hq]
    simp only
    rw [if_neg hx',hnl]
    cases hn:Zdj (x.length+1) x 0 [] with
    | mk o at' =>
     rw [hn] at h
     cases o with
     | none=>simp at h; subst h; simp
     | some ks =>
      simp only at h ⊢
      cases hf:Zgy cs (topN a) ks 0 with
      | none=>rw [hf] at h; simp at h
      | some u =>
       rw [hf] at h
       simp only at h
       obtain ⟨⟨h1,h2⟩,h3⟩:=Zvi (fun c hc=>(hcs c hc).1) hOk (Same.refl hOk) hf
       have h4:(Zar cs (topN a) ks 0).2.1=u.2.1:=by rw [h3]
       have h5:(Zar cs (topN a) ks 0).2.2=u.2.2:=by rw [h3]
       rw [h4,h5]
       split at h
       ·rename_i h0
        rw [if_pos h0]
        simp at h
        rw [← h,show Zbr a.2 u.1=Zbr a.2 (Zar cs (topN a) ks 0).1 by unfold Zbr; rw [h2.valsC h1]]
       ·rename_i h0
        rw [if_neg h0]
        simp at h
        exact h
theorem Yav {p q x:List UInt8} {r:List UInt8 × Nat × Nat} (h:Yat p q x=some r) (w:World) :
  Calls Tryd.prog 17 #[.string ⟨p.toArray⟩,.string ⟨q.toArray⟩,.string ⟨x.toArray⟩] w fun e w'=>e = .returned (.tuple #[.string ⟨r.1.toArray⟩,.int .i64 r.2.1,.int .i64 r.2.2])∧Ext w w':=by
 obtain ⟨h1,h2,h3,h4⟩:=Yau h
 have:=Yap ⟨p.toArray⟩ ⟨q.toArray⟩ ⟨x.toArray⟩ w (by simp only [maxLen,ByteArray.size,List.size_toArray]; omega) (by simp only [maxLen,ByteArray.size,List.size_toArray]; omega) (by simp only [maxLen,ByteArray.size,List.size_toArray]; omega)
 rw [h1] at this
 exact this
def peaC:Nat→List UInt8
 | 0=>[122]
 | k+1=>[115,40]++peaC k++[41]
def Zpn:Nat→List UInt8
 | 0=>[48]
 | k+1=>Zpn k++[46,48]
def Zvj:List UInt8:=[112,40,88,41,32,58,45,32,112,40,115,40,88,41,41,46]
def Zre (k:Nat):List UInt8:=[112,40]++peaC k++[41,46]
def twoC (p q:List UInt8) (n:Nat):Option (Nat × Nat × Nat × Nat):=match Zck ⟨p.toArray⟩,Zdr ⟨q.toArray⟩ with
 | some cs,some a=>match Zfe cs n (Zjg cs a) with
  | none=>none
  | some u=>match Zfe cs 3000 u.1 with
   | none=>none
   | some v=>some (u.2,u.1.status,v.2,v.1.status)
 | _,_=>none
theorem Yco {p q:List UInt8} {n:Nat} {r:Nat × Nat × Nat × Nat} (h:twoC p q n=some r):∃ cs a,Zck ⟨p.toArray⟩=some cs∧Zdr ⟨q.toArray⟩=some a∧(Zcb cs n (newN cs a)).2=r.1∧(Zcb cs n (newN cs a)).1.status=r.2.1∧(Zcb cs 3000 (Zcb cs n (newN cs a)).1).2=r.2.2.1∧(Zcb cs 3000 (Zcb cs n (newN cs a)).1).1.status=r.2.2.2:=by
 unfold twoC at h
 cases hp:Zck ⟨p.toArray⟩ with
 | none=>rw [hp] at h; simp at h
 | some cs =>
  cases hq:Zdr ⟨q.toArray⟩ with
  | none=>rw [hp,hq] at h; simp at h
  | some a =>
   rw [hp,hq] at h
   simp only at h
   obtain ⟨_,_,_,hcs,_⟩:=Zcp hp
   obtain ⟨_,_,_,hOk,_,_,_,_,_⟩:=Zcl hq
   cases h1:Zfe cs n (Zjg cs a) with
   | none=>rw [h1] at h; simp at h
   | some u =>
    rw [h1] at h
    simp only at h
    cases h2:Zfe cs 3000 u.1 with
    | none=>rw [h2] at h; simp at h
    | some v =>
     rw [h2] at h
     simp only [Qo] at h
     obtain ⟨g1,g2⟩:=(RelS.new hOk:RelS (Zjg cs a) (newN cs a)).step (fun c hc=>(hcs c hc).1) h1
     obtain ⟨g3,g4⟩:=g1.step (fun c hc=>(hcs c hc).1) h2
     subst h
     exact ⟨cs,a,rfl,rfl,g2.symm,g1.status.symm,g4.symm,g3.status.symm⟩
theorem lt29 {k:Nat} (hk:k<29):k=0∨k=1∨k=2∨k=3∨k=4∨k=5∨k=6∨k=7∨k=8∨k=9∨k=10∨k=11∨k=12∨k=13∨k=14∨k=15∨k=16∨k=17∨k=18∨k=19∨k=20∨k=21∨k=22∨k=23∨k=24∨k=25∨k=26∨k=27∨k=28:=by omega
set_option maxRecDepth 100000 in
theorem Ydj (k:Nat) (hk:k<29):Zso Zvj (Zre k)=some (⟨[],[],29 - k,3⟩,[]):=by
 rcases lt29 hk with rfl | rfl | rfl | rfl | rfl | rfl | rfl | rfl | rfl | rfl | rfl | rfl | rfl | rfl | rfl | rfl | rfl | rfl | rfl | rfl | rfl | rfl | rfl | rfl | rfl | rfl | rfl | rfl | rfl
 all_goals kernel_rfl
set_option maxRecDepth 100000 in
theorem Ydk (k:Nat) (hk:k<29):twoC Zvj (Zre k) (28 - k)=some (28 - k,0,1,3):=by
 rcases lt29 hk with rfl | rfl | rfl | rfl | rfl | rfl | rfl | rfl | rfl | rfl | rfl | rfl | rfl | rfl | rfl | rfl | rfl | rfl | rfl | rfl | rfl | rfl | rfl | rfl | rfl | rfl | rfl | rfl | rfl
 all_goals kernel_rfl
set_option maxRecDepth 100000 in
theorem Ydl (k:Nat) (hk:k<29):Yat Zvj (Zre k) (Zpn (28 - k))=some ([],7,28 - k):=by
 rcases lt29 hk with rfl | rfl | rfl | rfl | rfl | rfl | rfl | rfl | rfl | rfl | rfl | rfl | rfl | rfl | rfl | rfl | rfl | rfl | rfl | rfl | rfl | rfl | rfl | rfl | rfl | rfl | rfl | rfl | rfl
 all_goals kernel_rfl
theorem Zsp (k:Nat):(peaC k).length=3 * k+1:=by
 induction k with
 | zero=>rfl
 | succ k ih=>simp [peaC,ih]; omega
theorem Zyv (k:Nat):(Zpn k).length=2 * k+1:=by
 induction k with
 | zero=>rfl
 | succ k ih=>simp [Zpn,ih]; omega
theorem Ybe:(⟨Zvj.toArray⟩:ByteArray)=⟨#[112,40,88,41,32,58,45,32,112,40,115,40,88,41,41,46]⟩:=rfl
theorem Ybf (k:Nat):(⟨(Zre k).toArray⟩:ByteArray)=⟨#[112,40]⟩++⟨(peaC k).toArray⟩++⟨#[41,46]⟩:=by
 unfold Zre
 rw [← Zbv,← Zbv]
theorem pea_i (k:Nat):(⟨(peaC (k+1)).toArray⟩:ByteArray)=⟨#[115,40]⟩++⟨(peaC k).toArray⟩++⟨#[41]⟩:=by
 simp only [peaC]
 rw [← Zbv,← Zbv]
theorem Ydm (k:Nat):(⟨(Zpn (k+1)).toArray⟩:ByteArray)=⟨(Zpn k).toArray⟩++⟨#[46,48]⟩:=by simp only [Zpn]; rw [← Zbv]
theorem Zyw (k:Nat) (hk:k≤100) (w:World):Calls Tryd.prog 13 #[.int .i64 k] w fun e w'=>e = .returned (.string ⟨(peaC k).toArray⟩)∧w'=w:=by
 go_enter Tryd.func13,Tryd.ntmps13
 go_wp2
 go_loop [3,4] (fun sv i=>∃ j:Nat,j≤k∧i = .int .i64 j∧sv = .string ⟨(peaC j).toArray⟩) (fun _ i=>k - (intOf i).toNat)
 case atStart=>exact ⟨0,Qm _,rfl,rfl⟩
 case round =>
  obtain ⟨j,hj,rfl,rfl⟩:=hrel
  have hil:=Zsp j
  by_cases hlt:j<k
  ·have Hi:=Zac (pea_i j)
   go_wp2
   go_round
   case rel=>exact ⟨j+1,by omega,by go_num,by rw [Hi.out]⟩
   case measure=>simp [intOf]; omega
  ·obtain rfl:j=k:=by omega
   go_wp2
   go_ret
   exact ⟨rfl,rfl⟩
structure SrAt (w0 w:World) (b:Nat) (x0 x:CX) (cs:List Cls) (a:List (List Sym) × Names) (m:SN):Prop where
 kept:Kept (ownS b x0) w0 w
 sr:CSr w b x cs a m
 new:Zex w0 x0 x
 inv:InvN cs a m
theorem SrAt.step {w0 w w':World} {b:Nat} {x0 x x':CX} {cs:List Cls} {a:List (List Sym) × Names} {m:SN} {n:Nat} (h:SrAt w0 w b x0 x cs a m) (hcl:cs.length≤24) (hK:Kept (ownS b x) w w') (hC:CSr w' b x' cs a (Zcb cs n m).1) (hN:Zex w x x'):SrAt w0 w' b x0 x' cs a (Zcb cs n m).1:=by
 refine ⟨h.kept.then hK (fun i hi ho=>Zrd h.new hi ho),hC,⟨fun k hk => ?_,hN.2.1.trans h.new.2.1,hN.2.2.1.trans h.new.2.2.1,hN.2.2.2.1.trans h.new.2.2.2.1,hN.2.2.2.2.trans h.new.2.2.2.2⟩,h.inv.step hcl⟩
 rcases hN.1 k hk with h1 | h1
 ·exact h.new.1 k h1
 ·exact Or.inr (by have:=h.kept.size; omega)
theorem Zvk (c:Int) (hc : -9223372036854775808≤c∧c<9223372036854775808) (w:World) :
  Calls Tryd.prog 4 #[.int .i64 c] w fun e w'=>e = .returned (.bool true)∧Ext w w':=by
 have HP:=Zac (Zvq c 29 w hc ⟨by decide,by decide⟩)
 go_enter Tryd.func4,Tryd.ntmps4
 go_wp2_with fail
 refine HP.out.mono ?_
 rintro e w1 ⟨k,hk,rfl,rfl⟩
 have hk29:k<29:=by omega
 have hpl:=Zsp k
 have HQ:=Zac (Zyw k (by omega) w1)
 have H1:=Zac (fun u=>Zvh (Ydj k hk29) u)
 have H3:=Zac (fun u=>Yav (Ydl k hk29) u)
 obtain ⟨cs,a,hp,hq,f1,f2,f3,f4⟩:=Yco (Ydk k hk29)
 have H2:=Zac (fun u=>Zsf ⟨Zvj.toArray⟩ ⟨(Zre k).toArray⟩ u (by simp only [maxLen,ByteArray.size,List.size_toArray]; simp [Zvj]) (by simp only [maxLen,ByteArray.size,List.size_toArray]; simp [Zre]; omega))
 rw [Ybe,Ybf] at H1 H2 H3
 simp only [Jt] at H1
 rw [Ybe] at hp
 rw [Ybf] at hq
 obtain ⟨_,_,_,hcs,hcl⟩:=Zcp hp
 obtain ⟨_,_,_,_,_,_,hne,_,_⟩:=Zcl hq
 have HC:Hid ((∀ c ∈ cs,COk c∧CNm c)∧(∀ c ∈ cs,CFew c)):=⟨hcs,Znf hp⟩
 have HI:=Zac (InvN.new cs hne)
 have Hs:=Zac (Zky cs hne)
 have Hp:=Zac hp
 have Hq:=Zac hq
 have Hf:Hid ((Zcb cs (28 - k) (newN cs a)).2=28 - k∧(Zcb cs (28 - k) (newN cs a)).1.status=0∧(Zcb cs 3000 (Zcb cs (28 - k) (newN cs a)).1).2=1∧(Zcb cs 3000 (Zcb cs (28 - k) (newN cs a)).1).1.status=3):=⟨f1,f2,f3,f4⟩
 obtain ⟨D,hD⟩:∃ D,D=29 - k:=⟨_,rfl⟩
 obtain ⟨E,hE⟩:∃ E,E=28 - k:=⟨_,rfl⟩
 rw [← hD] at H1
 rw [← hE] at H3 Hf
 have hDi:(29:Int) - (k:Int)=(D:Int):=by omega
 have hEi:(28:Int) - (k:Int)=(E:Int):=by omega
 have hDE:(D:Int) - 1=(E:Int):=by omega
 have hEb:E≤28:=by omega
 have HDE:Hid (D=E+1):=by show D=E+1; omega
 clear HP hk hc hp hq f1 f2 f3 f4 hD hE hcs hne
 go_wp2_with fail
 refine HQ.out.mono ?_
 rintro e w2 ⟨rfl,h2⟩
 obtain rfl:w1=w2:=h2.symm
 go_wp2_with fail
 refine (H1.out _).mono ?_
 rintro e w3 ⟨hE3,aa,ac,wa,wc,rfl,ha3,hw3⟩
 have hs3:=hE3.size
 have HE3:=Zac hE3
 clear hE3 ha3 hw3 H1 HQ
 go_wp2_with fail
 refine (H2.out _).mono ?_
 rintro e w4 ⟨hE4,⟨h1,_⟩ | ⟨_,h1,_⟩ | ⟨cs',a',b,x,h1,h2,rfl,hge,hC⟩⟩
 ·rw [Hp.out] at h1; simp at h1
 ·rw [Hq.out] at h1; simp at h1
 obtain rfl:cs'=cs:=by rw [Hp.out] at h1; exact (Option.some.inj h1).symm
 obtain rfl:a'=a:=by rw [Hq.out] at h2; exact (Option.some.inj h2).symm
 clear h1 h2 H2
 have hs4:=hE4.size
 simp at hs4
 have hbx:w4.heap[w3.heap.size]?=some (.cells #[.slice aa 0 ac,.slice wa 0 wc,.int .i64 D,.int .i64 3,.string ⟨#[]⟩] 36 (0,0)):=(hE4.block _ (by simp)).trans (heap_alloc_new w3 _)
 have b0:=Zaa hbx 0 _ rfl
 have b2:=Zaa hbx 2 _ rfl
 have b3:=Zaa hbx 3 _ rfl
 have hl4:=Zab hbx
 have HE4:Hid (Ext w1 w4):=HE3.out.trans ((((Ext.of (by repeat' (first | with_reducible(first|exact Qx _ _|apply Kept.drew|apply Kept.drewN|apply Qz|refine Qy ?_ ?_ _)|exact fun h=>absurd h (by simp <;> omega)))):Ext w3 _).mono hs3).trans (hE4.mono (by simp; omega)))
 have Hge:Hid (∀ j,ownS b x j→w1.heap.size≤j):=fun j hj=>by have:=hge j hj; simp at this; omega
 have S0:Hid (SrAt w4 w4 b x x cs' a' (newN cs' a')):=⟨Qx _ _,hC,⟨fun j hj=>Or.inl hj,rfl,rfl,rfl,rfl⟩,HI.out⟩
 have HS1:=Zac (Znh w4 b x cs' a' (newN cs' a') E hC HI.out HC.out.1 HC.out.2 (by omega) (by omega) (by rw [Hs.out]; exact ⟨by decide,by decide⟩))
 rw [Hf.out.1] at HS1
 clear hge hC hE4 hbx HI Hs
 go_wp2_with fail
 refine HS1.out.mono ?_
 rintro e w5 ⟨rfl,x5,hK5,hC5,hN5⟩
 have S5:=Zac (S0.out.step (by omega) hK5 hC5 hN5)
 have HT5:=Zac (Zfz w5 b x5 cs' a' _ hC5)
 rw [Hf.out.2.1] at HT5
 clear hK5 hC5 hN5 HS1 S0 b0 b2 b3
 go_wp2_with fail
 refine HT5.out.mono ?_
 rintro e w6 ⟨rfl,h6⟩
 obtain rfl:w5=w6:=h6.symm
 have HS2:=Zac (Znh w5 b x5 cs' a' _ 3000 S5.out.sr S5.out.inv HC.out.1 HC.out.2 (by omega) (by omega) (by rw [Hf.out.2.1]; exact ⟨by decide,by decide⟩))
 rw [Hf.out.2.2.1] at HS2
 clear HT5
 go_wp2_with fail
 refine HS2.out.mono ?_
 rintro e w7 ⟨rfl,x7,hK7,hC7,hN7⟩
 have S7:=Zac (S5.out.step (by omega) hK7 hC7 hN7)
 have HT7:=Zac (Zfz w7 b x7 cs' a' _ hC7)
 rw [Hf.out.2.2.2] at HT7
 have HS3:=Zac (Zvd w7 b x7 cs' a' _ 3000 hC7 (by omega) (Or.inr Hf.out.2.2.2))
 clear hK7 hC7 hN7 HS2 S5
 go_wp2_with fail
 refine HT7.out.mono ?_
 rintro e w8 ⟨rfl,h8⟩
 obtain rfl:w7=w8:=h8.symm
 go_wp2_with fail
 refine HS3.out.mono ?_
 rintro e w9 ⟨rfl,h9⟩
 obtain rfl:w7=w9:=h9.symm
 go_wp2_with fail
 refine HT7.out.mono ?_
 rintro e w10 ⟨rfl,h10⟩
 obtain rfl:w7=w10:=h10.symm
 have HE7:Hid (Ext w1 w7):=HE4.out.trans (S7.out.kept.below HE4.out.size Hge.out)
 clear HT7 HS3 S7
 go_wp2
 go_loop [18,19] (fun sv i=>∃ j:Nat,j≤E∧i = .int .i64 ((j:Int)+1)∧sv = .string ⟨(Zpn j).toArray⟩) (fun _ i=>E+1 - (intOf i).toNat)
 case atStart=>exact ⟨0,Qm _,rfl,rfl⟩
 case round =>
  obtain ⟨j,hj,rfl,rfl⟩:=hrel
  have hil:=Zyv j
  by_cases hlt:j<E
  ·have Hi:=Zac (Ydm j)
   have hI:(j:Int)+1<(D:Int):=by omega
   go_wp2
   go_round
   case rel=>exact ⟨j+1,by omega,by go_num,by rw [Hi.out]⟩
   case measure=>simp [intOf]; omega
  ·obtain rfl:j=E:=by omega
   have hI:¬ (j:Int)+1<(D:Int):=by omega
   go_wp2_with fail
   refine (H3.out _).mono ?_
   rintro e w11 ⟨rfl,hE11⟩
   have HE11:=Zac hE11
   clear hE11
   go_wp2
   go_ret
   exact ⟨rfl,HE7.out.trans (HE11.out.mono HE7.out.size)⟩
end Go.Proofs.YtlmjilpjmgjjcabDoor
namespace Go.Proofs.YtlmjilpjmgjjcabDoor
open Go.ChangeShapes Go.WideShapes Go.ChangeAt Go.WideMaps Go.WideElems Go.RowKit
theorem own_k:ownKnob Tryd.prog.godebug=none:=by kernel_rfl
theorem Zyx:laidOutB Tryd.prog=true:=by kernel_rfl
theorem Zrf {H:Type} {enc:TypeId × Value→H} {W:World} {base:Nat} {spare:Nat→Bool} {held:Bool} {n:Int} {d:DataW H} {ps:List MemPlace} (h:DataW.Trod enc Tryd.prog W base spare held 3 (.int .i64 n) d ps) : -9223372036854775808≤n∧n<9223372036854775808:=by
 obtain ⟨fuel,hf⟩:=h
 obtain ⟨s,h1,_,h3⟩:=DataW.trod_int Tryd.underlying3 hf
 simp [Value.cells] at h1
 subst h1
 have h4:(decide (IntKind.min .i64≤n) && decide (n≤IntKind.max .i64))=true:=h3
 rw [Bool.and_eq_true,decide_eq_true_eq,decide_eq_true_eq,show IntKind.min .i64 = -9223372036854775808 from rfl,show IntKind.max .i64=9223372036854775807 from rfl] at h4
 omega
theorem Zvl (os:Os) (args:Array Value):laidMetH Tryd.prog Rows.grownRow.laid ((World.doorLaid Tryd.prog 400 os).forCall (fun _ _=>0) ⟨#[],args,[]⟩).memory :=
 laidMetH_of_parts3 (fuel:=8) (laidMet_of_run' 8 (by kernel_rfl) (by kernel_rfl)) (by kernel_rfl) (by kernel_rfl)
set_option maxRecDepth 100000 in
theorem Zpo (os:Os) (started:os.Started) (H:Type) (enc:TypeId × Value→H) :
  ReturnsInHanded {} Tryd.checked os 4 .any (fun w args=>(Rows.grownSpec.pre enc Tryd.prog Tryd.f4 [] false w args∧laidMetH Tryd.prog Rows.grownRow.laid w)∧sizedMet enc Tryd.prog Tryd.f4 (OpenSpec.ofChange Rows.grownSpec) false w args)
   (Rows.grownSpec.post enc Tryd.prog Tryd.f4 false true false false):=by
 refine returnsInHanded_of_change_and (C:=Tryd.checked) (X:=fun w _=>laidMetH Tryd.prog Rows.grownRow.laid w) (fun _ _ _ hh h=>h.of_heap hh) own_k started (by kernel_rfl) Tryd.func4
  (ChangeSpec.witness_shaped (enc:=enc) (C:=Tryd.checked) (os:=os) (X:=fun w _=>laidMetH Tryd.prog Rows.grownRow.laid w) false (World.doorLaid Tryd.prog 400 os) #[.int .i64 0] 8 rfl (World.shaped_of_RefB (by kernel_rfl) (by kernel_rfl)) (by kernel_rfl) (by kernel_rfl) (by kernel_rfl) (Zvl os _)) ?_
 intro W base args ds gs before hval0 hW _ _ hL _
 have hval:∀ (j:Nat) t v,Tryd.f4.params[j]?=some t→args[j]?=some v→Value.okWide Tryd.prog W .any base t v:=hval0
 have hW':=hW
 obtain ⟨p,q,hA0,hV,rfl,hfz,hnd⟩:=hW
 have hA:DataW.TrodAll enc Tryd.prog W 0 (fun _=>true) true Tryd.f4.params.toList args.toList ds p:=hA0
 rw [Tryd.params4] at hA hval
 obtain ⟨v0,d0,rfl,rfl,h0⟩:=trodAll_one hA
 obtain ⟨rfl,rfl⟩:=trodVars_none hV
 have lt0:∀ x ∈ p,x.block<W.heap.size:=by obtain ⟨m,hm⟩:=h0; exact DataW.trod_lt m _ _ _ hm
 obtain ⟨n0,rfl⟩:=okWide_int Tryd.underlying3 (hval 0 3 v0 rfl rfl)
 have hb:=Zrf h0
 clear hA0 hval0
 refine (Zvk n0 hb W).mono fun e W' ⟨he,bel⟩ => ?_
 subst he
 exact ⟨_,rfl,_,_,_,[],_,[],hW',trodAll_mk1 (shut_bool Tryd.underlying4 _),trodAll_mk1 (Below.trod Zyx (by kernel_rfl) (of_decide_eq_true (by kernel_rfl)) h0 bel lt0),rfl,bel.frame _,fun h=>by cases h⟩
theorem Zyy:Rows.GrownSaid :=
 OpenClaim.holds_of_wide 4 Tryd.f4 rfl rfl rfl rfl rfl rfl rfl ⟨rfl,rfl,rfl,rfl,rfl⟩ rfl rfl rfl rfl rfl (by kernel_rfl) Tryd.func4 (by kernel_rfl)
  (of_decide_eq_true (by kernel_rfl)) (by unfold Func.isWrapper; first | (rw [if_pos (by decide +kernel)]; kernel_rfl) | (rw [if_neg (by decide +kernel)]; exact ⟨rfl,rfl⟩))
  (fun os started H enc _=>Zpo os started H enc)
theorem grown_hold:Rows.GrownCardSaid :=
 Claim7.holds_tied_plain_at .later [] [.data,.data,.data] true Rows.grownCard.stood.harness false
  Zyy (fun _ h=>by cases h) (by kernel_rfl) (fun _ h=>by cases h) grown_row_tie rfl ⟨rfl,rfl⟩ (by kernel_rfl) rfl
  (fun f fn hf hfn=>by
   obtain rfl:f=4:=Option.some.inj ((show Tryd.prog.funcNamed Tryd.f4.name=some 4 by kernel_rfl).symm.trans hf) |>.symm
   obtain rfl:fn=Tryd.f4:=(Option.some.inj (Tryd.func4.symm.trans hfn)).symm
   exact ⟨by kernel_rfl,fun j t ht=>by
    rw [Tryd.params4] at ht
    have hm:t ∈ [3]:=by simpa using Array.mem_of_getElem? ht
    have hall:([3].all fun u => !Tryd.prog.wantsStandIn u)=true:=by kernel_rfl
    exact (show Tryd.prog.wantsStandIn t=false by simpa using List.all_eq_true.1 hall t hm)⟩)
  (by kernel_rfl)
end Go.Proofs.YtlmjilpjmgjjcabDoor
