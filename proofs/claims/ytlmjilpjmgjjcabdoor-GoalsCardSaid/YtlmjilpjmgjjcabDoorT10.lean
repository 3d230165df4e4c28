/-
  PROVED HERE: the given card of 'Goals' (no conditions).
-/
import Derived.Test.YtlmjilpjmgjjcabDoorT9
import Derived.Test.YtlmjilpjmgjjcabDoorRows
import Derived.Test.YtlmjilpjmgjjcabDoorCards
import Derived.Test.YtlmjilpjmgjjcabDoorTie
import Derived.ProofKit
import Derived.LaidMore
import Derived.OpenShut
import Derived.Stop.Joined
import Derived.SevenTiedAt
import Derived.Deep.Slices
import Derived.Carry
set_option linter.unusedSimpArgs false
set_option linter.unusedVariables false
set_option maxRecDepth 10000
set_option maxHeartbeats 4000000
namespace Go.Proofs.YtlmjilpjmgjjcabDoor
open Go.RowKit
def symB (s t:Sym):Bool:=s.name == t.name && s.num == t.num && s.args == t.args
theorem Zyl {s t:Sym} (h:symB s t=true):s=t:=by
 unfold symB at h
 simp only [Bool.and_eq_true,beq_iff_eq] at h
 obtain ⟨⟨h1,h2⟩,h3⟩:=h
 cases s; cases t
 simp_all
theorem Yce {s t:Sym} (h:symB s t=false):s≠t:=by
 rintro rfl
 simp [symB] at h
def Znf:List Sym→List Sym→Option (List Sym × List Sym)
 | s::a,t::b=>if symB s t then Znf a b else some ((s::a).take (skip 1 (s::a)),(t::b).take (skip 1 (t::b)))
 | _,_=>none
theorem Zsc {l:List Sym} {j:Nat} (h:Wf j l) (hj:0<j):Wf 1 (l.take (skip 1 l))∧l=l.take (skip 1 l)++l.drop (skip 1 l):=by
 refine ⟨?_,(List.take_append_drop _ _).symm⟩
 obtain ⟨k,rfl⟩:∃ k,j=1+k:=⟨j - 1,by omega⟩
 obtain ⟨a,b,rfl,ha,hb⟩:=Zhx h
 rw [Zhq b ha,List.take_left]
 exact ha
theorem Zmd {s:Sym} {l:List Sym}:((s::l).take (skip 1 (s::l))).head?=some s:=by simp [skip]
theorem Zuy:∀ {a b:List Sym} {j:Nat} {x y:List Sym},Wf j a→Wf j b→Znf a b=some (x,y)→Parts a b x y:=by
 intro a
 induction a with
 | nil=>intro b j x y _ _ h; simp [Znf] at h
 | cons s a ih =>
  intro b j x y ha hb h
  cases b with
  | nil=>simp [Znf] at h
  | cons t b =>
   unfold Znf at h
   split at h
   ·rename_i e
    obtain rfl:=Zyl e
    obtain ⟨_,_,_,h1⟩:=ha
    obtain ⟨_,_,_,h2⟩:=hb
    obtain ⟨⟨p,ra,rb,rfl,rfl⟩,wx,wy,ne⟩:=ih h1 h2 h
    exact ⟨⟨s::p,ra,rb,by simp,by simp⟩,wx,wy,ne⟩
   ·rename_i e
    obtain ⟨rfl,rfl⟩:(s::a).take (skip 1 (s::a))=x∧(t::b).take (skip 1 (t::b))=y:=by simpa using h
    obtain ⟨w1,e1⟩:=Zsc ha ha.1
    obtain ⟨w2,e2⟩:=Zsc hb hb.1
    refine ⟨⟨[],_,_,by rw [List.nil_append]; exact e1,by rw [List.nil_append]; exact e2⟩,w1,w2,?_⟩
    rw [Zmd,Zmd]
    intro h1
    exact Yce (by simpa using e) (by simpa using h1)
theorem Zuz:∀ {a b:List Sym} {j:Nat},Wf j a→Wf j b→Znf a b=none→a=b:=by
 intro a
 induction a with
 | nil =>
  intro b j ha hb h
  cases b with
  | nil=>rfl
  | cons t b=>have h1:j=0:=ha; have h2:=hb.1; omega
 | cons s a ih =>
  intro b j ha hb h
  cases b with
  | nil=>have h1:j=0:=hb; have h2:=ha.1; omega
  | cons t b =>
   unfold Znf at h
   split at h
   ·rename_i e
    obtain rfl:=Zyl e
    obtain ⟨_,_,_,h1⟩:=ha
    obtain ⟨_,_,_,h2⟩:=hb
    rw [ih h1 h2 h]
   ·simp at h
def occB (v:Nat) (l:List Sym):Bool:=l.any (fun s=>s.name.isEmpty && s.num == v)
theorem Zsd {v:Nat} {l:List Sym} (h:occB v l=true):Occ v l:=by
 unfold occB at h
 rw [List.any_eq_true] at h
 obtain ⟨s,h1,h2⟩:=h
 simp only [Bool.and_eq_true,beq_iff_eq,List.isEmpty_iff] at h2
 exact ⟨s,h1,h2.1,h2.2⟩
def sgC (bs:List (Nat × List Sym)):Nat→List Sym:=fun n=>bs.foldl (fun t b=>ap (sub1 b.1 b.2) t) (vr n)
theorem Zse (bs:List (Nat × List Sym)) (v:Nat) (y:List Sym):sgC (bs++[(v,y)])=fun n=>ap (sub1 v y) (sgC bs n):=by
 funext n
 simp [sgC,List.foldl_append]
def fitC:Nat→List Sym→List Sym→List (Nat × List Sym)→Option (Option (List (Nat × List Sym)))
 | 0,_,_,_=>none
 | f+1,a,b,bs=>match Znf a b with
  | none=>some (some bs)
  | some (x,y)=>match x.head?,y.head? with
   | some s,some t=>if s.name.isEmpty then (if occB s.num y then some none else fitC f (ap (sub1 s.num y) a) (ap (sub1 s.num y) b) (bs++[(s.num,y)]))
     else if t.name.isEmpty then (if occB t.num x then some none else fitC f (ap (sub1 t.num x) a) (ap (sub1 t.num x) b) (bs++[(t.num,x)]))
     else some none
   | _,_=>none
theorem Zsf {x:List Sym} {s:Sym} (h:Wf 1 x) (hs:x.head?=some s) (hn:s.name.isEmpty=true):x=vr s.num:=by
 obtain ⟨s',r,rfl,_,h2⟩:=Zjf h
 simp at hs
 subst hs
 exact h2 (by simpa using hn)
theorem Ycf {a0 b0:List Sym} {j:Nat}:∀ {f:Nat} {a b:List Sym} {bs:List (Nat × List Sym)},Carr a0 b0 (sgC bs) a b→Wf j a→Wf j b →
  (fitC f a b bs=some none→NoFit a0 b0)∧(∀ bs',fitC f a b bs=some (some bs')→Mgu (sgC bs') a0 b0):=by
 intro f
 induction f with
 | zero=>intro a b bs _ _ _; exact ⟨fun h=>by simp [fitC] at h,fun _ h=>by simp [fitC] at h⟩
 | succ f ih =>
  intro a b bs hC ha hb
  unfold fitC
  cases hp:Znf a b with
  | none =>
   refine ⟨fun h=>by simp at h,fun bs' h => ?_⟩
   simp at h
   subst h
   exact hC.done (Zuz ha hb hp)
  | some xy =>
   obtain ⟨x,y⟩:=xy
   have hP:=Zuy ha hb hp
   simp only
   obtain ⟨s,r,hx,_,_⟩:=Zjf hP.wx
   obtain ⟨t,q,hy,_,_⟩:=Zjf hP.wy
   have hsx:x.head?=some s:=by rw [hx]; rfl
   have hty:y.head?=some t:=by rw [hy]; rfl
   rw [hsx,hty]
   simp only
   split
   ·rename_i e
    have hv:=Zsf hP.wx hsx e
    split
    ·rename_i o
     exact ⟨fun _=>hC.none (Or.inl (Zjv hP hv (Zsd o))),fun _ h=>by simp at h⟩
    ·have hC':=hC.step (Or.inl hP) hv
     rw [← Zse] at hC'
     exact ih hC' (Zhg (Zju hP.wy) ha) (Zhg (Zju hP.wy) hb)
   ·rename_i e
    split
    ·rename_i e2
     have hv:=Zsf hP.wy hty e2
     split
     ·rename_i o
      exact ⟨fun _=>hC.none (Or.inr (Zjv hP.symm hv (Zsd o))),fun _ h=>by simp at h⟩
     ·have hC':=hC.step (Or.inr hP.symm) hv
      rw [← Zse] at hC'
      exact ih hC' (Zhg (Zju hP.wx) ha) (Zhg (Zju hP.wx) hb)
    ·rename_i e2
     exact ⟨fun _=>hC.none (Or.inl (Zsp hP hx hy (by simpa using e) (by simpa using e2))),fun _ h=>by simp at h⟩
def tryC (n:ND) (c:Cls) (k:Nat):Option (ND × Nat):=match n.goals with
 | []=>none
 | g::gs=>match fitC 200 g.1 (ap (Zcx n.vars) c.head) [] with
  | none=>none
  | some none=>some (⟨[],[],[],[],0⟩,0)
  | some (some bs)=>if 30<(ap (sgC bs) g.1).length then some (⟨[],[],[],[],0⟩,3) else some (Zat (sgC bs) n c k g gs,Zek (Zat (sgC bs) n c k g gs))
theorem Zsg {n:ND} {c:Cls} {k q:Nat} {ch:ND} (hn:NOk n) (hc:COk c) (h:tryC n c k=some (ch,q)):Out n c k q ch:=by
 unfold tryC at h
 split at h
 ·simp at h
 ·rename_i g gs hg
  have w1:Wf 1 g.1:=hn.wf g.1 (by unfold ND.terms; rw [hg]; simp)
  have w2:Wf 1 (ap (Zcx n.vars) c.head):=Zhg (fun m=>Zpn _) hc.wfh
  have hC:=Ycf (f:=200) (bs:=[]) (j:=1) (Carr.start w1 w2) w1 w2
  refine ⟨g,gs,hg,?_⟩
  split at h
  ·simp at h
  ·rename_i e
   simp at h
   exact Or.inl ⟨h.2.symm,hC.1 e⟩
  ·rename_i bs e
   have hM:=hC.2 bs e
   split at h
   ·rename_i hl
    simp at h
    exact Or.inr (Or.inl ⟨h.2.symm,hM.small hl⟩)
   ·rename_i hl
    simp at h
    exact Or.inr (Or.inr ⟨sgC bs,hM,by omega,h.2.symm,h.1.symm⟩)
def RelW:List (ND × Nat)→List (ND × Nat)→Prop
 | [],[]=>True
 | x::r,y::q=>(NOk x.1∧Same x.1 y.1∧x.2=y.2)∧RelW r q
 | _,_=>False
structure RelS (s t:SN):Prop where
 way:RelW s.way t.way
 tries:s.tries=t.tries
 status:s.status=t.status
 found:s.status=1→NOk s.found∧Same s.found t.found
 tree:s.tree=t.tree
theorem RelW.nil_iff {a b:List (ND × Nat)} (h:RelW a b):a=[]↔b=[]:=by
 cases a <;> cases b <;> simp_all [RelW]
theorem RelW.leave (cs:List Cls):∀ {a b:List (ND × Nat)} {t:List UInt8},RelW a b→RelW (Zct cs a t).1 (Zct cs b t).1∧(Zct cs a t).2=(Zct cs b t).2:=by
 intro a
 induction a with
 | nil =>
  intro b t h
  cases b with
  | nil=>exact ⟨trivial,rfl⟩
  | cons y q=>exact h.elim
 | cons x r ih =>
  intro b t h
  cases b with
  | nil=>exact h.elim
  | cons y q =>
   obtain ⟨n,k⟩:=x
   obtain ⟨m,j⟩:=y
   obtain ⟨⟨h1,h2,h3⟩,h4⟩:=h
   simp only at h3
   subst h3
   unfold Zct
   split
   ·exact ih h4
   ·exact ⟨⟨⟨h1,h2,rfl⟩,h4⟩,rfl⟩
def Zsh (cs:List Cls) (s:SN):SN:=⟨(Zct cs s.way s.tree).1,s.tries,s.status,s.found,(Zct cs s.way s.tree).2⟩
theorem RelS.left (cs:List Cls) {s t:SN} (h:RelS s t):RelS (Zsh cs s) (Zdb cs t):=by
 have h1:=h.way.leave cs (t:=s.tree)
 unfold Zsh Zdb
 refine ⟨?_,h.tries,h.status,h.found,?_⟩
 ·simp only; rw [← h.tree]; exact h1.1
 ·simp only; rw [← h.tree]; exact h1.2
def Zng (s:SN) (n:ND):SN:=if n.goals.isEmpty then ⟨s.way,s.tries,1,n,s.tree++[33]⟩ else ⟨(n,0)::s.way,s.tries,s.status,s.found,s.tree++[40]⟩
theorem RelS.enter {s t:SN} (h:RelS s t) {n m:ND} (hn:NOk n) (hs:Same n m):RelS (Zng s n) (Zby t m):=by
 have hg:=hs.gl
 unfold Zng Zby
 by_cases he:n.goals=[]
 ·have he':m.goals=[]:=List.eq_nil_of_length_eq_zero (by rw [← hg,he]; rfl)
  rw [if_pos (by simp [he]),if_pos he']
  exact ⟨h.way,h.tries,rfl,fun _=>⟨hn,hs⟩,by simp only; rw [h.tree]⟩
 ·have he':m.goals≠[]:=fun e=>he (List.eq_nil_of_length_eq_zero (by rw [hg,e]; rfl))
  rw [if_neg (by simpa using he),if_neg he']
  exact ⟨⟨⟨hn,hs,rfl⟩,h.way⟩,h.tries,h.status,h.found,by simp only; rw [h.tree]⟩
def decC (k:Nat):List UInt8:=if k<10 then [UInt8.ofNat (48+k)] else Lib.decDigits k
theorem Zym (k:Nat):decC k=Lib.decDigits k:=by
 unfold decC
 split
 ·rename_i h
  rw [Lib.decDigits_one h]
 ·rfl
def Zin (cs:List Cls) (s:SN):Option SN:=match s.way with
 | []=>some s
 | (n,k)::r=>match cs[k]? with
  | none=>some s
  | some c=>match tryC n c k with
   | none=>none
   | some (ch,q)=>some (Zsh cs (if q=3 then ⟨(n,k+1)::r,s.tries+1,3,s.found,s.tree⟩
    else if q=1∨q=2 then Zng ⟨(n,k+1)::r,s.tries+1,s.status,s.found,s.tree++decC k⟩ ch
    else ⟨(n,k+1)::r,s.tries+1,s.status,s.found,s.tree⟩))
theorem RelS.try' {cs:List Cls} (hcs:∀ c ∈ cs,COk c) {s t s':SN} (h:RelS s t) (he:Zin cs s=some s'):RelS s' (Zax cs t):=by
 unfold Zin at he
 unfold Zax
 have hw:=h.way
 cases hs:s.way with
 | nil =>
  rw [hs] at he hw
  cases ht:t.way with
  | nil=>simp at he; subst he; exact h
  | cons y q=>rw [ht] at hw; exact hw.elim
 | cons x r =>
  rw [hs] at he hw
  cases ht:t.way with
  | nil=>rw [ht] at hw; exact hw.elim
  | cons y q =>
   rw [ht] at hw
   obtain ⟨n,k⟩:=x
   obtain ⟨m,j⟩:=y
   obtain ⟨⟨h1,h2,h3⟩,h4⟩:=hw
   simp only at h1 h2 h3
   subst h3
   simp only at he ⊢
   cases hc:cs[k]? with
   | none=>rw [hc] at he; simp at he; subst he; exact h
   | some c =>
    rw [hc] at he
    simp only at he ⊢
    cases hq:tryC n c k with
    | none=>rw [hq] at he; simp at he
    | some cq =>
     obtain ⟨ch,q'⟩:=cq
     rw [hq] at he
     simp only [Qo] at he
     subst he
     rw [Zym]
     have hcc:=hcs c (Qh hc)
     obtain ⟨e1,e2⟩:=Zge h1 h2 hcc (Zsg h1 hcc hq)
     refine RelS.left cs ?_
     rw [← e1]
     split
     ·exact ⟨⟨⟨h1,h2,rfl⟩,h4⟩,by simp only; rw [h.tries],rfl,fun h=>by simp at h,h.tree⟩
     ·split
      ·rename_i h12
       exact RelS.enter (s:=⟨(n,k+1)::r,s.tries+1,s.status,s.found,s.tree++Lib.decDigits k⟩) (t:=⟨(m,k+1)::q,t.tries+1,t.status,t.found,t.tree++Lib.decDigits k⟩) ⟨⟨⟨h1,h2,rfl⟩,h4⟩,by simp only; rw [h.tries],h.status,h.found,by simp only; rw [h.tree]⟩ (e2 h12).1 (e2 h12).2
      ·exact ⟨⟨⟨h1,h2,rfl⟩,h4⟩,by simp only; rw [h.tries],h.status,h.found,h.tree⟩
def Zkx (cs:List Cls):Nat→SN→Option (SN × Nat)
 | 0,s=>some (s,0)
 | n+1,s=>if s.status=0∧s.way.isEmpty=false∧s.tries<3000 then match Zin cs s with
   | none=>none
   | some s'=>match Zkx cs n s' with
    | none=>none
    | some (u,m)=>some (u,m+1)
  else some (s,0)
theorem RelS.loop {cs:List Cls} (hcs:∀ c ∈ cs,COk c):∀ {n:Nat} {s t:SN} {r:SN × Nat},RelS s t→Zkx cs n s=some r→RelS r.1 (Zcn cs n t).1∧r.2=(Zcn cs n t).2:=by
 intro n
 induction n with
 | zero=>intro s t r h he; simp [Zkx] at he; subst he; exact ⟨h,rfl⟩
 | succ n ih =>
  intro s t r h he
  have hiff:(s.status=0∧s.way.isEmpty=false∧s.tries<3000)↔(t.status=0∧t.way≠[]∧t.tries<3000):=by
   rw [h.status,h.tries,List.isEmpty_eq_false_iff,Ne,h.way.nil_iff]
  unfold Zkx at he
  unfold Zcn
  split at he
  ·rename_i hc
   rw [if_pos (hiff.1 hc)]
   cases hm:Zin cs s with
   | none=>rw [hm] at he; simp at he
   | some s' =>
    rw [hm] at he
    simp only at he
    cases hl:Zkx cs n s' with
    | none=>rw [hl] at he; simp at he
    | some um =>
     obtain ⟨u,m⟩:=um
     rw [hl] at he
     simp at he
     subst he
     have:=ih (h.try' hcs hm) hl
     exact ⟨this.1,by simp only; rw [← this.2]⟩
  ·rename_i hc
   rw [if_neg (fun e=>hc (hiff.2 e))]
   simp at he
   subst he
   exact ⟨h,rfl⟩
def Zsi (s:SN):SN:=⟨[],s.tries,3,s.found,[]⟩
def Ycg (s:SN):SN:=if s.status=3 then Zsi s else if s.status=0 then (if s.way.isEmpty then ⟨s.way,s.tries,2,s.found,s.tree⟩ else if 3000≤s.tries then Zsi s else s) else s
theorem RelS.full {s t:SN} (h:RelS s t):RelS (Zsi s) (Zfl t):=⟨trivial,h.tries,rfl,fun h=>by simp [Zsi] at h,rfl⟩
theorem RelS.end' {s t:SN} (h:RelS s t):RelS (Ycg s) (endN t):=by
 unfold Ycg endN
 rw [h.status]
 split
 ·exact h.full
 ·split
  ·rename_i h3 h0
   by_cases hw:s.way=[]
   ·rw [if_pos (by simp [hw]),if_pos (h.way.nil_iff.1 hw)]
    exact ⟨h.way,h.tries,rfl,fun h=>by simp at h,h.tree⟩
   ·rw [if_neg (by simpa using hw),if_neg (fun e=>hw (h.way.nil_iff.2 e)),h.tries]
    split
    ·exact h.full
    ·exact h
  ·exact h
def Zjs (cs:List Cls) (n:Nat) (s:SN):Option (SN × Nat):=if s.status=2∨s.status=3 then some (s,0) else match Zkx cs n ⟨s.way,s.tries,0,s.found,s.tree⟩ with
 | none=>none
 | some (u,m)=>some (Ycg u,m)
theorem RelS.step {cs:List Cls} (hcs:∀ c ∈ cs,COk c) {n:Nat} {s t:SN} {r:SN × Nat} (h:RelS s t) (he:Zjs cs n s=some r):RelS r.1 (Zdc cs n t).1∧r.2=(Zdc cs n t).2:=by
 unfold Zjs at he
 unfold Zdc
 rw [h.status] at he
 split at he
 ·rename_i hc
  simp at he
  subst he
  rw [if_pos hc]
  exact ⟨h,rfl⟩
 ·rename_i hc
  rw [if_neg hc]
  cases hl:Zkx cs n ⟨s.way,s.tries,0,s.found,s.tree⟩ with
  | none=>rw [hl] at he; simp at he
  | some um =>
   obtain ⟨u,m⟩:=um
   rw [hl] at he
   simp at he
   subst he
   have:=RelS.loop hcs (s:=⟨s.way,s.tries,0,s.found,s.tree⟩) (t := { t with status:=0 }) ⟨h.way,h.tries,rfl,fun h=>by simp at h,h.tree⟩ hl
   exact ⟨this.1.end',this.2⟩
def Zra (cs:List Cls) (a:List (List Sym) × Names):SN:=Zsh cs (Zng ⟨[],0,0,⟨[],[],[],[],0⟩,[]⟩ (topN a))
theorem RelS.new {cs:List Cls} {a:List (List Sym) × Names} (h:NOk (topN a)):RelS (Zra cs a) (newN cs a) :=
 RelS.left cs (RelS.enter (s:=⟨[],0,0,⟨[],[],[],[],0⟩,[]⟩) (t:=⟨[],0,0,⟨[],[],[],[],0⟩,[]⟩) ⟨trivial,rfl,rfl,fun h=>by simp at h,rfl⟩ h (Same.refl h))
def Znh:List UInt8→List Nat→List UInt8
 | _,[]=>[]
 | sep,k::ks=>sep++(decC k++Znh [46] ks)
theorem Zva:∀ (sep:List UInt8) (ks:List Nat),Znh sep ks=Zef sep ks:=by
 intro sep ks
 induction ks generalizing sep with
 | nil=>rfl
 | cons k ks ih=>simp only [Znh,Zef,Zym,ih]
def Zyn (a:List (List Sym) × Names) (s:SN):List UInt8 × List UInt8 × List UInt8:=if s.status=1 then (Zbr a.2 s.found,Znh [] s.found.used,[]) else if s.status=2 then ([],[],s.tree) else ([],[],[])
theorem Zsj {a:List (List Sym) × Names} {s t:SN} (h:RelS s t):Zyn a s=Zcm a t.status t.found t.tree:=by
 unfold Zyn Zcm
 rw [h.status,h.tree]
 split
 ·rename_i h1
  obtain ⟨hn,hs⟩:=h.found (by rw [h.status]; exact h1)
  rw [show Zbr a.2 s.found=Zbr a.2 t.found by unfold Zbr; rw [hs.valsC hn],Zva,Zie,hs.used]
 ·rfl
def addC (a:List (List Sym) × Names) (t:Tr) (r:SN × Nat):Tr :=
 if r.1.status=1 then ⟨t.ans++[(Zyn a r.1).1],t.wts++[(Zyn a r.1).2.1],t.tries+r.2,r.1.status⟩ else ⟨t.ans,t.wts,t.tries+r.2,r.1.status⟩
def aftC (cs:List Cls) (a:List (List Sym) × Names) (tries size:Nat):Nat→SN→Tr→Option (SN × Tr)
 | 0,m,t=>some (m,t)
 | f+1,m,t=>if t.tries<tries then match Zjs cs (Zgb size (tries - t.tries)) m with
   | none=>none
   | some r=>if r.1.status=2∨r.1.status=3 then some (r.1,addC a t r) else aftC cs a tries size f r.1 (addC a t r)
  else some (m,t)
theorem Ych {a:List (List Sym) × Names} {t:Tr} {r u:SN × Nat} (h:RelS r.1 u.1) (h2:r.2=u.2):addC a t r=addN a t u:=by
 unfold addC addN
 rw [Zsj h,h.status,h2]
theorem Yci {cs:List Cls} (hcs:∀ c ∈ cs,COk c) {a:List (List Sym) × Names} {tries size:Nat}:∀ {f:Nat} {s m:SN} {t:Tr} {r:SN × Tr},RelS s m→aftC cs a tries size f s t=some r→RelS r.1 (aftN cs a tries size f m t).1∧r.2=(aftN cs a tries size f m t).2:=by
 intro f
 induction f with
 | zero=>intro s m t r h he; simp [aftC] at he; subst he; exact ⟨h,rfl⟩
 | succ f ih =>
  intro s m t r h he
  unfold aftC at he
  unfold aftN
  split at he
  ·rename_i hlt
   rw [if_pos hlt]
   cases hs:Zjs cs (Zgb size (tries - t.tries)) s with
   | none=>rw [hs] at he; simp at he
   | some u =>
    rw [hs] at he
    simp only at he
    obtain ⟨h1,h2⟩:=h.step hcs hs
    rw [Ych h1 h2,h1.status] at he
    split at he
    ·rename_i hd
     rw [if_pos hd]
     simp at he
     subst he
     exact ⟨h1,rfl⟩
    ·rename_i hd
     rw [if_neg hd]
     exact ih h1 he
  ·rename_i hlt
   rw [if_neg hlt]
   simp at he
   subst he
   exact ⟨h,rfl⟩
def Zsk (p q:List UInt8):Option (Tr × List UInt8):=match Zcr ⟨p.toArray⟩,Zee ⟨q.toArray⟩ with
 | some cs,some a=>match aftC cs a 3001 3000 3002 (Zra cs a) ⟨[],[],0,0⟩ with
  | some (u,t)=>some (t,(Zyn a u).2.2)
  | none=>none
 | _,_=>none
theorem Zyo {p q:List UInt8} {t:Tr} {T:List UInt8} (h:Zsk p q=some (t,T)):∃ cs a,Zcr ⟨p.toArray⟩=some cs∧Zee ⟨q.toArray⟩=some a∧(aftN cs a 3001 3000 3002 (newN cs a) ⟨[],[],0,0⟩).2=t ∧
  (Zcm a (aftN cs a 3001 3000 3002 (newN cs a) ⟨[],[],0,0⟩).1.status (aftN cs a 3001 3000 3002 (newN cs a) ⟨[],[],0,0⟩).1.found (aftN cs a 3001 3000 3002 (newN cs a) ⟨[],[],0,0⟩).1.tree).2.2=T:=by
 unfold Zsk at h
 cases hp:Zcr ⟨p.toArray⟩ with
 | none=>rw [hp] at h; simp at h
 | some cs =>
  cases hq:Zee ⟨q.toArray⟩ with
  | none=>rw [hp,hq] at h; simp at h
  | some a =>
   rw [hp,hq] at h
   simp only at h
   obtain ⟨_,_,_,hcs,_⟩:=Zdl hp
   obtain ⟨_,_,_,hOk,_,_,_,_,_⟩:=Zda hq
   cases hA:aftC cs a 3001 3000 3002 (Zra cs a) ⟨[],[],0,0⟩ with
   | none=>rw [hA] at h; simp at h
   | some r =>
    obtain ⟨u,t'⟩:=r
    rw [hA] at h
    simp only [Qo,Prod.mk.injEq] at h
    obtain ⟨h1,h2⟩:=Yci (fun c hc=>(hcs c hc).1) (RelS.new hOk) hA
    exact ⟨cs,a,rfl,rfl,by rw [← h2]; exact h.1,by rw [← Zsj h1]; exact h.2⟩
theorem Zvb {p q:List UInt8} {t:Tr} {T:List UInt8} (h:Zsk p q=some (t,T)) (w:World) :
  Calls Tryd.prog 14 #[.string ⟨p.toArray⟩,.string ⟨q.toArray⟩] w fun e w'=>Ext w w'∧∃ aa ac wa wc,e = .returned (.tuple #[.agg #[.slice aa t.ans.length ac,.slice wa t.wts.length wc,.int .i64 t.tries,.int .i64 t.status,.string ⟨T.toArray⟩],.bool true]) ∧
   w'.ownsRow w.heap.size 9 1 (.slice aa t.ans.length ac) t.ans.length (strs t.ans)∧w'.ownsRow w.heap.size 9 1 (.slice wa t.wts.length wc) t.wts.length (strs t.wts):=by
 obtain ⟨cs,a,hp,hq,h1,h2⟩:=Zyo h
 have hps:(⟨p.toArray⟩:ByteArray).size≤maxLen:=by
  have:=(Zdl hp).1
  simp only [maxLen]; omega
 have hqs:(⟨q.toArray⟩:ByteArray).size≤maxLen:=by
  have:=(Zda hq).1
  simp only [maxLen]; omega
 have:=Zyk ⟨p.toArray⟩ ⟨q.toArray⟩ w cs a hps hqs hp hq
 unfold Zyj at this
 rw [h1,h2] at this
 exact this
def Zgw (cs:List Cls):ND→List Nat→Nat→Option (ND × Nat × Nat)
 | n,[],i=>if n.goals.isEmpty then some (n,0,0) else some (n,7,i)
 | n,k::ks,i=>match cs[k]? with
  | none=>some (n,7,i)
  | some c=>if n.goals.isEmpty then some (n,7,i) else match tryC n c k with
   | none=>none
   | some (ch,q)=>if q=1∨q=2 then Zgw cs ch ks (i+1) else some (n,7,i)
theorem Zvc {cs:List Cls} (hcs:∀ c ∈ cs,COk c):∀ {ks:List Nat} {n m:ND} {i:Nat} {r:ND × Nat × Nat},NOk n→Same n m→Zgw cs n ks i=some r→(NOk r.1∧Same r.1 (Zar cs m ks i).1)∧r.2=(Zar cs m ks i).2:=by
 intro ks
 induction ks with
 | nil =>
  intro n m i r hn hs h
  have hg:=hs.gl
  unfold Zgw at h
  unfold Zar
  by_cases he:n.goals=[]
  ·have he':m.goals=[]:=List.eq_nil_of_length_eq_zero (by rw [← hg,he]; rfl)
   rw [if_pos (by simp [he])] at h
   rw [if_pos he']
   simp at h
   subst h
   exact ⟨⟨hn,hs⟩,rfl⟩
  ·have he':m.goals≠[]:=fun e=>he (List.eq_nil_of_length_eq_zero (by rw [hg,e]; rfl))
   rw [if_neg (by simpa using he)] at h
   rw [if_neg he']
   simp at h
   subst h
   exact ⟨⟨hn,hs⟩,rfl⟩
 | cons k ks ih =>
  intro n m i r hn hs h
  have hg:=hs.gl
  unfold Zgw at h
  unfold Zar
  cases hc:cs[k]? with
  | none =>
   rw [hc] at h
   simp at h
   subst h
   exact ⟨⟨hn,hs⟩,rfl⟩
  | some c =>
   rw [hc] at h
   simp only at h ⊢
   by_cases he:n.goals=[]
   ·have he':m.goals=[]:=List.eq_nil_of_length_eq_zero (by rw [← hg,he]; rfl)
    rw [if_pos (by simp [he])] at h
    rw [if_pos he']
    simp at h
    subst h
    exact ⟨⟨hn,hs⟩,rfl⟩
   ·have he':m.goals≠[]:=fun e=>he (List.eq_nil_of_length_eq_zero (by rw [hg,e]; rfl))
    rw [if_neg (by simpa using he)] at h
    rw [if_neg he']
    cases hq:tryC n c k with
    | none=>rw [hq] at h; simp at h
    | some cq =>
     obtain ⟨ch,q⟩:=cq
     rw [hq] at h
     simp only at h
     have hcc:=hcs c (Qh hc)
     obtain ⟨e1,e2⟩:=Zge hn hs hcc (Zsg hn hcc hq)
     rw [← e1]
     split at h
     ·rename_i h12
      rw [if_pos h12]
      exact ih (e2 h12).1 (e2 h12).2 h
     ·rename_i h12
      rw [if_neg h12]
      simp at h
      subst h
      exact ⟨⟨hn,hs⟩,rfl⟩
def Yaq (p q x:List UInt8):Option (List UInt8 × Nat × Nat):=match Zcr ⟨p.toArray⟩,Zee ⟨q.toArray⟩ with
 | some cs,some a=>if 400<x.length then none else match Zdi (x.length+1) x 0 [] with
  | (none,at')=>some ([],6,at')
  | (some ks,_)=>match Zgw cs (topN a) ks 0 with
   | none=>none
   | some r=>if r.2.1=0 then some (Zbr a.2 r.1,0,0) else some ([],r.2.1,r.2.2)
 | _,_=>none
theorem Yar {p q x:List UInt8} {r:List UInt8 × Nat × Nat} (h:Yaq p q x=some r):yesN ⟨p.toArray⟩ ⟨q.toArray⟩ ⟨x.toArray⟩=r∧p.length≤800∧q.length≤120∧x.length≤400:=by
 unfold Yaq at h
 cases hp:Zcr ⟨p.toArray⟩ with
 | none=>rw [hp] at h; simp at h
 | some cs =>
  cases hq:Zee ⟨q.toArray⟩ with
  | none=>rw [hp,hq] at h; simp at h
  | some a =>
   rw [hp,hq] at h
   simp only at h
   obtain ⟨hps,_,_,hcs,_⟩:=Zdl hp
   obtain ⟨hqs,_,_,hOk,_,_,_,_,_⟩:=Zda hq
   split at h
   ·simp at h
   ·rename_i hx
    have hx':¬ 400<(⟨x.toArray⟩:ByteArray).size:=by simpa [ByteArray.size] using hx
    refine ⟨?_,by simpa [ByteArray.size] using hps,by simpa [ByteArray.size] using hqs,by omega⟩
    have hnl:Zcs ⟨x.toArray⟩=Zdi (x.length+1) x 0 []:=by
     unfold Zcs
     simp [ByteArray.size]
    unfold yesN Zdt
    rw [hp,hq]
    simp only
    rw [if_neg hx',hnl]
    cases hn:Zdi (x.length+1) x 0 [] with
    | mk o at' =>
     rw [hn] at h
     cases o with
     | none=>simp at h; subst h; simp
     | some ks =>
      simp only at h ⊢
      cases hf:Zgw cs (topN a) ks 0 with
      | none=>rw [hf] at h; simp at h
      | some u =>
       rw [hf] at h
       simp only at h
       obtain ⟨⟨h1,h2⟩,h3⟩:=Zvc (fun c hc=>(hcs c hc).1) hOk (Same.refl hOk) hf
       have h4:(Zar cs (topN a) ks 0).2.1=u.2.1:=by rw [h3]
       have h5:(Zar cs (topN a) ks 0).2.2=u.2.2:=by rw [h3]
       rw [h4,h5]
       split at h
       ·rename_i h0
        rw [if_pos h0]
        simp at h
        rw [← h,show Zbr a.2 u.1=Zbr a.2 (Zar cs (topN a) ks 0).1 by unfold Zbr; rw [h2.valsC h1]]
       ·rename_i h0
        rw [if_neg h0]
        simp at h
        exact h
theorem Yas {p q x:List UInt8} {r:List UInt8 × Nat × Nat} (h:Yaq p q x=some r) (w:World) :
  Calls Tryd.prog 17 #[.string ⟨p.toArray⟩,.string ⟨q.toArray⟩,.string ⟨x.toArray⟩] w fun e w'=>e = .returned (.tuple #[.string ⟨r.1.toArray⟩,.int .i64 r.2.1,.int .i64 r.2.2])∧Ext w w':=by
 obtain ⟨h1,h2,h3,h4⟩:=Yar h
 have:=Yak ⟨p.toArray⟩ ⟨q.toArray⟩ ⟨x.toArray⟩ w (by simp only [maxLen,ByteArray.size,List.size_toArray]; omega) (by simp only [maxLen,ByteArray.size,List.size_toArray]; omega) (by simp only [maxLen,ByteArray.size,List.size_toArray]; omega)
 rw [h1] at this
 exact this
def Zky:Nat→List UInt8
 | 0=>[97]
 | k+1=>Zky k++[44,97]
def byS:Nat→List UInt8
 | 0=>[]
 | k+1=>byS k++[46,48]
def Ycj:List UInt8:=[97,58,45,97,44,97,44,97,46]
def Zyp (r:Nat):Nat:=(39 - r) / 2+1
set_option maxRecDepth 100000 in
theorem Yde (r:Nat) (hr:r<6):Zsk Ycj (Zky r++[46])=some (⟨[],[],Zyp r,3⟩,[]):=by
 rcases (by omega:r=0∨r=1∨r=2∨r=3∨r=4∨r=5) with rfl | rfl | rfl | rfl | rfl | rfl
 all_goals kernel_rfl
set_option maxRecDepth 100000 in
theorem Ydf (r:Nat) (hr:r<6):Yaq Ycj (Zky r++[46]) ((byS (Zyp r)).drop 1)=some ([],7,Zyp r - 1):=by
 rcases (by omega:r=0∨r=1∨r=2∨r=3∨r=4∨r=5) with rfl | rfl | rfl | rfl | rfl | rfl
 all_goals kernel_rfl
theorem Zyq (k:Nat):(Zky k).length=2 * k+1:=by
 induction k with
 | zero=>rfl
 | succ k ih=>simp [Zky,ih]; omega
theorem Zyr (k:Nat):(byS k).length=2 * k:=by
 induction k with
 | zero=>rfl
 | succ k ih=>simp [byS,ih]; omega
theorem Ydg:(⟨Ycj.toArray⟩:ByteArray)=⟨#[97,58,45,97,44,97,44,97,46]⟩:=rfl
theorem Ydh (r:Nat):(⟨(Zky r++[46]).toArray⟩:ByteArray)=⟨(Zky r).toArray⟩++⟨#[46]⟩:=by rw [← Zcc]
theorem Ydi (r:Nat):(⟨(Zky (r+1)).toArray⟩:ByteArray)=⟨(Zky r).toArray⟩++⟨#[44,97]⟩:=by simp only [Zky]; rw [← Zcc]
theorem by_s (r:Nat):(⟨(byS (r+1)).toArray⟩:ByteArray)=⟨(byS r).toArray⟩++⟨#[46,48]⟩:=by simp only [byS]; rw [← Zcc]
theorem Ydj (n:Nat):(⟨((byS n).drop 1).toArray⟩:ByteArray)=(⟨(byS n).toArray⟩:ByteArray).extract 1 (2 * n):=by
 rw [Lib.extract_eq,List.take_of_length_le (by simp [Zyr])]
theorem Zvd (c:Int) (hc : -9223372036854775808≤c∧c<9223372036854775808) (w:World) :
  Calls Tryd.prog 6 #[.int .i64 c] w fun e w'=>e = .returned (.bool true)∧Ext w w':=by
 have HP:=Zac (Zvj c 6 w hc ⟨by decide,by decide⟩)
 go_enter Tryd.func6,Tryd.ntmps6
 go_wp2_with fail
 refine HP.out.mono ?_
 rintro e w1 ⟨r,hr,rfl,rfl⟩
 have hr6:r<6:=by omega
 clear HP hr hc
 go_wp2
 go_loop [4,5] (fun sv i=>∃ j:Nat,j≤r∧i = .int .i64 ((j:Int)+1)∧sv = .string ⟨(Zky j).toArray⟩) (fun _ i=>r+1 - (intOf i).toNat)
 case atStart=>exact ⟨0,Qm _,rfl,rfl⟩
 case round =>
  obtain ⟨j,hj,rfl,rfl⟩:=hrel
  have hil:=Zyq j
  by_cases hlt:j<r
  ·have Hi:=Zac (Ydi j)
   have hI:(j:Int)+1<1+(r:Int):=by omega
   go_wp2
   go_round
   case rel=>exact ⟨j+1,by omega,by go_num,by rw [Hi.out]⟩
   case measure=>simp [intOf]; omega
  ·obtain rfl:j=r:=by omega
   have hI:¬ (j:Int)+1<1+(j:Int):=by omega
   have H1:=Zac (fun u=>Zvb (Yde j hr6) u)
   have H2:=Zac (fun u=>Yas (Ydf j hr6) u)
   rw [Ydg,Ydh] at H1 H2
   obtain ⟨W,hW⟩:∃ W,W=Zyp j:=⟨_,rfl⟩
   have hWi:((40:Int) - (1+(j:Int))).tdiv 2+1=(W:Int):=by
    rw [hW]
    rcases (by omega:j=0∨j=1∨j=2∨j=3∨j=4∨j=5) with rfl | rfl | rfl | rfl | rfl | rfl <;> rfl
   have hW1:1≤W∧W≤20:=by rw [hW]; unfold Zyp; omega
   rw [← hW] at H1 H2
   clear hW
   simp only [Jt] at H1
   go_wp2_with fail
   refine (H1.out _).mono ?_
   rintro e w2 ⟨hE2,aa,ac,wa,wc,rfl,ha2,hw2⟩
   have hs2:=hE2.size
   have HE2:=Zac hE2
   clear hE2 ha2 hw2 H1
   go_wp2
   go_loopw [9,10] (fun sv i u=>∃ n:Nat,n≤W∧i = .int .i64 n∧sv = .string ⟨(byS n).toArray⟩∧Ext w2 u∧u.heap[w2.heap.size]?=some (.cells #[.slice aa 0 ac,.slice wa 0 wc,.int .i64 W,.int .i64 3,.string ⟨#[]⟩] 36 (0,0))) (fun _ i _=>W - (intOf i).toNat)
   case atStart=>exact ⟨0,Qm _,rfl,rfl,(Ext.of (by repeat' (first | with_reducible(first|exact Qx _ _|apply Kept.drew|apply Kept.drewN|apply Qz|refine Qy ?_ ?_ _)|exact fun h=>absurd h (by simp <;> omega)))),heap_alloc_new w2 _⟩
   case round =>
    obtain ⟨n,hn,rfl,rfl,hEu,hbx⟩:=hrel
    have hbl:=Zyr n
    by_cases hlt2:n<W
    ·have Hi:=Zac (by_s n)
     have HEu:=Zac hEu
     have Hbx:=Zac hbx
     clear hEu hbx
     go_wp2
     go_roundw
     case rel=>exact ⟨n+1,by omega,by go_num,by rw [Hi.out],HEu.out,Hbx.out⟩
     case measure=>simp [intOf]; omega
    ·obtain rfl:n=W:=by omega
     have hl:=Zab hbx
     have b2:=Zaa hbx 2 _ rfl
     have b3:=Zaa hbx 3 _ rfl
     have HEu:=Zac hEu
     have Hbx:=Zac hbx
     clear hEu hbx
     rw [Ydj] at H2
     have hI3:(((n - 1:Nat):Int) == (n:Int) - 1)=true:=by rw [beq_iff_eq]; omega
     go_wp2_with fail
     refine (H2.out _).mono ?_
     rintro e w4 ⟨rfl,hE4⟩
     have d2:w4.cell? ⟨w2.heap.size,2,none⟩=some (.int .i64 n):=(hE4.cell (p:=⟨w2.heap.size,2,none⟩) hl).trans b2
     have d3:w4.cell? ⟨w2.heap.size,3,none⟩=some (.int .i64 3):=(hE4.cell (p:=⟨w2.heap.size,3,none⟩) hl).trans b3
     have HE4:Hid (Ext w1 w4):=HE2.out.trans ((HEu.out.trans (hE4.mono HEu.out.size)).mono hs2)
     clear hE4 b2 b3
     go_wp2
     go_ret
     exact ⟨rfl,HE4.out⟩
end Go.Proofs.YtlmjilpjmgjjcabDoor
namespace Go.Proofs.YtlmjilpjmgjjcabDoor
open Go.ChangeShapes Go.WideShapes Go.ChangeAt Go.WideMaps Go.WideElems Go.RowKit
theorem own_k:ownKnob Tryd.prog.godebug=none:=by kernel_rfl
theorem Zys:laidOutB Tryd.prog=true:=by kernel_rfl
theorem Zrb {H:Type} {enc:TypeId × Value→H} {W:World} {base:Nat} {spare:Nat→Bool} {held:Bool} {n:Int} {d:DataW H} {ps:List MemPlace} (h:DataW.Trod enc Tryd.prog W base spare held 3 (.int .i64 n) d ps) : -9223372036854775808≤n∧n<9223372036854775808:=by
 obtain ⟨fuel,hf⟩:=h
 obtain ⟨s,h1,_,h3⟩:=DataW.trod_int Tryd.underlying3 hf
 simp [Value.cells] at h1
 subst h1
 have h4:(decide (IntKind.min .i64≤n) && decide (n≤IntKind.max .i64))=true:=h3
 rw [Bool.and_eq_true,decide_eq_true_eq,decide_eq_true_eq,show IntKind.min .i64 = -9223372036854775808 from rfl,show IntKind.max .i64=9223372036854775807 from rfl] at h4
 omega
theorem Zve (os:Os) (args:Array Value):laidMetH Tryd.prog Rows.goalsRow.laid ((World.doorLaid Tryd.prog 400 os).forCall (fun _ _=>0) ⟨#[],args,[]⟩).memory :=
 laidMetH_of_parts3 (fuel:=8) (laidMet_of_run' 8 (by kernel_rfl) (by kernel_rfl)) (by kernel_rfl) (by kernel_rfl)
set_option maxRecDepth 100000 in
theorem Zpk (os:Os) (started:os.Started) (H:Type) (enc:TypeId × Value→H) :
  ReturnsInHanded {} Tryd.checked os 6 .any (fun w args=>(Rows.goalsSpec.pre enc Tryd.prog Tryd.f6 [] false w args∧laidMetH Tryd.prog Rows.goalsRow.laid w)∧sizedMet enc Tryd.prog Tryd.f6 (OpenSpec.ofChange Rows.goalsSpec) false w args)
   (Rows.goalsSpec.post enc Tryd.prog Tryd.f6 false true false false):=by
 refine returnsInHanded_of_change_and (C:=Tryd.checked) (X:=fun w _=>laidMetH Tryd.prog Rows.goalsRow.laid w) (fun _ _ _ hh h=>h.of_heap hh) own_k started (by kernel_rfl) Tryd.func6
  (ChangeSpec.witness_shaped (enc:=enc) (C:=Tryd.checked) (os:=os) (X:=fun w _=>laidMetH Tryd.prog Rows.goalsRow.laid w) false (World.doorLaid Tryd.prog 400 os) #[.int .i64 0] 8 rfl (World.shaped_of_RefB (by kernel_rfl) (by kernel_rfl)) (by kernel_rfl) (by kernel_rfl) (by kernel_rfl) (Zve os _)) ?_
 intro W base args ds gs before hval0 hW _ _ hL _
 have hval:∀ (j:Nat) t v,Tryd.f6.params[j]?=some t→args[j]?=some v→Value.okWide Tryd.prog W .any base t v:=hval0
 have hW':=hW
 obtain ⟨p,q,hA0,hV,rfl,hfz,hnd⟩:=hW
 have hA:DataW.TrodAll enc Tryd.prog W 0 (fun _=>true) true Tryd.f6.params.toList args.toList ds p:=hA0
 rw [Tryd.params6] at hA hval
 obtain ⟨v0,d0,rfl,rfl,h0⟩:=trodAll_one hA
 obtain ⟨rfl,rfl⟩:=trodVars_none hV
 have lt0:∀ x ∈ p,x.block<W.heap.size:=by obtain ⟨m,hm⟩:=h0; exact DataW.trod_lt m _ _ _ hm
 obtain ⟨n0,rfl⟩:=okWide_int Tryd.underlying3 (hval 0 3 v0 rfl rfl)
 have hb:=Zrb h0
 clear hA0 hval0
 refine (Zvd n0 hb W).mono fun e W' ⟨he,bel⟩ => ?_
 subst he
 exact ⟨_,rfl,_,_,_,[],_,[],hW',trodAll_mk1 (shut_bool Tryd.underlying4 _),trodAll_mk1 (Below.trod Zys (by kernel_rfl) (of_decide_eq_true (by kernel_rfl)) h0 bel lt0),rfl,bel.frame _,fun h=>by cases h⟩
theorem Zyt:Rows.GoalsSaid :=
 OpenClaim.holds_of_wide 6 Tryd.f6 rfl rfl rfl rfl rfl rfl rfl ⟨rfl,rfl,rfl,rfl,rfl⟩ rfl rfl rfl rfl rfl (by kernel_rfl) Tryd.func6 (by kernel_rfl)
  (of_decide_eq_true (by kernel_rfl)) (by unfold Func.isWrapper; first | (rw [if_pos (by decide +kernel)]; kernel_rfl) | (rw [if_neg (by decide +kernel)]; exact ⟨rfl,rfl⟩))
  (fun os started H enc _=>Zpk os started H enc)
theorem goals_hold:Rows.GoalsCardSaid :=
 Claim7.holds_tied_plain_at .later [] [.data,.data,.data] true Rows.goalsCard.stood.harness false
  Zyt (fun _ h=>by cases h) (by kernel_rfl) (fun _ h=>by cases h) goals_row_tie rfl ⟨rfl,rfl⟩ (by kernel_rfl) rfl
  (fun f fn hf hfn=>by
   obtain rfl:f=6:=Option.some.inj ((show Tryd.prog.funcNamed Tryd.f6.name=some 6 by kernel_rfl).symm.trans hf) |>.symm
   obtain rfl:fn=Tryd.f6:=(Option.some.inj (Tryd.func6.symm.trans hfn)).symm
   exact ⟨by kernel_rfl,fun j t ht=>by
    rw [Tryd.params6] at ht
    have hm:t ∈ [3]:=by simpa using Array.mem_of_getElem? ht
    have hall:([3].all fun u => !Tryd.prog.wantsStandIn u)=true:=by kernel_rfl
    exact (show Tryd.prog.wantsStandIn t=false by simpa using List.all_eq_true.1 hall t hm)⟩)
  (by kernel_rfl)
end Go.Proofs.YtlmjilpjmgjjcabDoor
