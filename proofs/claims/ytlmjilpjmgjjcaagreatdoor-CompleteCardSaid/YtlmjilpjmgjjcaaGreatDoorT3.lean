/-
  PROVED HERE: what the document's calls answer, as plain functions of texts (no memory; a try is 'tryN' of the text Node); plain facts on them (the conditions stand in each statement).
-/
import Derived.Test.YtlmjilpjmgjjcaaGreatDoorT2
import Derived.Deep.RegionWith
set_option linter.unusedSimpArgs false
set_option linter.unusedVariables false
set_option maxRecDepth 10000
set_option maxHeartbeats 4000000
namespace Go.Proofs.YtlmjilpjmgjjcaaGreatDoor
open Go.RowKit
def kmap (k:Nat):Nat:=if k=1 then 1 else if k=2 then 2 else if k=40 then 3 else if k=41 then 4 else if k=44 then 5 else if k=46 then 6 else if k=3 then 7 else 8
def Zhd (k:Nat):Prop:=k=1∨k=2∨k=40∨k=41∨k=44∨k=46∨k=3∨k=5
theorem Ydr (c:UInt8) (h:inB c Zvu=true):c=40∨c=41∨c=44∨c=46:=by
 have:=Zdp (p:=fun c => !inB c Zvu || (c == 40 || c == 41 || c == 44 || c == 46)) (by decide +kernel) c
 simpa [h,or_assoc] using this
theorem Zwn (c:UInt8) (h:inB c Zvu=false):¬ c=40∧¬ c=41∧¬ c=44∧¬ c=46:=by
 have:=Zdp (p:=fun c=>inB c Zvu || !(c == 40 || c == 41 || c == 44 || c == 46)) (by decide +kernel) c
 simpa [h,not_or,and_assoc] using this
theorem Znl (c:UInt8) (r:List UInt8) :
  (Zbn c r=(1,Zbm r)∧Zdc c (r.head?.getD 0)=1∧inB c Zhf=true)∨(Zbn c r=(2,Zbm r)∧Zdc c (r.head?.getD 0)=2∧inB c Zhf=true) ∨
  (Zbn c r=(40,0)∧Zdc c (r.head?.getD 0)=3)∨(Zbn c r=(41,0)∧Zdc c (r.head?.getD 0)=4)∨(Zbn c r=(44,0)∧Zdc c (r.head?.getD 0)=5)∨(Zbn c r=(46,0)∧Zdc c (r.head?.getD 0)=6) ∨
  (Zbn c r=(3,1)∧Zdc c (r.head?.getD 0)=7)∨(Zbn c r=(5,0)∧Zdc c (r.head?.getD 0)=8):=by
 unfold Zbn Zdc
 cases h1:inB c Zdx
 ·cases h2:inB c Zhi
  ·cases h3:inB c Zvu
   ·obtain ⟨a1,a2,a3,a4⟩:=Zwn c h3
    have hd:(c=58∧r.head?=some 45)↔(c=58∧r.head?.getD 0=45):=by
     cases r with
     | nil=>simp
     | cons d r=>simp
    by_cases h:c=58∧r.head?=some 45
    ·have h':=hd.1 h
     simp only [Bool.false_eq_true,if_false,if_neg a1,if_neg a2,if_neg a3,if_neg a4,if_pos h,if_pos h']
     simp
    ·have h':¬ (c=58∧r.head?.getD 0=45):=fun e=>h (hd.2 e)
     simp only [Bool.false_eq_true,if_false,if_neg a1,if_neg a2,if_neg a3,if_neg a4,if_neg h,if_neg h']
     simp
   ·rcases Ydr c h3 with rfl | rfl | rfl | rfl <;> simp
  ·simp [Zga h2]
 ·simp [Zfd h1]
theorem Zma (c:UInt8) (r:List UInt8):kmap (Zbn c r).1=Zdc c (r.head?.getD 0)∧Zhd (Zbn c r).1:=by
 rcases Znl c r with ⟨h1,h2,_⟩ | ⟨h1,h2,_⟩ | ⟨h1,h2⟩ | ⟨h1,h2⟩ | ⟨h1,h2⟩ | ⟨h1,h2⟩ | ⟨h1,h2⟩ | ⟨h1,h2⟩ <;> rw [h1,h2] <;> exact ⟨rfl,by unfold Zhd; simp⟩
theorem Yds (s:ByteArray) (p:Nat) (c:UInt8) (r:List UInt8) (hd:s.data.toList.drop p=c::r):endC s p (Zdc c (r.head?.getD 0))=p+((Zbn c r).2+1):=by
 rcases Znl c r with ⟨h1,h2,h3⟩ | ⟨h1,h2,h3⟩ | ⟨h1,h2⟩ | ⟨h1,h2⟩ | ⟨h1,h2⟩ | ⟨h1,h2⟩ | ⟨h1,h2⟩ | ⟨h1,h2⟩ <;> rw [h1,h2] <;> simp [endC,hd]
 ·rw [Zgp c r h3]
 ·rw [Zgp c r h3]
theorem Zmb (s:ByteArray) (p:Nat):Zdi s p=(s.data.toList.drop p).head?.getD 0:=by
 unfold Zdi
 rw [List.head?_drop]
theorem Zsq:∀ (l:List UInt8) (p:Nat),toks l p=toks (l.drop (Zcn l)) (p+Zcn l):=by
 intro l
 induction l with
 | nil=>intro p; rfl
 | cons c r ih =>
  intro p
  unfold Zcn
  cases h:Zgq c
  ·simp
  ·rw [Zvw c r p h,ih (p+1)]
   simp only [if_pos,List.drop_succ_cons]
   congr 1
   omega
theorem Zwo (l:List UInt8) (c:UInt8) (r:List UInt8) (h:l.drop (Zcn l)=c::r):Zgq c=false:=by
 induction l with
 | nil=>simp [Zcn] at h
 | cons d l ih =>
  unfold Zcn at h
  cases hb:Zgq d
  ·rw [hb] at h
   simp at h
   rw [← h.1]; exact hb
  ·rw [hb] at h
   simp only [if_pos,List.drop_succ_cons] at h
   exact ih h
theorem Zzs (s:ByteArray) (p k:Nat):(s.extract p (p+k)).data.toList=(s.data.toList.drop p).take k:=by
 rw [ByteArray.data_extract,Array.toList_extract,List.extract_eq_take_drop]
 congr 1
 omega
theorem Zzt (s:ByteArray) (n:Nat) (hn:n≤s.size) :
  (Zlo s n=(0,s.size,s.size)∧toks (s.data.toList.drop n) n=[]) ∨
  ∃ t q,Zlo s n=(kmap t.kind,t.pos,q)∧toks (s.data.toList.drop n) n=t::toks (s.data.toList.drop q) q∧Zhd t.kind∧n≤t.pos∧t.pos<q∧q≤s.size∧s.extract t.pos q=⟨t.text.toArray⟩∧t.text.length=q - t.pos:=by
 have hl:s.data.toList.length=s.size:=by rw [Array.length_toList]; rfl
 rw [Zsq,List.drop_drop]
 unfold Zlo
 obtain ⟨p,hp⟩:∃ p,p=n+Zcn (s.data.toList.drop n):=⟨_,rfl⟩
 rw [← hp]
 by_cases h:p<s.size
 ·right
  rw [if_pos h]
  obtain ⟨c,r,hd⟩:∃ c r,s.data.toList.drop p=c::r:=by
   cases hc:s.data.toList.drop p with
   | nil =>
    have:=congrArg List.length hc
    simp only [List.length_drop,Jt] at this
    omega
   | cons c r=>exact ⟨c,r,rfl⟩
  have hb:Zgq c=false:=Zwo (s.data.toList.drop n) c r (by rw [List.drop_drop,← hp]; exact hd)
  have hd1:s.data.toList.drop (p+1)=r:=by rw [← List.drop_drop,hd]; rfl
  have hc0:Zdi s p=c:=by rw [Zmb,hd]; rfl
  have hc1:Zdi s (p+1)=r.head?.getD 0:=by rw [Zmb,hd1]
  have hle:=Zyq c r
  have hlen:(s.data.toList.drop p).length=s.size - p:=by rw [List.length_drop,hl]
  rw [hd] at hlen
  simp only [Qf] at hlen
  rw [hc0,hc1,hd,Zfe c r p hb]
  refine ⟨⟨(Zbn c r).1,(c::r).take ((Zbn c r).2+1),p⟩,p+((Zbn c r).2+1),?_,?_,(Zma c r).2,by simp only; omega,by simp only; omega,by omega,?_,?_⟩
  ·rw [Yds s p c r hd,(Zma c r).1]
  ·congr 2
   ·rw [← List.drop_drop,hd]; rfl
  ·have:(s.extract p (p+((Zbn c r).2+1))).data.toList=(c::r).take ((Zbn c r).2+1):=by rw [Zzs,hd]
   simp only
   rw [← this]
  ·simp; omega
 ·left
  rw [if_neg h]
  refine ⟨rfl,?_⟩
  rw [List.drop_eq_nil_of_le (by omega)]
  rfl
structure RI (k:Nat) (st:RS):Prop where
 opnl:st.opn.length≤k
 atoml:st.atom.length≤k
 bodyl:st.body.length≤k
 clsl:st.clauses.length≤k
 varsl:st.vars.length≤k
 args:∀ s ∈ st.atom,s.args≤k
 next:st.next≤5
 opn:∀ n ∈ st.opn,n<st.atom.length
 name:st.next=3→0<st.atom.length
theorem RI.bd {k:Nat} {st:RS} (h:RI k st) (hk:k≤4000):RBd st :=
 ⟨Qq h.opnl (by omega),Qq h.atoml (by omega),Qq h.bodyl (by omega),Qq h.clsl (by omega),fun s hs=>Qq (h.args s hs) (by omega)⟩
theorem Zik {st:RS} {kd len:Nat} (h:Zbs st kd len=0):Zbg st kd=true:=by
 unfold Zbs at h
 split at h
 ·omega
 ·rename_i hs
  simpa using hs
theorem Zil {st:RS} {kd:Nat} (h:Zbg st kd=true) (hn:st.next≤5):1≤kd∧kd≤7∧(kd=3→st.next=3)∧(kd=6∨kd=7→st.opn=[]):=by
 have fol:Zbr st kd=true→(kd=4∨kd=5∨kd=6∨kd=7)∧(kd=6∨kd=7→st.opn=[]):=by
  unfold Zbr
  cases ho:st.opn with
  | nil =>
   simp only [List.isEmpty_nil,if_true]
   intro h
   refine ⟨?_,fun _=>trivial⟩
   split at h
   ·simp at h; omega
   ·simp at h; omega
  | cons n r =>
   simp only [List.isEmpty_cons]
   intro h
   simp at h
   exact ⟨by omega,fun h=>by omega⟩
 unfold Zbg at h
 split at h
 ·simp at h; subst h; simp
 ·split at h
  ·simp at h; rcases h with rfl | rfl <;> simp
  ·split at h
   ·rename_i h3
    simp only [Bool.or_eq_true,beq_iff_eq] at h
    rcases h with rfl | h
    ·exact ⟨by omega,by omega,fun _=>h3,by omega⟩
    ·obtain ⟨h1,h2⟩:=fol h
     exact ⟨by omega,by omega,by omega,h2⟩
   ·split at h
    ·obtain ⟨h1,h2⟩:=fol h
     exact ⟨by omega,by omega,by omega,h2⟩
    ·simp at h
theorem RI.takes {k:Nat} {st:RS} {kd:Nat} (h:RI k st) (hk:k≤4000) (hs:Zbg st kd=true):TakeOk st kd:=by
 obtain ⟨h1,h2,h3,h4⟩:=Zil hs h.next
 have:=h.varsl
 have:=h.bodyl
 exact ⟨h.bd hk,by omega,by omega,h.opn,h1,h2,fun e=>h.name (h3 e)⟩
theorem Zkz (st:RS):(Zcf st).length=st.atom.length:=by unfold Zcf; split <;> simp
theorem Zzu {k:Nat} (st:RS) (h:∀ s ∈ st.atom,s.args≤k):∀ s ∈ Zcf st,s.args≤k+1:=by
 unfold Zcf
 split
 ·exact fun s hs=>Nat.le_succ_of_le (h s hs)
 ·rename_i n r ho
  intro s hs
  obtain ⟨i,hi⟩:=List.getElem?_of_mem hs
  rw [List.getElem?_modify] at hi
  cases hx:st.atom[i]? with
  | none=>rw [hx] at hi; simp at hi
  | some x =>
   rw [hx] at hi
   have:=h x (Qh hx)
   simp at hi
   split at hi
   ·subst hi; simpa using this
   ·subst hi; omega
theorem RI.mono {k:Nat} {st:RS} (h:RI k st):RI (k+1) st :=
 ⟨Nat.le_succ_of_le h.opnl,Nat.le_succ_of_le h.atoml,Nat.le_succ_of_le h.bodyl,Nat.le_succ_of_le h.clsl,Nat.le_succ_of_le h.varsl,fun s hs=>Nat.le_succ_of_le (h.args s hs),h.next,h.opn,h.name⟩
theorem RI.at {k m:Nat} {st:RS} (h:RI k st) (hk:k≤m):RI m st :=
 ⟨Qq h.opnl hk,Qq h.atoml hk,Qq h.bodyl hk,Qq h.clsl hk,Qq h.varsl hk,fun s hs=>Qq (h.args s hs) hk,h.next,h.opn,h.name⟩
theorem RI.add {k:Nat} {st:RS} (h:RI k st) (s:Sym) (hs:s.args=0) (n:Nat) (hn:n≤5) (vars:Names) (hv:vars.length≤k+1):RI (k+1) { addS st s with next:=n,vars:=vars }:=by
 have hl:=Zkz st
 have h0:=h.atoml
 have h1:=h.opnl
 refine ⟨by simp [addS]; omega,by simp [addS,hl]; omega,Nat.le_succ_of_le h.bodyl,Nat.le_succ_of_le h.clsl,hv,?_,hn,?_,?_⟩
 ·intro x hx
  simp only [addS,Qk,List.mem_singleton] at hx
  rcases hx with hx | rfl
  ·exact Zzu st h.args x hx
  ·omega
 ·intro x hx
  have:=h.opn x hx
  simp only [addS,Qg,hl,Qn]
  omega
 ·intro _
  simp [addS]
theorem RI.ends {k:Nat} {st:RS} (h:RI k st) (ho:st.opn=[]) (n:Nat) (hn:n≤5) (h3:n≠3) (b:Bool):RI (k+1) { Zap st with next:=n,inBody:=b }:=by
 have h0:=h.bodyl
 have ha:(Zap st).atom=[]:=by unfold Zap; split <;> rfl
 have hb:(Zap st).body.length≤k+1:=by unfold Zap; split <;> simp <;> omega
 have hc:(Zap st).clauses=st.clauses:=by unfold Zap; split <;> rfl
 have hv:(Zap st).vars=st.vars:=by unfold Zap; split <;> rfl
 have hp:(Zap st).opn=[]:=by unfold Zap; split <;> exact ho
 have:=h.clsl
 have:=h.varsl
 exact ⟨by simp [hp],by simp [ha],hb,by simp only [hc]; omega,by simp only [hv]; omega,by simp [ha],hn,by simp [hp],fun e=>absurd e h3⟩
theorem RI.take {k:Nat} {st:RS} {kd:Nat} (t:List UInt8) (h:RI k st) (hs:Zbg st kd=true):RI (k+1) (Zbi st kd t):=by
 obtain ⟨h1,h2,h3,h4⟩:=Zil hs h.next
 have hc:kd=1∨kd=2∨kd=3∨kd=4∨kd=5∨kd=6∨kd=7:=by omega
 have a1:=h.opnl
 have a2:=h.atoml
 have a3:=h.varsl
 rcases hc with rfl | rfl | rfl | rfl | rfl | rfl | rfl
 ·exact h.add ⟨t,0,0⟩ rfl 3 (by omega) st.vars (by omega)
 ·have hv:=Zki st.vars t
  exact h.add ⟨[],(Zbb st.vars t).2,0⟩ rfl 4 (by omega) (Zbb st.vars t).1 (by omega)
 ·have hp:=h.name (h3 rfl)
  have m:=h.mono
  refine ⟨by simp [Zbi]; omega,m.atoml,m.bodyl,m.clsl,m.varsl,m.args,by simp [Zbi],?_,by simp [Zbi]⟩
  intro n hn
  simp only [Zbi,Qp] at hn
  simp at hn
  show n<st.atom.length
  rcases hn with rfl | hn
  ·omega
  ·exact h.opn n hn
 ·have m:=h.mono
  refine ⟨by simp [Zbi,Zie]; omega,m.atoml,m.bodyl,m.clsl,m.varsl,m.args,by simp [Zbi],?_,by simp [Zbi]⟩
  intro n hn
  simp [Zbi,Zie] at hn
  exact h.opn n (List.mem_of_mem_tail hn)
 ·show RI (k+1) (Zfs st)
  unfold Zfs
  cases ho:st.opn with
  | nil =>
   have:=h.ends ho 1 (by omega) (by omega) (Zap st).inBody
   simpa using this
  | cons n r =>
   have m:=h.mono
   simp only [List.isEmpty_cons,Bool.false_eq_true,if_false]
   have m1:=m.opnl
   have m2:=m.opn
   rw [ho] at m1 m2
   exact ⟨m1,m.atoml,m.bodyl,m.clsl,m.varsl,m.args,by simp,m2,by simp⟩
 ·show RI (k+1) (Zao (Zap st))
  have hw:=h.ends (h4 (by omega)) 0 (by omega) (by omega) false
  have hcl:(Zap st).clauses=st.clauses:=by unfold Zap; split <;> rfl
  have:=h.clsl
  refine ⟨hw.opnl,hw.atoml,by simp [Zao],by simp [Zao,hcl]; omega,by simp [Zao],hw.args,?_,hw.opn,?_⟩
  ·simp only [Zao]; split <;> omega
  ·simp only [Zao]; split <;> omega
 ·exact h.ends (h4 (by omega)) 1 (by omega) (by omega) true
def runT (e:Nat):List Tok→RS→Nat × Nat × RS
 | [],st=>if st.next≠0∧st.next≠5 then (2,e,st) else (0,0,st)
 | t::ts,st=>if Zbs st (kmap t.kind) t.text.length≠0 then (Zbs st (kmap t.kind) t.text.length,t.pos,st) else runT e ts (Zbi st (kmap t.kind) t.text)
def TokAt (w:World) (b:Nat) (t:Nat × Nat × Nat):Prop:=w.heap[b]?=some (.cells #[.int .i64 t.1,.int .i64 t.2.1,.int .i64 t.2.2] 224 (0,0))
def FaultAt (w:World) (b:Nat) (e p:Nat):Prop:=w.heap[b]?=some (.cells #[.int .i64 e,.int .i64 p] 91 (0,0))
theorem TokAt.cells {w:World} {b:Nat} {t:Nat × Nat × Nat} (h:TokAt w b t):b<w.heap.size∧w.cell? ⟨b,0,none⟩=some (.int .i64 t.1)∧w.cell? ⟨b,1,none⟩=some (.int .i64 t.2.1)∧w.cell? ⟨b,2,none⟩=some (.int .i64 t.2.2)∧∀ i,w.frozen? ⟨b,i,none⟩=false :=
 ⟨Zab h,Zaa h 0 _ rfl,Zaa h 1 _ rfl,Zaa h 2 _ rfl,fun i=>Zae h i⟩
theorem FaultAt.cells {w:World} {b e p:Nat} (h:FaultAt w b e p):b<w.heap.size∧w.cell? ⟨b,0,none⟩=some (.int .i64 e)∧w.cell? ⟨b,1,none⟩=some (.int .i64 p)∧∀ i,w.frozen? ⟨b,i,none⟩=false :=
 ⟨Zab h,Zaa h 0 _ rfl,Zaa h 1 _ rfl,fun i=>Zae h i⟩
theorem TokAt.held {w w':World} {B b:Nat} {t:Nat × Nat × Nat} (h:TokAt w b t) (hk:Held B w w'):TokAt w' b t:=(hk.other b _ _ _ h (Or.inl rfl)).trans h
theorem FaultAt.held {w w':World} {B b e p:Nat} (h:FaultAt w b e p) (hk:Held B w w'):FaultAt w' b e p:=(hk.other b _ _ _ h (Or.inr rfl)).trans h
theorem TokAt.kept {S:Nat→Prop} {w w':World} {b:Nat} {t:Nat × Nat × Nat} (h:TokAt w b t) (hk:Kept S w w') (hs:¬ S b):TokAt w' b t:=(hk.block b (Zab h) hs).trans h
theorem FaultAt.kept {S:Nat→Prop} {w w':World} {b e p:Nat} (h:FaultAt w b e p) (hk:Kept S w w') (hs:¬ S b):FaultAt w' b e p:=(hk.block b (Zab h) hs).trans h
theorem Kept.untouched {w w':World} (h:Below w.heap.size w w'):Kept Zcu w w':=⟨h.os,h.tape,h.output,h.size,fun k hk _=>h.block k hk⟩
theorem IsRx.fresh {w w':World} {B rb:Nat} {st:RS} (h:IsRx w B rb st) (hk:Kept Zcu w w'):IsRx w' B rb st:=by
 obtain ⟨V,Sa,Sb,vs,xs,h⟩:=h
 exact ⟨V,Sa,Sb,vs,xs,h.fresh hk⟩
theorem IsRx.aside {w w':World} {B rb k:Nat} {st:RS} {cs:Array Value} {T:TypeId} {fr:Nat × Nat} (h:IsRx w B rb st) (hb:w.heap[k]?=some (.cells cs T fr)) (hT:T=224∨T=91) (hk:Kept (only k) w w'):IsRx w' B rb st:=by
 obtain ⟨V,Sa,Sb,vs,xs,h⟩:=h
 have hr:rb≠k:=fun e=>by
  have e1:=h.blk
  rw [e,hb] at e1
  simp only [Qo,Obj.cells.injEq] at e1
  rcases hT with h1 | h1 <;> exact absurd (e1.2.1.symm.trans h1) (by decide)
 have hX:∀ {Br:Nat} {e:TypeId} {s n:Nat} {v:Value} {ys:List Value},w.ownsRow Br e s v n ys→e≠224→e≠91→w'.ownsRow Br e s v n ys:=fun ho h1 h2 =>
  hk.owns ho (fun i hi e=>by
   have e:i=k:=e
   subst e
   rcases hT with rfl | rfl
   ·exact Zaf ho h1 hb hi
   ·exact Zaf ho h2 hb hi)
 have hS:∀ {v:Value} {l:List Sym},SymRow w B Sa v l→SymRow w' B Sa v l:=fun hs=>⟨hX hs.1 (by decide) (by decide),hs.2⟩
 have hBd:∀ {v:Value} {ls:List (List Sym)} {us:List Value},BodyRow w B Sa v ls us→BodyRow w' B Sa v ls us:=fun hs=>⟨hX hs.1 (by decide) (by decide),fun i l hl=>by
  obtain ⟨x,h1,h2⟩:=hs.2 i l hl
  exact ⟨x,h1,hS h2⟩⟩
 have r:=h.rest
 exact ⟨V,Sa,Sb,vs,xs,(hk.block rb (Zab h.blk) hr).trans h.blk,⟨hX r.atom (by decide) (by decide),hX r.opn (by decide) (by decide),hX r.vars (by decide) (by decide),hS r.head,hBd r.body,
  ⟨hX r.cls.1 (by decide) (by decide),r.cls.2.1,r.cls.2.2.1,fun i c hc=>by
   obtain ⟨hv,bv,vv,us,e1,e2,e3,e4⟩:=r.cls.2.2.2 i c hc
   exact ⟨hv,bv,vv,us,e1,hS e2,hBd e3,e4.1,hX e4.2.1 (by decide) (by decide),e4.2.2⟩⟩,r.ta,r.tb,r.tv,Qq r.la hk.size,Qq r.lb hk.size⟩,h.le⟩
theorem IsRx.le {w:World} {B rb:Nat} {st:RS} (h:IsRx w B rb st):B≤w.heap.size:=by
 obtain ⟨V,Sa,Sb,vs,xs,h⟩:=h
 have:=h.le
 have:=Zab h.blk
 omega
theorem IsRx.look {w:World} {B rb:Nat} {st:RS} (h:IsRx w B rb st):∃ V,ROpen w B rb st V:=by
 obtain ⟨V,Sa,Sb,vs,xs,h⟩:=h
 exact ⟨V,h.opens⟩
theorem Zhu {w wr:World} {B rb b e0 p0:Nat} {st:RS} (hr:IsRx wr B rb st) (hf:FaultAt wr b e0 p0) (hB:B≤b) (hbw:Below B w wr) (x y:Value) :
  IsRx ((wr.setCell ⟨b,0,none⟩ x).setCell ⟨b,1,none⟩ y) B rb st∧Below B w ((wr.setCell ⟨b,0,none⟩ x).setCell ⟨b,1,none⟩ y) :=
 ⟨hr.aside hf (Or.inr rfl) (((Qx (only b) wr).put 0 x).put 1 y),(hbw.setCell (p:=⟨b,0,none⟩) hB x).setCell (p:=⟨b,1,none⟩) hB y⟩
theorem Zmc (w:World) (B rb:Nat) (st:RS) (s:ByteArray) (h:IsRx w B rb st) (hi:RI 0 st) (hs:s.size≤4000) :
  Calls Tryz.prog 98 #[.pointer (some ⟨rb,0,none⟩),.string s] w fun e w' =>
   e = .returned (.agg #[.int .i64 (runT s.size (toks s.data.toList 0) st).1,.int .i64 (runT s.size (toks s.data.toList 0) st).2.1])∧IsRx w' B rb (runT s.size (toks s.data.toList 0) st).2.2∧Below B w w':=by
 obtain ⟨R,hR⟩:∃ R,R=runT s.size (toks s.data.toList 0) st:=⟨_,rfl⟩
 rw [← hR]
 have hBw:=h.le
 have HR:=Zac hR
 have H:=Zac h
 have Hi:=Zac hi
 clear h hi hR
 go_enter Tryz.func98,Tryz.ntmps98
 go_wp2_with fail
 refine (Zuk s 0 _ (by omega) (Qm _)).mono ?_
 rintro e w1 ⟨rfl,hb1⟩
 have hF0:FaultAt (w.alloc (.cells #[.int .i64 0,.int .i64 0] 91)) w.heap.size 0 0:=heap_alloc_new w _
 have hk1:Kept Zcu w w1:=((Qx _ w).alloc _).trans (Kept.untouched hb1)
 have HF1:=Zac (hF0.kept (Kept.untouched hb1) (fun h=>h))
 have H1:=Zac (H.out.fresh hk1)
 have HB1:=Zac (hk1.below hBw (fun _ h=>h.elim))
 have hlt:w.heap.size<w1.heap.size:=Zab HF1.out
 clear hF0 hk1 hb1
 go_wp2
 go_loopg [] (s.size+1) (fun gk wr=>∃ (n:Nat) (st':RS),n≤s.size∧s.size - n<gk∧TokAt wr w1.heap.size (Zlo s n)∧FaultAt wr w.heap.size 0 0∧IsRx wr B rb st'∧RI n st'∧runT s.size (toks (s.data.toList.drop n) n) st'=R∧Below B w wr)
 case atStart =>
  refine ⟨0,st,Qm _,by omega,heap_alloc_new w1 _,HF1.out.kept ((Qx Zcu w1).alloc _) (fun h=>h),H1.out.fresh ((Qx _ w1).alloc _),Hi.out,?_,HB1.out.alloc (Qq hBw HB1.out.size) _⟩
  rw [HR.out]; rfl
 case round =>
  obtain ⟨n,st',hn,hgk,htok,hflt,hr,hri,hrun,hbw⟩:=hrel
  obtain ⟨hrb,c0,c1,c2,_,cf⟩:=hr.cells
  obtain ⟨hT4,f0,f1,ff⟩:=hflt.cells
  have hn5:=hri.next
  have h45:¬ w.heap.size=w1.heap.size:=by omega
  have hr4:¬ rb=w.heap.size:=fun e=>by
   obtain ⟨V,Sa,Sb,vs,xs,h⟩:=hr
   have e1:=h.blk
   rw [e,hflt] at e1
   simp at e1
  rcases Zzt s n hn with ⟨hnx,htk⟩ | ⟨t,q,hnx,htk,hkd,hnp,hpq,hqs,htx,htl⟩
  ·rw [hnx] at htok
   rw [htk,runT] at hrun
   obtain ⟨hT5,t0,t1,t2,tf⟩:=htok.cells
   simp only at t0 t1 t2
   have Hr:=Zac hr
   have Hflt:=Zac hflt
   have Hbw:=Zac hbw
   clear htok hflt hr hri htk hnx hbw
   by_cases h0:st'.next=0
   ·rw [if_neg (by omega)] at hrun
    rw [h0] at c1
    have Hrun:=Zac hrun
    clear hrun h0
    go_wp2
    refine bodyPost_ret (v := .agg #[.int .i64 0,.int .i64 0]) (by simp [results,Tryz.results98,go_sem,f0,f1,ff,hT4]) rfl ?_
    rw [← Hrun.out]
    exact ⟨rfl,Zhu Hr.out Hflt.out (by omega) Hbw.out _ _⟩
   ·by_cases h5:st'.next=5
    ·rw [if_neg (by omega)] at hrun
     rw [h5] at c1
     have Hrun:=Zac hrun
     clear hrun h0 h5
     go_wp2
     refine bodyPost_ret (v := .agg #[.int .i64 0,.int .i64 0]) (by simp [results,Tryz.results98,go_sem,f0,f1,ff,hT4]) rfl ?_
     rw [← Hrun.out]
     exact ⟨rfl,Zhu Hr.out Hflt.out (by omega) Hbw.out _ _⟩
    ·rw [if_pos ⟨h0,h5⟩] at hrun
     have b0:((st'.next:Int) != 0)=true:=by rw [bne_iff_ne]; omega
     have b5:((st'.next:Int) != 5)=true:=by rw [bne_iff_ne]; omega
     have Hrun:=Zac hrun
     clear hrun h0 h5
     go_wp2
     refine bodyPost_ret (v := .agg #[.int .i64 2,.int .i64 s.size]) (by simp [results,Tryz.results98,go_sem,f0,f1,ff,hT4]) rfl ?_
     rw [← Hrun.out]
     exact ⟨rfl,Zhu Hr.out Hflt.out (by omega) Hbw.out _ _⟩
  ·rw [hnx] at htok
   rw [htk,runT,htl] at hrun
   obtain ⟨hT5,t0,t1,t2,tf⟩:=htok.cells
   simp only at t0 t1 t2
   obtain ⟨kd,hkm⟩:∃ kd,kd=kmap t.kind:=⟨_,rfl⟩
   rw [← hkm] at htok t0 hrun
   have hkd1:1≤kd:=by
    rw [hkm]
    rcases hkd with h | h | h | h | h | h | h | h <;> rw [h] <;> decide
   have bk:((kd:Int) != 0)=true:=by rw [bne_iff_ne]; omega
   obtain ⟨V,hlook⟩:=hr.look
   have HC:=Zac (Zzj wr B rb st' V kd t.pos q hlook (hri.bd (by omega)) hn5 (by omega) (by omega))
   have Hr:=Zac hr
   have Hflt:=Zac hflt
   have Htok:=Zac htok
   have Hbw:=Zac hbw
   have Hri:=Zac hri
   have Htx:=Zac htx
   clear htok hflt hr hri htk hnx hbw hlook htx hkd hkm htl
   by_cases hc:Zbs st' kd (q - t.pos)=0
   ·rw [if_neg (by simp [hc])] at hrun
    have hstand:=Zik hc
    have Hrun:=Zac hrun
    have HT:=Zac (Hri.out.takes (by omega) hstand)
    have Hri':=Zac ((Hri.out.take t.text hstand).at (m:=q) (by omega))
    rw [hc] at HC
    clear hrun hc hstand
    go_wp2_with fail
    refine HC.out.mono ?_
    rintro e w2 ⟨rfl,hk2⟩
    have Hr2:=Zac (Hr.out.fresh hk2)
    have Hflt2:=Zac (Hflt.out.kept hk2 (fun h=>h))
    have Htok2:=Zac (Htok.out.kept hk2 (fun h=>h))
    have Hbw2:=Zac (Hbw.out.trans (hk2.below (by omega) (fun _ h=>h.elim)))
    obtain ⟨x5,x0,x1,x2,xf⟩:=Htok2.out.cells
    simp only at x0 x1 x2
    have hsz2:=hk2.size
    clear hk2 t0 t1 t2 tf c0 c1 c2 cf f0 f1 ff
    go_wp2_with fail
    go_region_with (first
     | (go_at_call 133; refine (Zwm s kd t.pos q _ ?_ ?_ ?_).mono ?_; (· omega); (· omega); (· omega); rintro e w3 ⟨rfl,hk3⟩; rw [Htx.out]; have Hr3:=Zac (Hr2.out.fresh (((Qx Zcu w2).drewN 1).trans hk3)); have Hflt3:=Zac (Hflt2.out.kept (((Qx Zcu w2).drewN 1).trans hk3) (fun h=>h)); have Htok3:=Zac (Htok2.out.kept (((Qx Zcu w2).drewN 1).trans hk3) (fun h=>h)); obtain ⟨y5,y0,y1,y2,yf⟩:=Htok3.out.cells; simp only at y0 y1 y2; have Hk3:=Zac hk3; clear hk3)
     | (go_at_call 132; refine (Ydq _ B rb st' kd t.text Hr3.out HT.out).mono ?_; rintro e w4 ⟨rfl,hr4',hh4⟩; have Hr4:=Zac hr4'; have Hh4:=Zac hh4; clear hr4' hh4))
    all_goals
     have hbw4:Below B w w4:=(Hbw2.out.trans (Kept.below (((Qx Zcu w2).drewN 1).trans Hk3.out) (by omega) (fun _ h=>h.elim))).trans Hh4.out.below
     have Hflt4:=Zac (Hflt3.out.held Hh4.out)
     have Htok4:=Zac (Htok3.out.held Hh4.out)
     obtain ⟨z5,z0,z1,z2,zf⟩:=Htok4.out.cells
     simp only at z0 z1 z2
     have Hbw4:=Zac hbw4
     clear hbw4 x0 x1 x2 xf y0 y1 y2 yf
     go_wp2_with fail
     refine (Zuk s q _ (by omega) hqs).mono ?_
     rintro e w5 ⟨rfl,hb5⟩
     have hk5:=Kept.untouched hb5
     have Htok5:=Zac (Htok4.out.kept hk5 (fun h=>h))
     have Hflt5:=Zac (Hflt4.out.kept hk5 (fun h=>h))
     have Hr5:=Zac (Hr4.out.fresh hk5)
     have Hbw5:=Zac (Hbw4.out.trans (hk5.below Hr4.out.le (fun _ h=>h.elim)))
     obtain ⟨v5,v0,v1,v2,vf⟩:=Htok5.out.cells
     simp only at v0 v1 v2
     clear hk5 hb5 z0 z1 z2 zf
     go_wp2
     go_roundg (s.size - q+1)
     case measure=>omega
     case rel =>
      have hB5:B≤w1.heap.size:=by omega
      refine ⟨q,Zbi st' kd t.text,hqs,by omega,?_,?_,?_,Hri'.out,Hrun.out,?_⟩
      ·unfold TokAt
       rw [Zai (Zai (Zai Htok5.out 0 _) 1 _) 2 _]
       rfl
      ·exact Hflt5.out.kept ((((Qx (only w1.heap.size) w5).put 0 _).put 1 _).put 2 _) (fun e=>h45 e)
      ·exact Hr5.out.aside Htok5.out (Or.inl rfl) ((((Qx (only w1.heap.size) w5).put 0 _).put 1 _).put 2 _)
      ·exact ((Hbw5.out.setCell (p:=⟨w1.heap.size,0,none⟩) hB5 _).setCell (p:=⟨w1.heap.size,1,none⟩) hB5 _).setCell (p:=⟨w1.heap.size,2,none⟩) hB5 _
   ·rw [if_pos hc] at hrun
    have bc:((Zbs st' kd (q - t.pos):Int) != 0)=true:=by rw [bne_iff_ne]; omega
    have Hrun:=Zac hrun
    clear hrun hc
    go_wp2_with fail
    refine HC.out.mono ?_
    rintro e w2 ⟨rfl,hk2⟩
    have Hr2:=Zac (Hr.out.fresh hk2)
    have Hflt2:=Zac (Hflt.out.kept hk2 (fun h=>h))
    have Htok2:=Zac (Htok.out.kept hk2 (fun h=>h))
    have Hbw2:=Zac (Hbw.out.trans (hk2.below (by omega) (fun _ h=>h.elim)))
    obtain ⟨x5,x0,x1,x2,xf⟩:=Htok2.out.cells
    simp only at x0 x1 x2
    obtain ⟨g4,g0,g1,gf⟩:=Hflt2.out.cells
    clear hk2 t0 t1 t2 tf c0 c1 c2 cf f0 f1 ff
    go_wp2
    refine bodyPost_ret (v := .agg #[.int .i64 (Zbs st' kd (q - t.pos)),.int .i64 t.pos]) (by simp [results,Tryz.results98,go_sem,g0,g1,gf,g4]) rfl ?_
    rw [← Hrun.out]
    exact ⟨rfl,Zhu Hr2.out Hflt2.out (by omega) Hbw2.out _ _⟩
def Zbt:List Nat→List UInt8 × List Nat
 | []=>([],[])
 | n::r=>if 1<n then ([44],(n - 1)::r) else (41::(Zbt r).1,(Zbt r).2)
def Zby:List Sym→List Nat→List UInt8
 | [],_=>[]
 | s::r,miss=>if 0<s.args then symC s++40::Zby r (s.args::miss) else symC s++((Zbt miss).1++Zby r (Zbt miss).2)
theorem Zsr {a b c:List UInt8} (h:a++b=c):a.length+b.length=c.length:=by rw [← h]; simp
theorem Zqo (w:World) (B:Nat) (v:Value) (l:List Sym) (ho:w.ownsRow B 133 3 v l.length (Zah l)) (hl:l.length≤4000) (hn:∀ s ∈ l,s.num<2600∧s.args≤4096) (hL:(Zby l []).length≤100000000) :
  Calls Tryz.prog 100 #[v] w fun e w'=>e = .returned (.string ⟨(Zby l []).toArray⟩)∧Below w.heap.size w w':=by
 obtain ⟨F,hF⟩:∃ F,F=Zby l []:=⟨_,rfl⟩
 rw [← hF] at hL ⊢
 obtain ⟨va,vcap,rfl⟩:=Zad ho
 have Ho:=Zac ho
 have HF:=Zac hF
 have Hn:=Zac hn
 clear ho hF hn
 go_enter Tryz.func100,Tryz.ntmps100
 go_wp2
 go_loopg [3,4,10] (l.length+1) (fun gk tx mv i wr=>∃ (k:Nat) (acc:List UInt8) (miss:List Nat),i = .int .i64 k∧k≤l.length∧l.length - k<gk∧tx = .string ⟨acc.toArray⟩∧acc++Zby (l.drop k) miss=F ∧
   wr.ownsRow w.heap.size 3 1 mv miss.length (ints miss.reverse)∧Below w.heap.size w wr∧miss.length≤k∧∀ m ∈ miss,1≤m∧m≤4096)
 case atStart=>exact ⟨0,[],[],rfl,Qm _,by omega,rfl,by rw [HF.out]; rfl,World.ownsRow_nil _ _ _ _,Below.refl _ _,Qm _,by simp⟩
 case round =>
  obtain ⟨k,acc,miss,rfl,hk,hgk,rfl,hacc,hmo,hbw,hmk,hmm⟩:=hrel
  obtain ⟨ma,mcap,rfl⟩:=Zad hmo
  have hsz:=hbw.size
  by_cases hlt:k<l.length
  ·obtain ⟨s,hs⟩:∃ s,l[k]?=some s:=⟨_,Qb hlt⟩
   have hd:l.drop k=s::l.drop (k+1):=by
    rw [List.drop_eq_getElem_cons hlt]
    rw [Qb hlt] at hs
    simp at hs
    rw [hs]
   rw [hd,Zby] at hacc
   obtain ⟨hsn,hsa⟩:=Hn.out s (Qh hs)
   have ho:=(Kept.untouched hbw).owns Ho.out (fun _ _ h=>h)
   obtain ⟨g,cap',cur,he,hBg,hg,hcp⟩:=Zaw ho (by omega)
   simp only [Value.slice.injEq] at he
   obtain ⟨rfl,_,rfl⟩:=he
   have hgl:g<w.heap.size:=(Ho.out.lt g rfl).2
   have e0:wr.cell? ⟨g,k * 3,none⟩=some (.string ⟨s.name.toArray⟩):=Zag ho _ _ (by have:=Zax l k s hs 0 (by omega); rw [Nat.add_zero] at this; rw [this]; rfl)
   have e1:wr.cell? ⟨g,k * 3+1,none⟩=some (.int .i64 s.num):=Zag ho _ _ (by rw [Zax l k s hs 1 (by omega)]; rfl)
   have e2:wr.cell? ⟨g,k * 3+2,none⟩=some (.int .i64 s.args):=Zag ho _ _ (by rw [Zax l k s hs 2 (by omega)]; rfl)
   have Hacc:=Zac hacc
   have Hmo:=Zac hmo
   have Hbw:=Zac hbw
   have Hmm:=Zac hmm
   have Hd:=Zac hd
   clear hacc hmo hbw hmm hd hs ho hg
   go_wp2_with fail
   refine (Zmw s _ hsn).mono ?_
   rintro e w1 ⟨rfl,hb1⟩
   have hk1:Kept Zcu wr w1:=((Qx _ wr).alloc _).trans (Kept.untouched hb1)
   have hbox:w1.heap[wr.heap.size]?=some (.cells #[.string ⟨s.name.toArray⟩,.int .i64 s.num,.int .i64 s.args] 133 (0,0)):=(hb1.block _ (by simp)).trans (heap_alloc_new wr _)
   have b2:w1.cell? ⟨wr.heap.size,2,none⟩=some (.int .i64 s.args):=Zaa hbox 2 _ rfl
   have bl:=Zab hbox
   have Hmo1:=Zac (hk1.owns Hmo.out (fun _ _ h=>h))
   have Hbw1:=Zac (Hbw.out.trans (hk1.below hsz (fun _ h=>h.elim)))
   have hlen:=Zsr Hacc.out
   clear hk1 hbox hb1 e0 e1 e2
   by_cases ha:0<s.args
   ·have Hacc2:Hid (acc++symC s++[40]++Zby (l.drop (k+1)) (s.args::miss)=F):=by show _=_; rw [← Hacc.out,if_pos ha]; simp
    rw [if_pos ha] at hlen
    simp only [Qg,Qf] at hlen
    go_wp2_with (at_builtin; refine Zam _ rfl (.tmp 23) (.tmp 26) 25 rfl w.heap.size 3 Tryz.infoInt Tryz.underlying25 rfl (by decide) _ miss.length (ints miss.reverse) rfl Hmo1.out _ rfl (by simp) rfl (Zlk _) ?_ ?_ ?_)
    ·omega
    ·omega
    intro v' w2 hap
    have Hap:=Zac hap
    clear hap
    go_wp2
    go_roundg (l.length - k)
    case measure=>omega
    case rel =>
     have hrow:=Hap.out.owns
     refine ⟨k+1,acc++symC s++[40],s.args::miss,by go_num,by omega,by omega,?_,Hacc2.out,?_,?_,by simp; omega,?_⟩
     ·show Value.string (_++_++(⟨[40].toArray⟩:ByteArray))=_
      rw [Zbk,Zbk]
     ·simpa [ints] using hrow
     ·refine Hbw1.out.trans (Hap.out.kept.below (by omega) (fun k hk=>(Hmo1.out.lt k hk).1))
     ·intro m hm
      simp only [Qp] at hm
      rcases hm with rfl | hm
      ·exact ⟨ha,hsa⟩
      ·exact Hmm.out m hm
   ·have Hacc2:Hid (acc++symC s++((Zbt miss).1++Zby (l.drop (k+1)) (Zbt miss).2)=F):=by show _=_; rw [← Hacc.out,if_neg ha]; simp
    rw [if_neg ha] at hlen
    simp only [Qg] at hlen
    go_wp2
    go_loopg [3,4] (miss.length+1) (fun gj ty mw wi=>∃ (acc':List UInt8) (miss':List Nat),miss'.length<gj∧ty = .string ⟨acc'.toArray⟩∧acc'++((Zbt miss').1++Zby (l.drop (k+1)) (Zbt miss').2)=F ∧
     wi.ownsRow w.heap.size 3 1 mw miss'.length (ints miss'.reverse)∧Below w.heap.size w wi∧miss'.length≤k∧∀ m ∈ miss',1≤m∧m≤4096)
    case atStart =>
     exact ⟨acc++symC s,miss,by omega,congrArg Value.string (Zbk _ _),Hacc2.out,Hmo1.out,Hbw1.out,hmk,Hmm.out⟩
    case round =>
     obtain ⟨acc',miss',hgj,rfl,hacc',hmo',hbw',hmk',hmm'⟩:=hrel
     obtain ⟨ma',mcap',rfl⟩:=Zad hmo'
     have hszi:=hbw'.size
     have hlen':=Zsr hacc'
     simp only [Qg] at hlen'
     cases hm:miss' with
     | nil =>
      have Hacc':=Zac hacc'
      have Hmo':=Zac hmo'
      have Hbw':=Zac hbw'
      have Hm:=Zac hm
      have hml:miss'.length=0:=by rw [hm]; rfl
      clear hacc' hmo' hbw' hm
      go_wp2
      go_roundg (l.length - k)
      case measure=>omega
      case rel =>
       refine ⟨k+1,acc',[],by go_num,by omega,by omega,rfl,?_,?_,Hbw'.out,by simp,by simp⟩
       ·have h:=Hacc'.out
        rw [Hm.out] at h
        simpa [Zbt] using h
       ·have h:=Hmo'.out
        rw [Hm.out] at h
        exact h
     | cons n r =>
      subst hm
      obtain ⟨hn1,hn2⟩:=hmm' n (by simp)
      obtain ⟨g',gcap',gcur',he',hBg',hg',hcap'⟩:=Zaw hmo' (by simp)
      simp only [Value.slice.injEq] at he'
      obtain ⟨rfl,_,rfl⟩:=he'
      simp only [Qf] at hcap' hmo' hgj hmk'
      have cg:wr.cell? ⟨g',r.length,none⟩=some (.int .i64 n):=Zag hmo' r.length _ (by simp [ints])
      have fg:=Zae hg' r.length
      have hgl':=Zab hg'
      have Hset:=Zac (Zlz hmo' r.length (.int .i64 ((n:Int) - 1)))
      have Hacc':=Zac hacc'
      have Hbw':=Zac hbw'
      have Hmm':=Zac hmm'
      have Hbs:=Zac (hbw'.setCell (p:=⟨g',r.length,none⟩) hBg' (.int .i64 ((n:Int) - 1)))
      clear hacc' hbw' hmm' hmo' hg'
      by_cases h1:1<n
      ·have Hcl:Hid (acc'++[44]++Zby (l.drop (k+1)) ((n - 1)::r)=F):=by show _=_; rw [← Hacc'.out]; simp [Zbt,h1]
       have hl1:(Zbt (n::r)).1.length=1:=by simp [Zbt,h1]
       rw [hl1] at hlen'
       have hd0:(0:Int)<(n:Int) - 1:=by omega
       go_wp2
       go_roundg (l.length - k)
       case measure=>omega
       case rel =>
        have hcast:(n:Int) - 1=((n - 1:Nat):Int):=by omega
        refine ⟨k+1,acc'++[44],(n - 1)::r,by go_num,by omega,by omega,?_,Hcl.out,?_,Hbs.out,by simp; omega,?_⟩
        ·show Value.string (_++(⟨[44].toArray⟩:ByteArray))=_
         rw [Zbk]
        ·have h:=Hset.out
         rw [hcast] at h ⊢
         simpa [ints] using h
        ·intro m hm
         simp only [Qp] at hm
         rcases hm with rfl | hm
         ·omega
         ·exact Hmm'.out m (by simp [hm])
      ·have Hcl:Hid (acc'++[41]++((Zbt r).1++Zby (l.drop (k+1)) (Zbt r).2)=F):=by show _=_; rw [← Hacc'.out]; simp [Zbt,h1]
       have hl1:(Zbt (n::r)).1.length=(Zbt r).1.length+1:=by simp [Zbt,h1]
       rw [hl1] at hlen'
       have hd0:¬ (0:Int)<(n:Int) - 1:=by omega
       have Hpop:=Zac (Zuj (n:=r.length) Hset.out)
       go_wp2
       go_roundg (r.length+1)
       case measure=>omega
       case rel =>
        refine ⟨acc'++[41],r,by omega,?_,Hcl.out,?_,Hbs.out,by omega,fun m hm=>Hmm'.out m (by simp [hm])⟩
        ·show Value.string (_++(⟨[41].toArray⟩:ByteArray))=_
         rw [Zbk]
        ·have h:=Hpop.out
         have e:((ints (n::r).reverse).set r.length (.int .i64 ((n:Int) - 1))).take r.length=ints r.reverse:=by
          simp [ints,List.take_set]
         rw [e] at h
         exact h
  ·have hke:k=l.length:=by omega
   have Hacc:Hid (acc=F):=by
    show _=_
    rw [hke,List.drop_eq_nil_of_le (Qe _)] at hacc
    simpa [Zby] using hacc
   have Hbw:=Zac hbw
   clear hacc hbw hmo
   go_wp2
   go_ret
   rw [← Hacc.out]
   exact ⟨rfl,Hbw.out⟩
def st0 (q:Bool):RS:=⟨q,if q then 1 else 0,q,[],[],[],[],[],[]⟩
theorem Zzv (q:Bool):RI 0 (st0 q):=by
 refine ⟨by simp [st0],by simp [st0],by simp [st0],by simp [st0],by simp [st0],by simp [st0],?_,by simp [st0],?_⟩
 ·cases q <;> simp [st0]
 ·cases q <;> simp [st0]
def nilV:RV:=⟨.slice none 0 0,.slice none 0 0,.slice none 0 0,.slice none 0 0,.slice none 0 0,.slice none 0 0⟩
theorem Ygc (w:World) (q:Bool):IsRx (w.alloc (.cells (Zcv (st0 q) nilV) 169)) w.heap.size w.heap.size (st0 q):=by
 refine ⟨nilV,0,0,[],[],heap_alloc_new w _,⟨World.ownsRow_nil _ _ _ _,World.ownsRow_nil _ _ _ _,World.ownsRow_nil _ _ _ _,⟨World.ownsRow_nil _ _ _ _,fun k e=>by simp [nilV,Value.ownBlock] at e⟩,⟨World.ownsRow_nil _ _ _ _,fun i l hl=>by simp [st0] at hl⟩,
  ⟨World.ownsRow_nil _ _ _ _,rfl,fun x hx=>by simp at hx,fun i c hc=>by simp [st0] at hc⟩,fun k e=>by simp [nilV,Value.ownBlock] at e,fun k e=>by simp [nilV,Value.ownBlock] at e,fun k e=>by simp [nilV,Value.ownBlock] at e,Qm _,Qm _⟩,Qe _⟩
def runs (s:ByteArray) (q:Bool):Nat × Nat × RS:=runT s.size (toks s.data.toList 0) (st0 q)
theorem Ydt {S:Nat→Prop} {w w':World} {B Sa Sb:Nat} {v:Value} {cs:List CC} {xs:List (List Value)} (h:CCRow w B Sa Sb v cs xs) (hk:Kept S w w') (hs:∀ k cur T fr,S k→w.heap[k]?=some (.cells cur T fr)→T≠133∧T≠105∧T≠107∧T≠9):CCRow w' B Sa Sb v cs xs:=by
 have hX:∀ {Br:Nat} {e:TypeId} {s n:Nat} {v:Value} {ys:List Value},w.ownsRow Br e s v n ys→(e=133∨e=105∨e=107∨e=9)→w'.ownsRow Br e s v n ys:=fun ho he =>
  hk.owns ho (fun i hi hS=>by
   obtain ⟨cur,hc⟩:=Zbj ho i hi
   obtain ⟨h1,h2,h3,h4⟩:=hs i _ _ _ hS hc
   rcases he with he | he | he | he
   ·exact h1 he
   ·exact h2 he
   ·exact h3 he
   ·exact h4 he)
 have hS:∀ {v:Value} {l:List Sym},SymRow w B Sa v l→SymRow w' B Sa v l:=fun hs=>⟨hX hs.1 (Or.inl rfl),hs.2⟩
 refine ⟨hX h.1 (Or.inr (Or.inr (Or.inl rfl))),h.2.1,h.2.2.1,fun i c hc => ?_⟩
 obtain ⟨hv,bv,vv,us,e1,e2,e3,e4⟩:=h.2.2.2 i c hc
 exact ⟨hv,bv,vv,us,e1,hS e2,⟨hX e3.1 (Or.inr (Or.inl rfl)),fun i l hl=>by
  obtain ⟨x,h1,h2⟩:=e3.2 i l hl
  exact ⟨x,h1,hS h2⟩⟩,e4.1,hX e4.2.1 (Or.inr (Or.inr (Or.inr rfl))),e4.2.2⟩
theorem Zzw {S:Nat→Prop} {w w':World} {B Sa:Nat} {v:Value} {ls:List (List Sym)} {us:List Value} (h:BodyRow w B Sa v ls us) (hk:Kept S w w') (hs:∀ k,S k→k<B):BodyRow w' B Sa v ls us:=by
 have hX:∀ {e:TypeId} {s n:Nat} {v:Value} {ys:List Value},w.ownsRow B e s v n ys→w'.ownsRow B e s v n ys:=fun ho =>
  hk.owns ho (fun i hi hS=>by
   have h1:=(ho.lt i hi).1
   have h2:=hs i hS
   omega)
 exact ⟨hX h.1,fun i l hl=>by
  obtain ⟨x,h1,h2⟩:=h.2 i l hl
  exact ⟨x,h1,hX h2.1,h2.2⟩⟩
theorem Zox (s:ByteArray) (w:World) (hm:s.size≤maxLen) (hl:800<s.size) :
  Calls Tryz.prog 72 #[.string s] w fun e w'=>e = .returned (.tuple #[.slice none 0 0,.agg #[.int .i64 1,.int .i64 0]])∧Below w.heap.size w w':=by
 go_enter Tryz.func72,Tryz.ntmps72
 go_wp2
 refine bodyPost_ret (v := .tuple #[.slice none 0 0,.agg #[.int .i64 1,.int .i64 0]]) (by simp [results,Tryz.results72,go_sem]) rfl ⟨rfl,(Below.refl _ _).alloc (Qe _) _⟩
theorem Zss (s:ByteArray) (w:World) (hm:s.size≤maxLen) (hl:120<s.size) :
  Calls Tryz.prog 73 #[.string s] w fun e w'=>e = .returned (.tuple #[.agg #[.slice none 0 0,.slice none 0 0,.slice none 0 0],.agg #[.int .i64 1,.int .i64 0]])∧Below w.heap.size w w':=by
 go_enter Tryz.func73,Tryz.ntmps73
 go_wp2
 refine bodyPost_ret (v := .tuple #[.agg #[.slice none 0 0,.slice none 0 0,.slice none 0 0],.agg #[.int .i64 1,.int .i64 0]]) (by simp [results,Tryz.results73,go_sem]) rfl ⟨rfl,((Below.refl _ _).alloc (Qe _) _).alloc (by simp) _⟩
theorem Zwp (s:ByteArray) (w:World) (hl:s.size≤120) (hcl:(runs s true).1=0→∃ c cs,(runs s true).2.2.clauses=c::cs) :
  Calls Tryz.prog 73 #[.string s] w fun e w'=>Below w.heap.size w w'∧(((runs s true).1≠0∧e = .returned (.tuple #[.agg #[.slice none 0 0,.slice none 0 0,.slice none 0 0],.agg #[.int .i64 (runs s true).1,.int .i64 (runs s true).2.1]])) ∨
   ((runs s true).1=0∧∃ hv bv vv B Sa vs c cs,e = .returned (.tuple #[.agg #[hv,bv,vv],.agg #[.int .i64 0,.int .i64 0]])∧(runs s true).2.2.clauses=c::cs∧(∃ a n x,hv = .slice a n x)∧w'.ownsRow B 9 1 vv c.names.length (strs c.names)∧BodyRow w' B Sa bv c.body vs)):=by
 obtain ⟨R,hR⟩:∃ R,R=runs s true:=⟨_,rfl⟩
 have hA:=Zmc (((w.alloc (.cells #[.slice none 0 0,.slice none 0 0,.slice none 0 0] 107)).alloc (.cells #[.int .i64 0,.int .i64 0] 91)).alloc (.cells (Zcv (st0 true) nilV) 169)) _ _ (st0 true) s (Ygc ((w.alloc (.cells #[.slice none 0 0,.slice none 0 0,.slice none 0 0] 107)).alloc (.cells #[.int .i64 0,.int .i64 0] 91)) true) (Zzv true) (by omega)
 rw [show runT s.size (toks s.data.toList 0) (st0 true)=R from hR.symm] at hA
 rw [show ((w.alloc (.cells #[.slice none 0 0,.slice none 0 0,.slice none 0 0] 107)).alloc (.cells #[.int .i64 0,.int .i64 0] 91)).heap.size=w.heap.size+1+1 from by simp] at hA
 have HA:=Zac hA
 rw [← hR] at hcl ⊢
 have Hcl:=Zac hcl
 clear hR hA hcl
 go_enter Tryz.func73,Tryz.ntmps73
 go_wp2_with fail
 refine HA.out.mono ?_
 rintro e w2 ⟨rfl,hr,hb⟩
 have hF:FaultAt w2 (w.heap.size+1) 0 0:=(hb.block (w.heap.size+1) (by omega)).trans (Zav (by have:=heap_alloc_new (w.alloc (.cells #[.slice none 0 0,.slice none 0 0,.slice none 0 0] 107)) (.cells #[.int .i64 0,.int .i64 0] 91); simpa using this) _)
 have hC:w2.heap[w.heap.size]?=some (.cells #[.slice none 0 0,.slice none 0 0,.slice none 0 0] 107 (0,0)):=(hb.block w.heap.size (by omega)).trans (Zav (Zav (heap_alloc_new w _) _) _)
 have hB:Below w.heap.size w w2:=((Below.refl _ w).alloc (Qe _) _).trans (((Below.refl _ _).alloc (by simp) _).trans (((Below.refl _ _).alloc (by simp; omega) _).trans (hb.mono (by omega))))
 obtain ⟨V,Sa,Sb,vs,xs,h⟩:=hr
 have hrb:=Zab h.blk
 obtain ⟨c0,c1,c2,c3,c4,c5,c6,c7,c8⟩:=h.opens.facts
 have cf:=fun i=>Zae h.blk i
 obtain ⟨ca,ccap,hvc⟩:=Zad h.rest.cls.1
 rw [hvc] at c8
 obtain ⟨hT4,f0,f1,ff⟩:=hF.cells
 have q0:w2.cell? ⟨w.heap.size,0,none⟩=some (.slice none 0 0):=Zaa hC 0 _ rfl
 have q1:w2.cell? ⟨w.heap.size,1,none⟩=some (.slice none 0 0):=Zaa hC 1 _ rfl
 have q2:w2.cell? ⟨w.heap.size,2,none⟩=some (.slice none 0 0):=Zaa hC 2 _ rfl
 have qf:=fun i=>Zae hC i
 have hT2:=Zab hC
 have HF:=Zac hF
 have HQ:=Zac hC
 have HB:=Zac hB
 have HC:=Zac h.rest.cls
 have Hvc:=Zac hvc
 clear hF hB h hb c0 c1 c2 c3 c4 c5 c6 c7 hC hvc
 have Hdone:Hid (∀ x0 x1 x2 y0 y1 o,Below w.heap.size w ((((((w2.setCell ⟨w.heap.size,0,none⟩ x0).setCell ⟨w.heap.size,1,none⟩ x1).setCell ⟨w.heap.size,2,none⟩ x2).setCell ⟨w.heap.size+1,0,none⟩ y0).setCell ⟨w.heap.size+1,1,none⟩ y1).alloc o)):=fun x0 x1 x2 y0 y1 o =>
  (((((HB.out.setCell (p:=⟨w.heap.size,0,none⟩) (Qe _) _).setCell (p:=⟨w.heap.size,1,none⟩) (Qe _) _).setCell (p:=⟨w.heap.size,2,none⟩) (Qe _) _).setCell (p:=⟨w.heap.size+1,0,none⟩) (Nat.le_succ _) _).setCell (p:=⟨w.heap.size+1,1,none⟩) (Nat.le_succ _) _).alloc (by simp; omega) _
 by_cases hc:R.1=0
 ·have b0:((R.1:Int) != 0)=false:=by rw [hc]; rfl
  obtain ⟨c,cs,hcs⟩:=Hcl.out hc
  obtain ⟨hv,bv,vv,us,e1,e2,e3,e4,e5,e6⟩:=HC.out.2.2.2 0 c (by rw [hcs]; rfl)
  obtain ⟨va,vcap,rfl⟩:=Zad e5
  obtain ⟨ha,hcap,rfl⟩:=Zad e2.1
  obtain ⟨ba,bcap,rfl⟩:=Zad e3.1
  have hcl:0<R.2.2.clauses.length:=by rw [hcs]; simp
  have hcr:=HC.out.1
  rw [Hvc.out] at hcr
  obtain ⟨g,gcap,gcur,he,hBg,hg,hcp⟩:=Zaw hcr (by omega)
  simp only [Value.slice.injEq] at he
  obtain ⟨rfl,_,rfl⟩:=he
  obtain ⟨xr,hxs⟩:∃ xr,xs=[.slice ha c.head.length hcap,.slice ba c.body.length bcap,.slice va c.names.length vcap]::xr:=by
   cases xs with
   | nil=>simp at e1
   | cons x xr=>simp at e1; exact ⟨xr,by rw [e1]⟩
  have k0:w2.cell? ⟨g,0,none⟩=some (.slice ha c.head.length hcap):=Zag hcr 0 _ (by rw [hxs]; rfl)
  have k1:w2.cell? ⟨g,1,none⟩=some (.slice ba c.body.length bcap):=Zag hcr 1 _ (by rw [hxs]; rfl)
  have k2:w2.cell? ⟨g,2,none⟩=some (.slice va c.names.length vcap):=Zag hcr 2 _ (by rw [hxs]; rfl)
  have hgl:=Zab hg
  have bl0:(((R.2.2.clauses.length:Nat):Int) == 0)=false:=by rw [Qu]; omega
  have Hc:=Zac hc
  have Hcs:=Zac hcs
  have He3:=Zac e3
  have He5:=Zac e5
  clear hc hcs e1 e2 e3 e4 e5 e6 hcr hg hxs
  go_wp2
  refine bodyPost_ret (v := .tuple #[.agg #[.slice ha c.head.length hcap,.slice ba c.body.length bcap,.slice va c.names.length vcap],.agg #[.int .i64 0,.int .i64 0]]) (by simp [results,Tryz.results73,go_sem,f0,f1,ff,hT4,q0,q1,q2,qf,hT2]) rfl ?_
  refine ⟨Hdone.out _ _ _ _ _ _,Or.inr ⟨Hc.out,_,_,_,w.heap.size+1+1,Sa,us,c,cs,rfl,Hcs.out,⟨_,_,_,rfl⟩,?_,?_⟩⟩
  rotate_left
  refine Zzw He3.out (S:=fun k=>k=w.heap.size∨k=w.heap.size+1) ?_ (fun k hk=>by omega)
  rotate_left
  refine Kept.owns (S:=fun k=>k=w.heap.size∨k=w.heap.size+1) ?_ He5.out (fun k hk e=>by have:=(He5.out.lt k hk).1; omega)
  all_goals exact ((((((Qx _ w2).setCell (p:=⟨w.heap.size,0,none⟩) (fun _=>Or.inl rfl) _).setCell (p:=⟨w.heap.size,1,none⟩) (fun _=>Or.inl rfl) _).setCell (p:=⟨w.heap.size,2,none⟩) (fun _=>Or.inl rfl) _).setCell (p:=⟨w.heap.size+1,0,none⟩) (fun _=>Or.inr rfl) _).setCell (p:=⟨w.heap.size+1,1,none⟩) (fun _=>Or.inr rfl) _).alloc _
 ·have b0:((R.1:Int) != 0)=true:=by rw [bne_iff_ne]; omega
  have Hc:=Zac hc
  clear hc
  go_wp2_with fail
  go_region
  all_goals
   go_wp2
   refine bodyPost_ret (v := .tuple #[.agg #[.slice none 0 0,.slice none 0 0,.slice none 0 0],.agg #[.int .i64 R.1,.int .i64 R.2.1]]) (by simp [results,Tryz.results73,go_sem,f0,f1,ff,hT4,q0,q1,q2,qf,hT2]) rfl ?_
   refine ⟨?_,Or.inl ⟨Hc.out,rfl⟩⟩
   exact (Hdone.out _ _ _ _ _ _).drew
def Ydu (l:List Sym):Prop:=l.length≤4000∧∀ s ∈ l,s.num<2600∧s.args≤4096
def Zzx:List UInt8→List (List Sym)→List UInt8
 | _,[]=>[]
 | sep,l::ls=>sep++(Zby l []++Zzx [44,32] ls)
end Go.Proofs.YtlmjilpjmgjjcaaGreatDoor
namespace Go.Proofs.YtlmjilpjmgjjcaaGreatDoor
def Zew (l:List Sym) (n:Nat):Nat:=(l[n]?.map (fun s=>s.args)).getD 0
structure Sim (st:RS) (L:LookS):Prop where
 want:L.want=st.next
 query:L.query=st.query
 err:L.err=0
 n5:st.next≤5
 stk:L.stk=st.opn.map (Zew st.atom)
 opn:∀ n ∈ st.opn,n<st.atom.length
 down:st.opn.Pairwise (fun a b=>b<a)
 flat:st.next=0∨st.next=1∨st.next=5→st.atom=[]∧st.opn=[]
 size:st.next=2∨st.next=3∨st.next=4→L.size=st.atom.length
 open2:st.next=2→st.opn≠[]
 name:st.next=3→0<st.atom.length∧Zew st.atom (st.atom.length - 1)=0∧∀ n ∈ st.opn,n<st.atom.length - 1
 inb:st.next≠0→st.next≠5→L.body=st.inBody
 inb1:st.next=1→st.inBody=true
 goals:st.inBody=true→st.next≠0→st.next≠5→L.goals=st.body.length+(if st.next=1 then 0 else 1)
 heads:st.query=false→L.heads=st.clauses.length+(if st.next=0 then 0 else 1)
 hd:st.inBody=false→st.body=[]
 q0:st.query=true→st.next≠0
 h0:st.next=0→st.inBody=false
theorem Zwq (l:List Sym) (n:Nat) (s:Sym) (h:n<l.length):Zew (l.modify n (fun s => { s with args:=s.args+1 })++[s]) n=Zew l n+1:=by
 unfold Zew
 rw [Qc (by simpa using h),List.getElem?_modify,Qb h]
 simp
theorem Zst (l:List Sym) (n m:Nat) (s:Sym) (h:m<l.length) (hm:m≠n):Zew (l.modify n (fun s => { s with args:=s.args+1 })++[s]) m=Zew l m:=by
 unfold Zew
 rw [Qc (by simpa using h),List.getElem?_modify]
 have:¬ n=m:=fun e=>hm e.symm
 cases l[m]? <;> simp [this]
theorem Zwr (l:List Sym) (s:Sym):Zew (l++[s]) l.length=s.args:=by
 unfold Zew; simp
theorem Ydv:kmap 1=1:=rfl
theorem Yit:kmap 2=2:=rfl
theorem Zur:kmap 40=3:=rfl
theorem Ygd:kmap 41=4:=rfl
theorem Zus:kmap 44=5:=rfl
theorem Zut:kmap 46=6:=rfl
theorem Yiu:kmap 3=7:=rfl
theorem Zhk {k:Nat} (hk:Zhd k):(kmap k=1↔k=1)∧(kmap k=2↔k=2):=by
 rcases hk with rfl | rfl | rfl | rfl | rfl | rfl | rfl | rfl <;> simp [kmap]
theorem Zzy {st:RS} {L:LookS} (h:Sim st L) (k len:Nat) (t:List UInt8) (hk:Zhd k) (hn:st.next=0∨st.next=1) :
  Zbs st (kmap k) len=(Zca L k len).err∧((Zca L k len).err=0→Sim (Zbi st (kmap k) t) (Zca L k len)):=by
 obtain ⟨ha,ho⟩:=h.flat (by omega)
 have hs:=h.stk
 rw [ho] at hs
 simp only [List.map_nil] at hs
 have hw:=h.want
 have he:=h.err
 have hlst:Zca L k len=Zbh L k len:=by rw [Zca,if_pos (by omega)]
 rw [hlst]
 by_cases hk1:k=1
 ·subst hk1
  have hst:Zbg st 1=true:=by unfold Zbg; rw [if_pos (by omega)]; rfl
  have hbk:Zcf st=[]:=by simp [Zcf,ho,ha]
  rcases hn with hn | hn
  ·have hq:st.query=false:=by
    cases hq:st.query
    ·rfl
    ·exact absurd hn (h.q0 hq)
   have hh:=h.heads hq
   rw [if_pos hn] at hh
   have hfull:Zes st=decide (24≤st.clauses.length):=by simp [Zes,hn]
   have hl:Zbh L 1 len = { L with heads:=L.heads+1,body:=false,size:=1,err:=if 8<len∨30<0+1 then 3 else if 24<L.heads+1 then 3 else L.err,want:=3 }:=by
    simp [Zbh,Zkh,Zci,hw,hn]
   rw [hl,Ydv]
   constructor
   ·simp only [Zbs,hst,hfull,he]
    rw [hh]
    by_cases h8:8<len
    ·simp [h8]
    ·by_cases hc:24≤st.clauses.length
     ·rw [if_neg (by simp),if_pos (by simp [hc]),if_neg (by omega),if_pos (by omega)]
     ·rw [if_neg (by simp),if_neg (by simp [h8,hc] <;> omega),if_neg (by omega),if_neg (by omega)]
   ·intro he2
    have hst2:Zbi st 1 t = { st with atom:=[⟨t,0,0⟩],next:=3 }:=by simp [Zbi,addS,hbk]
    rw [hst2]
    exact {
     want:=rfl
     query:=h.query
     err:=he2
     n5:=by simp
     stk:=by simp [ho,hs]
     opn:=by simp [ho]
     down:=by simp [ho]
     flat:=by simp
     size:=by simp
     open2:=by simp
     name:=by simp [ho,Zew]
     inb:=by simp [h.h0 hn]
     inb1:=by simp
     goals:=by simp [h.h0 hn]
     heads:=by simp [hh]
     hd:=h.hd
     q0:=by simp
     h0:=by simp }
  ·have hib:=h.inb1 hn
   have hg:=h.goals hib (by omega) (by omega)
   rw [if_pos hn] at hg
   have hfull:Zes st=decide (6≤st.body.length):=by simp [Zes,hn]
   have hl:Zbh L 1 len = { L with goals:=L.goals+1,size:=1,err:=if 8<len∨30<0+1 then 3 else if 6<L.goals+1 then 3 else L.err,want:=3 }:=by
    simp [Zbh,Zkh,Zci,hw,hn]
   rw [hl,Ydv]
   constructor
   ·simp only [Zbs,hst,hfull,he]
    rw [hg]
    by_cases h8:8<len
    ·simp [h8]
    ·by_cases hc:6≤st.body.length
     ·rw [if_neg (by simp),if_pos (by simp [hc]),if_neg (by omega),if_pos (by omega)]
     ·rw [if_neg (by simp),if_neg (by simp [h8,hc] <;> omega),if_neg (by omega),if_neg (by omega)]
   ·intro he2
    have hst2:Zbi st 1 t = { st with atom:=[⟨t,0,0⟩],next:=3 }:=by simp [Zbi,addS,hbk]
    have hh:=h.heads
    rw [if_neg (by omega)] at hh
    rw [hst2]
    exact {
     want:=rfl
     query:=h.query
     err:=he2
     n5:=by simp
     stk:=by simp [ho,hs]
     opn:=by simp [ho]
     down:=by simp [ho]
     flat:=by simp
     size:=by simp
     open2:=by simp
     name:=by simp [ho,Zew]
     inb:=fun _ _=>h.inb (by omega) (by omega)
     inb1:=by simp
     goals:=by simp [hg]
     heads:=by simpa using hh
     hd:=h.hd
     q0:=by simp
     h0:=by simp }
 ·have hkm:¬ kmap k=1:=fun e=>hk1 ((Zhk hk).1.1 e)
  have hst:Zbg st (kmap k)=false:=by unfold Zbg; rw [if_pos (by omega)]; simpa using hkm
  have hl:Zbh L k len = { L with err:=2 }:=by
   unfold Zbh
   rw [if_pos ⟨hk1,Or.inr (by omega)⟩]
  rw [hl]
  exact ⟨by simp [Zbs,hst],by simp⟩
theorem Ygu {st:RS} {L:LookS} (h:Sim st L) (k len:Nat) (t:List UInt8) (hk:Zhd k) (hn:st.next=2) :
  Zbs st (kmap k) len=(Zca L k len).err∧((Zca L k len).err=0→Sim (Zbi st (kmap k) t) (Zca L k len)):=by
 have hw:=h.want
 have he:=h.err
 have hlst:Zca L k len=Zbh L k len:=by rw [Zca,if_pos (by omega)]
 rw [hlst]
 obtain ⟨n,r,ho⟩:∃ n r,st.opn=n::r:=by
  cases hc:st.opn with
  | nil=>exact absurd hc (h.open2 hn)
  | cons n r=>exact ⟨n,r,rfl⟩
 have hs:=h.stk
 rw [ho,List.map_cons] at hs
 have hnl:=h.opn n (by rw [ho]; simp)
 have hsz:=h.size (by omega)
 have hd:=h.down
 rw [ho,List.pairwise_cons] at hd
 by_cases hk12:k=1∨k=2
 ·have hst:Zbg st (kmap k)=true:=by
   unfold Zbg
   rw [if_neg (by omega),if_pos hn]
   rcases hk12 with rfl | rfl <;> rfl
  have hargs:Zju st=Zew st.atom n:=by
   unfold Zju Zew
   rw [ho]
   simp only
   cases st.atom[n]? <;> rfl
  have hfull:Zes st=(decide (30≤st.atom.length) || decide (4≤Zew st.atom n)):=by simp [Zes,hn,hargs]
  have hl:Zbh L k len = { L with stk:=(Zew st.atom n+1)::r.map (Zew st.atom),size:=L.size+1,err:=if 8<len∨30<L.size+1 then 3 else if 4<Zew st.atom n+1 then 3 else L.err,want:=if k=1 then 3 else 4 }:=by
   unfold Zbh
   rw [if_neg (by omega)]
   simp [Zkh,Zci,hw,hn,hs]
  rw [hl]
  have hkm:kmap k=1∨kmap k=2:=by rcases hk12 with rfl | rfl <;> simp [kmap]
  have hbump:Zcf st=st.atom.modify n (fun s => { s with args:=s.args+1 }):=by simp [Zcf,ho]
  constructor
  ·simp only [Zbs,hst,hfull,he]
   rw [hsz]
   by_cases h8:8<len
   ·simp [h8,hkm]
   ·by_cases hc:30≤st.atom.length
    ·rw [if_neg (by simp),if_pos ⟨hkm,Or.inr (by simp [hc])⟩,if_pos (by omega)]
    ·by_cases hd4:4≤Zew st.atom n
     ·rw [if_neg (by simp),if_pos ⟨hkm,Or.inr (by simp [hd4])⟩,if_neg (by omega),if_pos (by omega)]
     ·rw [if_neg (by simp),if_neg (by simp [h8,hc,hd4] <;> omega),if_neg (by omega),if_neg (by omega)]
  ·intro he2
   have hmap:∀ (s:Sym),st.opn.map (Zew (Zcf st++[s]))=(Zew st.atom n+1)::r.map (Zew st.atom):=by
    intro s
    rw [ho,List.map_cons,hbump,Zwq _ _ _ hnl]
    congr 1
    apply List.map_congr_left
    intro m hm
    exact Zst _ _ _ _ (h.opn m (by rw [ho]; simp [hm])) (by have:=hd.1 m hm; omega)
   have hbl:=Zkz st
   have hopn':∀ m ∈ st.opn,m<st.atom.length+1:=fun m hm=>Nat.lt_succ_of_lt (h.opn m hm)
   have hh:=h.heads
   rw [if_neg (by omega)] at hh
   have hg:=h.goals
   rcases hk12 with rfl | rfl
   ·have hst2:Zbi st (kmap 1) t = { st with atom:=Zcf st++[⟨t,0,0⟩],next:=3 }:=by simp [Ydv,Zbi,addS]
    rw [hst2]
    exact {
     want:=rfl
     query:=h.query
     err:=he2
     n5:=by simp
     stk:=(hmap _).symm
     opn:=by simpa [hbl] using hopn'
     down:=h.down
     flat:=by simp
     size:=by simp [hsz,hbl]
     open2:=by simp
     name:=by
      intro _
      refine ⟨by simp,?_,?_⟩
      ·have:=Zwr (Zcf st) ⟨t,0,0⟩
       simpa using this
      ·simpa [hbl] using h.opn
     inb:=fun _ _=>h.inb (by omega) (by omega)
     inb1:=by simp
     goals:=fun hi _ _=>by have:=hg hi (by omega) (by omega); rw [if_neg (by omega)] at this; simpa using this
     heads:=by simpa using hh
     hd:=h.hd
     q0:=by simp
     h0:=by simp }
   ·have hst2:Zbi st (kmap 2) t = { st with atom:=Zcf st++[⟨[],(Zbb st.vars t).2,0⟩],vars:=(Zbb st.vars t).1,next:=4 }:=by simp [Yit,Zbi,addS,varS,Zcf,ho]
    rw [hst2]
    exact {
     want:=rfl
     query:=h.query
     err:=he2
     n5:=by simp
     stk:=(hmap _).symm
     opn:=by simpa [hbl] using hopn'
     down:=h.down
     flat:=by simp
     size:=by simp [hsz,hbl]
     open2:=by simp
     name:=by simp
     inb:=fun _ _=>h.inb (by omega) (by omega)
     inb1:=by simp
     goals:=fun hi _ _=>by have:=hg hi (by omega) (by omega); rw [if_neg (by omega)] at this; simpa using this
     heads:=by simpa using hh
     hd:=h.hd
     q0:=by simp
     h0:=by simp }
 ·have hkm:¬ kmap k=1∧¬ kmap k=2:=⟨fun e=>hk12 (Or.inl ((Zhk hk).1.1 e)),fun e=>hk12 (Or.inr ((Zhk hk).2.1 e))⟩
  have hst:Zbg st (kmap k)=false:=by unfold Zbg; rw [if_neg (by omega),if_pos hn]; simpa using hkm
  have hl:Zbh L k len = { L with err:=2 }:=by
   unfold Zbh
   rw [if_pos (by omega)]
  rw [hl]
  exact ⟨by simp [Zbs,hst],by simp⟩
theorem Zws {st:RS} {L:LookS} (h:Sim st L) (k len:Nat) (t:List UInt8) (hk:Zhd k) (hn:st.next=3∨st.next=4) :
  Zbs st (kmap k) len=(Zca L k len).err∧((Zca L k len).err=0→Sim (Zbi st (kmap k) t) (Zca L k len)):=by
 have hw:=h.want
 have he:=h.err
 have hlst:Zca L k len=Zak L k:=by rw [Zca,if_neg (by omega),if_neg (by omega)]
 rw [hlst]
 have hsz:=h.size (by omega)
 have hib:=h.inb (by omega) (by omega)
 have hs:=h.stk
 have hh:=h.heads
 rw [if_neg (by omega)] at hh
 have hq:=h.query
 have hse:L.stk=[]↔st.opn=[]:=by rw [hs]; simp
 have chk:∀ b,Zbg st (kmap k)=b→(kmap k≠1∧kmap k≠2)→Zbs st (kmap k) len=if b then 0 else 2:=by
  intro b hb hkm
  subst hb
  unfold Zbs
  cases Zbg st (kmap k) <;> simp [hkm]
 have stand:∀ kd,Zbg st kd=((kd == 3 && decide (st.next=3)) || Zbr st kd):=by
  intro kd
  unfold Zbg
  rw [if_neg (by omega),if_neg (by omega)]
  rcases hn with hn | hn <;> simp [hn]
 by_cases h12:k=1∨k=2∨k=5
 ·have hst:Zbg st (kmap k)=false:=by
   rw [stand]
   rcases h12 with rfl | rfl | rfl <;> (unfold Zbr; simp [kmap])
  have hl:Zak L k = { L with err:=2 }:=by
   rcases h12 with rfl | rfl | rfl <;> (unfold Zak; simp)
  rw [hl]
  exact ⟨by simp [Zbs,hst],by simp⟩
 ·have hkm:kmap k≠1∧kmap k≠2:=⟨fun e=>h12 (Or.inl ((Zhk hk).1.1 e)),fun e=>h12 (Or.inr (Or.inl ((Zhk hk).2.1 e)))⟩
  by_cases h40:k=40
  ·subst h40
   by_cases h3:st.next=3
   ·have hst:Zbg st (kmap 40)=true:=by rw [stand]; simp [Zur,h3]
    have hl:Zak L 40 = { L with stk:=0::L.stk,want:=2 }:=by simp [Zak,hw,h3]
    rw [hl,chk true hst hkm]
    refine ⟨he.symm,fun _ => ?_⟩
    obtain ⟨n1,n2,n3⟩:=h.name h3
    have hst2:Zbi st (kmap 40) t = { st with opn:=(st.atom.length - 1)::st.opn,next:=2 }:=by simp [Zur,Zbi]
    rw [hst2]
    exact {
     want:=rfl
     query:=hq
     err:=he
     n5:=by simp
     stk:=by simp [hs,n2]
     opn:=by
      intro m hm
      simp only [Qp] at hm
      rcases hm with rfl | hm
      ·show st.atom.length - 1<st.atom.length
       omega
      ·exact h.opn m hm
     down:=by
      rw [List.pairwise_cons]
      exact ⟨n3,h.down⟩
     flat:=by simp
     size:=fun _=>hsz
     open2:=by simp
     name:=by simp
     inb:=fun _ _=>hib
     inb1:=by simp
     goals:=fun hi _ _=>by have:=h.goals hi (by omega) (by omega); rw [if_neg (by omega)] at this; simpa using this
     heads:=by simpa using hh
     hd:=h.hd
     q0:=by simp
     h0:=by simp }
   ·have hst:Zbg st (kmap 40)=false:=by
     rw [stand]
     unfold Zbr
     simp [Zur,h3]
    have hl:Zak L 40 = { L with err:=2 }:=by
     unfold Zak
     have:¬ L.want=3:=by omega
     simp [this]
    rw [hl]
    exact ⟨by simp [Zbs,hst],by simp⟩
  ·cases ho:st.opn with
   | nil =>
    have hsn:L.stk=[]:=hse.2 ho
    cases hb:st.inBody with
    | false =>
     have hfo:∀ kd,Zbr st kd=(kd == 7 || kd == 6):=by intro kd; simp [Zbr,ho,hb]
     have hLb:L.body=false:=hib.trans hb
     by_cases hk3:k=3
     ·subst hk3
      have hst:Zbg st (kmap 3)=true:=by rw [stand,hfo]; rfl
      have hl:Zak L 3 = { L with body:=true,goals:=0,want:=1 }:=by simp [Zak,hsn,hLb]
      rw [hl,chk true hst hkm]
      refine ⟨he.symm,fun _ => ?_⟩
      have hst2:Zbi st (kmap 3) t = { st with head:=st.atom,atom:=[],inBody:=true,next:=1 }:=by simp [Yiu,Zbi,Zap,hb]
      rw [hst2]
      exact {
       want:=rfl
       query:=hq
       err:=he
       n5:=by simp
       stk:=by simp [hsn,ho]
       opn:=by simp [ho]
       down:=by simp [ho]
       flat:=by simp [ho]
       size:=by simp
       open2:=by simp
       name:=by simp
       inb:=by simp
       inb1:=by simp
       goals:=by simp [h.hd hb]
       heads:=by simpa using hh
       hd:=by simp
       q0:=by simp
       h0:=by simp }
     ·by_cases hk46:k=46
      ·subst hk46
       have hst:Zbg st (kmap 46)=true:=by rw [stand,hfo]; rfl
       have hl:Zak L 46 = { L with want:=if L.query then 5 else 0 }:=by cases hq:L.query <;> simp [Zak,hsn,hLb,hq]
       rw [hl,chk true hst hkm]
       refine ⟨he.symm,fun _ => ?_⟩
       have hst2:Zbi st (kmap 46) t = { st with clauses:=st.clauses++[⟨st.atom,st.body,st.vars⟩],atom:=[],head:=[],body:=[],vars:=[],inBody:=false,next:=if st.query then 5 else 0 }:=by simp [Zut,Zbi,Zap,Zao,hb]
       rw [hst2]
       have hnx:(if st.query then 5 else 0:Nat)=0∨(if st.query then 5 else 0:Nat)=5:=by split <;> simp
       exact {
        want:=by rw [hq]
        query:=hq
        err:=he
        n5:=by simp only; omega
        stk:=by simp [hsn,ho]
        opn:=by simp [ho]
        down:=by simp [ho]
        flat:=by simp [ho]
        size:=by simp only; omega
        open2:=by simp only; omega
        name:=by simp only; omega
        inb:=by simp only; omega
        inb1:=by simp only; omega
        goals:=by simp
        heads:=by
         intro hqf
         have hqf:st.query=false:=hqf
         have:=hh hqf
         simp [hqf,this]
        hd:=by simp
        q0:=by intro hqt; have hqt:st.query=true:=hqt; simp [hqt]
        h0:=by simp }
      ·have hst:Zbg st (kmap k)=false:=by
        rw [stand,hfo]
        rcases hk with rfl | rfl | rfl | rfl | rfl | rfl | rfl | rfl <;> simp_all [kmap]
       have hl:Zak L k = { L with err:=2 }:=by
        unfold Zak
        simp [h40,hsn,hLb,hk3,hk46]
       rw [hl]
       exact ⟨by simp [Zbs,hst],by simp⟩
    | true =>
     have hfo:∀ kd,Zbr st kd=(kd == 5 || kd == 6):=by intro kd; simp [Zbr,ho,hb]
     have hLb:L.body=true:=hib.trans hb
     have hg:=h.goals hb (by omega) (by omega)
     rw [if_neg (by omega)] at hg
     by_cases hk44:k=44
     ·subst hk44
      have hst:Zbg st (kmap 44)=true:=by rw [stand,hfo]; rfl
      have hl:Zak L 44 = { L with want:=1 }:=by simp [Zak,hsn,hLb]
      rw [hl,chk true hst hkm]
      refine ⟨he.symm,fun _ => ?_⟩
      have hst2:Zbi st (kmap 44) t = { st with body:=st.body++[st.atom],atom:=[],next:=1 }:=by simp [Zus,Zbi,Zfs,Zap,ho,hb]
      rw [hst2]
      exact {
       want:=rfl
       query:=hq
       err:=he
       n5:=by simp
       stk:=by simp [hsn,ho]
       opn:=by simp [ho]
       down:=by simp [ho]
       flat:=by simp [ho]
       size:=by simp
       open2:=by simp
       name:=by simp
       inb:=fun _ _=>hib
       inb1:=fun _=>hb
       goals:=by simp [hg]
       heads:=by simpa using hh
       hd:=by simp [hb]
       q0:=by simp
       h0:=by simp }
     ·by_cases hk46:k=46
      ·subst hk46
       have hst:Zbg st (kmap 46)=true:=by rw [stand,hfo]; rfl
       have hl:Zak L 46 = { L with want:=if L.query then 5 else 0 }:=by cases hq:L.query <;> simp [Zak,hsn,hLb,hq]
       rw [hl,chk true hst hkm]
       refine ⟨he.symm,fun _ => ?_⟩
       have hst2:Zbi st (kmap 46) t = { st with clauses:=st.clauses++[⟨st.head,st.body++[st.atom],st.vars⟩],atom:=[],head:=[],body:=[],vars:=[],inBody:=false,next:=if st.query then 5 else 0 }:=by simp [Zut,Zbi,Zap,Zao,hb]
       rw [hst2]
       have hnx:(if st.query then 5 else 0:Nat)=0∨(if st.query then 5 else 0:Nat)=5:=by split <;> simp
       exact {
        want:=by rw [hq]
        query:=hq
        err:=he
        n5:=by simp only; omega
        stk:=by simp [hsn,ho]
        opn:=by simp [ho]
        down:=by simp [ho]
        flat:=by simp [ho]
        size:=by simp only; omega
        open2:=by simp only; omega
        name:=by simp only; omega
        inb:=by simp only; omega
        inb1:=by simp only; omega
        goals:=by simp
        heads:=by
         intro hqf
         have hqf:st.query=false:=hqf
         have:=hh hqf
         simp [hqf,this]
        hd:=by simp
        q0:=by intro hqt; have hqt:st.query=true:=hqt; simp [hqt]
        h0:=by simp }
      ·have hst:Zbg st (kmap k)=false:=by
        rw [stand,hfo]
        rcases hk with rfl | rfl | rfl | rfl | rfl | rfl | rfl | rfl <;> simp_all [kmap]
       have hl:Zak L k = { L with err:=2 }:=by
        unfold Zak
        simp [h40,hsn,hLb,hk44,hk46]
       rw [hl]
       exact ⟨by simp [Zbs,hst],by simp⟩
   | cons n r =>
    have hsn:L.stk=Zew st.atom n::r.map (Zew st.atom):=by rw [hs,ho]; rfl
    have hfo:∀ kd,Zbr st kd=(kd == 5 || kd == 4):=by intro kd; simp [Zbr,ho]
    by_cases hk44:k=44
    ·subst hk44
     have hst:Zbg st (kmap 44)=true:=by rw [stand,hfo]; rfl
     have hl:Zak L 44 = { L with want:=2 }:=by simp [Zak,hsn]
     rw [hl,chk true hst hkm]
     refine ⟨he.symm,fun _ => ?_⟩
     have hst2:Zbi st (kmap 44) t = { st with next:=2 }:=by simp [Zus,Zbi,Zfs,ho]
     rw [hst2]
     exact {
      want:=rfl
      query:=hq
      err:=he
      n5:=by simp
      stk:=hs
      opn:=h.opn
      down:=h.down
      flat:=by simp
      size:=fun _=>hsz
      open2:=by simp [ho]
      name:=by simp
      inb:=fun _ _=>hib
      inb1:=by simp
      goals:=fun hi _ _=>by have:=h.goals hi (by omega) (by omega); rw [if_neg (by omega)] at this; simpa using this
      heads:=by simpa using hh
      hd:=h.hd
      q0:=by simp
      h0:=by simp }
    ·by_cases hk41:k=41
     ·subst hk41
      have hst:Zbg st (kmap 41)=true:=by rw [stand,hfo]; rfl
      have hl:Zak L 41 = { L with stk:=r.map (Zew st.atom),want:=4 }:=by simp [Zak,hsn]
      rw [hl,chk true hst hkm]
      refine ⟨he.symm,fun _ => ?_⟩
      have hst2:Zbi st (kmap 41) t = { st with opn:=r,next:=4 }:=by simp [Ygd,Zbi,Zie,ho]
      rw [hst2]
      have hd:=h.down
      rw [ho,List.pairwise_cons] at hd
      exact {
       want:=rfl
       query:=hq
       err:=he
       n5:=by simp
       stk:=rfl
       opn:=fun m hm=>h.opn m (by rw [ho]; simp [hm])
       down:=hd.2
       flat:=by simp
       size:=fun _=>hsz
       open2:=by simp
       name:=by simp
       inb:=fun _ _=>hib
       inb1:=by simp
       goals:=fun hi _ _=>by have:=h.goals hi (by omega) (by omega); rw [if_neg (by omega)] at this; simpa using this
       heads:=by simpa using hh
       hd:=h.hd
       q0:=by simp
       h0:=by simp }
     ·have hst:Zbg st (kmap k)=false:=by
       rw [stand,hfo]
       rcases hk with rfl | rfl | rfl | rfl | rfl | rfl | rfl | rfl <;> simp_all [kmap]
      have hl:Zak L k = { L with err:=2 }:=by
       unfold Zak
       simp [h40,hsn,hk44,hk41]
      rw [hl]
      exact ⟨by simp [Zbs,hst],by simp⟩
theorem Ydw {st:RS} {L:LookS} (h:Sim st L) (k len:Nat) (t:List UInt8) (hk:Zhd k) :
  Zbs st (kmap k) len=(Zca L k len).err∧((Zca L k len).err=0→Sim (Zbi st (kmap k) t) (Zca L k len)):=by
 have h5:=h.n5
 have hw:=h.want
 have hc:(st.next=0∨st.next=1)∨st.next=2∨(st.next=3∨st.next=4)∨st.next=5:=by omega
 rcases hc with hn | hn | hn | hn
 ·exact Zzy h k len t hk hn
 ·exact Ygu h k len t hk hn
 ·exact Zws h k len t hk hn
 ·have hl:Zca L k len = { L with err:=2 }:=by rw [Zca,if_neg (by omega),if_pos (by omega)]
  have hst:Zbg st (kmap k)=false:=by unfold Zbg; simp [hn]
  rw [hl]
  exact ⟨by simp [Zbs,hst],by simp⟩
def takes:List Tok→RS→RS
 | [],st=>st
 | t::ts,st=>takes ts (Zbi st (kmap t.kind) t.text)
theorem Zkk (a b:List Tok) (st:RS):takes (a++b) st=takes b (takes a st):=by
 induction a generalizing st with
 | nil=>rfl
 | cons t a ih=>exact ih _
theorem Ygv {st:RS} {L:LookS} (h:Sim st L) (hn:st.next≠0∧st.next≠5):(Zca L 4 0).err=2:=by
 have h5:=h.n5
 have hw:=h.want
 unfold Zca
 by_cases h2:L.want≤2
 ·rw [if_pos h2]
  simp [Zbh]
 ·rw [if_neg h2,if_neg (by omega)]
  unfold Zak
  simp
theorem Zzz (e:Nat):∀ (ts:List Tok) (st:RS) (L:LookS),Sim st L→(∀ t ∈ ts,Zhd t.kind) →
  (runT e ts st).1=(Zge (ts++[⟨4,[],e⟩]) L).1∧((runT e ts st).1≠0→(runT e ts st).2.1=(Zge (ts++[⟨4,[],e⟩]) L).2)∧((runT e ts st).1=0→(runT e ts st).2.2=takes ts st):=by
 intro ts
 induction ts with
 | nil =>
  intro st L h _
  have hw:=h.want
  simp only [List.nil_append,Zge,runT,takes]
  by_cases hn:st.next≠0∧st.next≠5
  ·have he:=Ygv h hn
   simp only [Jt,he]
   rw [if_pos hn,if_neg (by omega)]
   simp
  ·rw [if_neg hn,if_pos (by refine ⟨trivial,?_⟩; omega)]
   simp
 | cons t ts ih =>
  intro st L h hk
  have hkt:=hk t (by simp)
  obtain ⟨h1,h2⟩:=Ydw h t.kind t.text.length t.text hkt
  have h4:¬ (t.kind=4∧(L.want=5∨L.want=0)):=by
   rintro ⟨h4,_⟩
   rcases hkt with h | h | h | h | h | h | h | h <;> omega
  simp only [List.cons_append,Zge,runT,takes]
  rw [h1,if_neg h4]
  by_cases he:(Zca L t.kind t.text.length).err=0
  ·rw [if_neg (by simp [he]),if_neg (by simp [he])]
   exact ih _ _ (h2 he) (fun t' ht=>hk t' (by simp [ht]))
  ·rw [if_pos he,if_pos he]
   exact ⟨rfl,fun _=>rfl,fun h=>absurd h he⟩
theorem sim0 (q:Bool):Sim ⟨q,if q then 1 else 0,q,[],[],[],[],[],[]⟩ (Zcp q):=by
 cases q
 ·exact ⟨rfl,rfl,rfl,by simp,rfl,by simp,by simp,by simp,by simp,by simp,by simp,by simp,by simp,by simp,by simp [Zcp],by simp,by simp,by simp⟩
 ·exact ⟨rfl,rfl,rfl,by simp,rfl,by simp,by simp,by simp,by simp,by simp,by simp,by simp [Zcp],by simp,by simp [Zcp],by simp,by simp,by simp,by simp⟩
theorem Yaa:∀ (f:Nat) (l:List UInt8) (p:Nat),∀ t ∈ lexF f l p,Zhd t.kind:=by
 intro f
 induction f with
 | zero=>intro l p t ht; simp [lexF] at ht
 | succ f ih =>
  intro l p t ht
  cases l with
  | nil=>simp [lexF] at ht
  | cons c r =>
   rw [lexF] at ht
   split at ht
   ·exact ih _ _ t ht
   ·simp only [Qp] at ht
    rcases ht with rfl | ht
    ·exact (Zma c r).2
    ·exact ih _ _ t ht
theorem Zjv (l:List UInt8) (p:Nat):∀ t ∈ toks l p,Zhd t.kind:=Yaa _ l p
def Zgc (st:RS) (l:List Sym) (names:Names) (nx:Nat):RS := { st with atom:=Zcf st++l,vars:=names,next:=nx }
def Yab (n:Nat):Prop:=∀ (ts:List Tok) (L:LookS) (f:Nat) (st:RS),ts.length≤n→ts.length≤f→okk ts L→fin ts→L.want≤2→L.err=0→(L.want=2→L.stk≠[])→(∀ t r,ts=t::r→t.kind≠4) →
 ∃ r L' m,Zcs f ts st.vars=some r∧Aft r.2.1 L L' (Zci L).stk∧r.2.1=ts.drop m∧r.2.1.length<ts.length∧takes (ts.take m) st=Zgc st r.1 r.2.2 L'.want
theorem Zeh {xs ys:List Tok} {y:Tok} {m1:Nat} (h:xs.drop m1=y::ys) (m2:Nat) (st:RS):takes (xs.take (m1+(1+m2))) st=takes (ys.take m2) (Zbi (takes (xs.take m1) st) (kmap y.kind) y.text)∧xs.drop (m1+(1+m2))=ys.drop m2:=by
 constructor
 ·rw [List.take_add,Zkk,h,Nat.add_comm 1 m2]
  rfl
 ·rw [← List.drop_drop,h,Nat.add_comm 1 m2]
  rfl
theorem Ygw (A:List Sym) (nm:List UInt8) (k:Nat) (B:List Sym):(A++(⟨nm,0,k⟩:Sym)::B).modify A.length (fun s => { s with args:=s.args+1 })=A++⟨nm,0,k+1⟩::B:=by
 induction A with
 | nil=>simp
 | cons a A ih=>simp [ih]
theorem Ydx (n f:Nat) (IH:Yab n):∀ (g:Nat) (x:Tok) (xs:List Tok) (L:LookS) (m:Nat) (r:List Nat) (acc:List (List Sym)) (st:RS) (A:List Sym) (nm:List UInt8) (o:List Nat),xs.length≤n→xs.length≤f→xs.length+1≤g→x.kind≠41 →
  okk xs L→fin xs→L.want=2→L.stk=m::r→L.err=0→st.atom=A++⟨nm,0,acc.length⟩::acc.flatten→st.opn=A.length::o →
  ∃ q L' i,Zdz (Zcs f) g (x::xs) st.vars acc=some q∧Aft q.2.1 L L' r∧L'.want=4∧q.2.1=xs.drop i∧q.2.1.length<xs.length ∧
   takes (xs.take i) st = { st with atom:=A++⟨nm,0,q.1.length⟩::q.1.flatten,opn:=o,vars:=q.2.2,next:=4 }:=by
 intro g
 induction g with
 | zero=>intro x xs L m r acc st A nm o h1 h1' h2; omega
 | succ g ih =>
  intro x xs L m r acc st A nm o h1 h1' h2 h41 hok hfin hw hst he hat hop
  have hx4:∀ t r,xs=t::r→t.kind≠4:=by
   rintro t r rfl h4
   have:=(Zeo hok (by omega)).1
   unfold Zca at this
   rw [if_pos (by omega)] at this
   rcases Zfh he this with h | h <;> omega
  obtain ⟨r1,L1,m1,hp,ha,hd,hl,htk⟩:=IH xs L f st h1 (by omega) hok hfin (by omega) he (by rw [hst]; simp) hx4
  have hls:(Zci L).stk=(m+1)::r:=by simp [Zci,hw,hst]
  rw [hls] at ha
  rw [Zdz,if_neg h41,hp]
  simp only
  have hbump:Zcf st=A++⟨nm,0,acc.length+1⟩::acc.flatten:=by
   unfold Zcf
   rw [hop]
   simp only
   rw [hat,Ygw]
  cases hr:r1.2.1 with
  | nil=>rw [hr] at ha; exact ha.fin.elim
  | cons y ys =>
   rw [hr] at ha hl hd
   simp only [Qf] at hl
   have hat1:(Zgc st r1.1 r1.2.2 L1.want).atom=A++⟨nm,0,(acc++[r1.1]).length⟩::(acc++[r1.1]).flatten:=by
    unfold Zgc
    simp [hbump]
   rcases Yga ha with ⟨hy,ho,hf,hE⟩ | ⟨hy,ho,hf,hE⟩
   ·have hst1:Zbi (Zgc st r1.1 r1.2.2 L1.want) (kmap y.kind) y.text = { Zgc st r1.1 r1.2.2 L1.want with next:=2 }:=by
     rw [hy]
     simp [Zus,Zbi,Zfs,Zgc,hop]
    obtain ⟨q,L2,i,h5,h6,h6',h7,h7',h8⟩:=ih y ys (Zak L1 44) (m+1) r (acc++[r1.1]) { Zgc st r1.1 r1.2.2 L1.want with next:=2 } A nm o (by omega) (by omega) (by omega) (by omega) ho hf (by rw [hE]) (by rw [hE]; exact ha.stk) (by rw [hE]; exact ha.err) hat1 hop
    obtain ⟨hs1,hs2⟩:=Zeh hd.symm i st
    refine ⟨q,L2,m1+(1+i),h5,⟨h6.ok,h6.fin,h6.want,h6.stk,h6.err,?_,?_⟩,h6',?_,by omega,?_⟩
    ·rw [h6.query,hE]; exact ha.query
    ·rw [h6.body,hE]
     have:=ha.body
     simp [hw] at this ⊢
     exact this
    ·rw [hs2]; exact h7
    ·rw [hs1,htk,hst1,h8]
     rfl
   ·have hst1:Zbi (Zgc st r1.1 r1.2.2 L1.want) (kmap y.kind) y.text = { Zgc st r1.1 r1.2.2 L1.want with opn:=o,next:=4 }:=by
     rw [hy]
     simp [Ygd,Zbi,Zie,Zgc,hop]
    obtain ⟨hs1,hs2⟩:=Zeh hd.symm 0 st
    refine ⟨(acc++[r1.1],ys,r1.2.2),Zak L1 41,m1+(1+0),?_,⟨ho,hf,Or.inl (by rw [hE]),by rw [hE],by rw [hE]; exact ha.err,by rw [hE]; exact ha.query,by rw [hE]; exact ha.body⟩,by rw [hE],?_,by simp; omega,?_⟩
    ·cases g with
     | zero=>omega
     | succ g=>rw [Zdz,if_pos hy]
    ·rw [hs2]; rfl
    ·rw [hs1,htk,hst1]
     show ({ Zgc st r1.1 r1.2.2 L1.want with opn:=o,next:=4 }:RS)=_
     have:({ Zgc st r1.1 r1.2.2 L1.want with opn:=o,next:=4 }:RS) = { st with atom:=(Zgc st r1.1 r1.2.2 L1.want).atom,opn:=o,vars:=r1.2.2,next:=4 }:=rfl
     rw [this,hat1]
theorem Zuu:∀ n,Yab n:=by
 intro n
 induction n with
 | zero =>
  intro ts L f st h1 h2 hok hfin
  cases ts with
  | nil=>exact hfin.elim
  | cons t ts=>simp at h1
 | succ n IH =>
  intro ts L f st h1 h2 hok hfin hw he hst hne
  cases ts with
  | nil=>exact hfin.elim
  | cons t ts =>
   have h4:=hne t ts rfl
   simp only [Qf] at h1 h2
   cases f with
   | zero=>omega
   | succ f =>
    obtain ⟨he1,ho1⟩:=Zeo hok (by omega)
    unfold Zca at he1 ho1
    rw [if_pos hw] at he1 ho1
    have hk:=Zfh he he1
    obtain ⟨k1,k2,k3,k4⟩:=Zix he1 hk
    have hfin1:fin ts:=by
     rcases hfin with h | h
     ·exact absurd h h4
     ·exact h
    by_cases hv:t.kind=2
    ·rw [Zcs,if_pos hv]
     refine ⟨_,Zbh L t.kind t.text.length,1,rfl,⟨ho1,hfin1,Or.inl (by rw [k1,hv]; rfl),k2,he1,k3,k4⟩,rfl,by simp,?_⟩
     have ht:Zbi st (kmap t.kind) t.text = { st with atom:=Zcf st++[⟨[],(Zbb st.vars t.text).2,0⟩],vars:=(Zbb st.vars t.text).1,next:=4 }:=by rw [hv]; simp [Yit,Zbi,addS,varS,Zcf]
     show Zbi st (kmap t.kind) t.text=_
     rw [ht,k1,if_neg (by omega)]
     rfl
    ·have hk1:t.kind=1:=by omega
     have ht1:Zbi st (kmap t.kind) t.text = { st with atom:=Zcf st++[⟨t.text,0,0⟩],next:=3 }:=by rw [hk1]; simp [Ydv,Zbi,addS]
     rw [Zcs,if_neg hv]
     cases ts with
     | nil=>exact hfin1.elim
     | cons u us =>
      rw [Ziu]
      simp only [Qf] at h1 h2
      rw [if_pos hk1] at k1
      by_cases hu:u.kind=40
      ·rw [if_neg (by simp [hu])]
       obtain ⟨he2,ho2⟩:=Zeo ho1 (by omega)
       unfold Zca at he2 ho2
       rw [if_neg (by omega),if_neg (by omega),hu] at he2 ho2
       have hE:Zak (Zbh L t.kind t.text.length) 40 = { Zbh L t.kind t.text.length with stk:=0::(Zbh L t.kind t.text.length).stk,want:=2 }:=by
        simp [Zak,k1]
       have hfin2:fin us:=by
        rcases hfin1 with h | h
        ·omega
        ·exact h
       have ht2:Zbi { st with atom:=Zcf st++[⟨t.text,0,0⟩],next:=3 } (kmap u.kind) u.text = { st with atom:=Zcf st++[⟨t.text,0,0⟩],opn:=(Zcf st).length::st.opn,next:=2 }:=by
        rw [hu]; simp [Zur,Zbi]
       obtain ⟨q,L2,i,h5,h6,h6',h7,h7',h8⟩:=Ydx n f IH (us.length+1) u us _ 0 (Zci L).stk [] { st with atom:=Zcf st++[⟨t.text,0,0⟩],opn:=(Zcf st).length::st.opn,next:=2 } (Zcf st) t.text st.opn (by omega) (by omega) (by omega) (by omega) ho2 hfin2 (by rw [hE]) (by rw [hE,← k2]) (by rw [hE]; exact he1) rfl rfl
       rw [show Zdz (Zcs f) (us.length+1) (u::us) st.vars []=some q from h5]
       refine ⟨_,L2,i+2,rfl,⟨h6.ok,h6.fin,h6.want,h6.stk,h6.err,?_,?_⟩,?_,by simp; omega,?_⟩
       ·rw [h6.query,hE]; exact k3
       ·rw [h6.body,hE]
        simpa using k4
       ·exact h7
       ·show takes (us.take i) (Zbi (Zbi st (kmap t.kind) t.text) (kmap u.kind) u.text)=_
        rw [ht1,ht2,h8,h6']
        rfl
      ·rw [if_pos hu]
       refine ⟨_,Zbh L t.kind t.text.length,1,rfl,⟨ho1,hfin1,Or.inr ⟨k1,?_⟩,k2,he1,k3,k4⟩,rfl,by simp,?_⟩
       ·intro y ys hy
        simp at hy
        rw [← hy.1]; exact hu
       ·show Zbi st (kmap t.kind) t.text=_
        rw [ht1,k1]
        rfl
def clsS (st:RS) (hd:List Sym) (bd:List (List Sym)) (vs:Names):RS := { st with clauses:=st.clauses++[⟨hd,bd,vs⟩],atom:=[],opn:=[],head:=[],body:=[],vars:=[],inBody:=false,next:=if st.query then 5 else 0 }
theorem Zqp:∀ (g:Nat) (ts:List Tok) (L:LookS) (acc:List (List Sym)) (st:RS),ts.length≤g→ts.length≤1000→okk ts L→fin ts→L.want=1→L.stk=[]→L.body=true→L.err=0→st.opn=[]→st.atom=[]→st.inBody=true →
  ∃ q L' i ex,Zcy 1000 g ts st.vars acc=some q∧okk q.2.1 L'∧fin q.2.1∧L'.want=(if L.query then 5 else 0)∧L'.stk=[]∧L'.err=0∧L'.query=L.query∧q.2.1.length<ts.length∧q.2.1=ts.drop i∧q.1=acc++ex ∧
   takes (ts.take i) st=clsS st st.head (st.body++ex) q.2.2:=by
 intro g
 induction g with
 | zero =>
  intro ts L acc st h1 h2 hok hfin
  cases ts with
  | nil=>exact hfin.elim
  | cons t ts=>simp at h1
 | succ g ih =>
  intro ts L acc st h1 h2 hok hfin hw hst hb he hop hat hib
  obtain ⟨r1,L1,m1,hp,ha,hd,hl,htk⟩:=Zuu ts.length ts L 1000 st (Qe _) h2 hok hfin (by omega) he (by omega) (Zzq hok hw he)
  have hls:(Zci L).stk=[]:=by simp [Zci,hw,hst]
  rw [hls] at ha
  have hb1:L1.body=true:=by rw [ha.body,if_neg (by omega)]; exact hb
  have hbump:Zcf st=[]:=by simp [Zcf,hop,hat]
  rw [Zcy,hp]
  simp only
  cases hr:r1.2.1 with
  | nil=>rw [hr] at ha; exact ha.fin.elim
  | cons y ys =>
   rw [hr] at ha hl hd
   simp only [Qf] at hl
   simp only
   rcases Zou ha with ⟨hy,_,ho,hf,hE⟩ | ⟨hy,hb2,_⟩ | ⟨hy,ho,hf,hE⟩
   ·rw [if_neg (by omega)]
    have hst1:Zbi (Zgc st r1.1 r1.2.2 L1.want) (kmap y.kind) y.text = { st with body:=st.body++[r1.1],atom:=[],vars:=r1.2.2,next:=1 }:=by
     rw [hy]
     simp [Zus,Zbi,Zfs,Zap,Zgc,hop,hib,hbump]
    obtain ⟨q,L2,i,ex,h5,h6,h7,h8,h9,h10,h11,h12,h13,h14,h15⟩:=ih ys (Zak L1 44) (acc++[r1.1]) { st with body:=st.body++[r1.1],atom:=[],vars:=r1.2.2,next:=1 } (by omega) (by omega) ho hf (by rw [hE]) (by rw [hE]; exact ha.stk) (by rw [hE]; exact hb1) (by rw [hE]; exact ha.err) hop rfl hib
    have hq:(Zak L1 44).query=L.query:=by rw [hE]; exact ha.query
    rw [hq] at h8 h11
    obtain ⟨hs1,hs2⟩:=Zeh hd.symm i st
    refine ⟨q,L2,m1+(1+i),r1.1::ex,h5,h6,h7,h8,h9,h10,h11,by omega,by rw [hs2]; exact h13,by rw [h14]; simp,?_⟩
    rw [hs1,htk,hst1,h15]
    simp [clsS]
   ·rw [hb1] at hb2; cases hb2
   ·rw [if_pos hy]
    have hst1:Zbi (Zgc st r1.1 r1.2.2 L1.want) (kmap y.kind) y.text=clsS st st.head (st.body++[r1.1]) r1.2.2:=by
     rw [hy]
     simp [Zut,Zbi,Zao,Zap,Zgc,hop,hib,hbump,clsS]
    obtain ⟨hs1,hs2⟩:=Zeh hd.symm 0 st
    refine ⟨_,_,m1+(1+0),[r1.1],rfl,ho,hf,by rw [hE,ha.query],by rw [hE]; exact ha.stk,by rw [hE]; exact ha.err,by rw [hE]; exact ha.query,by simp; omega,by rw [hs2]; rfl,rfl,?_⟩
    rw [hs1,htk,hst1]
    rfl
structure Clean (st:RS):Prop where
 query:st.query=false
 next:st.next=0
 inb:st.inBody=false
 atom:st.atom=[]
 opn:st.opn=[]
 head:st.head=[]
 body:st.body=[]
 vars:st.vars=[]
theorem Zwt (ts:List Tok) (L:LookS) (st:RS) (h2:ts.length≤1000) (hok:okk ts L) (hfin:fin ts) (hw:L.want=0) (hst:L.stk=[]) (he:L.err=0) (hq:L.query=false) (hne:∀ t r,ts=t::r→t.kind≠4) (hc:Clean st) :
  ∃ c L' i,Zeb ts=some c∧okk c.2 L'∧fin c.2∧L'.want=0∧L'.stk=[]∧L'.err=0∧L'.query=false∧c.2.length<ts.length∧c.2=ts.drop i∧takes (ts.take i) st = { st with clauses:=st.clauses++[c.1] }:=by
 obtain ⟨r1,L1,m1,hp,ha,hd,hl,htk⟩:=Zuu ts.length ts L 1000 st (Qe _) h2 hok hfin (by omega) he (by omega) hne
 have hls:(Zci L).stk=[]:=by simp [Zci,hw,hst]
 rw [hls] at ha
 have hb1:L1.body=false:=by rw [ha.body,if_pos hw]
 have hbump:Zcf st=[]:=by simp [Zcf,hc.opn,hc.atom]
 have hback:∀ hd bd vs,clsS st hd bd vs = { st with clauses:=st.clauses++[⟨hd,bd,vs⟩] }:=by
  intro hd bd vs
  obtain ⟨c1,c2,c3,c4,c5,c6,c7,c8⟩:=hc
  cases st
  simp only at c1 c2 c3 c4 c5 c6 c7 c8
  subst c1 c2 c3 c4 c5 c6 c7 c8
  rfl
 rw [hc.vars] at hp
 rw [Zeb,hp]
 simp only
 cases hr:r1.2.1 with
 | nil=>rw [hr] at ha; exact ha.fin.elim
 | cons y ys =>
  rw [hr] at ha hl hd
  simp only [Qf] at hl
  simp only
  rcases Zou ha with ⟨hy,hb2,_⟩ | ⟨hy,_,ho,hf,hE⟩ | ⟨hy,ho,hf,hE⟩
  ·rw [hb1] at hb2; cases hb2
  ·rw [if_pos hy]
   have hst1:Zbi (Zgc st r1.1 r1.2.2 L1.want) (kmap y.kind) y.text = { st with head:=r1.1,atom:=[],vars:=r1.2.2,inBody:=true,next:=1 }:=by
    rw [hy]
    simp [Yiu,Zbi,Zap,Zgc,hc.inb,hbump]
   obtain ⟨q,L2,i,ex,h5,h6,h7,h8,h9,h10,h11,h12,h13,h14,h15⟩:=Zqp 1000 ys (Zak L1 3) [] { st with head:=r1.1,atom:=[],vars:=r1.2.2,inBody:=true,next:=1 } (by omega) (by omega) ho hf (by rw [hE]) (by rw [hE]; exact ha.stk) (by rw [hE]) (by rw [hE]; exact ha.err) hc.opn rfl rfl
   have hq2:(Zak L1 3).query=false:=by rw [hE]; exact ha.query.trans hq
   rw [hq2] at h8 h11
   rw [h5]
   obtain ⟨hs1,hs2⟩:=Zeh hd.symm i st
   refine ⟨_,L2,m1+(1+i),rfl,h6,h7,by simpa using h8,h9,h10,h11,by simp; omega,by rw [hs2]; exact h13,?_⟩
   rw [hs1,htk,hst1,h15,← hback]
   simp only [List.nil_append] at h14
   simp [clsS,hc.body,h14]
  ·rw [if_neg (by omega)]
   have hq2:L1.query=false:=ha.query.trans hq
   have hst1:Zbi (Zgc st r1.1 r1.2.2 L1.want) (kmap y.kind) y.text=clsS st r1.1 [] r1.2.2:=by
    rw [hy]
    simp [Zut,Zbi,Zao,Zap,Zgc,hc.opn,hc.inb,hc.body,hbump,clsS]
   obtain ⟨hs1,hs2⟩:=Zeh hd.symm 0 st
   refine ⟨_,_,m1+(1+0),rfl,ho,hf,by rw [hE,hq2]; rfl,by rw [hE]; exact ha.stk,by rw [hE]; exact ha.err,by rw [hE]; exact hq2,by simp; omega,by rw [hs2]; rfl,?_⟩
   rw [hs1,htk,hst1,hback]
   rfl
theorem Ydy:∀ (g:Nat) (ts:List Tok) (L:LookS) (acc:List Cls) (st:RS),ts.length≤g→ts.length≤1000→okk ts L→fin ts→L.want=0→L.stk=[]→L.err=0→L.query=false→Clean st →
  ∃ cs i ex,Zgr g ts acc=some cs∧(∃ t r,ts.drop i=t::r∧t.kind=4)∧cs=acc++ex∧takes (ts.take i) st = { st with clauses:=st.clauses++ex }:=by
 intro g
 induction g with
 | zero =>
  intro ts L acc st h1 h2 hok hfin
  cases ts with
  | nil=>exact hfin.elim
  | cons t ts=>simp at h1
 | succ g ih =>
  intro ts L acc st h1 h2 hok hfin hw hst he hq hc
  cases ts with
  | nil=>exact hfin.elim
  | cons t ts =>
   rw [Zgr]
   by_cases h4:t.kind=4
   ·rw [if_pos h4]
    exact ⟨_,0,[],rfl,⟨t,ts,rfl,h4⟩,by simp,by simp [takes]⟩
   ·rw [if_neg h4]
    obtain ⟨c,L1,i,hp,h5,h6,h7,h8,h9,h10,h11,h12,h13⟩:=Zwt (t::ts) L st h2 hok hfin hw hst he hq (fun t' r' e=>by simp at e; rw [← e.1]; exact h4) hc
    rw [hp]
    simp only
    simp only [Qf] at h1 h2 h11
    obtain ⟨cs,j,ex,k1,k2,k3,k4⟩:=ih c.2 L1 (acc++[c.1]) { st with clauses:=st.clauses++[c.1] } (by omega) (by omega) h5 h6 h7 h8 h9 h10 ⟨hc.query,hc.next,hc.inb,hc.atom,hc.opn,hc.head,hc.body,hc.vars⟩
    refine ⟨cs,i+j,c.1::ex,k1,?_,by rw [k3]; simp,?_⟩
    ·rw [← List.drop_drop,← h12]; exact k2
    ·rw [List.take_add,Zkk,h13,← h12,k4]
     simp
theorem Yge {ts:List Tok} {e:Tok} {i:Nat} (hk:∀ t ∈ ts,Zhd t.kind) (h:∃ t r,(ts++[e]).drop i=t::r∧t.kind=4):(ts++[e]).take i=ts:=by
 obtain ⟨t,r,hd,h4⟩:=h
 rcases Nat.lt_trichotomy i ts.length with hi | hi | hi
 ·exfalso
  rw [List.drop_append_of_le_length (by omega),List.drop_eq_getElem_cons hi,List.cons_append] at hd
  simp only [List.cons.injEq] at hd
  have:=hk ts[i] (List.getElem_mem hi)
  rw [hd.1] at this
  rcases this with h | h | h | h | h | h | h | h <;> omega
 ·subst hi
  simp
 ·exfalso
  rw [List.drop_eq_nil_of_le (by simp; omega)] at hd
  simp at hd
def scan:List Sym→Nat→Option Nat
 | [],k=>some k
 | s::r,k=>if s.name=[] then (if s.num<k then scan r k else if s.num=k then scan r (k+1) else none) else scan r k
theorem Zim (a b:List Sym) (k:Nat):scan (a++b) k=(scan a k).bind (scan b):=by
 induction a generalizing k with
 | nil=>rfl
 | cons s a ih =>
  simp only [List.cons_append,scan]
  split
  ·split
   ·exact ih k
   ·split
    ·exact ih (k+1)
    ·rfl
  ·exact ih k
theorem Zoy {a b:List Sym} {k k':Nat} (h:scan (a++b) k=some k'):∃ j,scan a k=some j∧scan b j=some k':=by
 rw [Zim] at h
 cases ha:scan a k with
 | none=>rw [ha] at h; simp at h
 | some j=>rw [ha] at h; exact ⟨j,rfl,h⟩
theorem Zei:∀ (l:List Sym) (k k':Nat),scan l k=some k'→k≤k'∧k'≤k+l.length∧∀ s ∈ l,s.name=[]→s.num<k':=by
 intro l
 induction l with
 | nil=>intro k k' h; simp [scan] at h; subst h; simp
 | cons s l ih =>
  intro k k' h
  simp only [scan] at h
  split at h
  ·split at h
   ·rename_i h1 h2
    obtain ⟨g1,g2,g3⟩:=ih _ _ h
    refine ⟨g1,by simp; omega,?_⟩
    intro x hx hn
    simp at hx
    rcases hx with rfl | hx
    ·omega
    ·exact g3 x hx hn
   ·split at h
    ·rename_i h1 h2 h3
     obtain ⟨g1,g2,g3⟩:=ih _ _ h
     refine ⟨by omega,by simp; omega,?_⟩
     intro x hx hn
     simp at hx
     rcases hx with rfl | hx
     ·omega
     ·exact g3 x hx hn
    ·simp at h
  ·rename_i h1
   obtain ⟨g1,g2,g3⟩:=ih _ _ h
   refine ⟨g1,by simp; omega,?_⟩
   intro x hx hn
   simp at hx
   rcases hx with rfl | hx
   ·exact absurd hn h1
   ·exact g3 x hx hn
theorem Yac (n k:Nat) (h:n<k):(List.range k).idxOf n=n:=by
 have hm:n ∈ List.range k:=by simpa using h
 have h1:=List.idxOf_lt_length_of_mem hm
 have h2:=List.getElem_idxOf h1
 rw [List.getElem_range] at h2
 exact h2
theorem Zsu (f:Nat) (IH:∀ l,IsT f l→∀ k k',scan l k=some k'→(Zcj f l (List.range k)).2.1=List.range k'∧∀ rest miss,Zby (l++rest) miss=(Zcj f l (List.range k)).1++((Zbt miss).1++Zby rest (Zbt miss).2)) :
  ∀ (ls:List (List Sym)),ls≠[]→(∀ l ∈ ls,IsT f l)→∀ (k k':Nat) (sep:UInt8),scan ls.flatten k=some k'→(Zev f sep ls (List.range k)).2=List.range k' ∧
   ∀ rest miss,sep::Zby (ls.flatten++rest) (ls.length::miss)=(Zev f sep ls (List.range k)).1++(41::((Zbt miss).1++Zby rest (Zbt miss).2)):=by
 intro ls
 induction ls with
 | nil=>intro h; exact absurd rfl h
 | cons l ls ih =>
  intro _ hls k k' sep hsc
  rw [List.flatten_cons] at hsc
  obtain ⟨j,h1,h2⟩:=Zoy hsc
  obtain ⟨w1,w2⟩:=IH l (hls l (by simp)) k j h1
  cases ls with
  | nil =>
   simp only [List.flatten_nil,scan,Qo] at h2
   subst h2
   simp only [Zev,w1,List.flatten_cons,List.flatten_nil,Qs]
   refine ⟨trivial,fun rest miss => ?_⟩
   rw [w2]
   simp [Zbt]
  | cons l2 ls2 =>
   obtain ⟨v1,v2⟩:=ih (by simp) (fun x hx=>hls x (by simp [hx])) j k' 44 h2
   have hk:Zev f sep (l::l2::ls2) (List.range k)=(sep::((Zcj f l (List.range k)).1++(Zev f 44 (l2::ls2) (List.range j)).1),(Zev f 44 (l2::ls2) (List.range j)).2):=by
    rw [Zev,w1]
   rw [hk]
   refine ⟨v1,fun rest miss => ?_⟩
   rw [List.flatten_cons,Qi,w2]
   have hc:Zbt ((l::l2::ls2).length::miss)=([44],(l2::ls2).length::miss):=by simp [Zbt]
   rw [hc]
   have:=v2 rest miss
   simp only [List.cons_append,List.nil_append,Qi]
   rw [this]
theorem Yiv:∀ (f:Nat) (l:List Sym),IsT f l→∀ k k',scan l k=some k'→(Zcj f l (List.range k)).2.1=List.range k'∧∀ rest miss,Zby (l++rest) miss=(Zcj f l (List.range k)).1++((Zbt miss).1++Zby rest (Zbt miss).2):=by
 intro f
 induction f with
 | zero=>intro l h; exact h.elim
 | succ f ih =>
  intro l h k k' hsc
  rcases h with ⟨n,rfl⟩ | ⟨nm,ls,h1,rfl,h2⟩
  ·simp only [scan,if_true] at hsc
   split at hsc
   ·rename_i hn
    simp at hsc; subst hsc
    have hv:wvar n (List.range k)=(Zef n,List.range k):=by
     unfold wvar
     rw [if_pos (by simpa using hn),Yac n k hn]
    simp [Zcj,hv,Zby,symC]
   ·split at hsc
    ·rename_i hn1 hn2
     simp at hsc; subst hsc
     have hv:wvar n (List.range k)=(Zef n,List.range (k+1)):=by
      unfold wvar
      rw [if_neg (by simpa using hn1),List.range_succ,hn2]
      simp
     simp [Zcj,hv,Zby,symC]
    ·simp at hsc
  ·have hsc':scan ls.flatten k=some k':=by simpa [scan,h1] using hsc
   cases hls:ls with
   | nil =>
    rw [hls] at hsc'
    simp [scan] at hsc'
    subst hsc'
    simp [Zcj,Zby,symC,h1]
   | cons l0 ls0 =>
    rw [← hls]
    have hne:ls≠[]:=by rw [hls]; simp
    have hw:=Zjq f nm ls h1 h2 hne (List.range k)
    obtain ⟨v1,v2⟩:=Zsu f ih ls hne h2 k k' 40 hsc'
    rw [hw]
    refine ⟨v1,fun rest miss => ?_⟩
    have hpos:0<ls.length:=by rw [hls]; simp
    have:=v2 rest miss
    simp only [List.cons_append,Zby,hpos,if_true,symC,h1,if_false,Qi]
    rw [this]
    simp
theorem Zsv (f:Nat):∀ (ls:List (List Sym)),(∀ l ∈ ls,IsT f l)→∀ (k k':Nat) (sep:List UInt8),scan ls.flatten k=some k'→Zzx sep ls=Zih f sep ls (List.range k):=by
 intro ls
 induction ls with
 | nil=>intro _ k k' sep _; rfl
 | cons l ls ih =>
  intro hls k k' sep hsc
  rw [List.flatten_cons] at hsc
  obtain ⟨j,h1,h2⟩:=Zoy hsc
  obtain ⟨w1,w2⟩:=Yiv f l (hls l (by simp)) k j h1
  have h3:=w2 [] []
  simp only [Qs,Zbt,Zby,List.nil_append] at h3
  rw [Zzx,Zih,w1,h3,ih (fun x hx=>hls x (by simp [hx])) j k' _ h2]
  simp
def Worded (ts:List Tok):Prop:=∀ i t,ts[i]?=some t→i+1<ts.length→t.text≠[]
theorem Worded.drop {ts:List Tok} (h:Worded ts) (n:Nat):Worded (ts.drop n):=by
 intro i t hi hl
 rw [List.getElem?_drop] at hi
 rw [List.length_drop] at hl
 exact h (n+i) t hi (by omega)
theorem Worded.tail {t:Tok} {ts:List Tok} (h:Worded (t::ts)):Worded ts:=by simpa using h.drop 1
theorem Zsw (names:Names) (s:List UInt8) (r:List Sym):scan (⟨[],(Zbb names s).2,0⟩::r) names.length=scan r (Zbb names s).1.length:=by
 unfold Zbb
 split
 ·rename_i h
  have:=List.idxOf_lt_length_of_mem h
  simp [scan,this]
 ·simp [scan]
theorem Yad (f:Nat) (IH:∀ ts names r,Worded ts→Zcs f ts names=some r→IsT f r.1∧scan r.1 names.length=some r.2.2.length) (k0:Nat) :
  ∀ (g:Nat) (ts:List Tok) (names:Names) (acc:List (List Sym)) r,Worded ts→(∀ l ∈ acc,IsT f l)→scan acc.flatten k0=some names.length→Zdz (Zcs f) g ts names acc=some r→(∀ l ∈ r.1,IsT f l)∧scan r.1.flatten k0=some r.2.2.length:=by
 intro g
 induction g with
 | zero=>intro ts names acc r _ _ _ h; simp [Zdz] at h
 | succ g ih =>
  intro ts names acc r hw ha hs h
  cases ts with
  | nil=>simp [Zdz] at h
  | cons t ts =>
   rw [Zdz] at h
   split at h
   ·simp at h; subst h; exact ⟨ha,hs⟩
   ·cases hq:Zcs f ts names with
    | none=>rw [hq] at h; simp at h
    | some q =>
     rw [hq] at h
     simp only at h
     obtain ⟨i1,i2⟩:=IH ts names q hw.tail hq
     obtain ⟨n,_,_,hn,_⟩:=Zfq f ts names q hq
     refine ih q.2.1 q.2.2 (acc++[q.1]) r (by rw [hn]; exact hw.tail.drop n) ?_ ?_ h
     ·intro l hl
      simp at hl
      rcases hl with hl | rfl
      ·exact ha l hl
      ·exact i1
     ·simp only [List.flatten_append,List.flatten_cons,List.flatten_nil,Qs]
      rw [Zim,hs]
      exact i2
theorem Zmd:∀ (f:Nat) (ts:List Tok) (names:Names) r,Worded ts→Zcs f ts names=some r→IsT f r.1∧scan r.1 names.length=some r.2.2.length:=by
 intro f
 induction f with
 | zero=>intro ts names r _ h; simp [Zcs] at h
 | succ f ih =>
  intro ts names r hw h
  cases ts with
  | nil=>simp [Zcs] at h
  | cons t ts =>
   rw [Zcs] at h
   split at h
   ·simp at h; subst h
    exact ⟨Or.inl ⟨_,rfl⟩,by rw [Zsw]; rfl⟩
   ·cases ts with
    | nil=>simp [Ziu] at h
    | cons u us =>
     have ht:t.text≠[]:=hw 0 t rfl (by simp)
     rw [Ziu] at h
     split at h
     ·simp at h; subst h
      exact ⟨Or.inr ⟨t.text,[],ht,rfl,by simp⟩,by simp [scan,ht]⟩
     ·rw [Option.map_eq_some_iff] at h
      obtain ⟨q,hq,rfl⟩:=h
      obtain ⟨g1,g2⟩:=Yad f ih names.length _ _ _ _ _ hw.tail (by simp) rfl hq
      exact ⟨Or.inr ⟨t.text,q.1,ht,rfl,g1⟩,by simpa [scan,ht] using g2⟩
theorem Zgi (f:Nat) (k0:Nat):∀ (g:Nat) (ts:List Tok) (names:Names) (acc:List (List Sym)) q,Worded ts→(∀ l ∈ acc,IsT f l)→scan acc.flatten k0=some names.length→Zcy f g ts names acc=some q →
  (∀ l ∈ q.1,IsT f l)∧scan q.1.flatten k0=some q.2.2.length∧Worded q.2.1:=by
 intro g
 induction g with
 | zero=>intro ts names acc q _ _ _ h; simp [Zcy] at h
 | succ g ih =>
  intro ts names acc q hw ha hs h
  rw [Zcy] at h
  cases hq:Zcs f ts names with
  | none=>rw [hq] at h; simp at h
  | some r =>
   rw [hq] at h
   simp only at h
   obtain ⟨i1,i2⟩:=Zmd f ts names r hw hq
   obtain ⟨n,_,_,hn,_⟩:=Zfq f ts names r hq
   have hw1:Worded r.2.1:=by rw [hn]; exact hw.drop n
   have ha1:∀ l ∈ acc++[r.1],IsT f l:=by
    intro l hl
    simp at hl
    rcases hl with hl | rfl
    ·exact ha l hl
    ·exact i1
   have hs1:scan (acc++[r.1]).flatten k0=some r.2.2.length:=by
    simp only [List.flatten_append,List.flatten_cons,List.flatten_nil,Qs]
    rw [Zim,hs]
    exact i2
   cases hr:r.2.1 with
   | nil=>rw [hr] at h; simp at h
   | cons x rest =>
    rw [hr] at h hw1
    simp only at h
    split at h
    ·simp at h; subst h
     exact ⟨ha1,hs1,hw1.tail⟩
    ·exact ih rest r.2.2 (acc++[r.1]) q hw1.tail ha1 hs1 h
def Good (c:Cls):Prop:=IsT 1000 c.head∧(∀ l ∈ c.body,IsT 1000 l)∧∃ k1 k2,scan c.head 0=some k1∧scan c.body.flatten k1=some k2
theorem Zme (ts:List Tok) (c:Cls × List Tok) (hw:Worded ts) (h:Zeb ts=some c):Good c.1∧Worded c.2:=by
 rw [Zeb] at h
 cases hp:Zcs 1000 ts [] with
 | none=>rw [hp] at h; simp at h
 | some r =>
  rw [hp] at h
  simp only at h
  obtain ⟨i1,i2⟩:=Zmd 1000 ts [] r hw hp
  obtain ⟨n,_,_,hn,_⟩:=Zfq 1000 ts [] r hp
  have hw1:Worded r.2.1:=by rw [hn]; exact hw.drop n
  cases hr:r.2.1 with
  | nil=>rw [hr] at h; simp at h
  | cons y ys =>
   rw [hr] at h hw1
   simp only at h
   split at h
   ·rw [Option.map_eq_some_iff] at h
    obtain ⟨q,hq,rfl⟩:=h
    obtain ⟨g1,g2,g3⟩:=Zgi 1000 r.2.2.length 1000 ys r.2.2 [] q hw1.tail (by simp) rfl hq
    exact ⟨⟨i1,g1,_,_,i2,g2⟩,g3⟩
   ·simp at h
    subst h
    exact ⟨⟨i1,by simp,_,_,i2,rfl⟩,hw1.tail⟩
theorem Yae:∀ (g:Nat) (ts:List Tok) (acc cs:List Cls),Worded ts→(∀ c ∈ acc,Good c)→Zgr g ts acc=some cs→∀ c ∈ cs,Good c:=by
 intro g
 induction g with
 | zero=>intro ts acc cs _ _ h; simp [Zgr] at h
 | succ g ih =>
  intro ts acc cs hw ha h
  cases ts with
  | nil=>simp [Zgr] at h
  | cons t ts =>
   rw [Zgr] at h
   split at h
   ·simp at h; subst h; exact ha
   ·cases hc:Zeb (t::ts) with
    | none=>rw [hc] at h; simp at h
    | some c =>
     rw [hc] at h
     simp only at h
     obtain ⟨g1,g2⟩:=Zme _ c hw hc
     refine ih c.2 (acc++[c.1]) cs g2 ?_ h
     intro x hx
     simp at hx
     rcases hx with hx | rfl
     ·exact ha x hx
     ·exact g1
theorem Zqq (ls:List (List Sym)) (l:List Sym) (h:l ∈ ls):l.length≤ls.flatten.length:=by
 induction ls with
 | nil=>simp at h
 | cons x ls ih =>
  simp only [Qp] at h
  rw [List.flatten_cons,Qg]
  rcases h with rfl | h
  ·omega
  ·have:=ih h; omega
theorem Ydz:∀ (f:Nat) (l:List Sym),IsT f l→∀ s ∈ l,s.args≤l.length∧(s.name=[]∨s.num=0):=by
 intro f
 induction f with
 | zero=>intro l h; exact h.elim
 | succ f ih =>
  intro l h s hs
  rcases h with ⟨n,rfl⟩ | ⟨nm,ls,h1,rfl,h2⟩
  ·simp at hs; subst hs; simp
  ·have hfl:=Zom f ls h2
   simp only [Qp] at hs
   rcases hs with rfl | hs
   ·exact ⟨by simp only [Qf]; omega,Or.inr rfl⟩
   ·rw [List.mem_flatten] at hs
    obtain ⟨l',hl',hs⟩:=hs
    obtain ⟨a1,a2⟩:=ih l' (h2 l' hl') s hs
    have:=Zqq ls l' hl'
    exact ⟨by simp only [Qf]; omega,a2⟩
theorem Yiw (f:Nat) (l:List Sym) (k k':Nat) (h:IsT f l) (hs:scan l k=some k') (hl:l.length≤1000) (hk:k'≤2600):Ydu l:=by
 refine ⟨by omega,fun s hm => ?_⟩
 obtain ⟨a1,a2⟩:=Ydz f l h s hm
 obtain ⟨_,_,b3⟩:=Zei l k k' hs
 refine ⟨?_,by omega⟩
 rcases a2 with a2 | a2
 ·have:=b3 s hm a2; omega
 ·omega
theorem Ygx (f:Nat):∀ (ls:List (List Sym)) (k k':Nat),(∀ l ∈ ls,IsT f l)→scan ls.flatten k=some k'→ls.flatten.length≤1000→k'≤2600→∀ l ∈ ls,Ydu l:=by
 intro ls
 induction ls with
 | nil=>intro k k' _ _ _ _ l hl; simp at hl
 | cons l ls ih =>
  intro k k' hT hs hl hk x hx
  rw [List.flatten_cons] at hs hl
  rw [Qg] at hl
  obtain ⟨j,h1,h2⟩:=Zoy hs
  obtain ⟨b1,_,_⟩:=Zei _ _ _ h2
  simp only [Qp] at hx
  rcases hx with rfl | hx
  ·exact Yiw f x k j (hT x (by simp)) h1 (by omega) (by omega)
  ·exact ih j k' (fun y hy=>hT y (by simp [hy])) h2 (by omega) hk x hx
def topN (q:List (List Sym) × Names):ND:=⟨q.1.map (fun t=>(t,0)),(List.range q.2.length).map vr,[],[],q.2.length⟩
def meet (n:Nat) (met:List Nat):List Nat:=if met.idxOf n=met.length then met++[n] else met
def Zaq:List Sym→List Nat→List Sym × List Nat
 | [],met=>([],met)
 | s::r,met=>if s.name=[] then (⟨[],met.idxOf s.num,s.args⟩::(Zaq r (meet s.num met)).1,(Zaq r (meet s.num met)).2) else (s::(Zaq r met).1,(Zaq r met).2)
def Zau:List (List Sym)→List Nat→List (List Sym) × List Nat
 | [],met=>([],met)
 | t::ts,met=>((Zaq t met).1::(Zau ts (Zaq t met).2).1,(Zau ts (Zaq t met).2).2)
theorem Ziy (a b:List Sym) (met:List Nat):Zaq (a++b) met=((Zaq a met).1++(Zaq b (Zaq a met).2).1,(Zaq b (Zaq a met).2).2):=by
 induction a generalizing met with
 | nil=>rfl
 | cons s a ih=>simp only [List.cons_append,Zaq,ih]; split <;> rfl
theorem Zoz (a b:List (List Sym)) (met:List Nat):Zau (a++b) met=((Zau a met).1++(Zau b (Zau a met).2).1,(Zau b (Zau a met).2).2):=by
 induction a generalizing met with
 | nil=>rfl
 | cons s a ih=>simp only [List.cons_append,Zau,ih]
theorem Zfa (ts:List (List Sym)) (met:List Nat):(Zau ts met).1.length=ts.length:=by
 induction ts generalizing met with
 | nil=>rfl
 | cons t ts ih=>simp [Zau,ih]
theorem Ziz (l:List Sym) (met:List Nat):(Zaq l met).1.length=l.length:=by
 induction l generalizing met with
 | nil=>rfl
 | cons s l ih=>simp only [Zaq]; split <;> simp [ih]
theorem Zqr {f:Nat→Nat} {met:List Nat} {n:Nat} (h:∀ m ∈ met,f m=f n→m=n):(met.map f).idxOf (f n)=met.idxOf n:=by
 induction met with
 | nil=>rfl
 | cons m met ih =>
  simp only [List.map_cons,List.idxOf_cons]
  by_cases e:m=n
  ·subst e; simp
  ·have e':¬ f m=f n:=fun h'=>e (h m (by simp) h')
   have b1:(f m == f n)=false:=by rw [Qu]; exact e'
   have b2:(m == n)=false:=by rw [Qu]; exact e
   rw [b1,b2]
   simp only [cond_false]
   rw [ih (fun x hx=>h x (by simp [hx]))]
theorem Yea {f:Nat→Nat} {met:List Nat} {n:Nat} (h:∀ m ∈ met,f m=f n→m=n):meet (f n) (met.map f)=(meet n met).map f:=by
 unfold meet
 rw [Zqr h]
 simp only [Ql]
 split <;> simp
theorem Zuv {n m:Nat} {met:List Nat} (h:m ∈ meet n met):m ∈ met∨m=n:=by
 unfold meet at h
 split at h
 ·simpa using h
 ·exact Or.inl h
theorem Zwu {l:List Sym} {met:List Nat} {m:Nat} (h:m ∈ (Zaq l met).2):m ∈ met∨Occ m l:=by
 induction l generalizing met with
 | nil=>exact Or.inl h
 | cons s l ih =>
  simp only [Zaq] at h
  split at h
  ·rename_i hs
   rcases ih h with h | h
   ·rcases Zuv h with h | rfl
    ·exact Or.inl h
    ·exact Or.inr ⟨s,by simp,hs,rfl⟩
   ·obtain ⟨t,ht,h1,h2⟩:=h
    exact Or.inr ⟨t,by simp [ht],h1,h2⟩
  ·rcases ih h with h | h
   ·exact Or.inl h
   ·obtain ⟨t,ht,h1,h2⟩:=h
    exact Or.inr ⟨t,by simp [ht],h1,h2⟩
theorem Zwv {f:Nat→Nat} {V:Nat→Prop} (hf:∀ a b,V a→V b→f a=f b→a=b):∀ {l:List Sym} {met:List Nat},(∀ s ∈ l,s.name=[]→s.args=0)→(∀ m ∈ met,V m)→(∀ v,Occ v l→V v) →
  Zaq (l.map (ren f)) (met.map f)=((Zaq l met).1,(Zaq l met).2.map f):=by
 intro l
 induction l with
 | nil=>intro met _ _ _; rfl
 | cons s l ih =>
  intro met ha hm hv
  have hv':∀ v,Occ v l→V v:=fun v ⟨t,ht,h1,h2⟩=>hv v ⟨t,by simp [ht],h1,h2⟩
  have ha':∀ s ∈ l,s.name=[]→s.args=0:=fun t ht=>ha t (by simp [ht])
  by_cases hs:s.name=[]
  ·have hV:V s.num:=hv s.num ⟨s,by simp,hs,rfl⟩
   have e:ren f s=⟨[],f s.num,0⟩:=by simp [ren,hs]
   have hi:∀ m ∈ met,f m=f s.num→m=s.num:=fun m hm' h=>hf m s.num (hm m hm') hV h
   simp only [List.map_cons,Zaq,e,hs,if_true]
   rw [Zqr hi,Yea hi,ih ha' (fun m h=>by
    rcases Zuv h with h | rfl
    ·exact hm m h
    ·exact hV) hv',ha s (by simp) hs]
  ·have e:ren f s=s:=by simp [ren,hs]
   simp only [List.map_cons,Zaq,e,hs,if_false]
   rw [ih ha' hm hv']
theorem Zww {f:Nat→Nat} {V:Nat→Prop} (hf:∀ a b,V a→V b→f a=f b→a=b):∀ {ts:List (List Sym)} {met:List Nat},(∀ t ∈ ts,∀ s ∈ t,s.name=[]→s.args=0)→(∀ m ∈ met,V m)→(∀ t ∈ ts,∀ v,Occ v t→V v) →
  Zau (ts.map (List.map (ren f))) (met.map f)=((Zau ts met).1,(Zau ts met).2.map f):=by
 intro ts
 induction ts with
 | nil=>intro met _ _ _; rfl
 | cons t ts ih =>
  intro met ha hm hv
  simp only [List.map_cons,Zau]
  rw [Zwv hf (ha t (by simp)) hm (hv t (by simp))]
  simp only
  rw [ih (fun t h=>ha t (by simp [h])) (fun m h=>by
   rcases Zwu h with h | h
   ·exact hm m h
   ·exact hv t (by simp) m h) (fun t h=>hv t (by simp [h]))]
theorem Zsx:∀ {l:List Sym} {k:Nat},Wf k l→∀ s ∈ l,s.name=[]→s.args=0:=by
 intro l
 induction l with
 | nil=>intro k _ s hs; simp at hs
 | cons t l ih =>
  intro k h s hs
  obtain ⟨_,h1,_,h2⟩:=h
  rcases Qp.1 hs with rfl | hs
  ·exact h1
  ·exact ih h2 s hs
theorem Zqs {xs ys:List (List Sym)} (h:Alike xs ys) (hw:∀ x ∈ xs,Wf 1 x):(Zau ys []).1=(Zau xs []).1:=by
 obtain ⟨f,g,e,hg⟩:=h.ren
 have:=Zww (f:=f) (V:=fun v=>∃ x ∈ xs,Occ v x) (fun a b ⟨x,hx,ha⟩ ⟨y,hy,hb⟩ e=>by rw [← hg x hx a ha,← hg y hy b hb,e]) (ts:=xs) (met:=[]) (fun t ht=>Zsx (hw t ht)) (by simp) (fun t ht v hv=>⟨t,ht,hv⟩)
 simp only [List.map_nil] at this
 rw [← e] at this
 rw [this]
theorem Inst.part {a b a' b':List (List Sym)} (h:Inst (a++b) (a'++b')) (hl:a.length=a'.length):Inst a a'∧Inst b b':=by
 obtain ⟨τ,ht,e⟩:=h
 obtain ⟨e1,e2⟩:=Zql e hl.symm
 exact ⟨⟨τ,ht,e1⟩,τ,ht,e2⟩
theorem Alike.part {a b a' b':List (List Sym)} (h:Alike (a++b) (a'++b')) (hl:a.length=a'.length):Alike a a'∧Alike b b' :=
 ⟨⟨(h.1.part hl).1,(h.2.part hl.symm).1⟩,(h.1.part hl).2,(h.2.part hl.symm).2⟩
theorem Same.vals {n m:ND} (h:Same n m):Alike n.vals m.vals:=by
 have:=(h.al.part (by simp [h.gl])).2
 exact (this.part h.vl).1
theorem Same.valsC {n m:ND} (h:Same n m) (hn:NOk n):(Zau n.vals []).1=(Zau m.vals []).1 :=
 (Zqs h.vals (fun x hx=>hn.wf x (by simp [ND.terms,hx]))).symm
theorem Zwx (n:Nat) (seen:List Nat):wvar n seen=(Zef (seen.idxOf n),meet n seen):=by
 unfold wvar meet
 by_cases h:n ∈ seen
 ·have:=List.idxOf_lt_length_of_mem h
  rw [if_pos h,if_neg (by omega)]
 ·have e:seen.idxOf n=seen.length:=List.idxOf_eq_length h
  rw [if_neg h,if_pos e,e]
theorem Zwy (f:Nat) (IH:∀ l,IsT f l→∀ seen,(Zcj f l seen).2.1=(Zaq l seen).2∧∀ rest miss,Zby ((Zaq l seen).1++rest) miss=(Zcj f l seen).1++((Zbt miss).1++Zby rest (Zbt miss).2)) :
  ∀ (ls:List (List Sym)),ls≠[]→(∀ l ∈ ls,IsT f l)→∀ (seen:List Nat) (sep:UInt8),(Zev f sep ls seen).2=(Zaq ls.flatten seen).2 ∧
   ∀ rest miss,sep::Zby ((Zaq ls.flatten seen).1++rest) (ls.length::miss)=(Zev f sep ls seen).1++(41::((Zbt miss).1++Zby rest (Zbt miss).2)):=by
 intro ls
 induction ls with
 | nil=>intro h; exact absurd rfl h
 | cons l ls ih =>
  intro _ hls seen sep
  rw [List.flatten_cons,Ziy]
  obtain ⟨w1,w2⟩:=IH l (hls l (by simp)) seen
  cases ls with
  | nil =>
   simp only [List.flatten_nil,Zaq,Zev,w1,Qs]
   refine ⟨trivial,fun rest miss => ?_⟩
   rw [w2]
   simp [Zbt]
  | cons l2 ls2 =>
   obtain ⟨v1,v2⟩:=ih (by simp) (fun x hx=>hls x (by simp [hx])) (Zaq l seen).2 44
   have hk:Zev f sep (l::l2::ls2) seen=(sep::((Zcj f l seen).1++(Zev f 44 (l2::ls2) (Zaq l seen).2).1),(Zev f 44 (l2::ls2) (Zaq l seen).2).2):=by
    rw [Zev,w1]
   rw [hk]
   refine ⟨v1,fun rest miss => ?_⟩
   simp only [Qi]
   rw [w2]
   have hc:Zbt ((l::l2::ls2).length::miss)=([44],(l2::ls2).length::miss):=by simp [Zbt]
   rw [hc]
   have:=v2 rest miss
   simp only [List.cons_append,List.nil_append,Qi]
   rw [this]
theorem Zqt:∀ (f:Nat) (l:List Sym),IsT f l→∀ seen,(Zcj f l seen).2.1=(Zaq l seen).2∧∀ rest miss,Zby ((Zaq l seen).1++rest) miss=(Zcj f l seen).1++((Zbt miss).1++Zby rest (Zbt miss).2):=by
 intro f
 induction f with
 | zero=>intro l h; exact h.elim
 | succ f ih =>
  intro l h seen
  rcases h with ⟨n,rfl⟩ | ⟨nm,ls,h1,rfl,h2⟩
  ·simp [Zcj,Zwx,Zaq,Zby,symC]
  ·have hc:Zaq (⟨nm,0,ls.length⟩::ls.flatten) seen=(⟨nm,0,ls.length⟩::(Zaq ls.flatten seen).1,(Zaq ls.flatten seen).2):=by
    simp [Zaq,h1]
   rw [hc]
   cases hls:ls with
   | nil=>simp [Zcj,Zby,symC,h1,Zaq]
   | cons l0 ls0 =>
    rw [← hls]
    have hne:ls≠[]:=by rw [hls]; simp
    have hw:=Zjq f nm ls h1 h2 hne seen
    obtain ⟨v1,v2⟩:=Zwy f ih ls hne h2 seen 40
    rw [hw]
    refine ⟨v1,fun rest miss => ?_⟩
    have hpos:0<ls.length:=by rw [hls]; simp
    have:=v2 rest miss
    simp only [List.cons_append,Zby,hpos,if_true,symC,h1,if_false,Qi]
    rw [this]
    simp
theorem Zsy {f:Nat} {l:List Sym} (h:IsT f l) (seen:List Nat):(Zcj f l seen).1=Zby (Zaq l seen).1 []∧(Zcj f l seen).2.1=(Zaq l seen).2:=by
 obtain ⟨h1,h2⟩:=Zqt f l h seen
 have:=h2 [] []
 simp only [Qs,Zbt,Zby] at this
 exact ⟨this.symm,h1⟩
theorem Yix:∀ (n:Nat) {l:List Sym},l.length≤n→Wf 1 l→IsT n l:=by
 intro n
 induction n with
 | zero=>intro l hl h; have:=Zdy h; omega
 | succ n ih =>
  intro l hl h
  obtain ⟨s,r,rfl,hr,hv⟩:=Zul h
  by_cases hs:s.name=[]
  ·exact Or.inl ⟨s.num,hv hs⟩
  ·obtain ⟨_,_,h3,_⟩:=h
   obtain ⟨ls,e1,rfl,hls⟩:=Zqj _ hr
   refine Or.inr ⟨s.name,ls,hs,?_,fun l' hl' => ?_⟩
   ·rw [e1,← h3 hs]
   ·have:=Zcg hl'
    simp only [Qf] at hl
    exact ih (by omega) (hls l' hl')
def Zdb (s:ByteArray):Option (List Cls) :=
 if 800<s.size then none else if (Zge (Zaz s) (Zcp false)).1≠0 then none else Zgr 1000 (Zaz s) []
def Zex (s:ByteArray):Option (List (List Sym) × Names) :=
 if 120<s.size then none else if (Zge (Zaz s) (Zcp true)).1≠0 then none else (Zcy 1000 1000 (Zaz s) [] []).map (fun q=>(q.1,q.2.2))
def Zgj:List UInt8→Names→List (List Sym)→List UInt8
 | sep,x::xs,t::ts=>sep++(x++(61::(Zby t []++Zgj [44] xs ts)))
 | _,_,_=>[]
def Zdf (names:Names) (n:ND):List UInt8:=if names=[] then [121,101,115] else Zgj [] names (Zau n.vals []).1
def Zfi:List UInt8→List Nat→List UInt8
 | _,[]=>[]
 | sep,k::ks=>sep++(Lib.decDigits k++Zfi [46] ks)
def Zja (n:ND):List UInt8:=Zfi [] n.used
noncomputable def Zfj (cs:List Cls):ND→List Nat→Nat→ND × Nat × Nat
 | n,[],i=>if n.goals=[] then (n,0,0) else (n,7,i)
 | n,k::ks,i=>match cs[k]? with
  | none=>(n,7,i)
  | some c=>if n.goals=[] then (n,7,i) else if (tryN n c k).2=1∨(tryN n c k).2=2 then Zfj cs (tryN n c k).1 ks (i+1) else (n,7,i)
end Go.Proofs.YtlmjilpjmgjjcaaGreatDoor
