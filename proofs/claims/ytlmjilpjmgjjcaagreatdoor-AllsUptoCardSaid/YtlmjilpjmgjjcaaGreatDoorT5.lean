/-
  PROVED HERE: plain facts on what is read out of a text that is let in: its clauses and its atoms are as tries want them (the conditions stand in each statement).
-/
import Derived.Test.YtlmjilpjmgjjcaaGreatDoorT4
import Derived.Deep.RegionWith
set_option linter.unusedSimpArgs false
set_option linter.unusedVariables false
set_option maxRecDepth 10000
set_option maxHeartbeats 4000000
namespace Go.Proofs.YtlmjilpjmgjjcaaGreatDoor
structure SB (st:RS):Prop where
 next:st.next≤5
 atom:st.atom.length≤30
 empty:st.next≠2→st.next≠3→st.next≠4→st.atom=[]
 head:st.head.length≤30
 body:∀ l ∈ st.body,l.length≤30
 bodyn:st.body.length≤6
 inb:st.next=2∨st.next=3∨st.next=4→st.body.length≤5
 cls:∀ c ∈ st.clauses,c.head.length≤30∧(∀ l ∈ c.body,l.length≤30)∧c.body.length≤6
 clsn:st.clauses.length≤24
 clsb:st.next≠0→st.next≠5→st.clauses.length≤23
 fresh:st.next=0→st.body=[]
 an:∀ s ∈ st.atom,s.name.length≤8
 hn:∀ s ∈ st.head,s.name.length≤8
 bn:∀ l ∈ st.body,∀ s ∈ l,s.name.length≤8
 vn:∀ x ∈ st.vars,x.length≤8
 cn:∀ c ∈ st.clauses,(∀ s ∈ c.head,s.name.length≤8)∧(∀ l ∈ c.body,∀ s ∈ l,s.name.length≤8)∧∀ x ∈ c.names,x.length≤8
theorem SB.endAtom {st:RS} (h:SB st) (h5:st.body.length≤5):(Zaw st).atom=[]∧(Zaw st).head.length≤30∧(∀ l ∈ (Zaw st).body,l.length≤30)∧(Zaw st).body.length≤6∧(Zaw st).clauses=st.clauses∧(∀ s ∈ (Zaw st).head,s.name.length≤8)∧(∀ l ∈ (Zaw st).body,∀ s ∈ l,s.name.length≤8)∧(Zaw st).vars=st.vars:=by
 unfold Zaw
 split
 ·refine ⟨rfl,h.head,?_,by simp; omega,rfl,h.hn,?_,rfl⟩
  ·intro l hl
   simp at hl
   rcases hl with hl | rfl
   ·exact h.body l hl
   ·exact h.atom
  ·intro l hl
   simp at hl
   rcases hl with hl | rfl
   ·exact h.bn l hl
   ·exact h.an
 ·exact ⟨rfl,h.atom,h.body,by simpa using h.bodyn,rfl,h.an,h.bn,rfl⟩
theorem Zoh (st:RS) (h:∀ s ∈ st.atom,s.name.length≤8):∀ s ∈ Zco st,s.name.length≤8:=by
 unfold Zco
 split
 ·exact h
 ·intro s hs
  rw [List.mem_iff_getElem?] at hs
  obtain ⟨i,hi⟩:=hs
  rw [List.getElem?_modify] at hi
  simp only [Option.map_eq_map,Option.map_eq_some_iff] at hi
  obtain ⟨t,ht,e⟩:=hi
  have:=h t (Qh ht)
  split at e
  ·rw [← e]; exact this
  ·rw [← e]; exact this
theorem SB.take {st:RS} {kd len:Nat} {t:List UInt8} (h:SB st) (hc:Zbx st kd len=0) (hlen:len=t.length):SB (Zbp st kd t):=by
 have hs:=Zjc hc
 obtain ⟨k1,k7,_,_⟩:=Zjd hs h.next
 have hfull:kd=1∨kd=2→Zfb st=false:=by
  intro hk
  unfold Zbx at hc
  rw [if_neg (by simp [hs])] at hc
  split at hc
  ·omega
  ·rename_i h'
   cases hf:Zfb st with
   | false=>rfl
   | true=>exact absurd ⟨hk,Or.inr hf⟩ h'
 have h8:kd=1∨kd=2→t.length≤8:=by
  intro hk
  unfold Zbx at hc
  rw [if_neg (by simp [hs])] at hc
  split at hc
  ·omega
  ·rename_i h'
   rcases Nat.lt_or_ge 8 len with h9 | h9
   ·exact absurd ⟨hk,Or.inl h9⟩ h'
   ·omega
 have hnext:kd=1∨kd=2→st.next=0∨st.next=1∨st.next=2:=by
  intro hk
  unfold Zbo at hs
  split at hs
  ·omega
  ·split at hs
   ·omega
   ·split at hs
    ·rcases hk with rfl | rfl
     ·simp [Zbw] at hs
     ·simp [Zbw] at hs
    ·split at hs
     ·rcases hk with rfl | rfl
      ·simp [Zbw] at hs
      ·simp [Zbw] at hs
     ·simp at hs
 have hother:¬ (kd=1∨kd=2)→st.next=3∨st.next=4:=by
  intro hk
  unfold Zbo at hs
  split at hs
  ·simp at hs; omega
  ·split at hs
   ·simp at hs; omega
   ·split at hs
    ·omega
    ·split at hs
     ·omega
     ·simp at hs
 have add:(kd=1∨kd=2)→st.atom.length+1≤30∧st.body.length≤5∧st.clauses.length≤23:=by
  intro hk
  have hf:=hfull hk
  unfold Zfb at hf
  rcases hnext hk with h0 | h0 | h0
  ·rw [if_pos h0] at hf
   simp at hf
   have:=h.empty (by omega) (by omega) (by omega)
   have hb:=h.fresh h0
   exact ⟨by simp [this],by simp [hb],by omega⟩
  ·rw [if_neg (by omega),if_pos h0] at hf
   simp at hf
   have:=h.empty (by omega) (by omega) (by omega)
   exact ⟨by simp [this],by omega,h.clsb (by omega) (by omega)⟩
  ·rw [if_neg (by omega),if_neg (by omega),if_pos h0] at hf
   simp at hf
   exact ⟨by omega,h.inb (Or.inl h0),h.clsb (by omega) (by omega)⟩
 have h34:¬ (kd=1∨kd=2)→st.body.length≤5∧st.clauses.length≤23:=fun hk=>by
  have:=hother hk
  exact ⟨h.inb (by omega),h.clsb (by omega) (by omega)⟩
 unfold Zbp
 split
 ·rename_i hk
  obtain ⟨a1,a2,a3⟩:=add (Or.inl hk)
  exact ⟨by simp,by simp [addS,Zlq]; omega,fun _ h3=>absurd rfl h3,h.head,h.body,h.bodyn,fun _=>a2,h.cls,h.clsn,fun _ _=>a3,fun e=>by simp at e,fun s hs=>by
   simp only [addS,Qk,List.mem_singleton] at hs
   rcases hs with hs | rfl
   ·exact Zoh st h.an s hs
   ·exact h8 (Or.inl hk),h.hn,h.bn,h.vn,h.cn⟩
 ·split
  ·rename_i hk
   obtain ⟨a1,a2,a3⟩:=add (Or.inr hk)
   have hb:(Zco (varS st t)).length=st.atom.length:=Zlq _
   exact ⟨by simp,by simp [addS,hb]; omega,fun _ _ h4=>absurd rfl h4,h.head,h.body,h.bodyn,fun _=>a2,h.cls,h.clsn,fun _ _=>a3,fun e=>by simp at e,fun s hs=>by
    simp only [addS,Qk,List.mem_singleton] at hs
    rcases hs with hs | rfl
    ·exact Zoh (varS st t) h.an s hs
    ·simp,h.hn,h.bn,fun x hx=>by
    simp only [addS,varS,Zbl] at hx
    split at hx
    ·exact h.vn x hx
    ·rcases Qk.1 hx with hx | hx
     ·exact h.vn x hx
     ·simp at hx; subst hx; exact h8 (Or.inr hk),h.cn⟩
  ·rename_i n1 n2
   obtain ⟨b1,b2⟩:=h34 (by omega)
   obtain ⟨e1,e2,e3,e4,e5,e6,e7,e8⟩:=h.endAtom b1
   split
   ·exact ⟨by simp,h.atom,fun h2=>absurd rfl h2,h.head,h.body,h.bodyn,fun _=>b1,h.cls,h.clsn,fun _ _=>b2,fun e=>by simp at e,h.an,h.hn,h.bn,h.vn,h.cn⟩
   ·split
    ·exact ⟨by simp,h.atom,fun _ _ h4=>absurd rfl h4,h.head,h.body,h.bodyn,fun _=>b1,h.cls,h.clsn,fun _ _=>b2,fun e=>by simp at e,h.an,h.hn,h.bn,h.vn,h.cn⟩
    ·split
     ·unfold Zgc
      split
      ·exact ⟨by simp,by simp [e1],fun _ _ _=>e1,e2,e3,e4,fun h=>by simp at h,by rw [e5]; exact h.cls,by rw [e5]; exact h.clsn,fun _ _=>by rw [e5]; exact b2,fun e=>by simp at e,by simp [e1],e6,e7,by rw [e8]; exact h.vn,by rw [e5]; exact h.cn⟩
      ·exact ⟨by simp,h.atom,fun h2=>absurd rfl h2,h.head,h.body,h.bodyn,fun _=>b1,h.cls,h.clsn,fun _ _=>b2,fun e=>by simp at e,h.an,h.hn,h.bn,h.vn,h.cn⟩
     ·split
      ·exact ⟨by simp,by simp [e1],fun _ _ _=>e1,e2,e3,e4,fun h=>by simp at h,by rw [e5]; exact h.cls,by rw [e5]; exact h.clsn,fun _ _=>by rw [e5]; exact b2,fun e=>by simp at e,by simp [e1],e6,e7,by rw [e8]; exact h.vn,by rw [e5]; exact h.cn⟩
      ·split
       ·have hn:(Zas (Zaw st)).next=0∨(Zas (Zaw st)).next=5:=by unfold Zas; simp only; split <;> simp
        refine ⟨by omega,by simp [Zas,e1],fun _ _ _=>by simp [Zas,e1],by simp [Zas],by simp [Zas],by simp [Zas],fun _=>by simp [Zas],?_,?_,fun h0 h5=>by omega,fun _=>by simp [Zas],by simp [Zas,e1],by simp [Zas],by simp [Zas],by simp [Zas],?_⟩
        ·intro c hc'
         simp only [Zas,e5,Qk,List.mem_singleton] at hc'
         rcases hc' with hc' | rfl
         ·exact h.cls c hc'
         ·exact ⟨e2,e3,e4⟩
        ·simp [Zas,e5]; omega
        ·intro c hc'
         simp only [Zas,e5,Qk,List.mem_singleton] at hc'
         rcases hc' with hc' | rfl
         ·exact h.cn c hc'
         ·exact ⟨e6,e7,by rw [e8]; exact h.vn⟩
       ·exact h
theorem SB.run {e:Nat}:∀ {ts:List Tok} {st:RS},SB st→(runT e ts st).1=0→SB (runT e ts st).2.2:=by
 intro ts
 induction ts with
 | nil=>intro st h _; unfold runT; split <;> exact h
 | cons t ts ih =>
  intro st h h0
  unfold runT at h0 ⊢
  split at h0
  ·rename_i hc; exact absurd h0 hc
  ·rename_i hc
   rw [if_neg hc]
   exact ih (h.take (len:=t.text.length) (by omega) rfl) h0
theorem SB.start (q:Bool):SB ⟨q,if q then 1 else 0,q,[],[],[],[],[],[]⟩:=by
 cases q <;> exact ⟨by simp,by simp,fun _ _ _=>rfl,by simp,by simp,by simp,fun _=>by simp,by simp,by simp,fun _ _=>by simp,fun _=>rfl,by simp,by simp,by simp,by simp,by simp⟩
end Go.Proofs.YtlmjilpjmgjjcaaGreatDoor
namespace Go.Proofs.YtlmjilpjmgjjcaaGreatDoor
open Go.RowKit
theorem Zxm (n:Nat) (h:n<10):(⟨#[48,49,50,51,52,53,54,55,56,57,97,98,99,100,101,102,103,104,105,106,107,108,109,110,111,112,113,114,115,116,117,118,119,120,121,122]⟩:ByteArray).extract n (n+1)=⟨(Lib.decDigits n).toArray⟩:=by
 have:∀ n,n<10→((⟨#[48,49,50,51,52,53,54,55,56,57,97,98,99,100,101,102,103,104,105,106,107,108,109,110,111,112,113,114,115,116,117,118,119,120,121,122]⟩:ByteArray).extract n (n+1)).data.toList=[UInt8.ofNat (48+n)]:=by decide +kernel
 apply ByteArray.ext
 apply Array.ext'
 rw [this n h,Lib.decDigits,dif_pos h]
set_option maxRecDepth 20000 in
theorem Zxn (n:Nat) (h:n<100) (h10:¬ n<10):(⟨#[48,48,48,49,48,50,48,51,48,52,48,53,48,54,48,55,48,56,48,57,49,48,49,49,49,50,49,51,49,52,49,53,49,54,49,55,49,56,49,57,50,48,50,49,50,50,50,51,50,52,50,53,50,54,50,55,50,56,50,57,51,48,51,49,51,50,51,51,51,52,51,53,51,54,51,55,51,56,51,57,52,48,52,49,52,50,52,51,52,52,52,53,52,54,52,55,52,56,52,57,53,48,53,49,53,50,53,51,53,52,53,53,53,54,53,55,53,56,53,57,54,48,54,49,54,50,54,51,54,52,54,53,54,54,54,55,54,56,54,57,55,48,55,49,55,50,55,51,55,52,55,53,55,54,55,55,55,56,55,57,56,48,56,49,56,50,56,51,56,52,56,53,56,54,56,55,56,56,56,57,57,48,57,49,57,50,57,51,57,52,57,53,57,54,57,55,57,56,57,57]⟩:ByteArray).extract (n * 2) (n * 2+2)=⟨(Lib.decDigits n).toArray⟩:=by
 have:∀ n,n<100→((⟨#[48,48,48,49,48,50,48,51,48,52,48,53,48,54,48,55,48,56,48,57,49,48,49,49,49,50,49,51,49,52,49,53,49,54,49,55,49,56,49,57,50,48,50,49,50,50,50,51,50,52,50,53,50,54,50,55,50,56,50,57,51,48,51,49,51,50,51,51,51,52,51,53,51,54,51,55,51,56,51,57,52,48,52,49,52,50,52,51,52,52,52,53,52,54,52,55,52,56,52,57,53,48,53,49,53,50,53,51,53,52,53,53,53,54,53,55,53,56,53,57,54,48,54,49,54,50,54,51,54,52,54,53,54,54,54,55,54,56,54,57,55,48,55,49,55,50,55,51,55,52,55,53,55,54,55,55,55,56,55,57,56,48,56,49,56,50,56,51,56,52,56,53,56,54,56,55,56,56,56,57,57,48,57,49,57,50,57,51,57,52,57,53,57,54,57,55,57,56,57,57]⟩:ByteArray).extract (n * 2) (n * 2+2)).data.toList=[UInt8.ofNat (48+n / 10),UInt8.ofNat (48+n % 10)]:=by decide +kernel
 apply ByteArray.ext
 apply Array.ext'
 rw [this n h,Lib.decDigits,dif_neg h10,Lib.decDigits,dif_pos (by omega)]
 rfl
theorem Zoi (n:Nat):Utf8.encode (65+(n:Int) % 26)=⟨[UInt8.ofNat (65+n % 26)].toArray⟩:=by
 have:∀ m:Nat,m<26→(Utf8.encode (65+(m:Int))).data.toList=[UInt8.ofNat (65+m)]:=by decide +kernel
 rw [show (n:Int) % 26=((n % 26:Nat):Int) from by omega]
 apply ByteArray.ext
 apply Array.ext'
 rw [this (n % 26) (by omega)]
set_option maxRecDepth 20000 in
theorem Yaq (n:Nat) (w:World) (h:n<100):Calls Tryz.prog 122 #[.int .i64 n] w fun e w'=>e = .returned (.string ⟨(Lib.decDigits n).toArray⟩)∧w'=w:=by
 by_cases h10:n<10
 ·go_enter Tryz.func122,Tryz.ntmps122
  go_wp2
  go_ret
  exact ⟨Zhs (Zxm n h10),rfl⟩
 ·go_enter Tryz.func122,Tryz.ntmps122
  go_wp2
  go_ret
  exact ⟨Zhs (Zxn n h h10),rfl⟩
theorem Zxo (n:Nat) (w:World) (h:n<100):Calls Tryz.prog 95 #[.int .i64 n,.int .i64 10] w fun e w'=>e = .returned (.string ⟨(Lib.decDigits n).toArray⟩)∧w'=w:=by
 go_enter Tryz.func95,Tryz.ntmps95
 go_wp2_with fail
 refine (Yaq n _ h).mono ?_
 rintro e w' ⟨rfl,rfl⟩
 go_wp2
 go_ret
 exact ⟨rfl,rfl⟩
theorem Yar (n:Nat) (w:World) (h:n<100):Calls Tryz.prog 66 #[.int .i64 n] w fun e w'=>e = .returned (.string ⟨(Lib.decDigits n).toArray⟩)∧w'=w:=by
 go_enter Tryz.func66,Tryz.ntmps66
 go_wp2_with fail
 refine (Zxo n _ h).mono ?_
 rintro e w' ⟨rfl,rfl⟩
 go_wp2
 go_ret
 exact ⟨rfl,rfl⟩
theorem Yds (n:Nat) (w:World) (h:n<100):Calls Tryz.prog 41 #[.int .i64 n] w fun e w'=>e = .returned (.string ⟨(Lib.decDigits n).toArray⟩)∧w'=w:=by
 go_enter Tryz.func41,Tryz.ntmps41
 go_wp2_with fail
 refine (Yar n _ h).mono ?_
 rintro e w' ⟨rfl,rfl⟩
 go_wp2
 go_ret
 exact ⟨rfl,rfl⟩
theorem Ztk (n:Nat) (w:World) (h:n<2600):Calls Tryz.prog 174 #[.int .i64 n] w fun e w'=>e = .returned (.string ⟨(Zdr n).toArray⟩)∧w'=w:=by
 by_cases h26:n<26
 ·have hd:(n:Int) / 26=0:=by omega
  go_enter Tryz.func174,Tryz.ntmps174
  go_wp2
  go_ret
  refine ⟨Zhs ((Zoi n).trans ?_),rfl⟩
  rw [Zdr,if_pos h26,Nat.mod_eq_of_lt h26]
 ·have hd:((n:Int) / 26 == 0)=false:=by rw [Qu]; omega
  go_enter Tryz.func174,Tryz.ntmps174
  go_wp2_with fail
  refine (Yds (n / 26) _ (by omega)).mono ?_
  rintro e w' ⟨rfl,rfl⟩
  have hlen:=Zpg (n / 26)
  have henc:=Zoi n
  have Henc:=Zaa henc
  have hsz:(Utf8.encode (65+(n:Int) % 26)).size=1:=by rw [henc]; rfl
  clear henc
  go_wp2
  go_ret
  refine ⟨Zhs ?_,rfl⟩
  show Utf8.encode (65+(n:Int) % 26)++_=_
  rw [Henc.out,Zcf,Zdr,if_neg h26]
  rfl
def symC (s:Sym):List UInt8:=if s.name=[] then Zdr s.num else s.name
theorem Znm (s:Sym) (w:World) (h:s.num<2600):Calls Tryz.prog 135 #[.agg #[.string ⟨s.name.toArray⟩,.int .i64 s.num,.int .i64 s.args]] w fun e w'=>e = .returned (.string ⟨(symC s).toArray⟩)∧Below w.heap.size w w':=by
 cases hn:s.name with
 | nil =>
  have Hc:Hid (symC s=Zdr s.num):=by show _=_; simp [symC,hn]
  clear hn
  go_enter Tryz.func135,Tryz.ntmps135
  go_wp2_with fail
  refine (Ztk s.num _ h).mono ?_
  rintro e w' ⟨rfl,rfl⟩
  go_wp2
  go_ret
  rw [Hc.out]
  exact ⟨rfl,(Below.refl _ _).alloc (Qe _) _⟩
 | cons c r =>
  have Hc:Hid (symC s=c::r):=by show _=_; simp [symC,hn]
  clear hn
  go_enter Tryz.func135,Tryz.ntmps135
  go_wp2
  go_ret
  rw [Hc.out]
  exact ⟨rfl,(Below.refl _ _).alloc (Qe _) _⟩
def TokAt (w:World) (b:Nat) (t:Nat × Nat × Nat):Prop:=w.heap[b]?=some (.cells #[.int .i64 t.1,.int .i64 t.2.1,.int .i64 t.2.2] 224 (0,0))
def FaultAt (w:World) (b:Nat) (e p:Nat):Prop:=w.heap[b]?=some (.cells #[.int .i64 e,.int .i64 p] 91 (0,0))
theorem TokAt.cells {w:World} {b:Nat} {t:Nat × Nat × Nat} (h:TokAt w b t):b<w.heap.size∧w.cell? ⟨b,0,none⟩=some (.int .i64 t.1)∧w.cell? ⟨b,1,none⟩=some (.int .i64 t.2.1)∧w.cell? ⟨b,2,none⟩=some (.int .i64 t.2.2)∧∀ i,w.frozen? ⟨b,i,none⟩=false :=
 ⟨Zac h,Zab h 0 _ rfl,Zab h 1 _ rfl,Zab h 2 _ rfl,fun i=>Zae h i⟩
theorem FaultAt.cells {w:World} {b e p:Nat} (h:FaultAt w b e p):b<w.heap.size∧w.cell? ⟨b,0,none⟩=some (.int .i64 e)∧w.cell? ⟨b,1,none⟩=some (.int .i64 p)∧∀ i,w.frozen? ⟨b,i,none⟩=false :=
 ⟨Zac h,Zab h 0 _ rfl,Zab h 1 _ rfl,fun i=>Zae h i⟩
theorem TokAt.held {w w':World} {B b:Nat} {t:Nat × Nat × Nat} (h:TokAt w b t) (hk:Held B w w'):TokAt w' b t:=(hk.other b _ _ _ h (Or.inl rfl)).trans h
theorem FaultAt.held {w w':World} {B b e p:Nat} (h:FaultAt w b e p) (hk:Held B w w'):FaultAt w' b e p:=(hk.other b _ _ _ h (Or.inr rfl)).trans h
theorem TokAt.kept {S:Nat→Prop} {w w':World} {b:Nat} {t:Nat × Nat × Nat} (h:TokAt w b t) (hk:Kept S w w') (hs:¬ S b):TokAt w' b t:=(hk.block b (Zac h) hs).trans h
theorem FaultAt.kept {S:Nat→Prop} {w w':World} {b e p:Nat} (h:FaultAt w b e p) (hk:Kept S w w') (hs:¬ S b):FaultAt w' b e p:=(hk.block b (Zac h) hs).trans h
theorem Kept.untouched {w w':World} (h:Below w.heap.size w w'):Kept Zbf w w':=⟨h.os,h.tape,h.output,h.size,fun k hk _=>h.block k hk⟩
theorem IsRx.fresh {w w':World} {B rb:Nat} {st:RS} (h:IsRx w B rb st) (hk:Kept Zbf w w'):IsRx w' B rb st:=by
 obtain ⟨V,Sa,Sb,vs,xs,h⟩:=h
 exact ⟨V,Sa,Sb,vs,xs,h.fresh hk⟩
theorem IsRx.aside {w w':World} {B rb k:Nat} {st:RS} {cs:Array Value} {T:TypeId} {fr:Nat × Nat} (h:IsRx w B rb st) (hb:w.heap[k]?=some (.cells cs T fr)) (hT:T=224∨T=91) (hk:Kept (only k) w w'):IsRx w' B rb st:=by
 obtain ⟨V,Sa,Sb,vs,xs,h⟩:=h
 have hr:rb≠k:=fun e=>by
  have e1:=h.blk
  rw [e,hb] at e1
  simp only [Qo,Obj.cells.injEq] at e1
  rcases hT with h1 | h1 <;> exact absurd (e1.2.1.symm.trans h1) (by decide)
 have hX:∀ {Br:Nat} {e:TypeId} {s n:Nat} {v:Value} {ys:List Value},w.ownsRow Br e s v n ys→e≠224→e≠91→w'.ownsRow Br e s v n ys:=fun ho h1 h2 =>
  hk.owns ho (fun i hi e=>by
   have e:i=k:=e
   subst e
   rcases hT with rfl | rfl
   ·exact Zah ho h1 hb hi
   ·exact Zah ho h2 hb hi)
 have hS:∀ {v:Value} {l:List Sym},SymRow w B Sa v l→SymRow w' B Sa v l:=fun hs=>⟨hX hs.1 (by decide) (by decide),hs.2⟩
 have hBd:∀ {v:Value} {ls:List (List Sym)} {us:List Value},BodyRow w B Sa v ls us→BodyRow w' B Sa v ls us:=fun hs=>⟨hX hs.1 (by decide) (by decide),fun i l hl=>by
  obtain ⟨x,h1,h2⟩:=hs.2 i l hl
  exact ⟨x,h1,hS h2⟩⟩
 have r:=h.rest
 exact ⟨V,Sa,Sb,vs,xs,(hk.block rb (Zac h.blk) hr).trans h.blk,⟨hX r.atom (by decide) (by decide),hX r.opn (by decide) (by decide),hX r.vars (by decide) (by decide),hS r.head,hBd r.body,
  ⟨hX r.cls.1 (by decide) (by decide),r.cls.2.1,r.cls.2.2.1,fun i c hc=>by
   obtain ⟨hv,bv,vv,us,e1,e2,e3,e4⟩:=r.cls.2.2.2 i c hc
   exact ⟨hv,bv,vv,us,e1,hS e2,hBd e3,e4.1,hX e4.2.1 (by decide) (by decide),e4.2.2⟩⟩,r.ta,r.tb,r.tv,Qq r.la hk.size,Qq r.lb hk.size⟩,h.le⟩
theorem IsRx.le {w:World} {B rb:Nat} {st:RS} (h:IsRx w B rb st):B≤w.heap.size:=by
 obtain ⟨V,Sa,Sb,vs,xs,h⟩:=h
 have:=h.le
 have:=Zac h.blk
 omega
theorem IsRx.look {w:World} {B rb:Nat} {st:RS} (h:IsRx w B rb st):∃ V,ROpen w B rb st V:=by
 obtain ⟨V,Sa,Sb,vs,xs,h⟩:=h
 exact ⟨V,h.opens⟩
theorem Zik {w wr:World} {B rb b e0 p0:Nat} {st:RS} (hr:IsRx wr B rb st) (hf:FaultAt wr b e0 p0) (hB:B≤b) (hbw:Below B w wr) (x y:Value) :
  IsRx ((wr.setCell ⟨b,0,none⟩ x).setCell ⟨b,1,none⟩ y) B rb st∧Below B w ((wr.setCell ⟨b,0,none⟩ x).setCell ⟨b,1,none⟩ y) :=
 ⟨hr.aside hf (Or.inr rfl) (((Qx (only b) wr).put 0 x).put 1 y),(hbw.setCell (p:=⟨b,0,none⟩) hB x).setCell (p:=⟨b,1,none⟩) hB y⟩
theorem Zje (w:World) (B rb:Nat) (st:RS) (s:ByteArray) (h:IsRx w B rb st) (hi:RI 0 st) (hs:s.size≤4000) :
  Calls Tryz.prog 98 #[.pointer (some ⟨rb,0,none⟩),.string s] w fun e w' =>
   e = .returned (.agg #[.int .i64 (runT s.size (toks s.data.toList 0) st).1,.int .i64 (runT s.size (toks s.data.toList 0) st).2.1])∧IsRx w' B rb (runT s.size (toks s.data.toList 0) st).2.2∧Below B w w':=by
 obtain ⟨R,hR⟩:∃ R,R=runT s.size (toks s.data.toList 0) st:=⟨_,rfl⟩
 rw [← hR]
 have hBw:=h.le
 have HR:=Zaa hR
 have H:=Zaa h
 have Hi:=Zaa hi
 clear h hi hR
 go_enter Tryz.func98,Tryz.ntmps98
 go_wp2_with fail
 refine (Zve s 0 _ (by omega) (Qm _)).mono ?_
 rintro e w1 ⟨rfl,hb1⟩
 have hF0:FaultAt (w.alloc (.cells #[.int .i64 0,.int .i64 0] 91)) w.heap.size 0 0:=heap_alloc_new w _
 have hk1:Kept Zbf w w1:=((Qx _ w).alloc _).trans (Kept.untouched hb1)
 have HF1:=Zaa (hF0.kept (Kept.untouched hb1) (fun h=>h))
 have H1:=Zaa (H.out.fresh hk1)
 have HB1:=Zaa (hk1.below hBw (fun _ h=>h.elim))
 have hlt:w.heap.size<w1.heap.size:=Zac HF1.out
 clear hF0 hk1 hb1
 go_wp2
 go_loopg [] (s.size+1) (fun gk wr=>∃ (n:Nat) (st':RS),n≤s.size∧s.size - n<gk∧TokAt wr w1.heap.size (Zmb s n)∧FaultAt wr w.heap.size 0 0∧IsRx wr B rb st'∧RI n st'∧runT s.size (toks (s.data.toList.drop n) n) st'=R∧Below B w wr)
 case atStart =>
  refine ⟨0,st,Qm _,by omega,heap_alloc_new w1 _,HF1.out.kept ((Qx Zbf w1).alloc _) (fun h=>h),H1.out.fresh ((Qx _ w1).alloc _),Hi.out,?_,HB1.out.alloc (Qq hBw HB1.out.size) _⟩
  rw [HR.out]; rfl
 case round =>
  obtain ⟨n,st',hn,hgk,htok,hflt,hr,hri,hrun,hbw⟩:=hrel
  obtain ⟨hrb,c0,c1,c2,_,cf⟩:=hr.cells
  obtain ⟨hT4,f0,f1,ff⟩:=hflt.cells
  have hn5:=hri.next
  have h45:¬ w.heap.size=w1.heap.size:=by omega
  have hr4:¬ rb=w.heap.size:=fun e=>by
   obtain ⟨V,Sa,Sb,vs,xs,h⟩:=hr
   have e1:=h.blk
   rw [e,hflt] at e1
   simp at e1
  rcases Yak s n hn with ⟨hnx,htk⟩ | ⟨t,q,hnx,htk,hkd,hnp,hpq,hqs,htx,htl⟩
  ·rw [hnx] at htok
   rw [htk,runT] at hrun
   obtain ⟨hT5,t0,t1,t2,tf⟩:=htok.cells
   simp only at t0 t1 t2
   have Hr:=Zaa hr
   have Hflt:=Zaa hflt
   have Hbw:=Zaa hbw
   clear htok hflt hr hri htk hnx hbw
   by_cases h0:st'.next=0
   ·rw [if_neg (by omega)] at hrun
    rw [h0] at c1
    have Hrun:=Zaa hrun
    clear hrun h0
    go_wp2
    refine bodyPost_ret (v := .agg #[.int .i64 0,.int .i64 0]) (by simp [results,Tryz.results98,go_sem,f0,f1,ff,hT4]) rfl ?_
    rw [← Hrun.out]
    exact ⟨rfl,Zik Hr.out Hflt.out (by omega) Hbw.out _ _⟩
   ·by_cases h5:st'.next=5
    ·rw [if_neg (by omega)] at hrun
     rw [h5] at c1
     have Hrun:=Zaa hrun
     clear hrun h0 h5
     go_wp2
     refine bodyPost_ret (v := .agg #[.int .i64 0,.int .i64 0]) (by simp [results,Tryz.results98,go_sem,f0,f1,ff,hT4]) rfl ?_
     rw [← Hrun.out]
     exact ⟨rfl,Zik Hr.out Hflt.out (by omega) Hbw.out _ _⟩
    ·rw [if_pos ⟨h0,h5⟩] at hrun
     have b0:((st'.next:Int) != 0)=true:=by rw [bne_iff_ne]; omega
     have b5:((st'.next:Int) != 5)=true:=by rw [bne_iff_ne]; omega
     have Hrun:=Zaa hrun
     clear hrun h0 h5
     go_wp2
     refine bodyPost_ret (v := .agg #[.int .i64 2,.int .i64 s.size]) (by simp [results,Tryz.results98,go_sem,f0,f1,ff,hT4]) rfl ?_
     rw [← Hrun.out]
     exact ⟨rfl,Zik Hr.out Hflt.out (by omega) Hbw.out _ _⟩
  ·rw [hnx] at htok
   rw [htk,runT,htl] at hrun
   obtain ⟨hT5,t0,t1,t2,tf⟩:=htok.cells
   simp only at t0 t1 t2
   obtain ⟨kd,hkm⟩:∃ kd,kd=kmap t.kind:=⟨_,rfl⟩
   rw [← hkm] at htok t0 hrun
   have hkd1:1≤kd:=by
    rw [hkm]
    rcases hkd with h | h | h | h | h | h | h | h <;> rw [h] <;> decide
   have bk:((kd:Int) != 0)=true:=by rw [bne_iff_ne]; omega
   obtain ⟨V,hlook⟩:=hr.look
   have HC:=Zaa (Yaa wr B rb st' V kd t.pos q hlook (hri.bd (by omega)) hn5 (by omega) (by omega))
   have Hr:=Zaa hr
   have Hflt:=Zaa hflt
   have Htok:=Zaa htok
   have Hbw:=Zaa hbw
   have Hri:=Zaa hri
   have Htx:=Zaa htx
   clear htok hflt hr hri htk hnx hbw hlook htx hkd hkm htl
   by_cases hc:Zbx st' kd (q - t.pos)=0
   ·rw [if_neg (by simp [hc])] at hrun
    have hstand:=Zjc hc
    have Hrun:=Zaa hrun
    have HT:=Zaa (Hri.out.takes (by omega) hstand)
    have Hri':=Zaa ((Hri.out.take t.text hstand).at (m:=q) (by omega))
    rw [hc] at HC
    clear hrun hc hstand
    go_wp2_with fail
    refine HC.out.mono ?_
    rintro e w2 ⟨rfl,hk2⟩
    have Hr2:=Zaa (Hr.out.fresh hk2)
    have Hflt2:=Zaa (Hflt.out.kept hk2 (fun h=>h))
    have Htok2:=Zaa (Htok.out.kept hk2 (fun h=>h))
    have Hbw2:=Zaa (Hbw.out.trans (hk2.below (by omega) (fun _ h=>h.elim)))
    obtain ⟨x5,x0,x1,x2,xf⟩:=Htok2.out.cells
    simp only at x0 x1 x2
    have hsz2:=hk2.size
    clear hk2 t0 t1 t2 tf c0 c1 c2 cf f0 f1 ff
    go_wp2_with fail
    go_region_with (first
     | (go_at_call 133; refine (Zxf s kd t.pos q _ ?_ ?_ ?_).mono ?_; (· omega); (· omega); (· omega); rintro e w3 ⟨rfl,hk3⟩; rw [Htx.out]; have Hr3:=Zaa (Hr2.out.fresh (((Qx Zbf w2).drewN 1).trans hk3)); have Hflt3:=Zaa (Hflt2.out.kept (((Qx Zbf w2).drewN 1).trans hk3) (fun h=>h)); have Htok3:=Zaa (Htok2.out.kept (((Qx Zbf w2).drewN 1).trans hk3) (fun h=>h)); obtain ⟨y5,y0,y1,y2,yf⟩:=Htok3.out.cells; simp only at y0 y1 y2; have Hk3:=Zaa hk3; clear hk3)
     | (go_at_call 132; refine (Ydl _ B rb st' kd t.text Hr3.out HT.out).mono ?_; rintro e w4 ⟨rfl,hr4',hh4⟩; have Hr4:=Zaa hr4'; have Hh4:=Zaa hh4; clear hr4' hh4))
    all_goals
     have hbw4:Below B w w4:=(Hbw2.out.trans (Kept.below (((Qx Zbf w2).drewN 1).trans Hk3.out) (by omega) (fun _ h=>h.elim))).trans Hh4.out.below
     have Hflt4:=Zaa (Hflt3.out.held Hh4.out)
     have Htok4:=Zaa (Htok3.out.held Hh4.out)
     obtain ⟨z5,z0,z1,z2,zf⟩:=Htok4.out.cells
     simp only at z0 z1 z2
     have Hbw4:=Zaa hbw4
     clear hbw4 x0 x1 x2 xf y0 y1 y2 yf
     go_wp2_with fail
     refine (Zve s q _ (by omega) hqs).mono ?_
     rintro e w5 ⟨rfl,hb5⟩
     have hk5:=Kept.untouched hb5
     have Htok5:=Zaa (Htok4.out.kept hk5 (fun h=>h))
     have Hflt5:=Zaa (Hflt4.out.kept hk5 (fun h=>h))
     have Hr5:=Zaa (Hr4.out.fresh hk5)
     have Hbw5:=Zaa (Hbw4.out.trans (hk5.below Hr4.out.le (fun _ h=>h.elim)))
     obtain ⟨v5,v0,v1,v2,vf⟩:=Htok5.out.cells
     simp only at v0 v1 v2
     clear hk5 hb5 z0 z1 z2 zf
     go_wp2
     go_roundg (s.size - q+1)
     case measure=>omega
     case rel =>
      have hB5:B≤w1.heap.size:=by omega
      refine ⟨q,Zbp st' kd t.text,hqs,by omega,?_,?_,?_,Hri'.out,Hrun.out,?_⟩
      ·unfold TokAt
       rw [Zai (Zai (Zai Htok5.out 0 _) 1 _) 2 _]
       rfl
      ·exact Hflt5.out.kept ((((Qx (only w1.heap.size) w5).put 0 _).put 1 _).put 2 _) (fun e=>h45 e)
      ·exact Hr5.out.aside Htok5.out (Or.inl rfl) ((((Qx (only w1.heap.size) w5).put 0 _).put 1 _).put 2 _)
      ·exact ((Hbw5.out.setCell (p:=⟨w1.heap.size,0,none⟩) hB5 _).setCell (p:=⟨w1.heap.size,1,none⟩) hB5 _).setCell (p:=⟨w1.heap.size,2,none⟩) hB5 _
   ·rw [if_pos hc] at hrun
    have bc:((Zbx st' kd (q - t.pos):Int) != 0)=true:=by rw [bne_iff_ne]; omega
    have Hrun:=Zaa hrun
    clear hrun hc
    go_wp2_with fail
    refine HC.out.mono ?_
    rintro e w2 ⟨rfl,hk2⟩
    have Hr2:=Zaa (Hr.out.fresh hk2)
    have Hflt2:=Zaa (Hflt.out.kept hk2 (fun h=>h))
    have Htok2:=Zaa (Htok.out.kept hk2 (fun h=>h))
    have Hbw2:=Zaa (Hbw.out.trans (hk2.below (by omega) (fun _ h=>h.elim)))
    obtain ⟨x5,x0,x1,x2,xf⟩:=Htok2.out.cells
    simp only at x0 x1 x2
    obtain ⟨g4,g0,g1,gf⟩:=Hflt2.out.cells
    clear hk2 t0 t1 t2 tf c0 c1 c2 cf f0 f1 ff
    go_wp2
    refine bodyPost_ret (v := .agg #[.int .i64 (Zbx st' kd (q - t.pos)),.int .i64 t.pos]) (by simp [results,Tryz.results98,go_sem,g0,g1,gf,g4]) rfl ?_
    rw [← Hrun.out]
    exact ⟨rfl,Zik Hr2.out Hflt2.out (by omega) Hbw2.out _ _⟩
def Zbz:List Nat→List UInt8 × List Nat
 | []=>([],[])
 | n::r=>if 1<n then ([44],(n - 1)::r) else (41::(Zbz r).1,(Zbz r).2)
def Zck:List Sym→List Nat→List UInt8
 | [],_=>[]
 | s::r,miss=>if 0<s.args then symC s++40::Zck r (s.args::miss) else symC s++((Zbz miss).1++Zck r (Zbz miss).2)
theorem Ztl {a b c:List UInt8} (h:a++b=c):a.length+b.length=c.length:=by rw [← h]; simp
theorem Zrp (w:World) (B:Nat) (v:Value) (l:List Sym) (ho:w.ownsRow B 133 3 v l.length (Zam l)) (hl:l.length≤4000) (hn:∀ s ∈ l,s.num<2600∧s.args≤4096) (hL:(Zck l []).length≤100000000) :
  Calls Tryz.prog 100 #[v] w fun e w'=>e = .returned (.string ⟨(Zck l []).toArray⟩)∧Below w.heap.size w w':=by
 obtain ⟨F,hF⟩:∃ F,F=Zck l []:=⟨_,rfl⟩
 rw [← hF] at hL ⊢
 obtain ⟨va,vcap,rfl⟩:=Zad ho
 have Ho:=Zaa ho
 have HF:=Zaa hF
 have Hn:=Zaa hn
 clear ho hF hn
 go_enter Tryz.func100,Tryz.ntmps100
 go_wp2
 go_loopg [3,4,10] (l.length+1) (fun gk tx mv i wr=>∃ (k:Nat) (acc:List UInt8) (miss:List Nat),i = .int .i64 k∧k≤l.length∧l.length - k<gk∧tx = .string ⟨acc.toArray⟩∧acc++Zck (l.drop k) miss=F ∧
   wr.ownsRow w.heap.size 3 1 mv miss.length (ints miss.reverse)∧Below w.heap.size w wr∧miss.length≤k∧∀ m ∈ miss,1≤m∧m≤4096)
 case atStart=>exact ⟨0,[],[],rfl,Qm _,by omega,rfl,by rw [HF.out]; rfl,World.ownsRow_nil _ _ _ _,Below.refl _ _,Qm _,by simp⟩
 case round =>
  obtain ⟨k,acc,miss,rfl,hk,hgk,rfl,hacc,hmo,hbw,hmk,hmm⟩:=hrel
  obtain ⟨ma,mcap,rfl⟩:=Zad hmo
  have hsz:=hbw.size
  by_cases hlt:k<l.length
  ·obtain ⟨s,hs⟩:∃ s,l[k]?=some s:=⟨_,Qb hlt⟩
   have hd:l.drop k=s::l.drop (k+1):=by
    rw [List.drop_eq_getElem_cons hlt]
    rw [Qb hlt] at hs
    simp at hs
    rw [hs]
   rw [hd,Zck] at hacc
   obtain ⟨hsn,hsa⟩:=Hn.out s (Qh hs)
   have ho:=(Kept.untouched hbw).owns Ho.out (fun _ _ h=>h)
   obtain ⟨g,cap',cur,he,hBg,hg,hcp⟩:=Zan ho (by omega)
   simp only [Value.slice.injEq] at he
   obtain ⟨rfl,_,rfl⟩:=he
   have hgl:g<w.heap.size:=(Ho.out.lt g rfl).2
   have e0:wr.cell? ⟨g,k * 3,none⟩=some (.string ⟨s.name.toArray⟩):=Zaf ho _ _ (by have:=Zbg l k s hs 0 (by omega); rw [Nat.add_zero] at this; rw [this]; rfl)
   have e1:wr.cell? ⟨g,k * 3+1,none⟩=some (.int .i64 s.num):=Zaf ho _ _ (by rw [Zbg l k s hs 1 (by omega)]; rfl)
   have e2:wr.cell? ⟨g,k * 3+2,none⟩=some (.int .i64 s.args):=Zaf ho _ _ (by rw [Zbg l k s hs 2 (by omega)]; rfl)
   have Hacc:=Zaa hacc
   have Hmo:=Zaa hmo
   have Hbw:=Zaa hbw
   have Hmm:=Zaa hmm
   have Hd:=Zaa hd
   clear hacc hmo hbw hmm hd hs ho hg
   go_wp2_with fail
   refine (Znm s _ hsn).mono ?_
   rintro e w1 ⟨rfl,hb1⟩
   have hk1:Kept Zbf wr w1:=((Qx _ wr).alloc _).trans (Kept.untouched hb1)
   have hbox:w1.heap[wr.heap.size]?=some (.cells #[.string ⟨s.name.toArray⟩,.int .i64 s.num,.int .i64 s.args] 133 (0,0)):=(hb1.block _ (by simp)).trans (heap_alloc_new wr _)
   have b2:w1.cell? ⟨wr.heap.size,2,none⟩=some (.int .i64 s.args):=Zab hbox 2 _ rfl
   have bl:=Zac hbox
   have Hmo1:=Zaa (hk1.owns Hmo.out (fun _ _ h=>h))
   have Hbw1:=Zaa (Hbw.out.trans (hk1.below hsz (fun _ h=>h.elim)))
   have hlen:=Ztl Hacc.out
   clear hk1 hbox hb1 e0 e1 e2
   by_cases ha:0<s.args
   ·have Hacc2:Hid (acc++symC s++[40]++Zck (l.drop (k+1)) (s.args::miss)=F):=by show _=_; rw [← Hacc.out,if_pos ha]; simp
    rw [if_pos ha] at hlen
    simp only [Qg,Qf] at hlen
    go_wp2_with (at_builtin; refine Zal _ rfl (.tmp 23) (.tmp 26) 25 rfl w.heap.size 3 Tryz.infoInt Tryz.underlying25 rfl (by decide) _ miss.length (ints miss.reverse) rfl Hmo1.out _ rfl (by simp) rfl (Ziv _) ?_ ?_ ?_)
    ·omega
    ·omega
    intro v' w2 hap
    have Hap:=Zaa hap
    clear hap
    go_wp2
    go_roundg (l.length - k)
    case measure=>omega
    case rel =>
     have hrow:=Hap.out.owns
     refine ⟨k+1,acc++symC s++[40],s.args::miss,by go_num,by omega,by omega,?_,Hacc2.out,?_,?_,by simp; omega,?_⟩
     ·show Value.string (_++_++(⟨[40].toArray⟩:ByteArray))=_
      rw [Zcf,Zcf]
     ·simpa [ints] using hrow
     ·refine Hbw1.out.trans (Hap.out.kept.below (by omega) (fun k hk=>(Hmo1.out.lt k hk).1))
     ·intro m hm
      simp only [Qp] at hm
      rcases hm with rfl | hm
      ·exact ⟨ha,hsa⟩
      ·exact Hmm.out m hm
   ·have Hacc2:Hid (acc++symC s++((Zbz miss).1++Zck (l.drop (k+1)) (Zbz miss).2)=F):=by show _=_; rw [← Hacc.out,if_neg ha]; simp
    rw [if_neg ha] at hlen
    simp only [Qg] at hlen
    go_wp2
    go_loopg [3,4] (miss.length+1) (fun gj ty mw wi=>∃ (acc':List UInt8) (miss':List Nat),miss'.length<gj∧ty = .string ⟨acc'.toArray⟩∧acc'++((Zbz miss').1++Zck (l.drop (k+1)) (Zbz miss').2)=F ∧
     wi.ownsRow w.heap.size 3 1 mw miss'.length (ints miss'.reverse)∧Below w.heap.size w wi∧miss'.length≤k∧∀ m ∈ miss',1≤m∧m≤4096)
    case atStart =>
     exact ⟨acc++symC s,miss,by omega,congrArg Value.string (Zcf _ _),Hacc2.out,Hmo1.out,Hbw1.out,hmk,Hmm.out⟩
    case round =>
     obtain ⟨acc',miss',hgj,rfl,hacc',hmo',hbw',hmk',hmm'⟩:=hrel
     obtain ⟨ma',mcap',rfl⟩:=Zad hmo'
     have hszi:=hbw'.size
     have hlen':=Ztl hacc'
     simp only [Qg] at hlen'
     cases hm:miss' with
     | nil =>
      have Hacc':=Zaa hacc'
      have Hmo':=Zaa hmo'
      have Hbw':=Zaa hbw'
      have Hm:=Zaa hm
      have hml:miss'.length=0:=by rw [hm]; rfl
      clear hacc' hmo' hbw' hm
      go_wp2
      go_roundg (l.length - k)
      case measure=>omega
      case rel =>
       refine ⟨k+1,acc',[],by go_num,by omega,by omega,rfl,?_,?_,Hbw'.out,by simp,by simp⟩
       ·have h:=Hacc'.out
        rw [Hm.out] at h
        simpa [Zbz] using h
       ·have h:=Hmo'.out
        rw [Hm.out] at h
        exact h
     | cons n r =>
      subst hm
      obtain ⟨hn1,hn2⟩:=hmm' n (by simp)
      obtain ⟨g',gcap',gcur',he',hBg',hg',hcap'⟩:=Zan hmo' (by simp)
      simp only [Value.slice.injEq] at he'
      obtain ⟨rfl,_,rfl⟩:=he'
      simp only [Qf] at hcap' hmo' hgj hmk'
      have cg:wr.cell? ⟨g',r.length,none⟩=some (.int .i64 n):=Zaf hmo' r.length _ (by simp [ints])
      have fg:=Zae hg' r.length
      have hgl':=Zac hg'
      have Hset:=Zaa (Zju hmo' r.length (.int .i64 ((n:Int) - 1)))
      have Hacc':=Zaa hacc'
      have Hbw':=Zaa hbw'
      have Hmm':=Zaa hmm'
      have Hbs:=Zaa (hbw'.setCell (p:=⟨g',r.length,none⟩) hBg' (.int .i64 ((n:Int) - 1)))
      clear hacc' hbw' hmm' hmo' hg'
      by_cases h1:1<n
      ·have Hcl:Hid (acc'++[44]++Zck (l.drop (k+1)) ((n - 1)::r)=F):=by show _=_; rw [← Hacc'.out]; simp [Zbz,h1]
       have hl1:(Zbz (n::r)).1.length=1:=by simp [Zbz,h1]
       rw [hl1] at hlen'
       have hd0:(0:Int)<(n:Int) - 1:=by omega
       go_wp2
       go_roundg (l.length - k)
       case measure=>omega
       case rel =>
        have hcast:(n:Int) - 1=((n - 1:Nat):Int):=by omega
        refine ⟨k+1,acc'++[44],(n - 1)::r,by go_num,by omega,by omega,?_,Hcl.out,?_,Hbs.out,by simp; omega,?_⟩
        ·show Value.string (_++(⟨[44].toArray⟩:ByteArray))=_
         rw [Zcf]
        ·have h:=Hset.out
         rw [hcast] at h ⊢
         simpa [ints] using h
        ·intro m hm
         simp only [Qp] at hm
         rcases hm with rfl | hm
         ·omega
         ·exact Hmm'.out m (by simp [hm])
      ·have Hcl:Hid (acc'++[41]++((Zbz r).1++Zck (l.drop (k+1)) (Zbz r).2)=F):=by show _=_; rw [← Hacc'.out]; simp [Zbz,h1]
       have hl1:(Zbz (n::r)).1.length=(Zbz r).1.length+1:=by simp [Zbz,h1]
       rw [hl1] at hlen'
       have hd0:¬ (0:Int)<(n:Int) - 1:=by omega
       have Hpop:=Zaa (Zpb (n:=r.length) Hset.out)
       go_wp2
       go_roundg (r.length+1)
       case measure=>omega
       case rel =>
        refine ⟨acc'++[41],r,by omega,?_,Hcl.out,?_,Hbs.out,by omega,fun m hm=>Hmm'.out m (by simp [hm])⟩
        ·show Value.string (_++(⟨[41].toArray⟩:ByteArray))=_
         rw [Zcf]
        ·have h:=Hpop.out
         have e:((ints (n::r).reverse).set r.length (.int .i64 ((n:Int) - 1))).take r.length=ints r.reverse:=by
          simp [ints,List.take_set]
         rw [e] at h
         exact h
  ·have hke:k=l.length:=by omega
   have Hacc:Hid (acc=F):=by
    show _=_
    rw [hke,List.drop_eq_nil_of_le (Qe _)] at hacc
    simpa [Zck] using hacc
   have Hbw:=Zaa hbw
   clear hacc hbw hmo
   go_wp2
   go_ret
   rw [← Hacc.out]
   exact ⟨rfl,Hbw.out⟩
def st0 (q:Bool):RS:=⟨q,if q then 1 else 0,q,[],[],[],[],[],[]⟩
theorem Ztm (q:Bool):RI 0 (st0 q):=by
 refine ⟨by simp [st0],by simp [st0],by simp [st0],by simp [st0],by simp [st0],by simp [st0],?_,by simp [st0],?_⟩
 ·cases q <;> simp [st0]
 ·cases q <;> simp [st0]
def nilV:RV:=⟨.slice none 0 0,.slice none 0 0,.slice none 0 0,.slice none 0 0,.slice none 0 0,.slice none 0 0⟩
theorem Yas (w:World) (q:Bool):IsRx (w.alloc (.cells (Zde (st0 q) nilV) 169)) w.heap.size w.heap.size (st0 q):=by
 refine ⟨nilV,0,0,[],[],heap_alloc_new w _,⟨World.ownsRow_nil _ _ _ _,World.ownsRow_nil _ _ _ _,World.ownsRow_nil _ _ _ _,⟨World.ownsRow_nil _ _ _ _,fun k e=>by simp [nilV,Value.ownBlock] at e⟩,⟨World.ownsRow_nil _ _ _ _,fun i l hl=>by simp [st0] at hl⟩,
  ⟨World.ownsRow_nil _ _ _ _,rfl,fun x hx=>by simp at hx,fun i c hc=>by simp [st0] at hc⟩,fun k e=>by simp [nilV,Value.ownBlock] at e,fun k e=>by simp [nilV,Value.ownBlock] at e,fun k e=>by simp [nilV,Value.ownBlock] at e,Qm _,Qm _⟩,Qe _⟩
def runs (s:ByteArray) (q:Bool):Nat × Nat × RS:=runT s.size (toks s.data.toList 0) (st0 q)
theorem Zvq {S:Nat→Prop} {w w':World} {B Sa Sb:Nat} {v:Value} {cs:List CC} {xs:List (List Value)} (h:CCRow w B Sa Sb v cs xs) (hk:Kept S w w') (hs:∀ k cur T fr,S k→w.heap[k]?=some (.cells cur T fr)→T≠133∧T≠105∧T≠107∧T≠9):CCRow w' B Sa Sb v cs xs:=by
 have hX:∀ {Br:Nat} {e:TypeId} {s n:Nat} {v:Value} {ys:List Value},w.ownsRow Br e s v n ys→(e=133∨e=105∨e=107∨e=9)→w'.ownsRow Br e s v n ys:=fun ho he =>
  hk.owns ho (fun i hi hS=>by
   obtain ⟨cur,hc⟩:=Zar ho i hi
   obtain ⟨h1,h2,h3,h4⟩:=hs i _ _ _ hS hc
   rcases he with he | he | he | he
   ·exact h1 he
   ·exact h2 he
   ·exact h3 he
   ·exact h4 he)
 have hS:∀ {v:Value} {l:List Sym},SymRow w B Sa v l→SymRow w' B Sa v l:=fun hs=>⟨hX hs.1 (Or.inl rfl),hs.2⟩
 refine ⟨hX h.1 (Or.inr (Or.inr (Or.inl rfl))),h.2.1,h.2.2.1,fun i c hc => ?_⟩
 obtain ⟨hv,bv,vv,us,e1,e2,e3,e4⟩:=h.2.2.2 i c hc
 exact ⟨hv,bv,vv,us,e1,hS e2,⟨hX e3.1 (Or.inr (Or.inl rfl)),fun i l hl=>by
  obtain ⟨x,h1,h2⟩:=e3.2 i l hl
  exact ⟨x,h1,hS h2⟩⟩,e4.1,hX e4.2.1 (Or.inr (Or.inr (Or.inr rfl))),e4.2.2⟩
theorem Yat {S:Nat→Prop} {w w':World} {B Sa:Nat} {v:Value} {ls:List (List Sym)} {us:List Value} (h:BodyRow w B Sa v ls us) (hk:Kept S w w') (hs:∀ k,S k→k<B):BodyRow w' B Sa v ls us:=by
 have hX:∀ {e:TypeId} {s n:Nat} {v:Value} {ys:List Value},w.ownsRow B e s v n ys→w'.ownsRow B e s v n ys:=fun ho =>
  hk.owns ho (fun i hi hS=>by
   have h1:=(ho.lt i hi).1
   have h2:=hs i hS
   omega)
 exact ⟨hX h.1,fun i l hl=>by
  obtain ⟨x,h1,h2⟩:=h.2 i l hl
  exact ⟨x,h1,hX h2.1,h2.2⟩⟩
theorem Zpr (s:ByteArray) (w:World) (hm:s.size≤maxLen) (hl:800<s.size) :
  Calls Tryz.prog 72 #[.string s] w fun e w'=>e = .returned (.tuple #[.slice none 0 0,.agg #[.int .i64 1,.int .i64 0]])∧Below w.heap.size w w':=by
 go_enter Tryz.func72,Tryz.ntmps72
 go_wp2
 refine bodyPost_ret (v := .tuple #[.slice none 0 0,.agg #[.int .i64 1,.int .i64 0]]) (by simp [results,Tryz.results72,go_sem]) rfl ⟨rfl,(Below.refl _ _).alloc (Qe _) _⟩
theorem Yfy (s:ByteArray) (w:World) (hl:s.size≤800) :
  Calls Tryz.prog 72 #[.string s] w fun e w'=>Below w.heap.size w w'∧(((runs s false).1≠0∧e = .returned (.tuple #[.slice none 0 0,.agg #[.int .i64 (runs s false).1,.int .i64 (runs s false).2.1]])) ∨
   ((runs s false).1=0∧∃ v B Sa Sb xs,e = .returned (.tuple #[v,.agg #[.int .i64 0,.int .i64 0]])∧CCRow w' B Sa Sb v (runs s false).2.2.clauses xs)):=by
 obtain ⟨R,hR⟩:∃ R,R=runs s false:=⟨_,rfl⟩
 have hA:=Zje ((w.alloc (.cells #[.int .i64 0,.int .i64 0] 91)).alloc (.cells (Zde (st0 false) nilV) 169)) _ _ (st0 false) s (Yas (w.alloc (.cells #[.int .i64 0,.int .i64 0] 91)) false) (Ztm false) (by omega)
 rw [show runT s.size (toks s.data.toList 0) (st0 false)=R from hR.symm] at hA
 rw [show (w.alloc (.cells #[.int .i64 0,.int .i64 0] 91)).heap.size=w.heap.size+1 from by simp] at hA
 have HA:=Zaa hA
 rw [← hR]
 clear hR hA
 go_enter Tryz.func72,Tryz.ntmps72
 go_wp2_with fail
 refine HA.out.mono ?_
 rintro e w2 ⟨rfl,hr,hb⟩
 have hF:FaultAt w2 w.heap.size 0 0:=(hb.block w.heap.size (by omega)).trans (Zag (heap_alloc_new w _) _)
 have hB:Below w.heap.size w w2:=((Below.refl _ w).alloc (Qe _) _).trans ((((Below.refl _ _).alloc (by simp) _)).trans (hb.mono (by omega)))
 obtain ⟨V,Sa,Sb,vs,xs,h⟩:=hr
 have hrb:=Zac h.blk
 obtain ⟨c0,c1,c2,c3,c4,c5,c6,c7,c8⟩:=h.opens.facts
 have cf:=fun i=>Zae h.blk i
 obtain ⟨ca,ccap,hvc⟩:=Zad h.rest.cls.1
 rw [hvc] at c8
 obtain ⟨hT4,f0,f1,ff⟩:=hF.cells
 have HF:=Zaa hF
 have HB:=Zaa hB
 have HC:=Zaa h.rest.cls
 have Hvc:=Zaa hvc
 clear hF hB h hvc hb c0 c1 c2 c3 c4 c5 c6 c7
 by_cases hc:R.1=0
 ·have b0:((R.1:Int) != 0)=false:=by rw [hc]; rfl
  have Hc:=Zaa hc
  clear hc
  go_wp2
  refine bodyPost_ret (v := .tuple #[.slice ca R.2.2.clauses.length ccap,.agg #[.int .i64 0,.int .i64 0]]) (by simp [results,Tryz.results72,go_sem,f0,f1,ff,hT4]) rfl ?_
  refine ⟨?_,Or.inr ⟨Hc.out,_,w.heap.size+1,Sa,Sb,xs,rfl,?_⟩⟩
  ·exact ((HB.out.setCell (p:=⟨w.heap.size,0,none⟩) (Qe _) _).setCell (p:=⟨w.heap.size,1,none⟩) (Qe _) _).alloc (by simp; omega) _
  ·rw [← Hvc.out]
   exact Zvq HC.out ((((Qx (only w.heap.size) w2).put 0 _).put 1 _).alloc _) (fun k cur T fr hk hb=>by
    have hk:k=w.heap.size:=hk
    rw [hk,HF.out] at hb
    simp only [Qo,Obj.cells.injEq] at hb
    rw [← hb.2.1]
    decide)
 ·have b0:((R.1:Int) != 0)=true:=by rw [bne_iff_ne]; omega
  have Hc:=Zaa hc
  clear hc
  go_wp2_with fail
  go_region
  all_goals
   go_wp2
   refine bodyPost_ret (v := .tuple #[.slice none 0 0,.agg #[.int .i64 R.1,.int .i64 R.2.1]]) (by simp [results,Tryz.results72,go_sem,f0,f1,ff,hT4]) rfl ?_
   refine ⟨?_,Or.inl ⟨Hc.out,rfl⟩⟩
   exact (((HB.out.setCell (p:=⟨w.heap.size,0,none⟩) (Qe _) _).setCell (p:=⟨w.heap.size,1,none⟩) (Qe _) _).alloc (by simp; omega) _).drew
theorem Ztn (s:ByteArray) (w:World) (hm:s.size≤maxLen) (hl:120<s.size) :
  Calls Tryz.prog 73 #[.string s] w fun e w'=>e = .returned (.tuple #[.agg #[.slice none 0 0,.slice none 0 0,.slice none 0 0],.agg #[.int .i64 1,.int .i64 0]])∧Below w.heap.size w w':=by
 go_enter Tryz.func73,Tryz.ntmps73
 go_wp2
 refine bodyPost_ret (v := .tuple #[.agg #[.slice none 0 0,.slice none 0 0,.slice none 0 0],.agg #[.int .i64 1,.int .i64 0]]) (by simp [results,Tryz.results73,go_sem]) rfl ⟨rfl,((Below.refl _ _).alloc (Qe _) _).alloc (by simp) _⟩
theorem Zxp (s:ByteArray) (w:World) (hl:s.size≤120) (hcl:(runs s true).1=0→∃ c cs,(runs s true).2.2.clauses=c::cs) :
  Calls Tryz.prog 73 #[.string s] w fun e w'=>Below w.heap.size w w'∧(((runs s true).1≠0∧e = .returned (.tuple #[.agg #[.slice none 0 0,.slice none 0 0,.slice none 0 0],.agg #[.int .i64 (runs s true).1,.int .i64 (runs s true).2.1]])) ∨
   ((runs s true).1=0∧∃ hv bv vv B Sa vs c cs,e = .returned (.tuple #[.agg #[hv,bv,vv],.agg #[.int .i64 0,.int .i64 0]])∧(runs s true).2.2.clauses=c::cs∧(∃ a n x,hv = .slice a n x)∧w'.ownsRow B 9 1 vv c.names.length (strs c.names)∧BodyRow w' B Sa bv c.body vs)):=by
 obtain ⟨R,hR⟩:∃ R,R=runs s true:=⟨_,rfl⟩
 have hA:=Zje (((w.alloc (.cells #[.slice none 0 0,.slice none 0 0,.slice none 0 0] 107)).alloc (.cells #[.int .i64 0,.int .i64 0] 91)).alloc (.cells (Zde (st0 true) nilV) 169)) _ _ (st0 true) s (Yas ((w.alloc (.cells #[.slice none 0 0,.slice none 0 0,.slice none 0 0] 107)).alloc (.cells #[.int .i64 0,.int .i64 0] 91)) true) (Ztm true) (by omega)
 rw [show runT s.size (toks s.data.toList 0) (st0 true)=R from hR.symm] at hA
 rw [show ((w.alloc (.cells #[.slice none 0 0,.slice none 0 0,.slice none 0 0] 107)).alloc (.cells #[.int .i64 0,.int .i64 0] 91)).heap.size=w.heap.size+1+1 from by simp] at hA
 have HA:=Zaa hA
 rw [← hR] at hcl ⊢
 have Hcl:=Zaa hcl
 clear hR hA hcl
 go_enter Tryz.func73,Tryz.ntmps73
 go_wp2_with fail
 refine HA.out.mono ?_
 rintro e w2 ⟨rfl,hr,hb⟩
 have hF:FaultAt w2 (w.heap.size+1) 0 0:=(hb.block (w.heap.size+1) (by omega)).trans (Zag (by have:=heap_alloc_new (w.alloc (.cells #[.slice none 0 0,.slice none 0 0,.slice none 0 0] 107)) (.cells #[.int .i64 0,.int .i64 0] 91); simpa using this) _)
 have hC:w2.heap[w.heap.size]?=some (.cells #[.slice none 0 0,.slice none 0 0,.slice none 0 0] 107 (0,0)):=(hb.block w.heap.size (by omega)).trans (Zag (Zag (heap_alloc_new w _) _) _)
 have hB:Below w.heap.size w w2:=((Below.refl _ w).alloc (Qe _) _).trans (((Below.refl _ _).alloc (by simp) _).trans (((Below.refl _ _).alloc (by simp; omega) _).trans (hb.mono (by omega))))
 obtain ⟨V,Sa,Sb,vs,xs,h⟩:=hr
 have hrb:=Zac h.blk
 obtain ⟨c0,c1,c2,c3,c4,c5,c6,c7,c8⟩:=h.opens.facts
 have cf:=fun i=>Zae h.blk i
 obtain ⟨ca,ccap,hvc⟩:=Zad h.rest.cls.1
 rw [hvc] at c8
 obtain ⟨hT4,f0,f1,ff⟩:=hF.cells
 have q0:w2.cell? ⟨w.heap.size,0,none⟩=some (.slice none 0 0):=Zab hC 0 _ rfl
 have q1:w2.cell? ⟨w.heap.size,1,none⟩=some (.slice none 0 0):=Zab hC 1 _ rfl
 have q2:w2.cell? ⟨w.heap.size,2,none⟩=some (.slice none 0 0):=Zab hC 2 _ rfl
 have qf:=fun i=>Zae hC i
 have hT2:=Zac hC
 have HF:=Zaa hF
 have HQ:=Zaa hC
 have HB:=Zaa hB
 have HC:=Zaa h.rest.cls
 have Hvc:=Zaa hvc
 clear hF hB h hb c0 c1 c2 c3 c4 c5 c6 c7 hC hvc
 have Hdone:Hid (∀ x0 x1 x2 y0 y1 o,Below w.heap.size w ((((((w2.setCell ⟨w.heap.size,0,none⟩ x0).setCell ⟨w.heap.size,1,none⟩ x1).setCell ⟨w.heap.size,2,none⟩ x2).setCell ⟨w.heap.size+1,0,none⟩ y0).setCell ⟨w.heap.size+1,1,none⟩ y1).alloc o)):=fun x0 x1 x2 y0 y1 o =>
  (((((HB.out.setCell (p:=⟨w.heap.size,0,none⟩) (Qe _) _).setCell (p:=⟨w.heap.size,1,none⟩) (Qe _) _).setCell (p:=⟨w.heap.size,2,none⟩) (Qe _) _).setCell (p:=⟨w.heap.size+1,0,none⟩) (Nat.le_succ _) _).setCell (p:=⟨w.heap.size+1,1,none⟩) (Nat.le_succ _) _).alloc (by simp; omega) _
 by_cases hc:R.1=0
 ·have b0:((R.1:Int) != 0)=false:=by rw [hc]; rfl
  obtain ⟨c,cs,hcs⟩:=Hcl.out hc
  obtain ⟨hv,bv,vv,us,e1,e2,e3,e4,e5,e6⟩:=HC.out.2.2.2 0 c (by rw [hcs]; rfl)
  obtain ⟨va,vcap,rfl⟩:=Zad e5
  obtain ⟨ha,hcap,rfl⟩:=Zad e2.1
  obtain ⟨ba,bcap,rfl⟩:=Zad e3.1
  have hcl:0<R.2.2.clauses.length:=by rw [hcs]; simp
  have hcr:=HC.out.1
  rw [Hvc.out] at hcr
  obtain ⟨g,gcap,gcur,he,hBg,hg,hcp⟩:=Zan hcr (by omega)
  simp only [Value.slice.injEq] at he
  obtain ⟨rfl,_,rfl⟩:=he
  obtain ⟨xr,hxs⟩:∃ xr,xs=[.slice ha c.head.length hcap,.slice ba c.body.length bcap,.slice va c.names.length vcap]::xr:=by
   cases xs with
   | nil=>simp at e1
   | cons x xr=>simp at e1; exact ⟨xr,by rw [e1]⟩
  have k0:w2.cell? ⟨g,0,none⟩=some (.slice ha c.head.length hcap):=Zaf hcr 0 _ (by rw [hxs]; rfl)
  have k1:w2.cell? ⟨g,1,none⟩=some (.slice ba c.body.length bcap):=Zaf hcr 1 _ (by rw [hxs]; rfl)
  have k2:w2.cell? ⟨g,2,none⟩=some (.slice va c.names.length vcap):=Zaf hcr 2 _ (by rw [hxs]; rfl)
  have hgl:=Zac hg
  have bl0:(((R.2.2.clauses.length:Nat):Int) == 0)=false:=by rw [Qu]; omega
  have Hc:=Zaa hc
  have Hcs:=Zaa hcs
  have He3:=Zaa e3
  have He5:=Zaa e5
  clear hc hcs e1 e2 e3 e4 e5 e6 hcr hg hxs
  go_wp2
  refine bodyPost_ret (v := .tuple #[.agg #[.slice ha c.head.length hcap,.slice ba c.body.length bcap,.slice va c.names.length vcap],.agg #[.int .i64 0,.int .i64 0]]) (by simp [results,Tryz.results73,go_sem,f0,f1,ff,hT4,q0,q1,q2,qf,hT2]) rfl ?_
  refine ⟨Hdone.out _ _ _ _ _ _,Or.inr ⟨Hc.out,_,_,_,w.heap.size+1+1,Sa,us,c,cs,rfl,Hcs.out,⟨_,_,_,rfl⟩,?_,?_⟩⟩
  rotate_left
  refine Yat He3.out (S:=fun k=>k=w.heap.size∨k=w.heap.size+1) ?_ (fun k hk=>by omega)
  rotate_left
  refine Kept.owns (S:=fun k=>k=w.heap.size∨k=w.heap.size+1) ?_ He5.out (fun k hk e=>by have:=(He5.out.lt k hk).1; omega)
  all_goals exact ((((((Qx _ w2).setCell (p:=⟨w.heap.size,0,none⟩) (fun _=>Or.inl rfl) _).setCell (p:=⟨w.heap.size,1,none⟩) (fun _=>Or.inl rfl) _).setCell (p:=⟨w.heap.size,2,none⟩) (fun _=>Or.inl rfl) _).setCell (p:=⟨w.heap.size+1,0,none⟩) (fun _=>Or.inr rfl) _).setCell (p:=⟨w.heap.size+1,1,none⟩) (fun _=>Or.inr rfl) _).alloc _
 ·have b0:((R.1:Int) != 0)=true:=by rw [bne_iff_ne]; omega
  have Hc:=Zaa hc
  clear hc
  go_wp2_with fail
  go_region
  all_goals
   go_wp2
   refine bodyPost_ret (v := .tuple #[.agg #[.slice none 0 0,.slice none 0 0,.slice none 0 0],.agg #[.int .i64 R.1,.int .i64 R.2.1]]) (by simp [results,Tryz.results73,go_sem,f0,f1,ff,hT4,q0,q1,q2,qf,hT2]) rfl ?_
   refine ⟨?_,Or.inl ⟨Hc.out,rfl⟩⟩
   exact (Hdone.out _ _ _ _ _ _).drew
def Ydt (l:List Sym):Prop:=l.length≤4000∧∀ s ∈ l,s.num<2600∧s.args≤4096
def Yau:List UInt8→List (List Sym)→List UInt8
 | _,[]=>[]
 | sep,l::ls=>sep++(Zck l []++Yau [44,32] ls)
end Go.Proofs.YtlmjilpjmgjjcaaGreatDoor
namespace Go.Proofs.YtlmjilpjmgjjcaaGreatDoor
def scan:List Sym→Nat→Option Nat
 | [],k=>some k
 | s::r,k=>if s.name=[] then (if s.num<k then scan r k else if s.num=k then scan r (k+1) else none) else scan r k
theorem Zjf (a b:List Sym) (k:Nat):scan (a++b) k=(scan a k).bind (scan b):=by
 induction a generalizing k with
 | nil=>rfl
 | cons s a ih =>
  simp only [List.cons_append,scan]
  split
  ·split
   ·exact ih k
   ·split
    ·exact ih (k+1)
    ·rfl
  ·exact ih k
theorem Zps {a b:List Sym} {k k':Nat} (h:scan (a++b) k=some k'):∃ j,scan a k=some j∧scan b j=some k':=by
 rw [Zjf] at h
 cases ha:scan a k with
 | none=>rw [ha] at h; simp at h
 | some j=>rw [ha] at h; exact ⟨j,rfl,h⟩
theorem Zev:∀ (l:List Sym) (k k':Nat),scan l k=some k'→k≤k'∧k'≤k+l.length∧∀ s ∈ l,s.name=[]→s.num<k':=by
 intro l
 induction l with
 | nil=>intro k k' h; simp [scan] at h; subst h; simp
 | cons s l ih =>
  intro k k' h
  simp only [scan] at h
  split at h
  ·split at h
   ·rename_i h1 h2
    obtain ⟨g1,g2,g3⟩:=ih _ _ h
    refine ⟨g1,by simp; omega,?_⟩
    intro x hx hn
    simp at hx
    rcases hx with rfl | hx
    ·omega
    ·exact g3 x hx hn
   ·split at h
    ·rename_i h1 h2 h3
     obtain ⟨g1,g2,g3⟩:=ih _ _ h
     refine ⟨by omega,by simp; omega,?_⟩
     intro x hx hn
     simp at hx
     rcases hx with rfl | hx
     ·omega
     ·exact g3 x hx hn
    ·simp at h
  ·rename_i h1
   obtain ⟨g1,g2,g3⟩:=ih _ _ h
   refine ⟨g1,by simp; omega,?_⟩
   intro x hx hn
   simp at hx
   rcases hx with rfl | hx
   ·exact absurd hn h1
   ·exact g3 x hx hn
theorem Yav (n k:Nat) (h:n<k):(List.range k).idxOf n=n:=by
 have hm:n ∈ List.range k:=by simpa using h
 have h1:=List.idxOf_lt_length_of_mem hm
 have h2:=List.getElem_idxOf h1
 rw [List.getElem_range] at h2
 exact h2
theorem Zto (f:Nat) (IH:∀ l,IsT f l→∀ k k',scan l k=some k'→(Zbs f l (List.range k)).2.1=List.range k'∧∀ rest miss,Zck (l++rest) miss=(Zbs f l (List.range k)).1++((Zbz miss).1++Zck rest (Zbz miss).2)) :
  ∀ (ls:List (List Sym)),ls≠[]→(∀ l ∈ ls,IsT f l)→∀ (k k':Nat) (sep:UInt8),scan ls.flatten k=some k'→(Zcv f sep ls (List.range k)).2=List.range k' ∧
   ∀ rest miss,sep::Zck (ls.flatten++rest) (ls.length::miss)=(Zcv f sep ls (List.range k)).1++(41::((Zbz miss).1++Zck rest (Zbz miss).2)):=by
 intro ls
 induction ls with
 | nil=>intro h; exact absurd rfl h
 | cons l ls ih =>
  intro _ hls k k' sep hsc
  rw [List.flatten_cons] at hsc
  obtain ⟨j,h1,h2⟩:=Zps hsc
  obtain ⟨w1,w2⟩:=IH l (hls l (by simp)) k j h1
  cases ls with
  | nil =>
   simp only [List.flatten_nil,scan,Qo] at h2
   subst h2
   simp only [Zcv,w1,List.flatten_cons,List.flatten_nil,Qs]
   refine ⟨trivial,fun rest miss => ?_⟩
   rw [w2]
   simp [Zbz]
  | cons l2 ls2 =>
   obtain ⟨v1,v2⟩:=ih (by simp) (fun x hx=>hls x (by simp [hx])) j k' 44 h2
   have hk:Zcv f sep (l::l2::ls2) (List.range k)=(sep::((Zbs f l (List.range k)).1++(Zcv f 44 (l2::ls2) (List.range j)).1),(Zcv f 44 (l2::ls2) (List.range j)).2):=by
    rw [Zcv,w1]
   rw [hk]
   refine ⟨v1,fun rest miss => ?_⟩
   rw [List.flatten_cons,Qi,w2]
   have hc:Zbz ((l::l2::ls2).length::miss)=([44],(l2::ls2).length::miss):=by simp [Zbz]
   rw [hc]
   have:=v2 rest miss
   simp only [List.cons_append,List.nil_append,Qi]
   rw [this]
theorem Yio:∀ (f:Nat) (l:List Sym),IsT f l→∀ k k',scan l k=some k'→(Zbs f l (List.range k)).2.1=List.range k'∧∀ rest miss,Zck (l++rest) miss=(Zbs f l (List.range k)).1++((Zbz miss).1++Zck rest (Zbz miss).2):=by
 intro f
 induction f with
 | zero=>intro l h; exact h.elim
 | succ f ih =>
  intro l h k k' hsc
  rcases h with ⟨n,rfl⟩ | ⟨nm,ls,h1,rfl,h2⟩
  ·simp only [scan,if_true] at hsc
   split at hsc
   ·rename_i hn
    simp at hsc; subst hsc
    have hv:wvar n (List.range k)=(Zdr n,List.range k):=by
     unfold wvar
     rw [if_pos (by simpa using hn),Yav n k hn]
    simp [Zbs,hv,Zck,symC]
   ·split at hsc
    ·rename_i hn1 hn2
     simp at hsc; subst hsc
     have hv:wvar n (List.range k)=(Zdr n,List.range (k+1)):=by
      unfold wvar
      rw [if_neg (by simpa using hn1),List.range_succ,hn2]
      simp
     simp [Zbs,hv,Zck,symC]
    ·simp at hsc
  ·have hsc':scan ls.flatten k=some k':=by simpa [scan,h1] using hsc
   cases hls:ls with
   | nil =>
    rw [hls] at hsc'
    simp [scan] at hsc'
    subst hsc'
    simp [Zbs,Zck,symC,h1]
   | cons l0 ls0 =>
    rw [← hls]
    have hne:ls≠[]:=by rw [hls]; simp
    have hw:=Zif f nm ls h1 h2 hne (List.range k)
    obtain ⟨v1,v2⟩:=Zto f ih ls hne h2 k k' 40 hsc'
    rw [hw]
    refine ⟨v1,fun rest miss => ?_⟩
    have hpos:0<ls.length:=by rw [hls]; simp
    have:=v2 rest miss
    simp only [List.cons_append,Zck,hpos,if_true,symC,h1,if_false,Qi]
    rw [this]
    simp
theorem Ztp (f:Nat):∀ (ls:List (List Sym)),(∀ l ∈ ls,IsT f l)→∀ (k k':Nat) (sep:List UInt8),scan ls.flatten k=some k'→Yau sep ls=Ziw f sep ls (List.range k):=by
 intro ls
 induction ls with
 | nil=>intro _ k k' sep _; rfl
 | cons l ls ih =>
  intro hls k k' sep hsc
  rw [List.flatten_cons] at hsc
  obtain ⟨j,h1,h2⟩:=Zps hsc
  obtain ⟨w1,w2⟩:=Yio f l (hls l (by simp)) k j h1
  have h3:=w2 [] []
  simp only [Qs,Zbz,Zck,List.nil_append] at h3
  rw [Yau,Ziw,w1,h3,ih (fun x hx=>hls x (by simp [hx])) j k' _ h2]
  simp
def Worded (ts:List Tok):Prop:=∀ i t,ts[i]?=some t→i+1<ts.length→t.text≠[]
theorem Worded.drop {ts:List Tok} (h:Worded ts) (n:Nat):Worded (ts.drop n):=by
 intro i t hi hl
 rw [List.getElem?_drop] at hi
 rw [List.length_drop] at hl
 exact h (n+i) t hi (by omega)
theorem Worded.tail {t:Tok} {ts:List Tok} (h:Worded (t::ts)):Worded ts:=by simpa using h.drop 1
theorem Ztq (names:Names) (s:List UInt8) (r:List Sym):scan (⟨[],(Zbl names s).2,0⟩::r) names.length=scan r (Zbl names s).1.length:=by
 unfold Zbl
 split
 ·rename_i h
  have:=List.idxOf_lt_length_of_mem h
  simp [scan,this]
 ·simp [scan]
theorem Yaw (f:Nat) (IH:∀ ts names r,Worded ts→Zda f ts names=some r→IsT f r.1∧scan r.1 names.length=some r.2.2.length) (k0:Nat) :
  ∀ (g:Nat) (ts:List Tok) (names:Names) (acc:List (List Sym)) r,Worded ts→(∀ l ∈ acc,IsT f l)→scan acc.flatten k0=some names.length→Zer (Zda f) g ts names acc=some r→(∀ l ∈ r.1,IsT f l)∧scan r.1.flatten k0=some r.2.2.length:=by
 intro g
 induction g with
 | zero=>intro ts names acc r _ _ _ h; simp [Zer] at h
 | succ g ih =>
  intro ts names acc r hw ha hs h
  cases ts with
  | nil=>simp [Zer] at h
  | cons t ts =>
   rw [Zer] at h
   split at h
   ·simp at h; subst h; exact ⟨ha,hs⟩
   ·cases hq:Zda f ts names with
    | none=>rw [hq] at h; simp at h
    | some q =>
     rw [hq] at h
     simp only at h
     obtain ⟨i1,i2⟩:=IH ts names q hw.tail hq
     obtain ⟨n,_,_,hn,_⟩:=Zdq f ts names q hq
     refine ih q.2.1 q.2.2 (acc++[q.1]) r (by rw [hn]; exact hw.tail.drop n) ?_ ?_ h
     ·intro l hl
      simp at hl
      rcases hl with hl | rfl
      ·exact ha l hl
      ·exact i1
     ·simp only [List.flatten_append,List.flatten_cons,List.flatten_nil,Qs]
      rw [Zjf,hs]
      exact i2
theorem Zmk:∀ (f:Nat) (ts:List Tok) (names:Names) r,Worded ts→Zda f ts names=some r→IsT f r.1∧scan r.1 names.length=some r.2.2.length:=by
 intro f
 induction f with
 | zero=>intro ts names r _ h; simp [Zda] at h
 | succ f ih =>
  intro ts names r hw h
  cases ts with
  | nil=>simp [Zda] at h
  | cons t ts =>
   rw [Zda] at h
   split at h
   ·simp at h; subst h
    exact ⟨Or.inl ⟨_,rfl⟩,by rw [Ztq]; rfl⟩
   ·cases ts with
    | nil=>simp [Zlk] at h
    | cons u us =>
     have ht:t.text≠[]:=hw 0 t rfl (by simp)
     rw [Zlk] at h
     split at h
     ·simp at h; subst h
      exact ⟨Or.inr ⟨t.text,[],ht,rfl,by simp⟩,by simp [scan,ht]⟩
     ·rw [Option.map_eq_some_iff] at h
      obtain ⟨q,hq,rfl⟩:=h
      obtain ⟨g1,g2⟩:=Yaw f ih names.length _ _ _ _ _ hw.tail (by simp) rfl hq
      exact ⟨Or.inr ⟨t.text,q.1,ht,rfl,g1⟩,by simpa [scan,ht] using g2⟩
theorem Zgs (f:Nat) (k0:Nat):∀ (g:Nat) (ts:List Tok) (names:Names) (acc:List (List Sym)) q,Worded ts→(∀ l ∈ acc,IsT f l)→scan acc.flatten k0=some names.length→Zdc f g ts names acc=some q →
  (∀ l ∈ q.1,IsT f l)∧scan q.1.flatten k0=some q.2.2.length∧Worded q.2.1:=by
 intro g
 induction g with
 | zero=>intro ts names acc q _ _ _ h; simp [Zdc] at h
 | succ g ih =>
  intro ts names acc q hw ha hs h
  rw [Zdc] at h
  cases hq:Zda f ts names with
  | none=>rw [hq] at h; simp at h
  | some r =>
   rw [hq] at h
   simp only at h
   obtain ⟨i1,i2⟩:=Zmk f ts names r hw hq
   obtain ⟨n,_,_,hn,_⟩:=Zdq f ts names r hq
   have hw1:Worded r.2.1:=by rw [hn]; exact hw.drop n
   have ha1:∀ l ∈ acc++[r.1],IsT f l:=by
    intro l hl
    simp at hl
    rcases hl with hl | rfl
    ·exact ha l hl
    ·exact i1
   have hs1:scan (acc++[r.1]).flatten k0=some r.2.2.length:=by
    simp only [List.flatten_append,List.flatten_cons,List.flatten_nil,Qs]
    rw [Zjf,hs]
    exact i2
   cases hr:r.2.1 with
   | nil=>rw [hr] at h; simp at h
   | cons x rest =>
    rw [hr] at h hw1
    simp only at h
    split at h
    ·simp at h; subst h
     exact ⟨ha1,hs1,hw1.tail⟩
    ·exact ih rest r.2.2 (acc++[r.1]) q hw1.tail ha1 hs1 h
def Good (c:Cls):Prop:=IsT 1000 c.head∧(∀ l ∈ c.body,IsT 1000 l)∧∃ k1 k2,scan c.head 0=some k1∧scan c.body.flatten k1=some k2
theorem Zml (ts:List Tok) (c:Cls × List Tok) (hw:Worded ts) (h:Zfv ts=some c):Good c.1∧Worded c.2:=by
 rw [Zfv] at h
 cases hp:Zda 1000 ts [] with
 | none=>rw [hp] at h; simp at h
 | some r =>
  rw [hp] at h
  simp only at h
  obtain ⟨i1,i2⟩:=Zmk 1000 ts [] r hw hp
  obtain ⟨n,_,_,hn,_⟩:=Zdq 1000 ts [] r hp
  have hw1:Worded r.2.1:=by rw [hn]; exact hw.drop n
  cases hr:r.2.1 with
  | nil=>rw [hr] at h; simp at h
  | cons y ys =>
   rw [hr] at h hw1
   simp only at h
   split at h
   ·rw [Option.map_eq_some_iff] at h
    obtain ⟨q,hq,rfl⟩:=h
    obtain ⟨g1,g2,g3⟩:=Zgs 1000 r.2.2.length 1000 ys r.2.2 [] q hw1.tail (by simp) rfl hq
    exact ⟨⟨i1,g1,_,_,i2,g2⟩,g3⟩
   ·simp at h
    subst h
    exact ⟨⟨i1,by simp,_,_,i2,rfl⟩,hw1.tail⟩
theorem Yax:∀ (g:Nat) (ts:List Tok) (acc cs:List Cls),Worded ts→(∀ c ∈ acc,Good c)→Zhl g ts acc=some cs→∀ c ∈ cs,Good c:=by
 intro g
 induction g with
 | zero=>intro ts acc cs _ _ h; simp [Zhl] at h
 | succ g ih =>
  intro ts acc cs hw ha h
  cases ts with
  | nil=>simp [Zhl] at h
  | cons t ts =>
   rw [Zhl] at h
   split at h
   ·simp at h; subst h; exact ha
   ·cases hc:Zfv (t::ts) with
    | none=>rw [hc] at h; simp at h
    | some c =>
     rw [hc] at h
     simp only at h
     obtain ⟨g1,g2⟩:=Zml _ c hw hc
     refine ih c.2 (acc++[c.1]) cs g2 ?_ h
     intro x hx
     simp at hx
     rcases hx with hx | rfl
     ·exact ha x hx
     ·exact g1
theorem Zrq (ls:List (List Sym)) (l:List Sym) (h:l ∈ ls):l.length≤ls.flatten.length:=by
 induction ls with
 | nil=>simp at h
 | cons x ls ih =>
  simp only [Qp] at h
  rw [List.flatten_cons,Qg]
  rcases h with rfl | h
  ·omega
  ·have:=ih h; omega
theorem Ydu:∀ (f:Nat) (l:List Sym),IsT f l→∀ s ∈ l,s.args≤l.length∧(s.name=[]∨s.num=0):=by
 intro f
 induction f with
 | zero=>intro l h; exact h.elim
 | succ f ih =>
  intro l h s hs
  rcases h with ⟨n,rfl⟩ | ⟨nm,ls,h1,rfl,h2⟩
  ·simp at hs; subst hs; simp
  ·have hfl:=Zlo f ls h2
   simp only [Qp] at hs
   rcases hs with rfl | hs
   ·exact ⟨by simp only [Qf]; omega,Or.inr rfl⟩
   ·rw [List.mem_flatten] at hs
    obtain ⟨l',hl',hs⟩:=hs
    obtain ⟨a1,a2⟩:=ih l' (h2 l' hl') s hs
    have:=Zrq ls l' hl'
    exact ⟨by simp only [Qf]; omega,a2⟩
theorem Yip (f:Nat) (l:List Sym) (k k':Nat) (h:IsT f l) (hs:scan l k=some k') (hl:l.length≤1000) (hk:k'≤2600):Ydt l:=by
 refine ⟨by omega,fun s hm => ?_⟩
 obtain ⟨a1,a2⟩:=Ydu f l h s hm
 obtain ⟨_,_,b3⟩:=Zev l k k' hs
 refine ⟨?_,by omega⟩
 rcases a2 with a2 | a2
 ·have:=b3 s hm a2; omega
 ·omega
theorem Ygt (f:Nat):∀ (ls:List (List Sym)) (k k':Nat),(∀ l ∈ ls,IsT f l)→scan ls.flatten k=some k'→ls.flatten.length≤1000→k'≤2600→∀ l ∈ ls,Ydt l:=by
 intro ls
 induction ls with
 | nil=>intro k k' _ _ _ _ l hl; simp at hl
 | cons l ls ih =>
  intro k k' hT hs hl hk x hx
  rw [List.flatten_cons] at hs hl
  rw [Qg] at hl
  obtain ⟨j,h1,h2⟩:=Zps hs
  obtain ⟨b1,_,_⟩:=Zev _ _ _ h2
  simp only [Qp] at hx
  rcases hx with rfl | hx
  ·exact Yip f x k j (hT x (by simp)) h1 (by omega) (by omega)
  ·exact ih j k' (fun y hy=>hT y (by simp [hy])) h2 (by omega) hk x hx
theorem Zed (s:ByteArray):Worded (Zav s):=Zhu s
theorem Zdf (s:ByteArray) (q:Bool):(runs s q).1=(Zcx (Zav s) (Zbd q)).1∧((runs s q).1≠0→(runs s q).2.1=(Zcx (Zav s) (Zbd q)).2)∧((runs s q).1=0→(runs s q).2.2=takes (toks s.data.toList 0) (st0 q)) :=
 Yan s.size _ _ _ (sim0 q) (Zko _ _)
theorem Ydv {ts:List Tok} {L:LookS} (hok:okk ts L) (hf:fin ts) (hw:L.want=5):∃ t r,ts=t::r∧t.kind=4:=by
 cases ts with
 | nil=>exact hf.elim
 | cons t r =>
  refine ⟨t,r,rfl,?_⟩
  apply Classical.byContradiction
  intro hk
  have h:=(Zgz hok (fun hc=>hk hc.1)).1
  unfold Zat at h
  rw [if_neg (by omega),if_pos hw] at h
  simp at h
theorem Zgt (s:ByteArray) (hs:s.size≤120) (h0:(runs s true).1=0) :
  ∃ q,Zdc 1000 1000 (Zav s) [] []=some q∧(runs s true).2.2.clauses=[⟨[],q.1,q.2.2⟩]∧Yau [] q.1=Ziw 1000 [] q.1 []∧q.1.length≤4000∧(∀ l ∈ q.1,Ydt l)∧(Yau [] q.1).length≤100000000:=by
 obtain ⟨r1,_,r3⟩:=Zdf s true
 have hl:=Zdt s
 have hok:okk (Zav s) (Zbd true):=r1.symm.trans h0
 obtain ⟨q,L',i,ex,h1,h2,h3,h4,_,_,_,_,h9,h10,h11⟩:=Zro 1000 (Zav s) (Zbd true) [] (st0 true) (by omega) (by omega) hok (Yai _ _) rfl rfl rfl rfl rfl rfl rfl
 have hend:(Zav s).take i=toks s.data.toList 0:=Yfx (Zko _ _) (by
  obtain ⟨t,r,e1,e2⟩:=Ydv h2 h3 (by rw [h4]; rfl)
  exact ⟨t,r,by rw [← e1,h9]; rfl,e2⟩)
 rw [hend] at h11
 have h1':Zdc 1000 1000 (Zav s) [] []=some q:=h1
 have hM:=Zmf (M:=120) 1000 (Zav s) [] [] q (fun t ht=>Qq (Zek s t ht) hs) (by simp) h1'
 obtain ⟨g1,g2,_⟩:=Zgs 1000 0 1000 (Zav s) [] [] q (Zed s) (by simp) rfl h1'
 have hfl:=Zlo 1000 q.1 g1
 have hlen:q.1.flatten.length≤121:=by have:=hM.1; simp only [List.flatten_nil,Qt] at this; omega
 obtain ⟨_,b2,_⟩:=Zev _ _ _ g2
 have hw:=Ztp 1000 q.1 g1 0 _ [] g2
 simp only [List.range_zero] at hw
 have hwl:=Zte 1000 q.1 g1 (fun x hx=>Qq (hM.2.1 x hx) (by omega)) [] [] (by simp) (by simp only [Qt]; omega)
 refine ⟨q,h1',?_,hw,by omega,Ygt 1000 q.1 0 _ g1 g2 (by omega) (by omega),?_⟩
 ·rw [r3 h0,h11,h10]
  rfl
 ·rw [hw]; omega
def topN (q:List (List Sym) × Names):ND:=⟨q.1.map (fun t=>(t,0)),(List.range q.2.length).map vr,[],[],q.2.length⟩
def meet (n:Nat) (met:List Nat):List Nat:=if met.idxOf n=met.length then met++[n] else met
def Zaz:List Sym→List Nat→List Sym × List Nat
 | [],met=>([],met)
 | s::r,met=>if s.name=[] then (⟨[],met.idxOf s.num,s.args⟩::(Zaz r (meet s.num met)).1,(Zaz r (meet s.num met)).2) else (s::(Zaz r met).1,(Zaz r met).2)
def Zbe:List (List Sym)→List Nat→List (List Sym) × List Nat
 | [],met=>([],met)
 | t::ts,met=>((Zaz t met).1::(Zbe ts (Zaz t met).2).1,(Zbe ts (Zaz t met).2).2)
theorem Zjv (a b:List Sym) (met:List Nat):Zaz (a++b) met=((Zaz a met).1++(Zaz b (Zaz a met).2).1,(Zaz b (Zaz a met).2).2):=by
 induction a generalizing met with
 | nil=>rfl
 | cons s a ih=>simp only [List.cons_append,Zaz,ih]; split <;> rfl
theorem Zpt (a b:List (List Sym)) (met:List Nat):Zbe (a++b) met=((Zbe a met).1++(Zbe b (Zbe a met).2).1,(Zbe b (Zbe a met).2).2):=by
 induction a generalizing met with
 | nil=>rfl
 | cons s a ih=>simp only [List.cons_append,Zbe,ih]
theorem Zha (ts:List (List Sym)) (met:List Nat):(Zbe ts met).1.length=ts.length:=by
 induction ts generalizing met with
 | nil=>rfl
 | cons t ts ih=>simp [Zbe,ih]
theorem Zjw (l:List Sym) (met:List Nat):(Zaz l met).1.length=l.length:=by
 induction l generalizing met with
 | nil=>rfl
 | cons s l ih=>simp only [Zaz]; split <;> simp [ih]
theorem Zrr {f:Nat→Nat} {met:List Nat} {n:Nat} (h:∀ m ∈ met,f m=f n→m=n):(met.map f).idxOf (f n)=met.idxOf n:=by
 induction met with
 | nil=>rfl
 | cons m met ih =>
  simp only [List.map_cons,List.idxOf_cons]
  by_cases e:m=n
  ·subst e; simp
  ·have e':¬ f m=f n:=fun h'=>e (h m (by simp) h')
   have b1:(f m == f n)=false:=by rw [Qu]; exact e'
   have b2:(m == n)=false:=by rw [Qu]; exact e
   rw [b1,b2]
   simp only [cond_false]
   rw [ih (fun x hx=>h x (by simp [hx]))]
theorem Ydw {f:Nat→Nat} {met:List Nat} {n:Nat} (h:∀ m ∈ met,f m=f n→m=n):meet (f n) (met.map f)=(meet n met).map f:=by
 unfold meet
 rw [Zrr h]
 simp only [Ql]
 split <;> simp
theorem Zvr {n m:Nat} {met:List Nat} (h:m ∈ meet n met):m ∈ met∨m=n:=by
 unfold meet at h
 split at h
 ·simpa using h
 ·exact Or.inl h
theorem Zxq {l:List Sym} {met:List Nat} {m:Nat} (h:m ∈ (Zaz l met).2):m ∈ met∨Occ m l:=by
 induction l generalizing met with
 | nil=>exact Or.inl h
 | cons s l ih =>
  simp only [Zaz] at h
  split at h
  ·rename_i hs
   rcases ih h with h | h
   ·rcases Zvr h with h | rfl
    ·exact Or.inl h
    ·exact Or.inr ⟨s,by simp,hs,rfl⟩
   ·obtain ⟨t,ht,h1,h2⟩:=h
    exact Or.inr ⟨t,by simp [ht],h1,h2⟩
  ·rcases ih h with h | h
   ·exact Or.inl h
   ·obtain ⟨t,ht,h1,h2⟩:=h
    exact Or.inr ⟨t,by simp [ht],h1,h2⟩
theorem Zxr {f:Nat→Nat} {V:Nat→Prop} (hf:∀ a b,V a→V b→f a=f b→a=b):∀ {l:List Sym} {met:List Nat},(∀ s ∈ l,s.name=[]→s.args=0)→(∀ m ∈ met,V m)→(∀ v,Occ v l→V v) →
  Zaz (l.map (ren f)) (met.map f)=((Zaz l met).1,(Zaz l met).2.map f):=by
 intro l
 induction l with
 | nil=>intro met _ _ _; rfl
 | cons s l ih =>
  intro met ha hm hv
  have hv':∀ v,Occ v l→V v:=fun v ⟨t,ht,h1,h2⟩=>hv v ⟨t,by simp [ht],h1,h2⟩
  have ha':∀ s ∈ l,s.name=[]→s.args=0:=fun t ht=>ha t (by simp [ht])
  by_cases hs:s.name=[]
  ·have hV:V s.num:=hv s.num ⟨s,by simp,hs,rfl⟩
   have e:ren f s=⟨[],f s.num,0⟩:=by simp [ren,hs]
   have hi:∀ m ∈ met,f m=f s.num→m=s.num:=fun m hm' h=>hf m s.num (hm m hm') hV h
   simp only [List.map_cons,Zaz,e,hs,if_true]
   rw [Zrr hi,Ydw hi,ih ha' (fun m h=>by
    rcases Zvr h with h | rfl
    ·exact hm m h
    ·exact hV) hv',ha s (by simp) hs]
  ·have e:ren f s=s:=by simp [ren,hs]
   simp only [List.map_cons,Zaz,e,hs,if_false]
   rw [ih ha' hm hv']
theorem Zxs {f:Nat→Nat} {V:Nat→Prop} (hf:∀ a b,V a→V b→f a=f b→a=b):∀ {ts:List (List Sym)} {met:List Nat},(∀ t ∈ ts,∀ s ∈ t,s.name=[]→s.args=0)→(∀ m ∈ met,V m)→(∀ t ∈ ts,∀ v,Occ v t→V v) →
  Zbe (ts.map (List.map (ren f))) (met.map f)=((Zbe ts met).1,(Zbe ts met).2.map f):=by
 intro ts
 induction ts with
 | nil=>intro met _ _ _; rfl
 | cons t ts ih =>
  intro met ha hm hv
  simp only [List.map_cons,Zbe]
  rw [Zxr hf (ha t (by simp)) hm (hv t (by simp))]
  simp only
  rw [ih (fun t h=>ha t (by simp [h])) (fun m h=>by
   rcases Zxq h with h | h
   ·exact hm m h
   ·exact hv t (by simp) m h) (fun t h=>hv t (by simp [h]))]
theorem Ztr:∀ {l:List Sym} {k:Nat},Wf k l→∀ s ∈ l,s.name=[]→s.args=0:=by
 intro l
 induction l with
 | nil=>intro k _ s hs; simp at hs
 | cons t l ih =>
  intro k h s hs
  obtain ⟨_,h1,_,h2⟩:=h
  rcases Qp.1 hs with rfl | hs
  ·exact h1
  ·exact ih h2 s hs
theorem Zrs {xs ys:List (List Sym)} (h:Alike xs ys) (hw:∀ x ∈ xs,Wf 1 x):(Zbe ys []).1=(Zbe xs []).1:=by
 obtain ⟨f,g,e,hg⟩:=h.ren
 have:=Zxs (f:=f) (V:=fun v=>∃ x ∈ xs,Occ v x) (fun a b ⟨x,hx,ha⟩ ⟨y,hy,hb⟩ e=>by rw [← hg x hx a ha,← hg y hy b hb,e]) (ts:=xs) (met:=[]) (fun t ht=>Ztr (hw t ht)) (by simp) (fun t ht v hv=>⟨t,ht,hv⟩)
 simp only [List.map_nil] at this
 rw [← e] at this
 rw [this]
theorem Inst.part {a b a' b':List (List Sym)} (h:Inst (a++b) (a'++b')) (hl:a.length=a'.length):Inst a a'∧Inst b b':=by
 obtain ⟨τ,ht,e⟩:=h
 obtain ⟨e1,e2⟩:=Zrl e hl.symm
 exact ⟨⟨τ,ht,e1⟩,τ,ht,e2⟩
theorem Alike.part {a b a' b':List (List Sym)} (h:Alike (a++b) (a'++b')) (hl:a.length=a'.length):Alike a a'∧Alike b b' :=
 ⟨⟨(h.1.part hl).1,(h.2.part hl.symm).1⟩,(h.1.part hl).2,(h.2.part hl.symm).2⟩
theorem Same.vals {n m:ND} (h:Same n m):Alike n.vals m.vals:=by
 have:=(h.al.part (by simp [h.gl])).2
 exact (this.part h.vl).1
theorem Same.valsC {n m:ND} (h:Same n m) (hn:NOk n):(Zbe n.vals []).1=(Zbe m.vals []).1 :=
 (Zrs h.vals (fun x hx=>hn.wf x (by simp [ND.terms,hx]))).symm
theorem Zxt (n:Nat) (seen:List Nat):wvar n seen=(Zdr (seen.idxOf n),meet n seen):=by
 unfold wvar meet
 by_cases h:n ∈ seen
 ·have:=List.idxOf_lt_length_of_mem h
  rw [if_pos h,if_neg (by omega)]
 ·have e:seen.idxOf n=seen.length:=List.idxOf_eq_length h
  rw [if_neg h,if_pos e,e]
theorem Zxu (f:Nat) (IH:∀ l,IsT f l→∀ seen,(Zbs f l seen).2.1=(Zaz l seen).2∧∀ rest miss,Zck ((Zaz l seen).1++rest) miss=(Zbs f l seen).1++((Zbz miss).1++Zck rest (Zbz miss).2)) :
  ∀ (ls:List (List Sym)),ls≠[]→(∀ l ∈ ls,IsT f l)→∀ (seen:List Nat) (sep:UInt8),(Zcv f sep ls seen).2=(Zaz ls.flatten seen).2 ∧
   ∀ rest miss,sep::Zck ((Zaz ls.flatten seen).1++rest) (ls.length::miss)=(Zcv f sep ls seen).1++(41::((Zbz miss).1++Zck rest (Zbz miss).2)):=by
 intro ls
 induction ls with
 | nil=>intro h; exact absurd rfl h
 | cons l ls ih =>
  intro _ hls seen sep
  rw [List.flatten_cons,Zjv]
  obtain ⟨w1,w2⟩:=IH l (hls l (by simp)) seen
  cases ls with
  | nil =>
   simp only [List.flatten_nil,Zaz,Zcv,w1,Qs]
   refine ⟨trivial,fun rest miss => ?_⟩
   rw [w2]
   simp [Zbz]
  | cons l2 ls2 =>
   obtain ⟨v1,v2⟩:=ih (by simp) (fun x hx=>hls x (by simp [hx])) (Zaz l seen).2 44
   have hk:Zcv f sep (l::l2::ls2) seen=(sep::((Zbs f l seen).1++(Zcv f 44 (l2::ls2) (Zaz l seen).2).1),(Zcv f 44 (l2::ls2) (Zaz l seen).2).2):=by
    rw [Zcv,w1]
   rw [hk]
   refine ⟨v1,fun rest miss => ?_⟩
   simp only [Qi]
   rw [w2]
   have hc:Zbz ((l::l2::ls2).length::miss)=([44],(l2::ls2).length::miss):=by simp [Zbz]
   rw [hc]
   have:=v2 rest miss
   simp only [List.cons_append,List.nil_append,Qi]
   rw [this]
theorem Zrt:∀ (f:Nat) (l:List Sym),IsT f l→∀ seen,(Zbs f l seen).2.1=(Zaz l seen).2∧∀ rest miss,Zck ((Zaz l seen).1++rest) miss=(Zbs f l seen).1++((Zbz miss).1++Zck rest (Zbz miss).2):=by
 intro f
 induction f with
 | zero=>intro l h; exact h.elim
 | succ f ih =>
  intro l h seen
  rcases h with ⟨n,rfl⟩ | ⟨nm,ls,h1,rfl,h2⟩
  ·simp [Zbs,Zxt,Zaz,Zck,symC]
  ·have hc:Zaz (⟨nm,0,ls.length⟩::ls.flatten) seen=(⟨nm,0,ls.length⟩::(Zaz ls.flatten seen).1,(Zaz ls.flatten seen).2):=by
    simp [Zaz,h1]
   rw [hc]
   cases hls:ls with
   | nil=>simp [Zbs,Zck,symC,h1,Zaz]
   | cons l0 ls0 =>
    rw [← hls]
    have hne:ls≠[]:=by rw [hls]; simp
    have hw:=Zif f nm ls h1 h2 hne seen
    obtain ⟨v1,v2⟩:=Zxu f ih ls hne h2 seen 40
    rw [hw]
    refine ⟨v1,fun rest miss => ?_⟩
    have hpos:0<ls.length:=by rw [hls]; simp
    have:=v2 rest miss
    simp only [List.cons_append,Zck,hpos,if_true,symC,h1,if_false,Qi]
    rw [this]
    simp
theorem Zmm {f:Nat} {l:List Sym} (h:IsT f l) (seen:List Nat):(Zbs f l seen).1=Zck (Zaz l seen).1 []∧(Zbs f l seen).2.1=(Zaz l seen).2:=by
 obtain ⟨h1,h2⟩:=Zrt f l h seen
 have:=h2 [] []
 simp only [Qs,Zbz,Zck] at this
 exact ⟨this.symm,h1⟩
theorem Yfz:∀ (n:Nat) {l:List Sym},l.length≤n→Wf 1 l→IsT n l:=by
 intro n
 induction n with
 | zero=>intro l hl h; have:=Zcp h; omega
 | succ n ih =>
  intro l hl h
  obtain ⟨s,r,rfl,hr,hv⟩:=Zri h
  by_cases hs:s.name=[]
  ·exact Or.inl ⟨s.num,hv hs⟩
  ·obtain ⟨_,_,h3,_⟩:=h
   obtain ⟨ls,e1,rfl,hls⟩:=Zrj _ hr
   refine Or.inr ⟨s.name,ls,hs,?_,fun l' hl' => ?_⟩
   ·rw [e1,← h3 hs]
   ·have:=Zbk hl'
    simp only [Qf] at hl
    exact ih (by omega) (hls l' hl')
def Zee (s:ByteArray):Option (List Cls) :=
 if 800<s.size then none else if (Zcx (Zav s) (Zbd false)).1≠0 then none else Zhl 1000 (Zav s) []
def Zgm (s:ByteArray):Option (List (List Sym) × Names) :=
 if 120<s.size then none else if (Zcx (Zav s) (Zbd true)).1≠0 then none else (Zdc 1000 1000 (Zav s) [] []).map (fun q=>(q.1,q.2.2))
def Zfw:List UInt8→Names→List (List Sym)→List UInt8
 | sep,x::xs,t::ts=>sep++(x++(61::(Zck t []++Zfw [44] xs ts)))
 | _,_,_=>[]
def Zdg (names:Names) (n:ND):List UInt8:=if names=[] then [121,101,115] else Zfw [] names (Zbe n.vals []).1
def figB (c:UInt8):Bool:=decide (48≤c.toNat∧c.toNat≤57)
def Zao:List UInt8→Nat × Nat
 | []=>(0,0)
 | a::r=>if figB a then (if a.toNat=48 then (0,1) else match r with
   | []=>(a.toNat - 48,1)
   | b::_=>if figB b then (10 * (a.toNat - 48)+(b.toNat - 48),2) else (a.toNat - 48,1)) else (0,0)
theorem Zdu (l:List UInt8):(Zao l).2≤l.length∧(Zao l).2≤2∧(Zao l).1≤99:=by
 cases l with
 | nil=>simp [Zao]
 | cons a r =>
  simp only [Zao]
  by_cases h1:figB a
  ·rw [if_pos h1]
   have ha:a.toNat≤57:=by simp [figB] at h1; exact h1.2
   by_cases h2:a.toNat=48
   ·rw [if_pos h2]; simp
   ·rw [if_neg h2]
    cases r with
    | nil=>simp; omega
    | cons b r =>
     simp only
     by_cases h3:figB b
     ·have hb:b.toNat≤57:=by simp [figB] at h3; exact h3.2
      rw [if_pos h3]; simp; omega
     ·rw [if_neg h3]; simp; omega
  ·rw [if_neg h1]; simp
theorem Zoj {τ:Nat→List Sym} (hτ:Ts τ) {φ:Sym→Sym}:∀ {l:List Sym},ap τ l=l.map φ→∀ s ∈ l,s.name≠[]→φ s=s:=by
 intro l
 induction l with
 | nil=>intro _ s hs; simp at hs
 | cons t l ih =>
  intro e s hs hn
  rw [Zca,List.map_cons] at e
  have l1:1≤(ap1 τ t).length:=by
   unfold ap1; split
   ·exact Zcp (hτ _)
   ·simp
  have l2:=Zhh hτ l
  have l3:=congrArg List.length e
  simp only [Qg,Qf,Ql] at l3
  have hh:=List.append_inj (s₁:=ap1 τ t) (s₂:=[φ t]) (t₁:=ap τ l) (t₂:=l.map φ) (by simpa using e) (by simp; omega)
  rcases Qp.1 hs with rfl | hs
  ·have:=hh.1
   unfold ap1 at this
   rw [if_neg hn] at this
   simpa using this.symm
  ·exact ih hh.2 s hs hn
def offN (N:List (List UInt8)) (s:Sym):Sym:=if s.name=[]∨s.name ∈ N then s else ⟨s.name++[0],s.num,s.args⟩
theorem Yiq {N:List (List UInt8)}:∀ {l:List Sym} {k:Nat},Wf k l→Wf k (l.map (offN N)):=by
 intro l
 induction l with
 | nil=>intro k h; exact h
 | cons s l ih =>
  intro k h
  obtain ⟨h1,h2,h3,h4⟩:=h
  have e1:(offN N s).args=s.args:=by unfold offN; split <;> rfl
  have e2:(offN N s).name=[]↔s.name=[]:=by
   unfold offN; split
   ·exact Iff.rfl
   ·rename_i h; simp at h ⊢; exact h.1
  have e3:(offN N s).num=s.num:=by unfold offN; split <;> rfl
  refine ⟨h1,fun h=>by rw [e1]; exact h2 (e2.1 h),fun h=>by rw [e3]; exact h3 (fun h'=>h (e2.2 h')),?_⟩
  rw [e1]; exact ih h4
theorem Mgu.nm {σ:Nat→List Sym} {a b:List Sym} (h:Mgu σ a b) (n:Nat):∀ s ∈ σ n,s.name≠[]→∃ t ∈ a++b,t.name=s.name:=by
 intro s hs hn
 refine Classical.byContradiction (fun hno => ?_)
 have hno:∀ t ∈ a++b,t.name≠s.name:=fun t ht e=>hno ⟨t,ht,e⟩
 obtain ⟨N,hN⟩:∃ N,N=(a++b).map (·.name):=⟨_,rfl⟩
 have hθ:Ts (fun n=>(σ n).map (offN N)):=fun n=>Yiq (h.ts n)
 have key:∀ l:List Sym,(∀ t ∈ l,t.name ∈ N)→ap (fun n=>(σ n).map (offN N)) l=(ap σ l).map (offN N):=by
  intro l
  induction l with
  | nil=>intro _; rfl
  | cons t l ih =>
   intro ht
   rw [Zca,Zca,Qr,ih (fun u hu=>ht u (by simp [hu]))]
   congr 1
   unfold ap1
   split
   ·rfl
   ·have:offN N t=t:=by unfold offN; rw [if_pos (Or.inr (ht t (by simp)))]
    simp [this]
 have ha:=key a (fun t ht=>by rw [hN]; exact List.mem_map.2 ⟨t,by simp [ht],rfl⟩)
 have hb:=key b (fun t ht=>by rw [hN]; exact List.mem_map.2 ⟨t,by simp [ht],rfl⟩)
 have hw:=h.wide _ hθ (by rw [ha,hb,h.unif]) n
 have hf:=Zoj hθ hw s hs hn
 have hnN:¬ (s.name=[]∨s.name ∈ N):=by
  rintro (h | h)
  ·exact hn h
  ·rw [hN] at h
   obtain ⟨t,ht,e⟩:=List.mem_map.1 h
   exact hno t ht e
 unfold offN at hf
 rw [if_neg hnN] at hf
 have:=congrArg (fun s=>s.name.length) hf
 simp at this
def Shorts (l:List Sym):Prop:=∀ s ∈ l,s.name.length≤800
def NNm (n:ND):Prop:=∀ t ∈ n.terms,Shorts t
def CNm (c:Cls):Prop:=Shorts c.head∧∀ t ∈ c.body,Shorts t
theorem Zru (n:Nat):Shorts (vr n):=fun s hs=>by simp [vr] at hs; subst hs; simp
theorem Shorts.ap {σ:Nat→List Sym} {l:List Sym} (h:Shorts l) (hσ:∀ n,Shorts (σ n)):Shorts (ap σ l):=by
 intro s hs
 simp only [YtlmjilpjmgjjcaaGreatDoor.ap,List.mem_flatMap] at hs
 obtain ⟨t,ht,hs⟩:=hs
 unfold ap1 at hs
 split at hs
 ·exact hσ _ s hs
 ·simp at hs; subst hs; exact h s ht
theorem Zld (v n:Nat):Shorts (Zbr v n):=Zru _
theorem Mgu.shorts {σ:Nat→List Sym} {a b:List Sym} (h:Mgu σ a b) (ha:Shorts a) (hb:Shorts b) (n:Nat):Shorts (σ n):=by
 intro s hs
 by_cases hn:s.name=[]
 ·rw [hn]; simp
 ·obtain ⟨t,ht,e⟩:=h.nm n s hs hn
  rw [← e]
  rcases Qk.1 ht with ht | ht
  ·exact ha t ht
  ·exact hb t ht
theorem Yga {n:ND} {c:Cls} {k q:Nat} {ch:ND} (h:Out n c k q ch) (hq:q=1∨q=2) (hn:NNm n) (hc:CNm c):NNm ch:=by
 obtain ⟨g,gs,hg,h⟩:=h
 rcases h with ⟨rfl,_⟩ | ⟨rfl,_⟩ | ⟨σ,h1,_,_,rfl⟩
 ·omega
 ·omega
 ·have hgt:Shorts g.1:=hn g.1 (by simp [ND.terms,hg])
  have hhd:Shorts (ap (Zbr n.vars) c.head):=hc.1.ap (Zld _)
  have hσ:=h1.shorts hgt hhd
  intro t ht
  rw [Zfu] at ht
  simp only [Qk,List.mem_map] at ht
  rcases ht with ⟨u,hu,rfl⟩ | ⟨u,hu,rfl⟩ | ⟨u,hu,rfl⟩
  ·rcases hu with ⟨b,hb,rfl⟩ | ⟨x,hx,rfl⟩
   ·exact ((hc.2 b hb).ap (Zld _)).ap hσ
   ·exact (hn x.1 (by simp only [ND.terms,hg,List.map_cons,List.cons_append,Qp,Qk,List.mem_map]; exact Or.inr (Or.inl ⟨x,hx,rfl⟩))).ap hσ
  ·exact (hn u (by simp [ND.terms,hu])).ap hσ
  ·rcases hu with ⟨x,hx,rfl⟩ | hu
   ·exact (hn x.1 (by simp only [ND.terms,Qk,List.mem_map]; exact Or.inr (Or.inr ⟨x,hx,rfl⟩))).ap hσ
   ·simp at hu; subst hu; exact hgt.ap hσ
theorem Yay:∀ (f:Nat) {l:List Sym},IsT f l→Wf 1 l:=by
 intro f
 induction f with
 | zero=>intro l h; exact h.elim
 | succ f ih =>
  intro l h
  rcases h with ⟨n,rfl⟩ | ⟨nm,ls,h1,rfl,h2⟩
  ·exact Ztf n
  ·refine ⟨by omega,fun e=>absurd e h1,fun _=>rfl,?_⟩
   have:=Zdd (fun l hl=>ih (h2 l hl))
   simpa using this
theorem Ydx:∀ (l:List Sym) (k k':Nat),scan l k=some k'→∀ i,k≤i→i<k'→Occ i l:=by
 intro l
 induction l with
 | nil=>intro k k' h i h1 h2; simp [scan] at h; omega
 | cons s l ih =>
  intro k k' h i h1 h2
  simp only [scan] at h
  have up:Occ i l→Occ i (s::l):=fun ⟨t,ht,e1,e2⟩=>⟨t,by simp [ht],e1,e2⟩
  split at h
  ·rename_i hn
   split at h
   ·exact up (ih _ _ h i h1 h2)
   ·split at h
    ·rename_i hk
     rcases Nat.lt_or_ge k i with h3 | h3
     ·exact up (ih _ _ h i h3 h2)
     ·exact ⟨s,by simp,hn,by omega⟩
    ·simp at h
  ·exact up (ih _ _ h i h1 h2)
theorem Zts {f:Nat}:∀ {g:Nat} {ts:List Tok} {names:Names} {acc:List (List Sym)} {q},Zdc f g ts names acc=some q→acc.length<q.1.length:=by
 intro g
 induction g with
 | zero=>intro ts names acc q h; simp [Zdc] at h
 | succ g ih =>
  intro ts names acc q h
  rw [Zdc] at h
  cases hq:Zda f ts names with
  | none=>rw [hq] at h; simp at h
  | some r =>
   rw [hq] at h
   simp only at h
   cases hr:r.2.1 with
   | nil=>rw [hr] at h; simp at h
   | cons x rest =>
    rw [hr] at h
    simp only at h
    split at h
    ·simp at h; subst h; simp
    ·have:=ih h; simp at this; omega
def Ygu (c:Cls):Prop:=∃ k1,scan c.head 0=some k1∧scan c.body.flatten k1=some c.n
theorem Zrv (ts:List Tok) (c:Cls × List Tok) (hw:Worded ts) (h:Zfv ts=some c):Ygu c.1:=by
 rw [Zfv] at h
 cases hp:Zda 1000 ts [] with
 | none=>rw [hp] at h; simp at h
 | some r =>
  rw [hp] at h
  simp only at h
  obtain ⟨i1,i2⟩:=Zmk 1000 ts [] r hw hp
  obtain ⟨n,_,_,hn,_⟩:=Zdq 1000 ts [] r hp
  have hw1:Worded r.2.1:=by rw [hn]; exact hw.drop n
  cases hr:r.2.1 with
  | nil=>rw [hr] at h; simp at h
  | cons y ys =>
   rw [hr] at h hw1
   simp only at h
   split at h
   ·rw [Option.map_eq_some_iff] at h
    obtain ⟨q,hq,rfl⟩:=h
    obtain ⟨g1,g2,g3⟩:=Zgs 1000 r.2.2.length 1000 ys r.2.2 [] q hw1.tail (by simp) rfl hq
    exact ⟨_,i2,g2⟩
   ·simp at h
    subst h
    exact ⟨_,i2,rfl⟩
theorem Zxv:∀ (g:Nat) (ts:List Tok) (acc cs:List Cls),Worded ts→(∀ c ∈ acc,Ygu c)→Zhl g ts acc=some cs→∀ c ∈ cs,Ygu c:=by
 intro g
 induction g with
 | zero=>intro ts acc cs _ _ h; simp [Zhl] at h
 | succ g ih =>
  intro ts acc cs hw ha h
  cases ts with
  | nil=>simp [Zhl] at h
  | cons t ts =>
   rw [Zhl] at h
   split at h
   ·simp at h; subst h; exact ha
   ·cases hc:Zfv (t::ts) with
    | none=>rw [hc] at h; simp at h
    | some c =>
     rw [hc] at h
     simp only at h
     obtain ⟨_,g2⟩:=Zml _ c hw hc
     have g1:=Zrv _ c hw hc
     refine ih c.2 (acc++[c.1]) cs g2 ?_ h
     intro x hx
     simp at hx
     rcases hx with hx | rfl
     ·exact ha x hx
     ·exact g1
theorem Zmn (s:ByteArray) (hs:s.size≤800) (h0:(runs s false).1=0):∃ cs,Zhl 1000 (Zav s) []=some cs∧(runs s false).2.2.clauses=cs:=by
 obtain ⟨r1,_,r3⟩:=Zdf s false
 have hl:=Zdt s
 have hok:okk (Zav s) (Zbd false):=r1.symm.trans h0
 obtain ⟨cs,i,ex,h1,h2,h3,h4⟩:=Ydr 1000 (Zav s) (Zbd false) [] (st0 false) (by omega) (by omega) hok (Yai _ _) rfl rfl rfl rfl ⟨rfl,rfl,rfl,rfl,rfl,rfl,rfl,rfl⟩
 rw [show (Zav s).take i=toks s.data.toList 0 from Yfx (Zko _ _) h2] at h4
 rw [List.nil_append] at h3
 subst h3
 refine ⟨cs,h1,?_⟩
 rw [r3 h0,h4]
 rfl
theorem Zjg {s:ByteArray} {cs:List Cls} (h:Zee s=some cs):s.size≤800∧(runs s false).1=0∧(runs s false).2.2.clauses=cs∧(∀ c ∈ cs,COk c∧CNm c)∧cs.length≤24:=by
 unfold Zee at h
 split at h
 ·simp at h
 ·split at h
  ·simp at h
  ·rename_i hs he
   have hs:s.size≤800:=by omega
   obtain ⟨r1,_,_⟩:=Zdf s false
   have h0:(runs s false).1=0:=by rw [r1]; omega
   obtain ⟨cs',e1,e2⟩:=Zmn s hs h0
   rw [e1] at h
   simp at h
   subst h
   have hB:SB (runs s false).2.2:=(SB.start false).run h0
   have hg:=Yax 1000 (Zav s) [] cs' (Zed s) (by simp) e1
   have hgn:=Zxv 1000 (Zav s) [] cs' (Zed s) (by simp) e1
   refine ⟨hs,h0,e2,fun c hc => ?_,by rw [← e2]; exact hB.clsn⟩
   obtain ⟨g1,g2,_⟩:=hg c hc
   obtain ⟨k1,n1,n2⟩:=hgn c hc
   obtain ⟨b1,b2,b3⟩:=hB.cls c (by rw [e2]; exact hc)
   obtain ⟨c1,c2,c3⟩:=hB.cn c (by rw [e2]; exact hc)
   obtain ⟨x1,x2,x3⟩:=Zev _ _ _ n1
   obtain ⟨y1,y2,y3⟩:=Zev _ _ _ n2
   have hfl:c.body.flatten.length≤180:=by
    have key:∀ ls:List (List Sym),(∀ t ∈ ls,t.length≤30)→ls.flatten.length≤30 * ls.length:=by
     intro ls
     induction ls with
     | nil=>intro _; simp
     | cons t ts ih =>
      intro h
      have h1:=h t (by simp)
      have h2:=ih (fun y hy=>h y (by simp [hy]))
      simp only [List.flatten_cons,Qg,Qf]; omega
    have:=key c.body b2
    omega
   refine ⟨⟨Yay 1000 g1,fun t ht=>Yay 1000 (g2 t ht),?_,?_,by omega,b1,b2,b3⟩,fun x hx=>Qq (c1 x hx) (by omega),fun t ht x hx=>Qq (c2 t ht x hx) (by omega)⟩
   ·rintro v ⟨x,hx,e1,e2⟩
    have:=x3 x hx e1
    omega
   ·rintro t ht v ⟨x,hx,e1,e2⟩
    have:=y3 x (List.mem_flatten.2 ⟨t,ht,hx⟩) e1
    omega
theorem Zkp {s:ByteArray} {a:List (List Sym) × Names} (h:Zgm s=some a):s.size≤120∧(runs s true).1=0∧(runs s true).2.2.clauses=[⟨[],a.1,a.2⟩]∧NOk (topN a)∧NNm (topN a)∧a.1.length≤6∧a.1≠[]∧a.2.length≤121∧(∀ x ∈ a.2,x.length≤8):=by
 unfold Zgm at h
 split at h
 ·simp at h
 ·split at h
  ·simp at h
  ·rename_i hs he
   have hs:s.size≤120:=by omega
   obtain ⟨r1,_,_⟩:=Zdf s true
   have h0:(runs s true).1=0:=by rw [r1]; omega
   obtain ⟨q,e1,e2,_⟩:=Zgt s hs h0
   rw [e1] at h
   simp at h
   subst h
   have hB:SB (runs s true).2.2:=(SB.start true).run h0
   obtain ⟨g1,g2,_⟩:=Zgs 1000 0 1000 (Zav s) [] [] q (Zed s) (by simp) rfl e1
   obtain ⟨b1,b2,b3⟩:=hB.cls ⟨[],q.1,q.2.2⟩ (by rw [e2]; simp)
   obtain ⟨c1,c2,c3⟩:=hB.cn ⟨[],q.1,q.2.2⟩ (by rw [e2]; simp)
   obtain ⟨x1,x2,x3⟩:=Zev _ _ _ g2
   have hl:=Zdt s
   have hM:=Zmf (M:=120) 1000 (Zav s) [] [] q (fun t ht=>Qq (Zek s t ht) hs) (by simp) e1
   have hM1:=hM.1
   simp only [List.flatten_nil,Qt] at hM1
   simp only at b2 b3 c2 c3
   have hwf:∀ t ∈ q.1,Wf 1 t:=fun t ht=>Yay 1000 (g1 t ht)
   have hne:q.1≠[]:=by
    intro e
    have:=Zts e1
    rw [e] at this
    simp at this
   refine ⟨hs,h0,e2,⟨?_,?_,?_,by simp [topN],?_,by simp [topN]; omega,by simp [topN],by simp [topN],by simp [topN]; omega,by simp [topN]; omega⟩,?_,b3,hne,by simp only; omega,c3⟩
   ·intro t ht
    simp only [ND.terms,topN,List.map_map,List.map_nil,Qs,Qk,List.mem_map,Function.comp] at ht
    rcases ht with ⟨u,hu,rfl⟩ | ⟨i,_,rfl⟩
    ·exact hwf u hu
    ·exact Ztf i
   ·intro t ht v hv
    simp only [ND.terms,topN,List.map_map,List.map_nil,Qs,Qk,List.mem_map,Function.comp,List.mem_range] at ht
    show v<q.2.2.length
    rcases ht with ⟨u,hu,rfl⟩ | ⟨i,hi,rfl⟩
    ·obtain ⟨x,hx,e3,e4⟩:=hv
     have:=x3 x (List.mem_flatten.2 ⟨_,hu,hx⟩) e3
     omega
    ·have:=Zgb.1 hv; omega
   ·intro g hg
    simp only [topN,List.mem_map] at hg
    obtain ⟨t,ht,rfl⟩:=hg
    exact ⟨b2 t ht,by simp [topN]⟩
   ·intro t ht
    simp only [topN,List.mem_map,List.mem_range] at ht
    obtain ⟨i,hi,rfl⟩:=ht
    obtain ⟨x,hx,e3,e4⟩:=Ydx _ _ _ g2 i (Qm _) hi
    obtain ⟨u,hu,hxu⟩:=List.mem_flatten.1 hx
    obtain ⟨p,r,e5⟩:=List.append_of_mem hxu
    have hargs:=Ztr (hwf u hu) x hxu e3
    have ex:x=⟨[],i,0⟩:=by
     cases x
     simp only at e3 e4 hargs
     subst e3 e4 hargs
     rfl
    refine ⟨(u,0),by simp only [topN,Qs,List.mem_map]; exact ⟨u,hu,rfl⟩,p,r,?_⟩
    show u=p++vr i++r
    rw [e5,ex]; simp [vr]
   ·intro t ht
    simp only [ND.terms,topN,List.map_map,List.map_nil,Qs,Qk,List.mem_map,Function.comp] at ht
    rcases ht with ⟨u,hu,rfl⟩ | ⟨i,_,rfl⟩
    ·exact fun x hx=>Qq (c2 u hu x hx) (by omega)
    ·exact Zru i
end Go.Proofs.YtlmjilpjmgjjcaaGreatDoor
