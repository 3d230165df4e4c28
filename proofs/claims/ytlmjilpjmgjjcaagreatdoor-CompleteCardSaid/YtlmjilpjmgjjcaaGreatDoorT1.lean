/-
  PROVED HERE: plain facts on terms, substitutions and widest substitutions, found by carrying out one after the other or by joining cells; on terms that are the same but for what variables are called (no program, no memory; the conditions stand in each statement).
-/
import Derived.Test.YtlmjilpjmgjjcaaGreatDoorRows
import Derived.WalkKit
import Derived.WalkSpells
import Derived.WalkLawsBesides
import GoSem.Claim
import Derived.Lib.Strings
import Derived.RegionTactic
import Derived.ChangeAlike
import Derived.BigRegion
import Derived.Lib.ItoaNum
import Derived.BigQuiet
import Derived.Deep.QuietTactic
import Derived.Deep.LoopGhost
import Derived.Deep.RegionWith
import Derived.Deep.CutRange
set_option linter.unusedSimpArgs false
set_option linter.unusedVariables false
set_option maxRecDepth 10000
set_option maxHeartbeats 4000000
namespace Go.Proofs.YtlmjilpjmgjjcaaGreatDoor
open Go.RowKit
abbrev Qa:=@List.getElem?_eq_some_iff
abbrev Qb:=@List.getElem?_eq_getElem
abbrev Qc:=@List.getElem?_append_left
abbrev Qd:=@List.getElem?_append_right
abbrev Qe:=@Nat.le_refl
abbrev Qf:=@List.length_cons
abbrev Qg:=@List.length_append
abbrev Qh:=@List.mem_of_getElem?
abbrev Qi:=@List.append_assoc
abbrev Qj:=@List.getElem?_map
abbrev Qk:=@List.mem_append
abbrev Ql:=@List.length_map
abbrev Qm:=@Nat.zero_le
abbrev Qn:=@List.length_singleton
abbrev Qo:=@Option.some.injEq
abbrev Qp:=@List.mem_cons
abbrev Qq:=@Nat.le_trans
abbrev Qr:=@List.map_append
abbrev Qs:=@List.append_nil
abbrev Jt:=@List.length_nil
abbrev Qu:=@beq_eq_false_iff_ne
structure Kept (S:Nat→Prop) (w w':World):Prop where
 os:w'.os=w.os
 tape:w'.tape=w.tape
 output:w'.output=w.output
 size:w.heap.size≤w'.heap.size
 block:∀ k,k<w.heap.size→¬ S k→w'.heap[k]?=w.heap[k]?
def Zbl (v:Value):Nat→Prop:=fun k=>v.ownBlock=some k
def Zcu:Nat→Prop:=fun _=>False
theorem Kept.refl (S:Nat→Prop) (w:World):Kept S w w:=⟨rfl,rfl,rfl,Qe _,fun _ _ _=>rfl⟩
theorem Kept.then {S S':Nat→Prop} {a b c:World} (h:Kept S a b) (k:Kept S' b c) (hs:∀ i,i<a.heap.size→S' i→S i):Kept S a c :=
 ⟨k.os.trans h.os,k.tape.trans h.tape,k.output.trans h.output,Qq h.size k.size,
  fun i hi hn=>(k.block i (Nat.lt_of_lt_of_le hi h.size) (fun hk=>hn (hs i hi hk))).trans (h.block i hi hn)⟩
theorem Kept.trans {S:Nat→Prop} {a b c:World} (h:Kept S a b) (k:Kept S b c):Kept S a c:=h.then k (fun _ _ h=>h)
theorem Kept.mono {S S':Nat→Prop} {w w':World} (h:Kept S w w') (hs:∀ i,i<w.heap.size→S i→S' i):Kept S' w w' :=
 ⟨h.os,h.tape,h.output,h.size,fun i hi hn=>h.block i hi (fun hk=>hn (hs i hi hk))⟩
theorem Kept.drew {S:Nat→Prop} {a w:World} (h:Kept S a w):Kept S a w.drew:=⟨h.os,h.tape,h.output,h.size,h.block⟩
theorem Kept.alloc {S:Nat→Prop} {a w:World} (h:Kept S a w) (o:Obj):Kept S a (w.alloc o) :=
 h.trans ⟨rfl,rfl,rfl,by simp,fun k hk _=>Below.heap_alloc _ _ _ hk⟩
theorem Kept.setCell {S:Nat→Prop} {a w:World} (h:Kept S a w) {p:Addr} (hp:p.block<a.heap.size→S p.block) (u:Value):Kept S a (w.setCell p u) :=
 h.then (S':=fun k=>k=p.block) ⟨rfl,rfl,rfl,by simp [World.setCell],fun k _ hn=>Below.heap_setCell _ _ _ _ hn⟩ (fun i hi e=>by subst e; exact hp hi)
theorem Kept.of_grown {w w':World} {row:Option Nat} (h:w.grownBy w' row):Kept (fun k=>row=some k) w w' :=
 ⟨h.os,h.tape,h.output,h.size,fun k hk hn=>h.block k hk (fun e=>hn e.symm)⟩
theorem Kept.below {S:Nat→Prop} {w w':World} {B:Nat} (h:Kept S w w') (hB:B≤w.heap.size) (hs:∀ k,S k→B≤k):Below B w w' :=
 ⟨h.os,h.tape,h.output,h.size,fun k hk=>h.block k (by omega) (fun hS=>by have:=hs k hS; omega)⟩
theorem Kept.of_below {w w':World} {B:Nat} (h:Below B w w'):Kept (fun k=>B≤k) w w' :=
 ⟨h.os,h.tape,h.output,h.size,fun k _ hn=>h.block k (by omega)⟩
theorem Kept.cell {S:Nat→Prop} {w w':World} (h:Kept S w w') {p:Addr} {v:Value} (hc:w.cell? p=some v) (hn:¬ S p.block):w'.cell? p=some v :=
 (World.cell?_of_block (w:=w) (h.block p.block (World.block_lt_of_cell? w p hc) hn)).trans hc
theorem Kept.owns {S:Nat→Prop} {w w':World} (h:Kept S w w') {base:Nat} {e:TypeId} {size:Nat} {v:Value} {n:Nat} {xs:List Value} (ho:w.ownsRow base e size v n xs)
  (hn:∀ k,v.ownBlock=some k→¬ S k):w'.ownsRow base e size v n xs:=by
 refine ⟨ho.1,?_⟩
 rcases ho.2 with hn' | ⟨g,cap,cur,rfl,hb,hgg,rest⟩
 ·exact .inl hn'
 ·refine .inr ⟨g,cap,cur,rfl,hb,?_,rest⟩
  rw [h.block g (Array.getElem?_eq_some_iff.1 hgg).1 (hn g rfl)]
  exact hgg
theorem Zbd {w:World} {base base':Nat} {e:TypeId} {size:Nat} {v:Value} {n:Nat} {xs:List Value} (ho:w.ownsRow base e size v n xs) (hb:base'≤base):w.ownsRow base' e size v n xs:=by
 refine ⟨ho.1,?_⟩
 rcases ho.2 with hn' | ⟨g,cap,cur,rfl,hb',rest⟩
 ·exact .inl hn'
 ·exact .inr ⟨g,cap,cur,rfl,Qq hb hb',rest⟩
theorem Zhc {P:Program} (w:World) (base:Nat) (t ty e:TypeId) (i:TypeInfo) (z:Value) (ht:P.underlying t=some (.slice e)) (hi:P.info? e=some i) (hz:i.zero=some z)
  (v:Value) (n:Nat) (xs:List Value) (hown:w.ownsRow base e i.size v n xs)
  (a:Addr) (m c:Nat) (news:List Value) (hl:news.length=m * i.size) (hm:0<m) (hnews:∀ j u,news[j]?=some u→w.cell? (a.add j)=some u) (h1:∀ u ∈ news,u.oneCell'=true)
  (h63:n+m≤maxLen) (hbytes:(n+m) * i.bytes≤140737488355328) (v':Value) (w':World)
  (hr:(Builtin.append_ #[t,t] ty #[v,.slice (some a) m c]).run P w = .ok v' w'):v'.ownBlock=v.ownBlock∨v'.ownBlock=some w.heap.size:=by
 have hsmall:n+m≤9223372036854775807:=by simp only [maxLen] at h63; omega
 rcases hown.2 with ⟨rfl,rfl⟩ | ⟨g,cap,cur,rfl,hbg,hg,hnc,hcm,hcs,htake⟩
 ·have hr':=run_append_nil (P:=P) w t ty e i z ht hi hz a m c news hl hnews hm (by omega) (by have hb:=hbytes; simp only [Nat.zero_add] at hb; omega)
  rw [hr'] at hr
  injection hr with h1 h2
  subst h1
  exact .inr rfl
 ·by_cases hroom:n+m≤cap
  ·have hfit:n * i.size+news.length≤cur.size:=by rw [hl,hcs,← Nat.add_mul]; exact Nat.mul_le_mul_right _ hroom
   have hr':=run_append_room (P:=P) w t ty e i ht hi g n cap cur hg a m c news hl hnews h1 hroom hfit
   rw [hr'] at hr
   injection hr with h1 h2
   subst h1
   exact .inl rfl
  ·have holds:∀ j u,xs[j]?=some u→w.cell? ((⟨g,0,none⟩:Addr).add j)=some u:=hown.cells (g:=g) rfl
   have hr':=run_append_grow (P:=P) w t ty e i z ht hi hz ⟨g,0,none⟩ n cap xs hown.1 holds a m c news hl hnews (by omega) (by omega) (growslice_fits (by omega) hbytes)
   rw [hr'] at hr
   injection hr with h1 h2
   subst h1
   exact .inr rfl
structure Appended (w:World) (base:Nat) (e:TypeId) (size:Nat) (v:Value) (n:Nat) (xs:List Value) (v':Value) (w':World):Prop where
 owns:w'.ownsRow base e size v' n xs
 kept:Kept (Zbl v) w w'
 where_:v'.ownBlock=v.ownBlock∨∃ g,v'.ownBlock=some g∧w.heap.size≤g
theorem Zgo {P:Program} (w:World) (t ty:TypeId) (base:Nat) (e:TypeId) {z:Value} {size bytes:Nat}
  (hinfo:(P.info? e).map (fun i=>(i.zero,i.size,i.bytes))=some (some z,size,bytes)) (ht:P.underlying t=some (.slice e)) (hzs:z.cells.size=size) (hsz:0<size)
  (v:Value) (n:Nat) (xs:List Value) (hown:w.ownsRow base e size v n xs)
  (news:Array Value) (hl:news.size=size) (h1:∀ u ∈ news.toList,u.oneCell'=true)
  (hbig:(n+1) * (bytes+1)≤140737488355328) (hbase:base≤w.heap.size) :
  ∃ v' w',(Builtin.append_ #[t,t] ty #[v,.slice (some ⟨w.heap.size,0,none⟩) 1 1]).run P (w.alloc (.cells news e)) = .ok v' w'∧Appended w base e size v (n+1) (xs++news.toList) v' w':=by
 obtain ⟨i,hi,hz,hsi,hby⟩:=info_parts hinfo
 have hb1:n+1≤140737488355328:=Qq (Nat.le_mul_of_pos_right (n+1) (Nat.succ_pos bytes)) hbig
 have hb2:(n+1) * bytes≤140737488355328:=Qq (Nat.mul_le_mul_left _ (Nat.le_succ _)) hbig
 have h63:n+1≤maxLen:=by simp only [maxLen]; omega
 have hnews:∀ (j:Nat) (u:Value),news.toList[j]?=some u→(w.alloc (.cells news e)).cell? ((⟨w.heap.size,0,none⟩:Addr).add j)=some u:=by
  intro j u hu
  have hadd:(⟨w.heap.size,0,none⟩:Addr).add j=⟨w.heap.size,j,none⟩:=by unfold Addr.add; split <;> simp_all
  rw [hadd,cell_of_row _ w.heap.size j news e (0,0) (heap_alloc_new w _)]
  simpa using hu
 have hown':=hown.alloc (.cells news e)
 obtain ⟨v',w',hr,hA,hB,_⟩:=run_append_own (P:=P) (w.alloc (.cells news e)) base t ty e i z size bytes ht hi hz hsi hby hzs hsz v n xs hown'
  ⟨w.heap.size,0,none⟩ 1 1 news.toList (by simp [hl]) hnews h1 h63 hb2 (by simp; omega)
 refine ⟨v',w',hr,hA,?_,?_⟩
 ·have:=Kept.of_grown hB
  exact ((Kept.refl (Zbl v) w).alloc _).then this (fun i _ h=>h)
 ·subst hsi hby
  rcases Zhc (P:=P) (w.alloc (.cells news e)) base t ty e i z ht hi hz v n xs hown' ⟨w.heap.size,0,none⟩ 1 1 news.toList (by simp [hl]) (by omega) hnews h1 h63 hb2 v' w' hr with h | h
  ·exact .inl h
  ·exact .inr ⟨_,h,by simp⟩
theorem Znb {P:Program} {o:Oper} {a:Act} {K:Act→World→Prop} {Q:Exit→Act→World→Prop} (w:World) (s x:Operand) (t:TypeId)
  (ho:o.op = .call { callee := .builtin .append,args:=#[s,x],argTypes:=#[t,t] })
  (base:Nat) (e:TypeId) {z:Value} {size bytes:Nat}
  (hinfo:(P.info? e).map (fun i=>(i.zero,i.size,i.bytes))=some (some z,size,bytes)) (ht:P.underlying t=some (.slice e)) (hzs:z.cells.size=size) (hsz:0<size)
  (v:Value) (n:Nat) (xs:List Value) (hs:a.eval s=v) (hown:w.ownsRow base e size v n xs)
  (news:Array Value) {N:Nat} (hx:a.eval x = .slice (some ⟨N,0,none⟩) 1 1) (hN:N=w.heap.size) (hl:news.size=size) (h1:∀ u ∈ news.toList,u.oneCell'=true)
  (hbig:(n+1) * (bytes+1)≤140737488355328) (hbase:base≤w.heap.size)
  (h:∀ v' w',Appended w base e size v (n+1) (xs++news.toList) v' w'→K (a.put o.dst v') w'):o.wp P a (w.alloc (.cells news e)) K Q:=by
 subst hN
 obtain ⟨v',w',hr,h2⟩:=Zgo (P:=P) w t o.type base e hinfo ht hzs hsz v n xs hown news hl h1 hbig hbase
 unfold Oper.wp execOp
 simp only [ho,resolve,invoke,builtin,Sem.run_bind,Sem.run_pure,Result.andThen_ok,List.map_toArray,List.map_cons,List.map_nil,hs,hx,hr]
 exact h v' w' h2
theorem Zam {P:Program} {ops:Array Oper} {rest:List Oper} {o:Oper} {a:Act} {Q:Exit→Act→World→Prop} (w:World) (hgd:o.guard=none) (s x:Operand) (t:TypeId)
  (ho:o.op = .call { callee := .builtin .append,args:=#[s,x],argTypes:=#[t,t] })
  (base:Nat) (e:TypeId) {z:Value} {size bytes:Nat}
  (hinfo:(P.info? e).map (fun i=>(i.zero,i.size,i.bytes))=some (some z,size,bytes)) (ht:P.underlying t=some (.slice e)) (hzs:z.cells.size=size) (hsz:0<size)
  (v:Value) (n:Nat) (xs:List Value) (hs:a.eval s=v) (hown:w.ownsRow base e size v n xs)
  (news:Array Value) {N:Nat} (hx:a.eval x = .slice (some ⟨N,0,none⟩) 1 1) (hN:N=w.heap.size) (hl:news.size=size) (h1:∀ u ∈ news.toList,u.oneCell'=true)
  (hbig:(n+1) * (bytes+1)≤140737488355328) (hbase:base≤w.heap.size)
  (h:∀ v' w',Appended w base e size v (n+1) (xs++news.toList) v' w'→wpList P ops Q rest (a.put o.dst v') w'):wpList P ops Q (o::rest) a (w.alloc (.cells news e)) :=
 wpList_plain hgd fun _ hK=>Znb w s x t ho base e hinfo ht hzs hsz v n xs hs hown news hx hN hl h1 hbig hbase fun v' w' h2=>hK _ _ (h v' w' h2)
abbrev Qx:=@Kept.refl
abbrev Qy:=@Kept.setCell
abbrev Qz:=@Kept.alloc
end Go.Proofs.YtlmjilpjmgjjcaaGreatDoor
namespace Go.Proofs.YtlmjilpjmgjjcaaGreatDoor
def inB (c:UInt8) (s:ByteArray):Bool:=s.data.toList.contains c
def Zdx:ByteArray:=⟨#[97,98,99,100,101,102,103,104,105,106,107,108,109,110,111,112,113,114,115,116,117,118,119,120,121,122]⟩
def Zhi:ByteArray:=⟨#[65,66,67,68,69,70,71,72,73,74,75,76,77,78,79,80,81,82,83,84,85,86,87,88,89,90]⟩
def Zvu:ByteArray:=⟨#[40,41,44,46]⟩
def Zhf:ByteArray:=⟨#[97,98,99,100,101,102,103,104,105,106,107,108,109,110,111,112,113,114,115,116,117,118,119,120,121,122,65,66,67,68,69,70,71,72,73,74,75,76,77,78,79,80,81,82,83,84,85,86,87,88,89,90,48,49,50,51,52,53,54,55,56,57]⟩
theorem Zlj (s:ByteArray) (k:Nat) (h:k<s.size):s.data.toList.drop k=s[k]::s.data.toList.drop (k+1):=by
 rw [List.drop_eq_getElem_cons (by simpa using h)]; rfl
theorem Zqb (s:ByteArray) (k:Nat) (h:¬ k<s.size):s.data.toList.drop k=[]:=by
 apply List.drop_eq_nil_of_le; simp; omega
def Zbm:List UInt8→Nat
 | []=>0
 | c::r=>if inB c Zhf then Zbm r+1 else 0
theorem Zgp (c:UInt8) (r:List UInt8) (h:inB c Zhf=true):Zbm (c::r)=Zbm r+1:=by rw [Zbm,if_pos h]
theorem Zbe (c:UInt8) (r:List UInt8) (h:inB c Zhf=false):Zbm (c::r)=0:=by rw [Zbm,if_neg (by simp [h])]
theorem Zvv (l:List UInt8):Zbm l≤l.length:=by
 induction l with
 | nil=>exact Qe _
 | cons c r ih=>unfold Zbm; split <;> simp <;> omega
theorem Zdp {p:UInt8→Bool} (h:(List.range 256).all (fun n=>p (UInt8.ofNat n))=true) (c:UInt8):p c=true:=by
 rw [List.all_eq_true] at h
 have:=h c.toNat (by rw [List.mem_range]; exact c.toNat_lt)
 simpa using this
theorem Zfd {c:UInt8} (h:inB c Zdx=true):inB c Zhf=true:=by
 have:=Zdp (p:=fun c => !inB c Zdx || inB c Zhf) (by decide +kernel) c
 simpa [h] using this
theorem Zga {c:UInt8} (h:inB c Zhi=true):inB c Zhf=true:=by
 have:=Zdp (p:=fun c => !inB c Zhi || inB c Zhf) (by decide +kernel) c
 simpa [h] using this
structure Tok where
 kind:Nat
 text:List UInt8
 pos:Nat
def Zbn (c:UInt8) (r:List UInt8):Nat × Nat :=
 if inB c Zdx then (1,Zbm r)
 else if inB c Zhi then (2,Zbm r)
 else if inB c Zvu then (c.toNat,0)
 else if c=58∧r.head?=some 45 then (3,1)
 else (5,0)
def Zgq (c:UInt8):Bool:=c == 32 || c == 10
theorem Zyq (c:UInt8) (r:List UInt8):(Zbn c r).2≤r.length:=by
 have:=Zvv r
 unfold Zbn
 split
 ·exact this
 ·split
  ·exact this
  ·split
   ·exact Qm _
   ·split
    ·rename_i h
     cases r with
     | nil=>simp at h
     | cons d r=>simp
    ·exact Qm _
def lexF:Nat→List UInt8→Nat→List Tok
 | 0,_,_=>[]
 | _+1,[],_=>[]
 | f+1,c::r,p =>
  if Zgq c then lexF f r (p+1)
  else ⟨(Zbn c r).1,(c::r).take ((Zbn c r).2+1),p⟩::lexF f (r.drop (Zbn c r).2) (p+(Zbn c r).2+1)
theorem Zyr (f:Nat):∀ (g:Nat) (l:List UInt8) (p:Nat),l.length≤f→l.length≤g→lexF f l p=lexF g l p:=by
 induction f with
 | zero =>
  intro g l p hf hg
  have:l=[]:=List.eq_nil_of_length_eq_zero (by omega)
  subst this
  cases g <;> rfl
 | succ f ih =>
  intro g l p hf hg
  cases l with
  | nil=>cases g <;> rfl
  | cons c r =>
   cases g with
   | zero=>simp at hg
   | succ g =>
    simp only [Qf] at hf hg
    have hd:(r.drop (Zbn c r).2).length≤r.length:=by simp
    rw [lexF,lexF]
    split
    ·exact ih g r _ (by omega) (by omega)
    ·rw [ih g (r.drop (Zbn c r).2) _ (by omega) (by omega)]
def toks (l:List UInt8) (p:Nat):List Tok:=lexF l.length l p
theorem Zvw (c:UInt8) (r:List UInt8) (p:Nat) (h:Zgq c=true):toks (c::r) p=toks r (p+1):=by
 unfold toks
 rw [Qf,lexF,if_pos h]
theorem Zfe (c:UInt8) (r:List UInt8) (p:Nat) (h:Zgq c=false) :
  toks (c::r) p=⟨(Zbn c r).1,(c::r).take ((Zbn c r).2+1),p⟩::toks (r.drop (Zbn c r).2) (p+(Zbn c r).2+1):=by
 unfold toks
 rw [Qf,lexF,if_neg (by simp [h])]
 congr 1
 exact Zyr _ _ _ _ (by simp) (Qe _)
structure Sym where
 name:List UInt8
 num:Nat
 args:Nat
abbrev Names:=List (List UInt8)
end Go.Proofs.YtlmjilpjmgjjcaaGreatDoor
namespace Go.Proofs.YtlmjilpjmgjjcaaGreatDoor
open Go.RowKit
theorem Zjo {k:IntKind} {a b:Int} (h:a=b):Ending.returned (.int k a) = .returned (.int k b):=by rw [h]
theorem Zez {a b:Bool} (h:a=b):Ending.returned (.bool a) = .returned (.bool b):=by rw [h]
theorem Zac {p:Prop} (h:p):Hid p:=h
theorem Zsk {c:UInt8} (h:Zgq c=true):((c.toNat:Int) == 32)=true∨(((c.toNat:Int) == 32)=false∧((c.toNat:Int) == 10)=true):=by
 have:=Zdp (p:=fun c => !Zgq c || ((c.toNat:Int) == 32) || ((c.toNat:Int) == 10)) (by decide +kernel) c
 rw [h] at this
 cases h1:((c.toNat:Int) == 32) <;> simp_all
theorem Zys {c:UInt8} (h:Zgq c=false):((c.toNat:Int) == 32)=false∧((c.toNat:Int) == 10)=false:=by
 have:=Zdp (p:=fun c=>Zgq c || (!((c.toNat:Int) == 32) && !((c.toNat:Int) == 10))) (by decide +kernel) c
 rw [h] at this
 simpa using this
structure LookS where
 want:Nat
 query:Bool
 body:Bool
 stk:List Nat
 size:Nat
 goals:Nat
 heads:Nat
 err:Nat
def ints (l:List Nat):List Value:=l.map fun (n:Nat)=>Value.int .i64 n
theorem Zaa {w:World} {b:Nat} {cs:Array Value} {T:TypeId} (h:w.heap[b]?=some (.cells cs T (0,0))) (i:Nat) (v:Value) (hv:cs[i]?=some v) :
  w.cell? ⟨b,i,none⟩=some v:=by simp [World.cell?,h,hv]
theorem Zae {w:World} {b:Nat} {cs:Array Value} {T:TypeId} (h:w.heap[b]?=some (.cells cs T (0,0))) (i:Nat):w.frozen? ⟨b,i,none⟩=false:=by
 simp [World.frozen?,h]
theorem Zab {w:World} {b:Nat} {o:Obj} (h:w.heap[b]?=some o):b<w.heap.size:=(Array.getElem?_eq_some_iff.1 h).1
theorem Zai {w:World} {b:Nat} {cs:Array Value} {T:TypeId} (h:w.heap[b]?=some (.cells cs T (0,0))) (i:Nat) (v:Value) :
  (w.setCell ⟨b,i,none⟩ v).heap[b]?=some (.cells (cs.setIfInBounds i v) T (0,0)):=by
 simp [World.setCell,Array.getElem?_modify,h]
theorem Zav {w:World} {b:Nat} {o:Obj} (h:w.heap[b]?=some o) (o':Obj):(w.alloc o').heap[b]?=some o:=by
 rw [Below.heap_alloc _ _ _ (Zab h)]; exact h
def only (b:Nat):Nat→Prop:=fun k=>k=b
theorem Kept.put {a w:World} {b:Nat} (h:Kept (only b) a w) (i:Nat) (u:Value):Kept (only b) a (w.setCell ⟨b,i,none⟩ u):=h.setCell (p:=⟨b,i,none⟩) (fun _=>(rfl:b=b)) u
def Zkh (L:LookS) (n:Nat):LookS := { L with size:=L.size+1,err:=if 8<n∨30<L.size+1 then 3 else L.err }
def Zci (L:LookS):LookS :=
 if L.want=0 then { L with heads:=L.heads+1,body:=false,size:=0,err:=if 24<L.heads+1 then 3 else L.err }
 else if L.want=1 then { L with goals:=L.goals+1,size:=0,err:=if 6<L.goals+1 then 3 else L.err }
 else match L.stk with
  | []=>L
  | n::r => { L with stk:=(n+1)::r,err:=if 4<n+1 then 3 else L.err }
def Zbh (L:LookS) (kd tn:Nat):LookS :=
 if kd≠1∧(kd≠2∨L.want≠2) then { L with err:=2 } else { Zkh (Zci L) tn with want:=if kd=1 then 3 else 4 }
theorem Zgb (w:World) (cs:Array Value) (T:TypeId) (i:Nat) (v:Value) (h:cs[i]?=some v):(w.alloc (.cells cs T)).cell? ⟨w.heap.size,i,none⟩=some v :=
 Zaa (heap_alloc_new w _) i v h
theorem Zaw {w:World} {B:Nat} {e:TypeId} {size n:Nat} {v:Value} {xs:List Value} (h:w.ownsRow B e size v n xs) (hn:0<n) :
  ∃ g cap cur,v = .slice (some ⟨g,0,none⟩) n cap∧B≤g∧w.heap[g]?=some (.cells cur e (0,0))∧n≤cap:=by
 rcases h.2 with ⟨_,h1⟩ | ⟨g,cap,cur,h1,hb,hg,hn,_⟩
 ·omega
 ·exact ⟨g,cap,cur,h1,hb,hg,hn⟩
theorem Zag {w:World} {B:Nat} {e:TypeId} {size n g cap:Nat} {xs:List Value} (h:w.ownsRow B e size (.slice (some ⟨g,0,none⟩) n cap) n xs) (j:Nat) (u:Value) (hu:xs[j]?=some u) :
  w.cell? ⟨g,j,none⟩=some u:=by
 have:=h.cells (g:=g) rfl j u hu
 have hadd:(⟨g,0,none⟩:Addr).add j=⟨g,j,none⟩:=by unfold Addr.add; split <;> simp_all
 rwa [hadd] at this
theorem Tryz.infoInt:(Tryz.prog.info? 3).map (fun i=>(i.zero,i.size,i.bytes))=some (some (.int .i64 0),1,8):=by kernel_rfl
def Zak (L:LookS) (kd:Nat):LookS :=
 if kd=40∧L.want=3 then { L with stk:=0::L.stk,want:=2 }
 else if kd=44∧L.stk≠[] then { L with want:=2 }
 else if kd=41∧L.stk≠[] then { L with stk:=L.stk.tail,want:=4 }
 else if L.stk≠[] then { L with err:=2 }
 else if kd=44∧L.body=true then { L with want:=1 }
 else if kd=3∧L.body=false then { L with body:=true,goals:=0,want:=1 }
 else if kd=46∧L.query=true then { L with want:=5 }
 else if kd=46 then { L with want:=0 }
 else { L with err:=2 }
theorem Zad {w:World} {B:Nat} {e:TypeId} {size n:Nat} {v:Value} {xs:List Value} (h:w.ownsRow B e size v n xs):∃ a cap,v = .slice a n cap:=by
 rcases h.2 with ⟨rfl,rfl⟩ | ⟨g,cap,cur,rfl,_⟩
 ·exact ⟨none,0,rfl⟩
 ·exact ⟨_,_,rfl⟩
theorem Zlk (x:Int):∀ u ∈ (#[Value.int .i64 x]:Array Value).toList,u.oneCell'=true:=by
 intro u hu
 simp at hu
 subst hu
 rfl
theorem Zuj {w:World} {B:Nat} {e:TypeId} {g n cap:Nat} {xs:List Value} (h:w.ownsRow B e 1 (.slice (some ⟨g,0,none⟩) (n+1) cap) (n+1) xs) :
  w.ownsRow B e 1 (.slice (some ⟨g,0,none⟩) n cap) n (xs.take n):=by
 refine ⟨by have:=h.1; simp at this ⊢; omega,?_⟩
 rcases h.2 with ⟨h1,_⟩ | ⟨g',cap',cur,h1,hb,hg,hn,hc,hs,ht⟩
 ·simp at h1
 ·simp at h1
  obtain ⟨rfl,rfl⟩:=h1
  refine .inr ⟨g,cap,cur,rfl,hb,hg,by omega,hc,hs,?_⟩
  rw [← ht,List.take_take]
  congr 1
  omega
theorem Tryz.infoStr:(Tryz.prog.info? 9).map (fun i=>(i.zero,i.size,i.bytes))=some (some (.string ⟨#[]⟩),1,16):=by kernel_rfl
def strs (l:List (List UInt8)):List Value:=l.map fun s=>Value.string ⟨s.toArray⟩
def Zbb (names:List (List UInt8)) (s:List UInt8):List (List UInt8) × Nat :=
 if s ∈ names then (names,names.idxOf s) else (names++[s],names.length)
theorem Zyt (s:ByteArray):∀ u ∈ (#[Value.string s]:Array Value).toList,u.oneCell'=true:=by
 intro u hu
 simp at hu
 subst hu
 rfl
theorem Zqc {names:List (List UInt8)} {s:List UInt8} {k:Nat} (hk:k<names.length) (h:names[k]=s) (hn:s ∉ names.take k):Zbb names s=(names,k):=by
 have hm:s ∈ names:=by rw [← h]; exact List.getElem_mem _
 unfold Zbb
 rw [if_pos hm]
 congr 1
 have h1:names.idxOf s≤k:=by
  rcases Nat.lt_or_ge k (names.idxOf s) with hl | hl
  ·have:=List.not_of_lt_findIdx (p:=(· == s)) (xs:=names) hl
   simp [h] at this
  ·exact hl
 rcases Nat.lt_or_ge (names.idxOf s) k with hl | hl
 ·exfalso
  apply hn
  have hlt:names.idxOf s<names.length:=List.idxOf_lt_length_of_mem hm
  have:names[names.idxOf s]=s:=List.getElem_idxOf hlt
  rw [← this]
  rw [List.mem_take_iff_getElem]
  exact ⟨names.idxOf s,by omega,rfl⟩
 ·omega
theorem Yip {names:List (List UInt8)} {s:List UInt8} {k:Nat} (hk:k<names.length) (h:¬ names[k]=s) (hn:s ∉ names.take k):s ∉ names.take (k+1):=by
 rw [List.take_succ_eq_append_getElem hk]
 simp only [Qk,List.mem_singleton,not_or]
 exact ⟨hn,fun e=>h e.symm⟩
theorem Zok {names:List (List UInt8)} {s:List UInt8} {k:Nat} (hk:¬ k<names.length) (hn:s ∉ names.take k):Zbb names s=(names++[s],names.length):=by
 rw [List.take_of_length_le (by omega)] at hn
 unfold Zbb
 rw [if_neg hn]
def Zdz (p:List Tok→Names→Option (List Sym × List Tok × Names)):Nat→List Tok→Names→List (List Sym)→Option (List (List Sym) × List Tok × Names)
 | 0,_,_,_=>none
 | _+1,[],_,_=>none
 | g+1,t::ts,names,acc =>
  if t.kind=41 then some (acc,ts,names)
  else match p ts names with
   | none=>none
   | some r=>Zdz p g r.2.1 r.2.2 (acc++[r.1])
def Ziu (p:List Tok→Names→Option (List Sym × List Tok × Names)) (t:Tok):List Tok→Names→Option (List Sym × List Tok × Names)
 | [],_=>none
 | u::us,names =>
  if u.kind≠40 then some ([⟨t.text,0,0⟩],u::us,names)
  else (Zdz p (us.length+1) (u::us) names []).map fun r=>(⟨t.text,0,r.1.length⟩::r.1.flatten,r.2.1,r.2.2)
def Zcs:Nat→List Tok→Names→Option (List Sym × List Tok × Names)
 | 0,_,_=>none
 | _+1,[],_=>none
 | f+1,t::ts,names =>
  if t.kind=2 then some ([⟨[],(Zbb names t.text).2,0⟩],ts,(Zbb names t.text).1)
  else Ziu (Zcs f) t ts names
def Zyu (ts rest:List Tok) (names names':Names):Prop:=∃ n,0<n∧n≤ts.length∧rest=ts.drop n∧names'.length≤names.length+n
theorem Zki (names:Names) (s:List UInt8):(Zbb names s).1.length≤names.length+1:=by
 unfold Zbb; split <;> simp
theorem Zqd {p:List Tok→Names→Option (List Sym × List Tok × Names)} (hp:∀ ts names r,p ts names=some r→Zyu ts r.2.1 names r.2.2) :
  ∀ (g:Nat) (ts:List Tok) (names:Names) (acc:List (List Sym)) r,Zdz p g ts names acc=some r→Zyu ts r.2.1 names r.2.2:=by
 intro g
 induction g with
 | zero=>intro ts names acc r h; simp [Zdz] at h
 | succ g ih =>
  intro ts names acc r h
  cases ts with
  | nil=>simp [Zdz] at h
  | cons t ts =>
   rw [Zdz] at h
   split at h
   ·simp at h; subst h
    exact ⟨1,by omega,by simp,by simp,by simp⟩
   ·split at h
    ·simp at h
    ·rename_i q hq
     obtain ⟨n,h1,h2,h3,h4⟩:=hp _ _ _ hq
     obtain ⟨m,h5,h6,h7,h8⟩:=ih _ _ _ _ h
     rw [h3,List.drop_drop] at h7
     rw [h3,List.length_drop] at h6
     exact ⟨n+m+1,by omega,by simp; omega,by rw [h7]; simp,by omega⟩
theorem Zfq:∀ (f:Nat) (ts:List Tok) (names:Names) r,Zcs f ts names=some r→Zyu ts r.2.1 names r.2.2:=by
 intro f
 induction f with
 | zero=>intro ts names r h; simp [Zcs] at h
 | succ f ih =>
  intro ts names r h
  cases ts with
  | nil=>simp [Zcs] at h
  | cons t ts =>
   rw [Zcs] at h
   split at h
   ·simp at h; subst h
    exact ⟨1,by omega,by simp,by simp,Zki _ _⟩
   ·cases ts with
    | nil=>simp [Ziu] at h
    | cons u us =>
     rw [Ziu] at h
     split at h
     ·simp at h; subst h
      exact ⟨1,by omega,by simp,by simp,by simp⟩
     ·rw [Option.map_eq_some_iff] at h
      obtain ⟨q,hq,rfl⟩:=h
      obtain ⟨n,h1,h2,h3,h4⟩:=Zqd ih _ _ _ _ _ hq
      exact ⟨n+1,by omega,by simp at h2 ⊢; omega,by rw [h3]; simp,by simp at h4 ⊢; omega⟩
theorem Zbj {w:World} {B:Nat} {e:TypeId} {size n:Nat} {v:Value} {xs:List Value} (h:w.ownsRow B e size v n xs) (k:Nat) (hk:v.ownBlock=some k):∃ cur,w.heap[k]?=some (.cells cur e (0,0)):=by
 rcases h.2 with ⟨rfl,_⟩ | ⟨g,cap,cur,rfl,_,hg,_⟩
 ·simp [Value.ownBlock] at hk
 ·simp only [Value.ownBlock,Qo] at hk
  subst hk
  exact ⟨cur,hg⟩
theorem Zaf {w:World} {B:Nat} {e e':TypeId} {size n:Nat} {v:Value} {xs:List Value} (h:w.ownsRow B e size v n xs) (he:e≠e') {k:Nat} {cs:Array Value} {fr:Nat × Nat} (hk:w.heap[k]?=some (.cells cs e' fr)):¬ Zbl v k:=by
 intro ho
 obtain ⟨cur,hc⟩:=Zbj h k ho
 rw [hc] at hk
 simp at hk
 exact he hk.2.1
theorem Zal {w w':World} {B:Nat} {e:TypeId} {size n:Nat} {v:Value} {xs:List Value} (h:w.ownsRow B e size v n xs) (hk:∀ k,v.ownBlock=some k→w'.heap[k]?=w.heap[k]?):w'.ownsRow B e size v n xs:=by
 refine ⟨h.1,?_⟩
 rcases h.2 with hn | ⟨g,cap,cur,rfl,hb,hg,rest⟩
 ·exact .inl hn
 ·exact .inr ⟨g,cap,cur,rfl,hb,by rw [hk g rfl]; exact hg,rest⟩
theorem Zbk (a b:List UInt8):(⟨a.toArray⟩:ByteArray)++⟨b.toArray⟩=⟨(a++b).toArray⟩:=by
 apply ByteArray.ext
 simp [ByteArray.data_append]
theorem Zol {a b:ByteArray} (h:a=b):Ending.returned (.string a) = .returned (.string b):=by rw [h]
theorem Zjp (n:Nat):(Lib.decDigits n).length≤n+1:=by
 induction n using Nat.strongRecOn with
 | ind n ih =>
  rw [Lib.decDigits]
  split
  ·simp
  ·have:=ih (n / 10) (by omega)
   simp only [Qg,Qf,Jt]
   omega
def Zef (n:Nat):List UInt8:=if n<26 then [UInt8.ofNat (65+n)] else UInt8.ofNat (65+n % 26)::Lib.decDigits (n / 26)
def IsT:Nat→List Sym→Prop
 | 0,_=>False
 | f+1,l=>(∃ n:Nat,l=[⟨[],n,0⟩])∨∃ (nm:List UInt8) (ls:List (List Sym)),nm≠[]∧l=⟨nm,0,ls.length⟩::ls.flatten∧∀ l' ∈ ls,IsT f l'
def wvar (n:Nat) (seen:List Nat):List UInt8 × List Nat:=if n ∈ seen then (Zef (seen.idxOf n),seen) else (Zef seen.length,seen++[n])
def Zvx (p:List Sym→List Nat→List UInt8 × List Nat × List Sym):Nat→UInt8→List Sym→List Nat→List UInt8 × List Nat × List Sym
 | 0,_,r,seen=>([],seen,r)
 | n+1,sep,r,seen=>(sep::((p r seen).1++(Zvx p n 44 (p r seen).2.2 (p r seen).2.1).1),(Zvx p n 44 (p r seen).2.2 (p r seen).2.1).2)
def Zcj:Nat→List Sym→List Nat→List UInt8 × List Nat × List Sym
 | 0,r,seen=>([],seen,r)
 | _+1,[],seen=>([],seen,[])
 | f+1,s::r,seen =>
  if s.name=[] then ((wvar s.num seen).1,(wvar s.num seen).2,r)
  else if s.args=0 then (s.name,seen,r)
  else (s.name++(Zvx (Zcj f) s.args 40 r seen).1++[41],(Zvx (Zcj f) s.args 40 r seen).2)
def Zev (f:Nat):UInt8→List (List Sym)→List Nat→List UInt8 × List Nat
 | _,[],seen=>([],seen)
 | sep,l::ls,seen=>(sep::((Zcj f l seen).1++(Zev f 44 ls (Zcj f l seen).2.1).1),(Zev f 44 ls (Zcj f l seen).2.1).2)
theorem Znc (f:Nat) (hp:∀ l,IsT f l→∀ rest seen,Zcj f (l++rest) seen=((Zcj f l seen).1,(Zcj f l seen).2.1,rest)) :
  ∀ (ls:List (List Sym)),(∀ l' ∈ ls,IsT f l')→∀ sep rest seen,Zvx (Zcj f) ls.length sep (ls.flatten++rest) seen=((Zev f sep ls seen).1,(Zev f sep ls seen).2,rest):=by
 intro ls
 induction ls with
 | nil=>intro _ sep rest seen; rfl
 | cons l ls ih =>
  intro h sep rest seen
  have h1:=hp l (h l (by simp)) (ls.flatten++rest) seen
  have h2:=ih (fun l' hl=>h l' (by simp [hl])) 44 rest (Zcj f l seen).2.1
  simp only [Qf,List.flatten_cons,Qi,Zvx,Zev]
  rw [h1]
  simp only
  rw [h2]
theorem Zyv:∀ (f:Nat) (l:List Sym),IsT f l→∀ rest seen,Zcj f (l++rest) seen=((Zcj f l seen).1,(Zcj f l seen).2.1,rest):=by
 intro f
 induction f with
 | zero=>intro l h; exact h.elim
 | succ f ih =>
  intro l h rest seen
  rcases h with ⟨n,rfl⟩ | ⟨nm,ls,h1,rfl,h2⟩
  ·simp [Zcj]
  ·have hw:=Znc f ih ls h2 40
   have hw1:=hw rest seen
   have hw2:=hw [] seen
   simp only [Qs] at hw2
   simp only [List.cons_append,Zcj,h1,if_false]
   cases ls with
   | nil=>simp
   | cons l ls =>
    rw [if_neg (by simp),if_neg (by simp)]
    rw [hw1,hw2]
theorem Zjq (f:Nat) (nm:List UInt8) (ls:List (List Sym)) (hn:nm≠[]) (h:∀ l' ∈ ls,IsT f l') (hl:ls≠[]) (seen:List Nat) :
  Zcj (f+1) (⟨nm,0,ls.length⟩::ls.flatten) seen=(nm++(Zev f 40 ls seen).1++[41],(Zev f 40 ls seen).2,[]):=by
 have hw2:=Znc f (Zyv f) ls h 40 [] seen
 simp only [Qs] at hw2
 simp only [Zcj,hn,if_false]
 rw [if_neg (by simp [hl]),hw2]
theorem Znd (n:Nat) (h:n≤4000):(Zef n).length≤200:=by
 unfold Zef
 split
 ·simp
 ·have:=Zjp (n / 26)
  simp only [Qf]
  omega
theorem Ydh (n:Nat) (seen:List Nat) (h:seen.length≤3999):(wvar n seen).1.length≤200∧(wvar n seen).2.length≤seen.length+1:=by
 unfold wvar
 split
 ·rename_i hm
  have:=List.idxOf_lt_length_of_mem hm
  exact ⟨Znd _ (by omega),by simp⟩
 ·exact ⟨Znd _ (by omega),by simp⟩
theorem Zyw (f:Nat) (hp:∀ l,IsT f l→(∀ s ∈ l,s.name.length≤4096)→∀ seen,seen.length+l.length≤4000→(Zcj f l seen).1.length+1≤4100 * l.length∧(Zcj f l seen).2.1.length≤seen.length+l.length) :
  ∀ (ls:List (List Sym)),(∀ l' ∈ ls,IsT f l')→(∀ s ∈ ls.flatten,s.name.length≤4096)→∀ sep seen,seen.length+ls.flatten.length≤4000→(Zev f sep ls seen).1.length≤4100 * ls.flatten.length∧(Zev f sep ls seen).2.length≤seen.length+ls.flatten.length:=by
 intro ls
 induction ls with
 | nil=>intro _ _ sep seen _; simp [Zev]
 | cons l ls ih =>
  intro h hn sep seen hs
  simp only [List.flatten_cons,Qg] at hs
  have h1:=hp l (h l (by simp)) (fun s hs=>hn s (by simp [hs])) seen (by omega)
  have h2:=ih (fun l' hl=>h l' (by simp [hl])) (fun s hs=>hn s (by simp only [List.flatten_cons,Qk]; exact Or.inr hs)) 44 (Zcj f l seen).2.1 (by omega)
  simp only [Zev,Qf,Qg,List.flatten_cons]
  omega
theorem Zyx:∀ (f:Nat) (l:List Sym),IsT f l→0<l.length:=by
 intro f l h
 cases f with
 | zero=>exact h.elim
 | succ f=>rcases h with ⟨n,rfl⟩ | ⟨nm,ls,h1,rfl,h2⟩ <;> simp
theorem Zom (f:Nat) (ls:List (List Sym)) (h:∀ l' ∈ ls,IsT f l'):ls.length≤ls.flatten.length:=by
 induction ls with
 | nil=>simp
 | cons l ls ih =>
  have h1:=Zyx f l (h l (by simp))
  have h2:=ih (fun l' hl=>h l' (by simp [hl]))
  simp only [List.flatten_cons,Qg,Qf]
  omega
theorem Zqe:∀ (f:Nat) (l:List Sym),IsT f l→(∀ s ∈ l,s.name.length≤4096)→∀ seen,seen.length+l.length≤4000→(Zcj f l seen).1.length+1≤4100 * l.length∧(Zcj f l seen).2.1.length≤seen.length+l.length:=by
 intro f
 induction f with
 | zero=>intro l h; exact h.elim
 | succ f ih =>
  intro l h hn seen hs
  rcases h with ⟨n,rfl⟩ | ⟨nm,ls,h1,rfl,h2⟩
  ·have:=Ydh n seen (by simp at hs; omega)
   simp [Zcj]
   omega
  ·have hnm:nm.length≤4096:=hn _ (List.mem_cons_self ..)
   by_cases hl:ls=[]
   ·subst hl
    simp [Zcj,h1]
    omega
   ·rw [Zjq f nm ls h1 h2 hl]
    simp only [Qf] at hs
    have h3:=Zyw f ih ls h2 (fun s hs=>hn s (List.mem_cons_of_mem _ hs)) 40 seen (by omega)
    have h4:=Zom f ls h2
    simp only [Qg,Qf,Jt]
    omega
def Zca (L:LookS) (kd tn:Nat):LookS :=
 if L.want≤2 then Zbh L kd tn else if L.want=5 then { L with err:=2 } else Zak L kd
def Zge:List Tok→LookS→Nat × Nat
 | [],_=>(0,0)
 | t::ts,L =>
  if t.kind=4∧(L.want=5∨L.want=0) then (0,0)
  else if (Zca L t.kind t.text.length).err≠0 then ((Zca L t.kind t.text.length).err,t.pos)
  else Zge ts (Zca L t.kind t.text.length)
def Zcp (query:Bool):LookS:=⟨if query then 1 else 0,query,query,[],0,0,0,0⟩
theorem Kept.drewN {S:Nat→Prop} {a w:World} (h:Kept S a w) (n:Nat):Kept S a (w.drewN n):=⟨h.os,h.tape,h.output,h.size,h.block⟩
theorem Zvy (n:Nat) (h:n<10):(⟨#[48,49,50,51,52,53,54,55,56,57,97,98,99,100,101,102,103,104,105,106,107,108,109,110,111,112,113,114,115,116,117,118,119,120,121,122]⟩:ByteArray).extract n (n+1)=⟨(Lib.decDigits n).toArray⟩:=by
 have:∀ n,n<10→((⟨#[48,49,50,51,52,53,54,55,56,57,97,98,99,100,101,102,103,104,105,106,107,108,109,110,111,112,113,114,115,116,117,118,119,120,121,122]⟩:ByteArray).extract n (n+1)).data.toList=[UInt8.ofNat (48+n)]:=by decide +kernel
 apply ByteArray.ext
 apply Array.ext'
 rw [this n h,Lib.decDigits,dif_pos h]
set_option maxRecDepth 20000 in
theorem Zvz (n:Nat) (h:n<100) (h10:¬ n<10):(⟨#[48,48,48,49,48,50,48,51,48,52,48,53,48,54,48,55,48,56,48,57,49,48,49,49,49,50,49,51,49,52,49,53,49,54,49,55,49,56,49,57,50,48,50,49,50,50,50,51,50,52,50,53,50,54,50,55,50,56,50,57,51,48,51,49,51,50,51,51,51,52,51,53,51,54,51,55,51,56,51,57,52,48,52,49,52,50,52,51,52,52,52,53,52,54,52,55,52,56,52,57,53,48,53,49,53,50,53,51,53,52,53,53,53,54,53,55,53,56,53,57,54,48,54,49,54,50,54,51,54,52,54,53,54,54,54,55,54,56,54,57,55,48,55,49,55,50,55,51,55,52,55,53,55,54,55,55,55,56,55,57,56,48,56,49,56,50,56,51,56,52,56,53,56,54,56,55,56,56,56,57,57,48,57,49,57,50,57,51,57,52,57,53,57,54,57,55,57,56,57,57]⟩:ByteArray).extract (n * 2) (n * 2+2)=⟨(Lib.decDigits n).toArray⟩:=by
 have:∀ n,n<100→((⟨#[48,48,48,49,48,50,48,51,48,52,48,53,48,54,48,55,48,56,48,57,49,48,49,49,49,50,49,51,49,52,49,53,49,54,49,55,49,56,49,57,50,48,50,49,50,50,50,51,50,52,50,53,50,54,50,55,50,56,50,57,51,48,51,49,51,50,51,51,51,52,51,53,51,54,51,55,51,56,51,57,52,48,52,49,52,50,52,51,52,52,52,53,52,54,52,55,52,56,52,57,53,48,53,49,53,50,53,51,53,52,53,53,53,54,53,55,53,56,53,57,54,48,54,49,54,50,54,51,54,52,54,53,54,54,54,55,54,56,54,57,55,48,55,49,55,50,55,51,55,52,55,53,55,54,55,55,55,56,55,57,56,48,56,49,56,50,56,51,56,52,56,53,56,54,56,55,56,56,56,57,57,48,57,49,57,50,57,51,57,52,57,53,57,54,57,55,57,56,57,57]⟩:ByteArray).extract (n * 2) (n * 2+2)).data.toList=[UInt8.ofNat (48+n / 10),UInt8.ofNat (48+n % 10)]:=by decide +kernel
 apply ByteArray.ext
 apply Array.ext'
 rw [this n h,Lib.decDigits,dif_neg h10,Lib.decDigits,dif_pos (by omega)]
 rfl
theorem Zne (n:Nat):Utf8.encode (65+(n:Int) % 26)=⟨[UInt8.ofNat (65+n % 26)].toArray⟩:=by
 have:∀ m:Nat,m<26→(Utf8.encode (65+(m:Int))).data.toList=[UInt8.ofNat (65+m)]:=by decide +kernel
 rw [show (n:Int) % 26=((n % 26:Nat):Int) from by omega]
 apply ByteArray.ext
 apply Array.ext'
 rw [this (n % 26) (by omega)]
set_option maxRecDepth 20000 in
theorem Zyy (n:Nat) (w:World) (h:n<100):Calls Tryz.prog 122 #[.int .i64 n] w fun e w'=>e = .returned (.string ⟨(Lib.decDigits n).toArray⟩)∧w'=w:=by
 by_cases h10:n<10
 ·go_enter Tryz.func122,Tryz.ntmps122
  go_wp2
  go_ret
  exact ⟨Zol (Zvy n h10),rfl⟩
 ·go_enter Tryz.func122,Tryz.ntmps122
  go_wp2
  go_ret
  exact ⟨Zol (Zvz n h h10),rfl⟩
theorem Zwa (n:Nat) (w:World) (h:n<100):Calls Tryz.prog 95 #[.int .i64 n,.int .i64 10] w fun e w'=>e = .returned (.string ⟨(Lib.decDigits n).toArray⟩)∧w'=w:=by
 go_enter Tryz.func95,Tryz.ntmps95
 go_wp2_with fail
 refine (Zyy n _ h).mono ?_
 rintro e w' ⟨rfl,rfl⟩
 go_wp2
 go_ret
 exact ⟨rfl,rfl⟩
theorem Zyz (n:Nat) (w:World) (h:n<100):Calls Tryz.prog 66 #[.int .i64 n] w fun e w'=>e = .returned (.string ⟨(Lib.decDigits n).toArray⟩)∧w'=w:=by
 go_enter Tryz.func66,Tryz.ntmps66
 go_wp2_with fail
 refine (Zwa n _ h).mono ?_
 rintro e w' ⟨rfl,rfl⟩
 go_wp2
 go_ret
 exact ⟨rfl,rfl⟩
theorem Zon (n:Nat) (w:World) (h:n<100):Calls Tryz.prog 41 #[.int .i64 n] w fun e w'=>e = .returned (.string ⟨(Lib.decDigits n).toArray⟩)∧w'=w:=by
 go_enter Tryz.func41,Tryz.ntmps41
 go_wp2_with fail
 refine (Zyz n _ h).mono ?_
 rintro e w' ⟨rfl,rfl⟩
 go_wp2
 go_ret
 exact ⟨rfl,rfl⟩
theorem Zsl (n:Nat) (w:World) (h:n<2600):Calls Tryz.prog 174 #[.int .i64 n] w fun e w'=>e = .returned (.string ⟨(Zef n).toArray⟩)∧w'=w:=by
 by_cases h26:n<26
 ·have hd:(n:Int) / 26=0:=by omega
  go_enter Tryz.func174,Tryz.ntmps174
  go_wp2
  go_ret
  refine ⟨Zol ((Zne n).trans ?_),rfl⟩
  rw [Zef,if_pos h26,Nat.mod_eq_of_lt h26]
 ·have hd:((n:Int) / 26 == 0)=false:=by rw [Qu]; omega
  go_enter Tryz.func174,Tryz.ntmps174
  go_wp2_with fail
  refine (Zon (n / 26) _ (by omega)).mono ?_
  rintro e w' ⟨rfl,rfl⟩
  have hlen:=Zjp (n / 26)
  have henc:=Zne n
  have Henc:=Zac henc
  have hsz:(Utf8.encode (65+(n:Int) % 26)).size=1:=by rw [henc]; rfl
  clear henc
  go_wp2
  go_ret
  refine ⟨Zol ?_,rfl⟩
  show Utf8.encode (65+(n:Int) % 26)++_=_
  rw [Henc.out,Zbk,Zef,if_neg h26]
  rfl
def symC (s:Sym):List UInt8:=if s.name=[] then Zef s.num else s.name
theorem Zmw (s:Sym) (w:World) (h:s.num<2600):Calls Tryz.prog 135 #[.agg #[.string ⟨s.name.toArray⟩,.int .i64 s.num,.int .i64 s.args]] w fun e w'=>e = .returned (.string ⟨(symC s).toArray⟩)∧Below w.heap.size w w':=by
 cases hn:s.name with
 | nil =>
  have Hc:Hid (symC s=Zef s.num):=by show _=_; simp [symC,hn]
  clear hn
  go_enter Tryz.func135,Tryz.ntmps135
  go_wp2_with fail
  refine (Zsl s.num _ h).mono ?_
  rintro e w' ⟨rfl,rfl⟩
  go_wp2
  go_ret
  rw [Hc.out]
  exact ⟨rfl,(Below.refl _ _).alloc (Qe _) _⟩
 | cons c r =>
  have Hc:Hid (symC s=c::r):=by show _=_; simp [symC,hn]
  clear hn
  go_enter Tryz.func135,Tryz.ntmps135
  go_wp2
  go_ret
  rw [Hc.out]
  exact ⟨rfl,(Below.refl _ _).alloc (Qe _) _⟩
def Zih (f:Nat):List UInt8→List (List Sym)→List Nat→List UInt8
 | _,[],_=>[]
 | sep,l::ls,seen=>sep++(Zcj f l seen).1++Zih f [44,32] ls (Zcj f l seen).2.1
theorem Zsm (f:Nat):∀ (ls:List (List Sym)),(∀ l' ∈ ls,IsT f l')→(∀ s ∈ ls.flatten,s.name.length≤4096)→∀ sep seen,sep.length≤2→seen.length+ls.flatten.length≤4000→(Zih f sep ls seen).length≤4101 * ls.flatten.length:=by
 intro ls
 induction ls with
 | nil=>intro _ _ sep seen _ _; simp [Zih]
 | cons l ls ih =>
  intro h hn sep seen hsep hs
  simp only [List.flatten_cons,Qg] at hs
  have h1:=Zqe f l (h l (by simp)) (fun s hs=>hn s (by simp [hs])) seen (by omega)
  have h2:=ih (fun l' hl=>h l' (by simp [hl])) (fun s hs=>hn s (by simp only [List.flatten_cons,Qk]; exact Or.inr hs)) [44,32] (Zcj f l seen).2.1 (by simp) (by omega)
  have h3:=Zyx f l (h l (by simp))
  simp only [Zih,Qg,List.flatten_cons]
  omega
def Zcy (f:Nat):Nat→List Tok→Names→List (List Sym)→Option (List (List Sym) × List Tok × Names)
 | 0,_,_,_=>none
 | g+1,ts,names,acc =>
  match Zcs f ts names with
  | none=>none
  | some r =>
   match r.2.1 with
   | []=>none
   | x::rest=>if x.kind=46 then some (acc++[r.1],rest,r.2.2) else Zcy f g rest r.2.2 (acc++[r.1])
theorem Znf (f:Nat):∀ (l:List UInt8) (p:Nat),(lexF f l p).length≤l.length∧∀ t ∈ lexF f l p,t.text≠[]∧t.text.length≤l.length:=by
 induction f with
 | zero=>intro l p; exact ⟨by simp [lexF],fun t ht=>by simp [lexF] at ht⟩
 | succ f ih =>
  intro l p
  cases l with
  | nil=>exact ⟨by simp [lexF],fun t ht=>by simp [lexF] at ht⟩
  | cons c r =>
   rw [lexF]
   split
   ·have h:=ih r (p+1)
    exact ⟨by simp; omega,fun t ht=>⟨(h.2 t ht).1,by have:=(h.2 t ht).2; simp; omega⟩⟩
   ·have h:=ih (r.drop (Zbn c r).2) (p+(Zbn c r).2+1)
    simp only [List.length_drop] at h
    refine ⟨by simp; omega,fun t ht => ?_⟩
    simp only [Qp] at ht
    rcases ht with rfl | ht
    ·exact ⟨by simp,by simp; omega⟩
    ·exact ⟨(h.2 t ht).1,by have:=(h.2 t ht).2; simp; omega⟩
theorem Ydi (l:List UInt8) (p:Nat):(toks l p).length≤l.length:=(Znf _ l p).1
theorem Zqf (l:List UInt8) (p:Nat):∀ t ∈ toks l p,t.text≠[]∧t.text.length≤l.length:=(Znf _ l p).2
def Zaz (s:ByteArray):List Tok:=toks s.data.toList 0++[⟨4,[],s.size⟩]
theorem Zeg (s:ByteArray):(Zaz s).length≤s.size+1:=by
 have:=Ydi s.data.toList 0
 simp [Zaz] at this ⊢
 exact this
theorem Zkj (s:ByteArray):∀ t ∈ Zaz s,t.text.length≤s.size:=by
 intro t ht
 simp only [Zaz,Qk,List.mem_singleton] at ht
 rcases ht with ht | rfl
 ·have:=(Zqf _ _ t ht).2
  simpa using this
 ·simp
theorem Zqg (s:ByteArray):∀ i t,(Zaz s)[i]?=some t→i+1<(Zaz s).length→t.text≠[]:=by
 intro i t ht hi
 simp only [Zaz,Qg,Qn] at hi
 rw [Zaz,Qc (by omega)] at ht
 exact (Zqf _ _ t (Qh ht)).1
def Zqh:ByteArray:=⟨#[48,49,50,51,52,53,54,55,56,57]⟩
theorem Zwb (c:UInt8):inB c Zdx=decide (97≤c.toNat∧c.toNat≤122):=by
 have:=Zdp (p:=fun c=>inB c Zdx == decide (97≤c.toNat∧c.toNat≤122)) (by decide +kernel) c
 exact eq_of_beq this
theorem Zza (c:UInt8):inB c Zhi=decide (65≤c.toNat∧c.toNat≤90):=by
 have:=Zdp (p:=fun c=>inB c Zhi == decide (65≤c.toNat∧c.toNat≤90)) (by decide +kernel) c
 exact eq_of_beq this
theorem Zwc (c:UInt8):inB c Zqh=decide (48≤c.toNat∧c.toNat≤57):=by
 have:=Zdp (p:=fun c=>inB c Zqh == decide (48≤c.toNat∧c.toNat≤57)) (by decide +kernel) c
 exact eq_of_beq this
theorem Zzb (c:UInt8):inB c Zhf=(inB c Zdx || inB c Zhi || inB c Zqh):=by
 have:=Zdp (p:=fun c=>inB c Zhf == (inB c Zdx || inB c Zhi || inB c Zqh)) (by decide +kernel) c
 exact eq_of_beq this
theorem Zll (c:UInt8) (w:World):Calls Tryz.prog 194 #[.int .u8 c.toNat] w fun e w'=>e = .returned (.bool (Zgq c))∧w'=w:=by
 cases hb:Zgq c
 ·obtain ⟨h1,h2⟩:=Zys hb
  go_enter Tryz.func194,Tryz.ntmps194
  go_wp2
  go_ret
  exact ⟨rfl,rfl⟩
 ·rcases Zsk hb with h1 | ⟨h1,h2⟩
  all_goals
   go_enter Tryz.func194,Tryz.ntmps194
   go_wp2
   go_ret
   exact ⟨rfl,rfl⟩
theorem Zcd (c:UInt8) (w:World):Calls Tryz.prog 195 #[.int .u8 c.toNat] w fun e w'=>e = .returned (.bool (inB c Zdx))∧w'=w:=by
 rw [Zwb]
 by_cases h1:(97:Int)≤(c.toNat:Int)
 ·by_cases h2:(c.toNat:Int)≤122
  all_goals
   go_enter Tryz.func195,Tryz.ntmps195
   go_wp2
   go_ret
   exact ⟨Zez (by symm; simp; omega),rfl⟩
 ·go_enter Tryz.func195,Tryz.ntmps195
  go_wp2
  go_ret
  exact ⟨Zez (by symm; simp; omega),rfl⟩
theorem Zbo (c:UInt8) (w:World):Calls Tryz.prog 196 #[.int .u8 c.toNat] w fun e w'=>e = .returned (.bool (inB c Zhi))∧w'=w:=by
 rw [Zza]
 by_cases h1:(65:Int)≤(c.toNat:Int)
 ·by_cases h2:(c.toNat:Int)≤90
  all_goals
   go_enter Tryz.func196,Tryz.ntmps196
   go_wp2
   go_ret
   exact ⟨Zez (by symm; simp; omega),rfl⟩
 ·go_enter Tryz.func196,Tryz.ntmps196
  go_wp2
  go_ret
  exact ⟨Zez (by symm; simp; omega),rfl⟩
theorem Zii (c:UInt8) (w:World):Calls Tryz.prog 213 #[.int .u8 c.toNat] w fun e w'=>e = .returned (.bool (inB c Zqh))∧w'=w:=by
 rw [Zwc]
 by_cases h1:(48:Int)≤(c.toNat:Int)
 ·by_cases h2:(c.toNat:Int)≤57
  all_goals
   go_enter Tryz.func213,Tryz.ntmps213
   go_wp2
   go_ret
   exact ⟨Zez (by symm; simp; omega),rfl⟩
 ·go_enter Tryz.func213,Tryz.ntmps213
  go_wp2
  go_ret
  exact ⟨Zez (by symm; simp; omega),rfl⟩
theorem Zng (c:UInt8) (w:World):Calls Tryz.prog 209 #[.int .u8 c.toNat] w fun e w'=>e = .returned (.bool (inB c Zhf))∧w'=w:=by
 rw [Zzb]
 cases h1:inB c Zdx
 ·cases h2:inB c Zhi
  ·go_enter Tryz.func209,Tryz.ntmps209
   go_wp2_with (first | (go_at_call 195; refine (Zcd _ _).mono ?_; rintro e w' ⟨rfl,rfl⟩) | (go_at_call 196; refine (Zbo _ _).mono ?_; rintro e w' ⟨rfl,rfl⟩) | (go_at_call 213; refine (Zii _ _).mono ?_; rintro e w' ⟨rfl,rfl⟩))
   go_ret
   exact ⟨rfl,rfl⟩
  ·go_enter Tryz.func209,Tryz.ntmps209
   go_wp2_with (first | (go_at_call 195; refine (Zcd _ _).mono ?_; rintro e w' ⟨rfl,rfl⟩) | (go_at_call 196; refine (Zbo _ _).mono ?_; rintro e w' ⟨rfl,rfl⟩) | (go_at_call 213; refine (Zii _ _).mono ?_; rintro e w' ⟨rfl,rfl⟩))
   go_ret
   exact ⟨rfl,rfl⟩
 ·go_enter Tryz.func209,Tryz.ntmps209
  go_wp2_with (first | (go_at_call 195; refine (Zcd _ _).mono ?_; rintro e w' ⟨rfl,rfl⟩) | (go_at_call 196; refine (Zbo _ _).mono ?_; rintro e w' ⟨rfl,rfl⟩) | (go_at_call 213; refine (Zii _ _).mono ?_; rintro e w' ⟨rfl,rfl⟩))
  go_ret
  exact ⟨rfl,rfl⟩
def Zdi (s:ByteArray) (n:Nat):UInt8:=(s.data.toList[n]?).getD 0
theorem Zlm (s:ByteArray) (n:Nat) (h:n<s.size):Zdi s n=s[n]:=by
 unfold Zdi
 rw [Qb (by simpa using h)]
 rfl
theorem Zln (s:ByteArray) (n:Nat) (h:¬ n<s.size):Zdi s n=0:=by
 unfold Zdi
 rw [List.getElem?_eq_none (by simp; omega)]
 rfl
theorem Zhs (s:ByteArray) (n:Nat) (w:World) (hs:s.size≤4096) (hn:n≤5000):Calls Tryz.prog 163 #[.string s,.int .i64 n] w fun e w'=>e = .returned (.int .u8 (Zdi s n).toNat)∧w'=w:=by
 by_cases h:n<s.size
 ·have Hb:=(show Hid _ from Zlm s n h)
  go_enter Tryz.func163,Tryz.ntmps163
  go_wp2
  go_ret
  rw [Hb.out]
  exact ⟨rfl,rfl⟩
 ·have Hb:=(show Hid _ from Zln s n h)
  go_enter Tryz.func163,Tryz.ntmps163
  go_wp2
  go_ret
  rw [Hb.out]
  exact ⟨rfl,rfl⟩
def Zcn:List UInt8→Nat
 | []=>0
 | c::r=>if Zgq c then Zcn r+1 else 0
theorem Zzc (l:List UInt8):Zcn l≤l.length:=by
 induction l with
 | nil=>exact Qe _
 | cons c r ih=>unfold Zcn; split <;> simp <;> omega
theorem Zic (s:ByteArray) (n:Nat) (w:World) (hs:s.size≤4096) (hn:n≤s.size):Calls Tryz.prog 162 #[.string s,.int .i64 n] w fun e w'=>e = .returned (.int .i64 ((n+Zcn (s.data.toList.drop n):Nat):Int))∧w'=w:=by
 go_enter Tryz.func162,Tryz.ntmps162
 go_wp2
 go_loop [1] (fun i=>∃ k:Nat,k≤s.size∧i = .int .i64 k∧n+Zcn (s.data.toList.drop n)=k+Zcn (s.data.toList.drop k)) (fun i=>s.size - (intOf i).toNat)
 case atStart=>exact ⟨n,hn,rfl,rfl⟩
 case round =>
  obtain ⟨k,hk,rfl,hn⟩:=hrel
  have Hn:=(show Hid _ from hn)
  clear hn
  by_cases hlt:k<s.size
  ·have hd:=Zlj s k hlt
   cases hb:Zgq s[k]
   ·have Hd:Hid (Zcn (s.data.toList.drop k)=0):=by show _=_; rw [hd,Zcn,if_neg (by simp [hb])]
    clear hd
    go_wp2_with (go_at_call 194; refine (Zll _ _).mono ?_; rintro e w' ⟨rfl,rfl⟩)
    go_ret
    exact ⟨Zjo (by have h1:=Hn.out; have h2:=Hd.out; omega),rfl⟩
   ·have Hd:Hid (Zcn (s.data.toList.drop k)=Zcn (s.data.toList.drop (k+1))+1):=by show _=_; rw [hd,Zcn,if_pos hb]
    clear hd
    go_wp2_with (go_at_call 194; refine (Zll _ _).mono ?_; rintro e w' ⟨rfl,rfl⟩)
    go_round
    case rel=>exact ⟨k+1,by omega,by go_num,by have h1:=Hn.out; have h2:=Hd.out; omega⟩
    case measure=>simp [intOf]; omega
  ·have Hd:Hid (Zcn (s.data.toList.drop k)=0):=by show _=_; rw [Zqb s k hlt]; rfl
   go_wp2
   go_ret
   exact ⟨Zjo (by have h1:=Hn.out; have h2:=Hd.out; omega),rfl⟩
theorem Zwd:inB 0 Zhf=false:=by decide +kernel
theorem Ziv (s:ByteArray) (n:Nat) (w:World) (hs:s.size≤4096) (hn:n≤s.size):Calls Tryz.prog 197 #[.string s,.int .i64 n] w fun e w'=>e = .returned (.int .i64 ((n+Zbm (s.data.toList.drop n):Nat):Int))∧w'=w:=by
 go_enter Tryz.func197,Tryz.ntmps197
 go_wp2
 go_loop [1] (fun i=>∃ k:Nat,k≤s.size∧i = .int .i64 k∧n+Zbm (s.data.toList.drop n)=k+Zbm (s.data.toList.drop k)) (fun i=>s.size - (intOf i).toNat)
 case atStart=>exact ⟨n,hn,rfl,rfl⟩
 case round =>
  obtain ⟨k,hk,rfl,hn⟩:=hrel
  have Hn:=(show Hid _ from hn)
  clear hn
  cases hb:inB (Zdi s k) Zhf
  ·have Hd:Hid (Zbm (s.data.toList.drop k)=0):=by
    show _=_
    by_cases hlt:k<s.size
    ·rw [Zlj s k hlt]
     rw [Zlm s k hlt] at hb
     exact Zbe _ _ hb
    ·rw [Zqb s k hlt]; rfl
   go_wp2_with (first | (go_at_call 163; refine (Zhs _ _ _ hs (by omega)).mono ?_; rintro e w' ⟨rfl,rfl⟩) | (go_at_call 209; refine (Zng _ _).mono ?_; rintro e w' ⟨rfl,rfl⟩))
   go_ret
   exact ⟨Zjo (by have h1:=Hn.out; have h2:=Hd.out; omega),rfl⟩
  ·have hlt:k<s.size:=by
    rcases Nat.lt_or_ge k s.size with h | h
    ·exact h
    ·rw [Zln s k (by omega),Zwd] at hb; cases hb
   have Hd:Hid (Zbm (s.data.toList.drop k)=Zbm (s.data.toList.drop (k+1))+1):=by
    show _=_
    rw [Zlj s k hlt]
    rw [Zlm s k hlt] at hb
    exact Zgp _ _ hb
   go_wp2_with (first | (go_at_call 163; refine (Zhs _ _ _ hs (by omega)).mono ?_; rintro e w' ⟨rfl,rfl⟩) | (go_at_call 209; refine (Zng _ _).mono ?_; rintro e w' ⟨rfl,rfl⟩))
   go_round
   case rel=>exact ⟨k+1,by omega,by go_num,by have h1:=Hn.out; have h2:=Hd.out; omega⟩
   case measure=>simp [intOf]; omega
def Zdc (c d:UInt8):Nat :=
 if inB c Zdx then 1 else if inB c Zhi then 2 else if c=40 then 3 else if c=41 then 4 else if c=44 then 5 else if c=46 then 6 else if c=58∧d=45 then 7 else 8
theorem Zjr {c k:UInt8} (h:c=k):((c.toNat:Int) == (k.toNat:Int))=true:=by subst h; simp
theorem Zgf {c k:UInt8} (h:¬ c=k):((c.toNat:Int) == (k.toNat:Int))=false:=by
 rw [Qu]
 intro e
 exact h (UInt8.toNat_inj.1 (by omega))
theorem Zwe (c d:UInt8) (w:World):Calls Tryz.prog 164 #[.int .u8 c.toNat,.int .u8 d.toNat] w fun e w'=>e = .returned (.int .i64 (Zdc c d))∧w'=w:=by
 cases hA:inB c Zdx
 case true =>
  have Hk:Hid (Zdc c d=1):=by show _=_; simp [Zdc,hA]
  go_enter Tryz.func164,Tryz.ntmps164
  go_wp2_with (first | (go_at_call 195; refine (Zcd _ _).mono ?_; rintro e w' ⟨rfl,rfl⟩) | (go_at_call 196; refine (Zbo _ _).mono ?_; rintro e w' ⟨rfl,rfl⟩))
  go_ret
  rw [Hk.out]
  exact ⟨rfl,rfl⟩
 case false =>
  cases hB:inB c Zhi
  case true =>
   have Hk:Hid (Zdc c d=2):=by show _=_; simp [Zdc,hA,hB]
   go_enter Tryz.func164,Tryz.ntmps164
   go_wp2_with (first | (go_at_call 195; refine (Zcd _ _).mono ?_; rintro e w' ⟨rfl,rfl⟩) | (go_at_call 196; refine (Zbo _ _).mono ?_; rintro e w' ⟨rfl,rfl⟩))
   go_ret
   rw [Hk.out]
   exact ⟨rfl,rfl⟩
  case false =>
   by_cases h1:c=40
   ·have Hk:Hid (Zdc c d=3):=by show _=_; unfold Zdc; rw [if_neg (by rw [hA]; simp),if_neg (by rw [hB]; simp),if_pos h1]
    have t1:((c.toNat:Int) == 40)=true:=Zjr h1
    clear h1
    go_enter Tryz.func164,Tryz.ntmps164
    go_wp2_with (first | (go_at_call 195; refine (Zcd _ _).mono ?_; rintro e w' ⟨rfl,rfl⟩) | (go_at_call 196; refine (Zbo _ _).mono ?_; rintro e w' ⟨rfl,rfl⟩))
    go_ret
    rw [Hk.out]
    exact ⟨rfl,rfl⟩
   ·have t1:((c.toNat:Int) == 40)=false:=Zgf h1
    by_cases h2:c=41
    ·have Hk:Hid (Zdc c d=4):=by show _=_; unfold Zdc; rw [if_neg (by rw [hA]; simp),if_neg (by rw [hB]; simp),if_neg h1,if_pos h2]
     have t2:((c.toNat:Int) == 41)=true:=Zjr h2
     clear h1 h2
     go_enter Tryz.func164,Tryz.ntmps164
     go_wp2_with (first | (go_at_call 195; refine (Zcd _ _).mono ?_; rintro e w' ⟨rfl,rfl⟩) | (go_at_call 196; refine (Zbo _ _).mono ?_; rintro e w' ⟨rfl,rfl⟩))
     go_ret
     rw [Hk.out]
     exact ⟨rfl,rfl⟩
    ·have t2:((c.toNat:Int) == 41)=false:=Zgf h2
     by_cases h3:c=44
     ·have Hk:Hid (Zdc c d=5):=by show _=_; unfold Zdc; rw [if_neg (by rw [hA]; simp),if_neg (by rw [hB]; simp),if_neg h1,if_neg h2,if_pos h3]
      have t3:((c.toNat:Int) == 44)=true:=Zjr h3
      clear h1 h2 h3
      go_enter Tryz.func164,Tryz.ntmps164
      go_wp2_with (first | (go_at_call 195; refine (Zcd _ _).mono ?_; rintro e w' ⟨rfl,rfl⟩) | (go_at_call 196; refine (Zbo _ _).mono ?_; rintro e w' ⟨rfl,rfl⟩))
      go_ret
      rw [Hk.out]
      exact ⟨rfl,rfl⟩
     ·have t3:((c.toNat:Int) == 44)=false:=Zgf h3
      by_cases h4:c=46
      ·have Hk:Hid (Zdc c d=6):=by show _=_; unfold Zdc; rw [if_neg (by rw [hA]; simp),if_neg (by rw [hB]; simp),if_neg h1,if_neg h2,if_neg h3,if_pos h4]
       have t4:((c.toNat:Int) == 46)=true:=Zjr h4
       clear h1 h2 h3 h4
       go_enter Tryz.func164,Tryz.ntmps164
       go_wp2_with (first | (go_at_call 195; refine (Zcd _ _).mono ?_; rintro e w' ⟨rfl,rfl⟩) | (go_at_call 196; refine (Zbo _ _).mono ?_; rintro e w' ⟨rfl,rfl⟩))
       go_ret
       rw [Hk.out]
       exact ⟨rfl,rfl⟩
      ·have t4:((c.toNat:Int) == 46)=false:=Zgf h4
       by_cases h5:c=58
       ·have t5:((c.toNat:Int) == 58)=true:=Zjr h5
        by_cases h6:d=45
        ·have t6:((d.toNat:Int) == 45)=true:=Zjr h6
         have Hk:Hid (Zdc c d=7):=by show _=_; unfold Zdc; rw [if_neg (by rw [hA]; simp),if_neg (by rw [hB]; simp),if_neg h1,if_neg h2,if_neg h3,if_neg h4,if_pos ⟨h5,h6⟩]
         clear h1 h2 h3 h4 h5 h6
         go_enter Tryz.func164,Tryz.ntmps164
         go_wp2_with (first | (go_at_call 195; refine (Zcd _ _).mono ?_; rintro e w' ⟨rfl,rfl⟩) | (go_at_call 196; refine (Zbo _ _).mono ?_; rintro e w' ⟨rfl,rfl⟩))
         go_ret
         rw [Hk.out]
         exact ⟨rfl,rfl⟩
        ·have t6:((d.toNat:Int) == 45)=false:=Zgf h6
         have Hk:Hid (Zdc c d=8):=by show _=_; unfold Zdc; rw [if_neg (by rw [hA]; simp),if_neg (by rw [hB]; simp),if_neg h1,if_neg h2,if_neg h3,if_neg h4,if_neg (fun h=>h6 h.2)]
         clear h1 h2 h3 h4 h5 h6
         go_enter Tryz.func164,Tryz.ntmps164
         go_wp2_with (first | (go_at_call 195; refine (Zcd _ _).mono ?_; rintro e w' ⟨rfl,rfl⟩) | (go_at_call 196; refine (Zbo _ _).mono ?_; rintro e w' ⟨rfl,rfl⟩))
         go_ret
         rw [Hk.out]
         exact ⟨rfl,rfl⟩
       ·have t5:((c.toNat:Int) == 58)=false:=Zgf h5
        have Hk:Hid (Zdc c d=8):=by show _=_; unfold Zdc; rw [if_neg (by rw [hA]; simp),if_neg (by rw [hB]; simp),if_neg h1,if_neg h2,if_neg h3,if_neg h4,if_neg (fun h=>h5 h.1)]
        clear h1 h2 h3 h4 h5
        go_enter Tryz.func164,Tryz.ntmps164
        go_wp2_with (first | (go_at_call 195; refine (Zcd _ _).mono ?_; rintro e w' ⟨rfl,rfl⟩) | (go_at_call 196; refine (Zbo _ _).mono ?_; rintro e w' ⟨rfl,rfl⟩))
        go_ret
        rw [Hk.out]
        exact ⟨rfl,rfl⟩
def endC (s:ByteArray) (p kd:Nat):Nat:=if kd=1∨kd=2 then p+Zbm (s.data.toList.drop p) else if kd=7 then p+2 else p+1
theorem Zzd (s:ByteArray) (p kd:Nat) (w:World) (hs:s.size≤4096) (hp:p≤s.size):Calls Tryz.prog 165 #[.string s,.int .i64 p,.int .i64 kd] w fun e w'=>e = .returned (.int .i64 (endC s p kd))∧w'=w:=by
 by_cases h1:kd=1
 ·subst h1
  have Hk:Hid (endC s p 1=p+Zbm (s.data.toList.drop p)):=by show _=_; simp [endC]
  go_enter Tryz.func165,Tryz.ntmps165
  go_wp2_with (go_at_call 197; refine (Ziv _ _ _ hs hp).mono ?_; rintro e w' ⟨rfl,rfl⟩)
  go_ret
  rw [Hk.out]
  exact ⟨rfl,rfl⟩
 ·have t1:((kd:Int) == 1)=false:=by rw [Qu]; omega
  by_cases h2:kd=2
  ·subst h2
   have Hk:Hid (endC s p 2=p+Zbm (s.data.toList.drop p)):=by show _=_; simp [endC]
   clear h1
   go_enter Tryz.func165,Tryz.ntmps165
   go_wp2_with (go_at_call 197; refine (Ziv _ _ _ hs hp).mono ?_; rintro e w' ⟨rfl,rfl⟩)
   go_ret
   rw [Hk.out]
   exact ⟨rfl,rfl⟩
  ·have t2:((kd:Int) == 2)=false:=by rw [Qu]; omega
   by_cases h7:kd=7
   ·have t7:((kd:Int) == 7)=true:=by rw [beq_iff_eq]; omega
    have Hk:Hid (endC s p kd=p+2):=by show _=_; simp [endC,h7]
    clear h1 h2 h7
    go_enter Tryz.func165,Tryz.ntmps165
    go_wp2
    go_ret
    rw [Hk.out]
    exact ⟨Zjo (by omega),rfl⟩
   ·have t7:((kd:Int) == 7)=false:=by rw [Qu]; omega
    have Hk:Hid (endC s p kd=p+1):=by show _=_; simp [endC,h1,h2,h7]
    clear h1 h2 h7
    go_enter Tryz.func165,Tryz.ntmps165
    go_wp2
    go_ret
    rw [Hk.out]
    exact ⟨Zjo (by omega),rfl⟩
def Zlo (s:ByteArray) (n:Nat):Nat × Nat × Nat :=
 if n+Zcn (s.data.toList.drop n)<s.size then
  (Zdc (Zdi s (n+Zcn (s.data.toList.drop n))) (Zdi s (n+Zcn (s.data.toList.drop n)+1)),n+Zcn (s.data.toList.drop n),
   endC s (n+Zcn (s.data.toList.drop n)) (Zdc (Zdi s (n+Zcn (s.data.toList.drop n))) (Zdi s (n+Zcn (s.data.toList.drop n)+1))))
 else (0,s.size,s.size)
theorem Zuk (s:ByteArray) (n:Nat) (w:World) (hs:s.size≤4096) (hn:n≤s.size):Calls Tryz.prog 130 #[.string s,.int .i64 n] w fun e w' =>
  e = .returned (.agg #[.int .i64 (Zlo s n).1,.int .i64 (Zlo s n).2.1,.int .i64 (Zlo s n).2.2])∧Below w.heap.size w w':=by
 have hbl:=Zzc (s.data.toList.drop n)
 simp only [List.length_drop,Array.length_toList] at hbl
 have hbl':n+Zcn (s.data.toList.drop n)≤s.size:=by
  have:s.data.size=s.size:=rfl
  omega
 obtain ⟨p,hp⟩:∃ p,p=n+Zcn (s.data.toList.drop n):=⟨_,rfl⟩
 have hps:p≤s.size:=by omega
 have Hp:=(show Hid _ from hp)
 by_cases h:p<s.size
 ·have Hr:Hid (Zlo s n=(Zdc (Zdi s p) (Zdi s (p+1)),p,endC s p (Zdc (Zdi s p) (Zdi s (p+1))))):=by
   show _=_
   unfold Zlo
   rw [← hp,if_pos h]
  clear hp hbl hbl'
  go_enter Tryz.func130,Tryz.ntmps130
  go_wp2_with fail
  refine (Zic _ _ _ hs hn).mono ?_
  rintro e w' ⟨rfl,rfl⟩
  rw [← Hp.out]
  go_wp2_with fail
  refine (Zhs _ _ _ hs (by omega)).mono ?_
  rintro e w' ⟨rfl,rfl⟩
  go_wp2_with fail
  refine (Zhs s (p+1) _ hs (by omega)).mono ?_
  rintro e w' ⟨rfl,rfl⟩
  go_wp2_with fail
  refine (Zwe _ _ _).mono ?_
  rintro e w' ⟨rfl,rfl⟩
  go_wp2_with fail
  refine (Zzd _ _ _ _ hs hps).mono ?_
  rintro e w' ⟨rfl,rfl⟩
  go_wp2
  rw [Hr.out]
  exact bodyPost_ret (v := .agg #[.int .i64 (Zdc (Zdi s p) (Zdi s (p+1))),.int .i64 p,.int .i64 (endC s p (Zdc (Zdi s p) (Zdi s (p+1))))]) (by simp [results,Tryz.results130,go_sem]) rfl ⟨rfl,(Below.refl _ _).alloc (Qe _) _⟩
 ·have Hr:Hid (Zlo s n=(0,s.size,s.size)):=by
   show _=_
   unfold Zlo
   rw [← hp,if_neg h]
  clear hp hbl hbl'
  go_enter Tryz.func130,Tryz.ntmps130
  go_wp2_with fail
  refine (Zic _ _ _ hs hn).mono ?_
  rintro e w' ⟨rfl,rfl⟩
  rw [← Hp.out]
  go_wp2
  rw [Hr.out]
  exact bodyPost_ret (v := .agg #[.int .i64 0,.int .i64 s.size,.int .i64 s.size]) (by simp [results,Tryz.results130,go_sem]) rfl ⟨rfl,(Below.refl _ _).alloc (Qe _) _⟩
end Go.Proofs.YtlmjilpjmgjjcaaGreatDoor
namespace Go.Proofs.YtlmjilpjmgjjcaaGreatDoor
def Wf:Nat→List Sym→Prop
 | k,[]=>k=0
 | k,s::r=>0<k∧(s.name=[]→s.args=0)∧(s.name≠[]→s.num=0)∧Wf (k - 1+s.args) r
def vr (n:Nat):List Sym:=[⟨[],n,0⟩]
def ap1 (σ:Nat→List Sym) (s:Sym):List Sym:=if s.name=[] then σ s.num else [s]
def ap (σ:Nat→List Sym) (l:List Sym):List Sym:=l.flatMap (ap1 σ)
theorem Zer (σ:Nat→List Sym):ap σ []=[]:=rfl
theorem Zay (σ:Nat→List Sym) (s:Sym) (l:List Sym):ap σ (s::l)=ap1 σ s++ap σ l:=rfl
theorem Zcq (σ:Nat→List Sym) (l m:List Sym):ap σ (l++m)=ap σ l++ap σ m:=by simp [ap]
theorem Zjs (σ:Nat→List Sym) (ls:List (List Sym)):ap σ ls.flatten=(ls.map (ap σ)).flatten:=by
 induction ls with
 | nil=>rfl
 | cons l ls ih=>simp [Zcq,ih]
theorem Zku (σ:Nat→List Sym) (n:Nat):ap σ (vr n)=σ n:=by simp [ap,vr,ap1]
theorem Zlp (θ σ:Nat→List Sym) (l:List Sym):ap θ (ap σ l)=ap (fun n=>ap θ (σ n)) l:=by
 induction l with
 | nil=>rfl
 | cons s l ih =>
  rw [Zay,Zcq,ih,Zay]
  congr 1
  unfold ap1
  split
  ·rfl
  ·rename_i h; simp [ap,ap1,h]
def Occ (v:Nat) (l:List Sym):Prop:=∃ s ∈ l,s.name=[]∧s.num=v
theorem Zkx {σ τ:Nat→List Sym} {l:List Sym} (h:∀ n,Occ n l→σ n=τ n):ap σ l=ap τ l:=by
 induction l with
 | nil=>rfl
 | cons s l ih =>
  rw [Zay,Zay,ih (fun n hn=>h n (by obtain ⟨t,h1,h2⟩:=hn; exact ⟨t,List.mem_cons_of_mem _ h1,h2⟩))]
  congr 1
  unfold ap1
  split
  ·rename_i hs; exact h _ ⟨s,List.mem_cons_self ..,hs,rfl⟩
  ·rfl
theorem Znh {v:Nat} {l m:List Sym}:Occ v (l++m)↔Occ v l∨Occ v m:=by
 constructor
 ·rintro ⟨s,h,h1,h2⟩
  rcases Qk.1 h with h | h
  ·exact Or.inl ⟨s,h,h1,h2⟩
  ·exact Or.inr ⟨s,h,h1,h2⟩
 ·rintro (⟨s,h,h1,h2⟩ | ⟨s,h,h1,h2⟩)
  ·exact ⟨s,Qk.2 (Or.inl h),h1,h2⟩
  ·exact ⟨s,Qk.2 (Or.inr h),h1,h2⟩
theorem Zlq {v n:Nat}:Occ v (vr n)↔v=n:=by
 constructor
 ·rintro ⟨s,h,h1,h2⟩
  simp [vr] at h; subst h; exact h2.symm
 ·rintro rfl; exact ⟨_,by simp [vr]; rfl,rfl,rfl⟩
theorem Zqi {v:Nat} {σ:Nat→List Sym} {l:List Sym}:Occ v (ap σ l)↔∃ n,Occ n l∧Occ v (σ n):=by
 constructor
 ·rintro ⟨s,h,h1,h2⟩
  obtain ⟨t,ht,hs⟩:=List.mem_flatMap.1 h
  unfold ap1 at hs
  split at hs
  ·rename_i hn; exact ⟨t.num,⟨t,ht,hn,rfl⟩,s,hs,h1,h2⟩
  ·simp at hs; subst hs; contradiction
 ·rintro ⟨n,⟨t,ht,h1,h2⟩,s,hs,h3,h4⟩
  refine ⟨s,List.mem_flatMap.2 ⟨t,ht,?_⟩,h3,h4⟩
  unfold ap1; rw [if_pos h1,h2]; exact hs
theorem Zff:∀ {l:List Sym} {j k:Nat} {m:List Sym},Wf j l→Wf k m→Wf (j+k) (l++m):=by
 intro l
 induction l with
 | nil=>intro j k m h1 h2; cases h1; simpa using h2
 | cons s l ih =>
  intro j k m h1 h2
  obtain ⟨h,ha,hb,hr⟩:=h1
  refine ⟨by omega,ha,hb,?_⟩
  have:=ih hr h2
  have e:j+k - 1+s.args=j - 1+s.args+k:=by omega
  rw [e]; exact this
theorem Zky:∀ {l:List Sym} {j k:Nat},Wf (j+k) l→∃ a b,l=a++b∧Wf j a∧Wf k b:=by
 intro l
 induction l with
 | nil =>
  intro j k h
  have h:j+k=0:=h
  exact ⟨[],[],rfl,by show j=0; omega,by show k=0; omega⟩
 | cons s l ih =>
  intro j k h
  rcases Nat.eq_zero_or_pos j with rfl | hj
  ·exact ⟨[],s::l,rfl,rfl,by simpa using h⟩
  ·obtain ⟨h1,ha,hb,hr⟩:=h
   have e:j+k - 1+s.args=j - 1+s.args+k:=by omega
   rw [e] at hr
   obtain ⟨a,b,rfl,h2,h3⟩:=ih hr
   exact ⟨s::a,b,rfl,⟨hj,ha,hb,h2⟩,h3⟩
theorem Zlr:∀ {a:List Sym} {k:Nat} {b x y:List Sym},Wf k a→Wf k b→a++x=b++y→a=b∧x=y:=by
 intro a
 induction a with
 | nil =>
  intro k b x y h1 h2 h
  cases h1
  cases b with
  | nil=>exact ⟨rfl,h⟩
  | cons s b=>exact absurd h2.1 (by omega)
 | cons s a ih =>
  intro k b x y h1 h2 h
  cases b with
  | nil =>
   have h2:k=0:=h2
   exact absurd h1.1 (by omega)
  | cons t b =>
   simp only [List.cons_append,List.cons.injEq] at h
   obtain ⟨rfl,h⟩:=h
   obtain ⟨rfl,h3⟩:=ih h1.2.2.2 h2.2.2.2 h
   exact ⟨rfl,h3⟩
theorem Zdy:∀ {l:List Sym} {k:Nat},Wf k l→k≤l.length:=by
 intro l
 induction l with
 | nil=>intro k h; have h:k=0:=h; omega
 | cons s l ih=>intro k h; have:=ih h.2.2.2; simp; omega
theorem Zmx (n:Nat):Wf 1 (vr n):=⟨by omega,fun _=>rfl,fun h=>absurd rfl h,rfl⟩
theorem Zul {l:List Sym} (h:Wf 1 l):∃ s r,l=s::r∧Wf s.args r∧(s.name=[]→l=vr s.num):=by
 cases l with
 | nil=>exact absurd (show 1=0 from h) (by omega)
 | cons s r =>
  have hr:=h.2.2.2
  simp only [Nat.sub_self,Nat.zero_add] at hr
  refine ⟨s,r,rfl,hr,fun hn => ?_⟩
  have h0:=h.2.1 hn
  rw [h0] at hr
  cases r with
  | nil=>cases s; simp at hn h0; subst hn h0; rfl
  | cons t r=>exact absurd hr.1 (by omega)
theorem Zjt {ls:List (List Sym)} (h:∀ l ∈ ls,Wf 1 l):Wf ls.length ls.flatten:=by
 induction ls with
 | nil=>rfl
 | cons l ls ih =>
  have:=Zff (h l (by simp)) (ih (fun l' hl=>h l' (by simp [hl])))
  simpa [Nat.add_comm] using this
theorem Zqj:∀ (k:Nat) {l:List Sym},Wf k l→∃ ls:List (List Sym),ls.length=k∧l=ls.flatten∧∀ l' ∈ ls,Wf 1 l':=by
 intro k
 induction k with
 | zero =>
  intro l h
  cases l with
  | nil=>exact ⟨[],rfl,rfl,by simp⟩
  | cons s l=>exact absurd h.1 (by omega)
 | succ k ih =>
  intro l h
  rw [Nat.add_comm] at h
  obtain ⟨a,b,rfl,h1,h2⟩:=Zky h
  obtain ⟨ls,h3,rfl,h4⟩:=ih h2
  refine ⟨a::ls,by simp [h3],by simp,?_⟩
  intro l' hl
  rcases Qp.1 hl with rfl | hl
  ·exact h1
  ·exact h4 _ hl
theorem Zid:∀ {ls ms:List (List Sym)},(∀ l ∈ ls,Wf 1 l)→(∀ l ∈ ms,Wf 1 l)→ls.length=ms.length→ls.flatten=ms.flatten→ls=ms:=by
 intro ls
 induction ls with
 | nil=>intro ms _ _ h _; cases ms with
  | nil=>rfl
  | cons m ms=>simp at h
 | cons l ls ih =>
  intro ms h1 h2 hl h
  cases ms with
  | nil=>simp at hl
  | cons m ms =>
   simp only [List.flatten_cons] at h
   obtain ⟨rfl,h'⟩:=Zlr (h1 l (by simp)) (h2 m (by simp)) h
   rw [ih (fun l' hl=>h1 l' (List.mem_cons_of_mem _ hl)) (fun l' hl=>h2 l' (List.mem_cons_of_mem _ hl)) (by simpa using hl) h']
def Ts (σ:Nat→List Sym):Prop:=∀ n,Wf 1 (σ n)
theorem Yiq:Ts vr:=Zmx
theorem Zhj {σ:Nat→List Sym} (hσ:Ts σ):∀ {l:List Sym} {k:Nat},Wf k l→Wf k (ap σ l):=by
 intro l
 induction l with
 | nil=>intro k h; exact h
 | cons s l ih =>
  intro k h
  obtain ⟨h1,h2,h3,h4⟩:=h
  rw [Zay]
  unfold ap1
  split
  ·rename_i hn
   rw [h2 hn] at h4
   have:=Zff (hσ s.num) (ih h4)
   have e:1+(k - 1+0)=k:=by omega
   rwa [e] at this
  ·exact ⟨h1,h2,h3,ih h4⟩
theorem Zze {σ θ:Nat→List Sym} (hσ:Ts σ) (hθ:Ts θ):Ts (fun n=>ap θ (σ n)):=fun n=>Zhj hθ (hσ n)
theorem Ygo:∀ {l:List Sym} {k:Nat},Wf k l→ap vr l=l:=by
 intro l
 induction l with
 | nil=>intro k h; rfl
 | cons s l ih =>
  intro k h
  rw [Zay,ih h.2.2.2]
  unfold ap1
  split
  ·rename_i hn
   have:=h.2.1 hn
   cases s; simp at hn this; subst hn this; rfl
  ·rfl
theorem Zfr {σ:Nat→List Sym} (hσ:Ts σ) (l:List Sym):l.length≤(ap σ l).length:=by
 induction l with
 | nil=>simp
 | cons s l ih =>
  rw [Zay]
  have:1≤(ap1 σ s).length:=by
   unfold ap1; split
   ·exact Zdy (hσ _)
   ·simp
  simp; omega
theorem Zni {σ:Nat→List Sym} (hσ:Ts σ) {v:Nat} {l:List Sym} (h:Occ v l):(σ v).length+l.length≤(ap σ l).length+1:=by
 induction l with
 | nil=>obtain ⟨s,h,_⟩:=h; simp at h
 | cons s l ih =>
  rw [Zay]
  simp only [Qg,Qf]
  have hl:=Zfr hσ l
  have:1≤(ap1 σ s).length:=by
   unfold ap1; split
   ·exact Zdy (hσ _)
   ·simp
  obtain ⟨t,ht,h1,h2⟩:=h
  rcases Qp.1 ht with rfl | ht
  ·have:ap1 σ t=σ v:=by unfold ap1; rw [if_pos h1,h2]
   rw [this]; omega
  ·have:=ih ⟨t,ht,h1,h2⟩; omega
def sub1 (v:Nat) (t:List Sym):Nat→List Sym:=fun n=>if n=v then t else vr n
theorem Ygp {v:Nat} {t:List Sym} (h:Wf 1 t):Ts (sub1 v t):=fun n=>by
 unfold sub1; split
 ·exact h
 ·exact Zmx n
theorem Zsn {θ:Nat→List Sym} {v:Nat} {t:List Sym} (h:θ v=ap θ t) (n:Nat):ap θ (sub1 v t n)=θ n:=by
 unfold sub1; split
 ·rename_i e; subst e; exact h.symm
 ·exact Zku θ n
theorem Zls {θ σ:Nat→List Sym} (h:∀ n,ap θ (σ n)=θ n) (l:List Sym):ap θ (ap σ l)=ap θ l:=by
 rw [Zlp]; exact Zkx (fun n _=>h n)
structure Parts (a b x y:List Sym):Prop where
 ex:∃ p ra rb,a=p++x++ra∧b=p++y++rb
 wx:Wf 1 x
 wy:Wf 1 y
 ne:x.head?≠y.head?
theorem Parts.unif {a b x y:List Sym} (h:Parts a b x y) {θ:Nat→List Sym} (hθ:Ts θ) (hu:ap θ a=ap θ b):ap θ x=ap θ y:=by
 obtain ⟨p,ra,rb,rfl,rfl⟩:=h.ex
 simp only [Zcq,Qi] at hu
 exact (Zlr (Zhj hθ h.wx) (Zhj hθ h.wy) (List.append_cancel_left hu)).1
theorem Parts.occ {a b x y:List Sym} (h:Parts a b x y) {v:Nat}:(Occ v x→Occ v a)∧(Occ v y→Occ v b):=by
 obtain ⟨p,ra,rb,rfl,rfl⟩:=h.ex
 simp only [Znh]
 exact ⟨fun h=>Or.inl (Or.inr h),fun h=>Or.inl (Or.inr h)⟩
theorem Parts.symm {a b x y:List Sym} (h:Parts a b x y):Parts b a y x:=by
 obtain ⟨p,ra,rb,h1,h2⟩:=h.ex
 exact ⟨⟨p,rb,ra,h2,h1⟩,h.wy,h.wx,h.ne.symm⟩
def NoFit (a b:List Sym):Prop:=∀ θ,Ts θ→ap θ a≠ap θ b
def Vast (a b:List Sym):Prop:=(∃ θ,Ts θ∧ap θ a=ap θ b)∧∀ θ,Ts θ→ap θ a=ap θ b→30<(ap θ a).length
structure Mgu (σ:Nat→List Sym) (a b:List Sym):Prop where
 ts:Ts σ
 unif:ap σ a=ap σ b
 wide:∀ θ,Ts θ→ap θ a=ap θ b→∀ n,ap θ (σ n)=θ n
 occ:∀ n v,Occ v (σ n)→v=n∨Occ v a∨Occ v b
 own:∀ n,¬ Occ n a→¬ Occ n b→σ n=vr n
theorem Zwf {a b x y:List Sym} (h:Parts a b x y) {s t:Sym} {r q:List Sym} (hx:x=s::r) (hy:y=t::q) (hs:s.name≠[]) (ht:t.name≠[]):NoFit a b:=by
 intro θ hθ hu
 have:=h.unif hθ hu
 rw [hx,hy,Zay,Zay] at this
 simp only [ap1,if_neg hs,if_neg ht,List.cons_append,List.nil_append,List.cons.injEq] at this
 have hne:=h.ne
 rw [hx,hy] at hne
 simp at hne
 exact hne this.1
theorem Zum {a b x y:List Sym} (h:Parts a b x y) {v:Nat} (hx:x=vr v) {θ:Nat→List Sym} (hθ:Ts θ) (hu:ap θ a=ap θ b):∀ n,ap θ (sub1 v y n)=θ n:=by
 have:=h.unif hθ hu
 rw [hx,Zku] at this
 exact Zsn this
structure Carr (a0 b0:List Sym) (σ:Nat→List Sym) (a b:List Sym):Prop where
 ts:Ts σ
 ha:a=ap σ a0
 hb:b=ap σ b0
 wide:∀ θ,Ts θ→ap θ a0=ap θ b0→∀ n,ap θ (σ n)=θ n
 occ:∀ n v,Occ v (σ n)→v=n∨Occ v a0∨Occ v b0
 own:∀ n,¬ Occ n a0→¬ Occ n b0→σ n=vr n
theorem Carr.start {a b:List Sym} {j k:Nat} (ha:Wf j a) (hb:Wf k b):Carr a b vr a b :=
 ⟨Yiq,(Ygo ha).symm,(Ygo hb).symm,fun θ _ _ n=>Zku θ n,fun n v h=>Or.inl (Zlq.1 h),fun _ _ _=>rfl⟩
theorem Carr.unif {a0 b0:List Sym} {σ:Nat→List Sym} {a b:List Sym} (h:Carr a0 b0 σ a b) {θ:Nat→List Sym} (hθ:Ts θ) (hu:ap θ a0=ap θ b0):ap θ a=ap θ a0∧ap θ b=ap θ b0∧ap θ a=ap θ b:=by
 have e1:ap θ a=ap θ a0:=by rw [h.ha,Zls (h.wide θ hθ hu)]
 have e2:ap θ b=ap θ b0:=by rw [h.hb,Zls (h.wide θ hθ hu)]
 exact ⟨e1,e2,by rw [e1,e2,hu]⟩
theorem Carr.occs {a0 b0:List Sym} {σ:Nat→List Sym} {a b:List Sym} (h:Carr a0 b0 σ a b) {v:Nat} (hv:Occ v a∨Occ v b):Occ v a0∨Occ v b0:=by
 rw [h.ha,h.hb,Zqi,Zqi] at hv
 rcases hv with ⟨n,h1,h2⟩ | ⟨n,h1,h2⟩
 ·rcases h.occ n v h2 with rfl | h3
  ·exact Or.inl h1
  ·exact h3
 ·rcases h.occ n v h2 with rfl | h3
  ·exact Or.inr h1
  ·exact h3
theorem Carr.step {a0 b0:List Sym} {σ:Nat→List Sym} {a b:List Sym} (h:Carr a0 b0 σ a b) {x y:List Sym} {v:Nat} (hp:Parts a b x y∨Parts b a x y) (hx:x=vr v) :
  Carr a0 b0 (fun n=>ap (sub1 v y) (σ n)) (ap (sub1 v y) a) (ap (sub1 v y) b):=by
 have wy:Wf 1 y:=by rcases hp with hp | hp <;> exact hp.wy
 have ov:Occ v a∨Occ v b:=by
  rcases hp with hp | hp
  ·exact Or.inl (hp.occ.1 (by rw [hx]; exact Zlq.2 rfl))
  ·exact Or.inr (hp.occ.1 (by rw [hx]; exact Zlq.2 rfl))
 have oy:∀ m,Occ m y→Occ m a∨Occ m b:=fun m hm=>by
  rcases hp with hp | hp
  ·exact Or.inr (hp.occ.2 hm)
  ·exact Or.inl (hp.occ.2 hm)
 refine ⟨Zze h.ts (Ygp wy),?_,?_,?_,?_,?_⟩
 ·rw [h.ha,Zlp]
 ·rw [h.hb,Zlp]
 ·intro θ hθ hu n
  have hu':=(h.unif hθ hu).2.2
  rw [Zls,h.wide θ hθ hu]
  rcases hp with hp | hp
  ·exact Zum hp hx hθ hu'
  ·exact Zum hp hx hθ hu'.symm
 ·intro n m hm
  rw [Zqi] at hm
  obtain ⟨k,h1,h2⟩:=hm
  unfold sub1 at h2
  split at h2
  ·exact Or.inr (h.occs (oy m h2))
  ·rw [Zlq] at h2
   subst h2
   exact h.occ n m h1
 ·intro n hn1 hn2
  rw [h.own n hn1 hn2,Zku]
  unfold sub1
  split
  ·rename_i e
   subst e
   rcases h.occs ov with h | h
   ·exact absurd h hn1
   ·exact absurd h hn2
  ·rfl
theorem Carr.done {a0 b0:List Sym} {σ:Nat→List Sym} {a b:List Sym} (h:Carr a0 b0 σ a b) (e:a=b):Mgu σ a0 b0 :=
 ⟨h.ts,by rw [← h.ha,← h.hb,e],h.wide,h.occ,h.own⟩
theorem Mgu.small {σ:Nat→List Sym} {a b:List Sym} (h:Mgu σ a b) (hs:30<(ap σ a).length):Vast a b:=by
 refine ⟨⟨σ,h.ts,h.unif⟩,fun θ hθ hu => ?_⟩
 have:=Zfr hθ (ap σ a)
 rw [Zls (h.wide θ hθ hu)] at this
 omega
structure Gr where
 n:Nat
 hd:Nat→Sym
 kids:Nat→List Nat
structure Gr.Ok (G:Gr):Prop where
 kl:∀ i,i<G.n→∀ k ∈ G.kids i,k<G.n
 ar:∀ i,i<G.n→(G.hd i).args=(G.kids i).length
 vn:∀ i,i<G.n→(G.hd i).name=[]→G.kids i=[]
 nv:∀ i,i<G.n→(G.hd i).name≠[]→(G.hd i).num=0
structure Rt (n:Nat) (ρ:Nat→Nat):Prop where
 lt:∀ i,i<n→ρ i<n
 idem:∀ i,i<n→ρ (ρ i)=ρ i
def mg (ρ:Nat→Nat) (x y:Nat):Nat→Nat:=fun i=>if ρ i=x then y else ρ i
theorem Rt.mg {n:Nat} {ρ:Nat→Nat} (h:Rt n ρ) {x y:Nat} (hx:x<n) (hy:y<n) (ry:ρ y=y) (hne:x≠y):Rt n (mg ρ x y):=by
 refine ⟨fun i hi => ?_,fun i hi => ?_⟩
 ·unfold YtlmjilpjmgjjcaaGreatDoor.mg; split
  ·exact hy
  ·exact h.lt i hi
 ·unfold YtlmjilpjmgjjcaaGreatDoor.mg
  by_cases h1:ρ i=x
  ·rw [if_pos h1,if_neg (by rw [ry]; exact fun e=>hne e.symm),ry]
  ·rw [if_neg h1,h.idem i hi,if_neg h1]
structure Vals (G:Gr) (val:Nat→List Sym):Prop where
 wf:∀ i,i<G.n→Wf 1 (val i)
 nm:∀ i,i<G.n→(G.hd i).name≠[]→val i=G.hd i::((G.kids i).map val).flatten
def Con (n:Nat) (ρ:Nat→Nat) (val:Nat→List Sym):Prop:=∀ i,i<n→val (ρ i)=val i
def Cg (G:Gr) (ρ:Nat→Nat) (i:Nat):Prop:=(G.hd i).name≠[]→(G.hd (ρ i)).name=(G.hd i).name∧(G.kids (ρ i)).map ρ=(G.kids i).map ρ
def Grow (n:Nat) (ρ ρ':Nat→Nat):Prop:=∀ i j,i<n→j<n→ρ i=ρ j→ρ' i=ρ' j
theorem Grow.refl (n:Nat) (ρ:Nat→Nat):Grow n ρ ρ:=fun _ _ _ _ h=>h
theorem Grow.trans {n:Nat} {ρ ρ' ρ'':Nat→Nat} (h:Grow n ρ ρ') (k:Grow n ρ' ρ''):Grow n ρ ρ'':=fun i j hi hj e=>k i j hi hj (h i j hi hj e)
theorem Grow.mg {n:Nat} (ρ:Nat→Nat) (x y:Nat):Grow n ρ (mg ρ x y):=fun i j _ _ e=>by unfold YtlmjilpjmgjjcaaGreatDoor.mg; rw [e]
theorem Grow.map {n:Nat} {ρ ρ':Nat→Nat} (h:Grow n ρ ρ'):∀ {l m:List Nat},(∀ k ∈ l,k<n)→(∀ k ∈ m,k<n)→l.map ρ=m.map ρ→l.map ρ'=m.map ρ':=by
 intro l
 induction l with
 | nil=>intro m _ _ e; cases m with
  | nil=>rfl
  | cons _ _=>simp at e
 | cons a l ih =>
  intro m hl hm e
  cases m with
  | nil=>simp at e
  | cons b m =>
   simp only [List.map_cons,List.cons.injEq] at e ⊢
   exact ⟨h a b (hl a (by simp)) (hm b (by simp)) e.1,ih (fun k hk=>hl k (by simp [hk])) (fun k hk=>hm k (by simp [hk])) e.2⟩
structure Joined (G:Gr) (ρ ρ':Nat→Nat) (ats bs:List Nat):Prop where
 rt:Rt G.n ρ'
 grow:Grow G.n ρ ρ'
 eq:ats.map ρ'=bs.map ρ'
 cg:∀ i,i<G.n→Cg G ρ i→Cg G ρ' i
 con:∀ val,Vals G val→Con G.n ρ val→ats.map val=bs.map val→Con G.n ρ' val
def Clash (G:Gr) (ρ:Nat→Nat) (ats bs:List Nat):Prop:=∀ val,Vals G val→Con G.n ρ val→ats.map val≠bs.map val
theorem Joined.nil {G:Gr} {ρ:Nat→Nat} (h:Rt G.n ρ):Joined G ρ ρ [] []:=⟨h,Grow.refl _ _,rfl,fun _ _ h=>h,fun _ _ h _=>h⟩
theorem Joined.same {G:Gr} {ρ:Nat→Nat} (h:Rt G.n ρ) {a b:Nat} (e:ρ a=ρ b):Joined G ρ ρ [a] [b]:=⟨h,Grow.refl _ _,by simp [e],fun _ _ h=>h,fun _ _ h _=>h⟩
theorem Joined.snoc {G:Gr} (hG:G.Ok) {ρ ρ' ρ'':Nat→Nat} {ats bs:List Nat} {a b:Nat} (h:Joined G ρ ρ' ats bs) (k:Joined G ρ' ρ'' [a] [b]) (ha:∀ k ∈ ats,k<G.n) (hb:∀ k ∈ bs,k<G.n) :
  Joined G ρ ρ'' (ats++[a]) (bs++[b]):=by
 refine ⟨k.rt,h.grow.trans k.grow,?_,fun i hi hc=>k.cg i hi (h.cg i hi hc),fun val hv hc e => ?_⟩
 ·rw [Qr,Qr,k.grow.map ha hb h.eq,k.eq]
 ·rw [Qr,Qr] at e
  have hl:ats.length=bs.length:=by simpa using congrArg List.length h.eq
  have:=List.append_inj e (by simp [hl])
  exact k.con val hv (h.con val hv hc this.1) this.2
theorem Clash.snoc {G:Gr} {ρ ρ':Nat→Nat} {ats bs:List Nat} {a b:Nat} (h:Joined G ρ ρ' ats bs) (k:Clash G ρ' [a] [b]) (ra rb:List Nat):Clash G ρ (ats++a::ra) (bs++b::rb):=by
 intro val hv hc e
 rw [Qr,Qr] at e
 have hl:ats.length=bs.length:=by simpa using congrArg List.length h.eq
 have:=List.append_inj e (by simp [hl])
 refine k val hv (h.con val hv hc this.1) ?_
 have h2:=this.2
 simp only [List.map_cons,List.cons.injEq] at h2
 simp [h2.1]
theorem Zzf {G:Gr} {ρ:Nat→Nat} (h:Rt G.n ρ) {a b x y:Nat} (ha:a<G.n) (hb:b<G.n) (hxy:(x=ρ a∧y=ρ b)∨(x=ρ b∧y=ρ a)) {val:Nat→List Sym} (hv:Vals G val) (hc:Con G.n ρ val) (e:val a=val b):Con G.n (mg ρ x y) val:=by
 have exy:val x=val y:=by
  rcases hxy with ⟨rfl,rfl⟩ | ⟨rfl,rfl⟩
  ·rw [hc a ha,hc b hb,e]
  ·rw [hc a ha,hc b hb,e]
 intro i hi
 unfold mg
 split
 ·rename_i h1
  rw [← exy,← h1,hc i hi]
 ·exact hc i hi
theorem Yir {ρ:Nat→Nat} {a b x y:Nat} (hxy:(x=ρ a∧y=ρ b)∨(x=ρ b∧y=ρ a)):mg ρ x y a=mg ρ x y b:=by
 unfold mg
 rcases hxy with ⟨rfl,rfl⟩ | ⟨rfl,rfl⟩
 ·simp
 ·simp
theorem Joined.var {G:Gr} {ρ:Nat→Nat} (h:Rt G.n ρ) {a b x y:Nat} (ha:a<G.n) (hb:b<G.n) (hxy:(x=ρ a∧y=ρ b)∨(x=ρ b∧y=ρ a)) (hne:x≠y) (hv:(G.hd x).name=[]) :
  Joined G ρ (mg ρ x y) [a] [b]:=by
 have hx:x<G.n:=by rcases hxy with ⟨rfl,rfl⟩ | ⟨rfl,rfl⟩ <;> exact h.lt _ (by assumption)
 have hy:y<G.n:=by rcases hxy with ⟨rfl,rfl⟩ | ⟨rfl,rfl⟩ <;> exact h.lt _ (by assumption)
 have ry:ρ y=y:=by rcases hxy with ⟨rfl,rfl⟩ | ⟨rfl,rfl⟩ <;> exact h.idem _ (by assumption)
 refine ⟨h.mg hx hy ry hne,Grow.mg _ _ _,by simp [Yir hxy],?_,fun val hval hc e=>Zzf h ha hb hxy hval hc (by simpa using e)⟩
 intro i hi hc hn
 obtain ⟨h1,h2⟩:=hc hn
 have hix:ρ i≠x:=by
  intro e
  rw [e,hv] at h1
  exact hn h1.symm
 have e:mg ρ x y i=ρ i:=by unfold mg; rw [if_neg hix]
 rw [e]
 refine ⟨h1,?_⟩
 have hkl:∀ (l m:List Nat),l.map ρ=m.map ρ→l.map (mg ρ x y)=m.map (mg ρ x y):=by
  intro l m e
  have:∀ l:List Nat,l.map (mg ρ x y)=(l.map ρ).map (fun j=>if j=x then y else j):=by
   intro l; simp [mg]
  rw [this,this,e]
 exact hkl _ _ h2
theorem Grow.of_map {ρ:Nat→Nat} {x y:Nat} {l m:List Nat} (e:l.map ρ=m.map ρ):l.map (YtlmjilpjmgjjcaaGreatDoor.mg ρ x y)=m.map (YtlmjilpjmgjjcaaGreatDoor.mg ρ x y):=by
 have:∀ l:List Nat,l.map (YtlmjilpjmgjjcaaGreatDoor.mg ρ x y)=(l.map ρ).map (fun j=>if j=x then y else j):=by
  intro l; simp [YtlmjilpjmgjjcaaGreatDoor.mg]
 rw [this,this,e]
theorem Joined.name {G:Gr} (hG:G.Ok) {ρ ρ':Nat→Nat} (h:Rt G.n ρ) {a b x y:Nat} (ha:a<G.n) (hb:b<G.n) (hxy:(x=ρ a∧y=ρ b)∨(x=ρ b∧y=ρ a)) (hne:x≠y)
  (hx0:(G.hd x).name≠[]) (hn:(G.hd x).name=(G.hd y).name) (k:Joined G (mg ρ x y) ρ' (G.kids x) (G.kids y)):Joined G ρ ρ' [a] [b]:=by
 have hx:x<G.n:=by rcases hxy with ⟨rfl,rfl⟩ | ⟨rfl,rfl⟩ <;> exact h.lt _ (by assumption)
 have hy:y<G.n:=by rcases hxy with ⟨rfl,rfl⟩ | ⟨rfl,rfl⟩ <;> exact h.lt _ (by assumption)
 have rx:ρ x=x:=by rcases hxy with ⟨rfl,rfl⟩ | ⟨rfl,rfl⟩ <;> exact h.idem _ (by assumption)
 have ry:ρ y=y:=by rcases hxy with ⟨rfl,rfl⟩ | ⟨rfl,rfl⟩ <;> exact h.idem _ (by assumption)
 have hr1:=h.mg hx hy ry hne
 have hg:Grow G.n ρ ρ':=(Grow.mg _ _ _).trans k.grow
 have mgy:mg ρ x y y=y:=by unfold mg; rw [ry,if_neg (fun e=>hne e.symm)]
 have mgx:mg ρ x y x=y:=by unfold mg; rw [rx,if_pos rfl]
 have cy:Cg G ρ' y:=k.cg y hy (fun _=>by rw [mgy]; exact ⟨rfl,rfl⟩)
 have exy:ρ' x=ρ' y:=k.grow x y hx hy (by rw [mgx,mgy])
 refine ⟨k.rt,hg,?_,?_,?_⟩
 ·have:=k.grow a b ha hb (Yir hxy)
  simp [this]
 ·intro i hi hc
  by_cases hix:ρ i=x
  ·intro hin
   obtain ⟨h1,h2⟩:=hc hin
   rw [hix] at h1 h2
   have hiy:ρ' i=ρ' y:=k.grow i y hi hy (by rw [mgy]; unfold mg; rw [if_pos hix])
   obtain ⟨h3,h4⟩:=cy (by rw [← hn]; exact hx0)
   rw [hiy]
   refine ⟨by rw [h3,← hn,h1],?_⟩
   rw [h4,← k.eq]
   exact hg.map (hG.kl x hx) (hG.kl i hi) h2
  ·refine k.cg i hi (fun hin => ?_)
   obtain ⟨h1,h2⟩:=hc hin
   have e:mg ρ x y i=ρ i:=by unfold mg; rw [if_neg hix]
   rw [e]
   exact ⟨h1,Grow.of_map h2⟩
 ·intro val hv hc e
  have e':val a=val b:=by simpa using e
  have c1:=Zzf h ha hb hxy hv hc e'
  refine k.con val hv c1 ?_
  have exy:val x=val y:=by
   rcases hxy with ⟨rfl,rfl⟩ | ⟨rfl,rfl⟩
   ·rw [hc a ha,hc b hb,e']
   ·rw [hc a ha,hc b hb,e']
  rw [hv.nm x hx hx0,hv.nm y hy (by rw [← hn]; exact hx0)] at exy
  simp only [List.cons.injEq] at exy
  have hl:(G.kids x).length=(G.kids y).length:=by rw [← hG.ar x hx,← hG.ar y hy,exy.1]
  refine Zid ?_ ?_ (by simp [hl]) exy.2
  ·intro l hl; obtain ⟨j,hj,rfl⟩:=List.mem_map.1 hl; exact hv.wf j (hG.kl x hx j hj)
  ·intro l hl; obtain ⟨j,hj,rfl⟩:=List.mem_map.1 hl; exact hv.wf j (hG.kl y hy j hj)
theorem Zlt {G:Gr} (hG:G.Ok) {ρ:Nat→Nat} (h:Rt G.n ρ) {a b x y:Nat} (ha:a<G.n) (hb:b<G.n) (hxy:(x=ρ a∧y=ρ b)∨(x=ρ b∧y=ρ a))
  (hx0:(G.hd x).name≠[]) (hy0:(G.hd y).name≠[]) (hn:(G.hd x).name≠(G.hd y).name∨(G.hd x).args≠(G.hd y).args):Clash G ρ [a] [b]:=by
 intro val hv hc e
 have e':val a=val b:=by simpa using e
 have hx:x<G.n:=by rcases hxy with ⟨rfl,rfl⟩ | ⟨rfl,rfl⟩ <;> exact h.lt _ (by assumption)
 have hy:y<G.n:=by rcases hxy with ⟨rfl,rfl⟩ | ⟨rfl,rfl⟩ <;> exact h.lt _ (by assumption)
 have exy:val x=val y:=by
  rcases hxy with ⟨rfl,rfl⟩ | ⟨rfl,rfl⟩
  ·rw [hc a ha,hc b hb,e']
  ·rw [hc a ha,hc b hb,e']
 rw [hv.nm x hx hx0,hv.nm y hy hy0] at exy
 simp only [List.cons.injEq] at exy
 rw [exy.1] at hn
 rcases hn with hn | hn <;> exact hn rfl
theorem Zwg {G:Gr} (hG:G.Ok) {ρ:Nat→Nat} (h:Rt G.n ρ) {a b x y:Nat} (ha:a<G.n) (hb:b<G.n) (hxy:(x=ρ a∧y=ρ b)∨(x=ρ b∧y=ρ a))
  (hx0:(G.hd x).name≠[]) (hn:(G.hd x).name=(G.hd y).name) (k:Clash G (mg ρ x y) (G.kids x) (G.kids y)):Clash G ρ [a] [b]:=by
 intro val hv hc e
 have hx:x<G.n:=by rcases hxy with ⟨rfl,rfl⟩ | ⟨rfl,rfl⟩ <;> exact h.lt _ (by assumption)
 have hy:y<G.n:=by rcases hxy with ⟨rfl,rfl⟩ | ⟨rfl,rfl⟩ <;> exact h.lt _ (by assumption)
 have e':val a=val b:=by simpa using e
 have c1:=Zzf h ha hb hxy hv hc e'
 refine k val hv c1 ?_
 have exy:val x=val y:=by
  rcases hxy with ⟨rfl,rfl⟩ | ⟨rfl,rfl⟩
  ·rw [hc a ha,hc b hb,e']
  ·rw [hc a ha,hc b hb,e']
 rw [hv.nm x hx hx0,hv.nm y hy (by rw [← hn]; exact hx0)] at exy
 simp only [List.cons.injEq] at exy
 have hl:(G.kids x).length=(G.kids y).length:=by rw [← hG.ar x hx,← hG.ar y hy,exy.1]
 refine Zid ?_ ?_ (by simp [hl]) exy.2
 ·intro l hl; obtain ⟨j,hj,rfl⟩:=List.mem_map.1 hl; exact hv.wf j (hG.kl x hx j hj)
 ·intro l hl; obtain ⟨j,hj,rfl⟩:=List.mem_map.1 hl; exact hv.wf j (hG.kl y hy j hj)
structure Known (G:Gr) (ρ:Nat→Nat) (D:Nat→Prop) (T:Nat→List Sym):Prop where
 lt:∀ r,D r→r<G.n∧ρ r=r
 tm:∀ r,D r→T r=G.hd r::((G.kids r).map (fun k=>T (ρ k))).flatten
 kid:∀ r,D r→∀ k ∈ G.kids r,D (ρ k)
theorem Known.more {G:Gr} {ρ:Nat→Nat} {D:Nat→Prop} {T:Nat→List Sym} (h:Known G ρ D T) {r:Nat} (hr:r<G.n) (rr:ρ r=r) (hd:¬ D r) (hk:∀ k ∈ G.kids r,D (ρ k)) :
  Known G ρ (fun i=>D i∨i=r) (fun i=>if i=r then G.hd r::((G.kids r).map (fun k=>T (ρ k))).flatten else T i):=by
 have hT:∀ i,D i→(fun i=>if i=r then G.hd r::((G.kids r).map (fun k=>T (ρ k))).flatten else T i) i=T i:=fun i hi=>by
  have:i≠r:=fun e=>hd (e ▸ hi)
  simp [this]
 have hmap:∀ l:List Nat,(∀ k ∈ l,D (ρ k))→l.map (fun k=>(fun i=>if i=r then G.hd r::((G.kids r).map (fun k=>T (ρ k))).flatten else T i) (ρ k))=l.map (fun k=>T (ρ k)):=fun l hl =>
  List.map_congr_left (fun k hk=>hT _ (hl k hk))
 refine ⟨?_,?_,?_⟩
 ·rintro i (hi | rfl)
  ·exact h.lt i hi
  ·exact ⟨hr,rr⟩
 ·rintro i (hi | rfl)
  ·rw [hmap _ (h.kid i hi)]; exact (hT i hi).trans (h.tm i hi)
  ·rw [hmap _ hk]; simp
 ·rintro i (hi | rfl) k hk'
  ·exact Or.inl (h.kid i hi k hk')
  ·exact Or.inl (hk k hk')
theorem Zcg {l:List Sym} {ls:List (List Sym)} (h:l ∈ ls):l.length≤ls.flatten.length:=by
 induction ls with
 | nil=>simp at h
 | cons a ls ih =>
  simp only [List.flatten_cons,Qg]
  rcases Qp.1 h with rfl | h
  ·omega
  ·have:=ih h; omega
theorem Known.wf {G:Gr} (hG:G.Ok) {ρ:Nat→Nat} {D:Nat→Prop} {T:Nat→List Sym} (h:Known G ρ D T):∀ (m r:Nat),(T r).length≤m→D r→Wf 1 (T r):=by
 intro m
 induction m with
 | zero=>intro r hm hd; rw [h.tm r hd] at hm; simp at hm
 | succ m ih =>
  intro r hm hd
  have hr:=(h.lt r hd).1
  have e:=h.tm r hd
  rw [e] at hm ⊢
  refine ⟨by omega,fun hn=>by rw [hG.ar r hr,hG.vn r hr hn]; rfl,hG.nv r hr,?_⟩
  simp only [Nat.sub_self,Nat.zero_add]
  rw [hG.ar r hr]
  have:=Zjt (ls:=(G.kids r).map (fun k=>T (ρ k))) (fun l hl=>by
   obtain ⟨k,hk,rfl⟩:=List.mem_map.1 hl
   refine ih (ρ k) ?_ (h.kid r hd k hk)
   have:=Zcg hl
   simp only [Qf] at hm
   omega)
  simpa using this
theorem Known.val {G:Gr} (hG:G.Ok) {ρ:Nat→Nat} {D:Nat→Prop} {T:Nat→List Sym} (h:Known G ρ D T) {val:Nat→List Sym} (hv:Vals G val) (hc:Con G.n ρ val) {θ:Nat→List Sym} (hθ:∀ i,i<G.n→(G.hd i).name=[]→val i=θ (G.hd i).num) :
  ∀ (m r:Nat),(T r).length≤m→D r→ap θ (T r)=val r:=by
 intro m
 induction m with
 | zero=>intro r hm hd; rw [h.tm r hd] at hm; simp at hm
 | succ m ih =>
  intro r hm hd
  have hr:=(h.lt r hd).1
  have e:=h.tm r hd
  rw [e] at hm ⊢
  rw [Zay]
  by_cases hn:(G.hd r).name=[]
  ·rw [hG.vn r hr hn]
   simp only [List.map_nil,List.flatten_nil,Zer,Qs,ap1,if_pos hn]
   exact (hθ r hr hn).symm
  ·rw [hv.nm r hr hn]
   simp only [ap1,if_neg hn,List.cons_append,List.nil_append,List.cons.injEq,true_and]
   rw [Zjs,List.map_map]
   congr 1
   refine List.map_congr_left (fun k hk => ?_)
   have hm2:T (ρ k) ∈ (G.kids r).map (fun k=>T (ρ k)):=List.mem_map.2 ⟨k,hk,rfl⟩
   have:=Zcg hm2
   simp only [Qf] at hm
   have:=ih (ρ k) (by omega) (h.kid r hd k hk)
   simp only [Function.comp]
   rw [this,hc k (hG.kl r hr k hk)]
structure Lay (G:Gr) (tm:Nat→List Sym) (a b:List Sym):Prop where
 ok:G.Ok
 tm:∀ i,i<G.n→tm i=G.hd i::((G.kids i).map tm).flatten
 occ:∀ i,i<G.n→(G.hd i).name=[]→Occ (G.hd i).num a∨Occ (G.hd i).num b
theorem Lay.val {G:Gr} {tm:Nat→List Sym} {a b:List Sym} (h:Lay G tm a b) {θ:Nat→List Sym} (hθ:Ts θ) (hw:∀ i,i<G.n→Wf 1 (tm i)):Vals G (fun i=>ap θ (tm i)):=by
 refine ⟨fun i hi=>Zhj hθ (hw i hi),fun i hi hn => ?_⟩
 show ap θ (tm i)=_
 rw [h.tm i hi,Zay]
 simp only [ap1,if_neg hn,List.cons_append,List.nil_append,List.cons.injEq,true_and]
 rw [Zjs,List.map_map]
 rfl
theorem Lay.wf {G:Gr} {tm:Nat→List Sym} {a b:List Sym} (h:Lay G tm a b):∀ (m i:Nat),(tm i).length≤m→i<G.n→Wf 1 (tm i):=by
 intro m
 induction m with
 | zero=>intro i hm hi; rw [h.tm i hi] at hm; simp at hm
 | succ m ih =>
  intro i hm hi
  rw [h.tm i hi] at hm ⊢
  refine ⟨by omega,fun hn=>by rw [h.ok.ar i hi,h.ok.vn i hi hn]; rfl,h.ok.nv i hi,?_⟩
  simp only [Nat.sub_self,Nat.zero_add]
  rw [h.ok.ar i hi]
  have:=Zjt (ls:=(G.kids i).map tm) (fun l hl=>by
   have hll:=Zcg hl
   obtain ⟨k,hk,rfl⟩:=List.mem_map.1 hl
   refine ih k ?_ (h.ok.kl i hi k hk)
   simp only [Qf] at hm
   omega)
  simpa using this
open Classical in
noncomputable def Zea (G:Gr) (ρ:Nat→Nat) (D:Nat→Prop) (T:Nat→List Sym):Nat→List Sym:=fun v =>
 if h:∃ i,i<G.n∧(G.hd i).name=[]∧(G.hd i).num=v∧D (ρ i) then T (ρ h.choose) else vr v
def Vars (G:Gr) (ρ:Nat→Nat):Prop:=∀ i j,i<G.n→j<G.n→(G.hd i).name=[]→(G.hd j).name=[]→(G.hd i).num=(G.hd j).num→ρ i=ρ j
theorem Zoo {G:Gr} {ρ:Nat→Nat} {D:Nat→Prop} {T:Nat→List Sym} (hvs:Vars G ρ) {i:Nat} (hi:i<G.n) (hn:(G.hd i).name=[]) (hd:D (ρ i)):Zea G ρ D T (G.hd i).num=T (ρ i):=by
 have hex:∃ j,j<G.n∧(G.hd j).name=[]∧(G.hd j).num=(G.hd i).num∧D (ρ j):=⟨i,hi,hn,rfl,hd⟩
 unfold Zea
 rw [dif_pos hex]
 have hs:=hex.choose_spec
 rw [hvs _ i hs.1 hi hs.2.1 hn hs.2.2.1]
theorem Zlu {G:Gr} {ρ:Nat→Nat} {D:Nat→Prop} {T tm:Nat→List Sym} {a b:List Sym} (h:Lay G tm a b) (hf:Known G ρ D T) (hrt:Rt G.n ρ) (hcg:∀ i,i<G.n→Cg G ρ i) (hvs:Vars G ρ) :
  ∀ (m i:Nat),(tm i).length≤m→i<G.n→D (ρ i)→ap (Zea G ρ D T) (tm i)=T (ρ i):=by
 intro m
 induction m with
 | zero=>intro i hm hi; rw [h.tm i hi] at hm; simp at hm
 | succ m ih =>
  intro i hm hi hd
  have e:=h.tm i hi
  rw [e] at hm ⊢
  rw [Zay]
  by_cases hn:(G.hd i).name=[]
  ·rw [h.ok.vn i hi hn]
   simp only [List.map_nil,List.flatten_nil,Zer,Qs,ap1,if_pos hn]
   exact Zoo hvs hi hn hd
  ·obtain ⟨h1,h2⟩:=hcg i hi hn
   rw [hf.tm _ hd]
   have hri:=hrt.lt i hi
   have hlen:(G.kids (ρ i)).length=(G.kids i).length:=by simpa using congrArg List.length h2
   have hhd:G.hd (ρ i)=G.hd i:=by
    have a1:=h.ok.ar _ hri
    have a2:=h.ok.ar i hi
    have n1:=h.ok.nv _ hri (by rw [h1]; exact hn)
    have n2:=h.ok.nv i hi hn
    have e1:(G.hd (ρ i)).args=(G.hd i).args:=by rw [a1,a2,hlen]
    have e2:(G.hd (ρ i)).num=(G.hd i).num:=by rw [n1,n2]
    revert h1 e1 e2
    cases G.hd (ρ i); cases G.hd i
    simp
    intro h1 h2 h3; exact ⟨h1,h3,h2⟩
   rw [hhd]
   simp only [ap1,if_neg hn,List.cons_append,List.nil_append,List.cons.injEq,true_and]
   rw [Zjs,List.map_map]
   congr 1
   have e3:(G.kids (ρ i)).map (fun k=>T (ρ k))=(G.kids i).map (fun k=>T (ρ k)):=by
    have:∀ l:List Nat,l.map (fun k=>T (ρ k))=(l.map ρ).map T:=fun l=>by simp
    rw [this,this,h2]
   rw [e3]
   refine List.map_congr_left (fun k hk => ?_)
   have hm2:tm k ∈ (G.kids i).map tm:=List.mem_map.2 ⟨k,hk,rfl⟩
   have:=Zcg hm2
   simp only [Qf] at hm
   have hdk:D (ρ k):=by
    have:ρ k ∈ (G.kids (ρ i)).map ρ:=by rw [h2]; exact List.mem_map.2 ⟨k,hk,rfl⟩
    obtain ⟨k',hk',e'⟩:=List.mem_map.1 this
    rw [← e']; exact hf.kid _ hd k' hk'
   exact ih k (by omega) (h.ok.kl i hi k hk) hdk
theorem Zzg {G:Gr} {ρ:Nat→Nat} {D:Nat→Prop} {T tm:Nat→List Sym} {a b:List Sym} (h:Lay G tm a b) (hf:Known G ρ D T) (hrt:Rt G.n ρ) (hcg:∀ i,i<G.n→Cg G ρ i) (hvs:Vars G ρ)
  {x y:Nat} (hx:x<G.n) (hy:y<G.n) (ha:tm x=a) (hb:tm y=b) (hxy:ρ x=ρ y) (hd:D (ρ x)) (hcon:∀ val,Vals G val→Con G.n (fun i=>i) val→(∀ i j,i<G.n→j<G.n→(G.hd i).name=[]→(G.hd j).name=[]→(G.hd i).num=(G.hd j).num→val i=val j)→val x=val y→Con G.n ρ val) :
  Mgu (Zea G ρ D T) a b:=by
 have hw:∀ i,i<G.n→Wf 1 (tm i):=fun i hi=>h.wf _ i (Qe _) hi
 have hval:∀ θ,Ts θ→ap θ a=ap θ b→Con G.n ρ (fun i=>ap θ (tm i))∧Vals G (fun i=>ap θ (tm i))∧∀ i,i<G.n→(G.hd i).name=[]→ap θ (tm i)=θ (G.hd i).num:=by
  intro θ hθ hu
  have hvar:∀ i,i<G.n→(G.hd i).name=[]→ap θ (tm i)=θ (G.hd i).num:=by
   intro i hi hn
   rw [h.tm i hi,h.ok.vn i hi hn,Zay]
   simp [ap1,hn,Zer]
  refine ⟨hcon _ (h.val hθ hw) (fun _ _=>rfl) ?_ ?_,h.val hθ hw,hvar⟩
  ·intro i j hi hj hni hnj e
   rw [hvar i hi hni,hvar j hj hnj,e]
  ·show ap θ (tm x)=ap θ (tm y)
   rw [ha,hb,hu]
 refine ⟨?_,?_,?_,?_,?_⟩
 ·intro v
  unfold Zea
  split
  ·rename_i hex
   exact hf.wf h.ok _ _ (Qe _) hex.choose_spec.2.2.2
  ·exact Zmx v
 ·have e1:=Zlu h hf hrt hcg hvs _ x (Qe _) hx hd
  have e2:=Zlu h hf hrt hcg hvs _ y (Qe _) hy (by rw [← hxy]; exact hd)
  rw [ha] at e1
  rw [hb] at e2
  rw [e1,e2,hxy]
 ·intro θ hθ hu v
  obtain ⟨h1,h2,h3⟩:=hval θ hθ hu
  unfold Zea
  split
  ·rename_i hex
   have hs:=hex.choose_spec
   rw [hf.val h.ok h2 h1 (fun i hi hn=>h3 i hi hn) _ _ (Qe _) hs.2.2.2]
   have:ap θ (tm (ρ hex.choose))=ap θ (tm hex.choose):=h1 _ hs.1
   rw [this,h3 _ hs.1 hs.2.1,hs.2.2.1]
  ·exact Zku θ v
 ·intro n v hv
  unfold Zea at hv
  split at hv
  ·rename_i hex
   have hs:=hex.choose_spec
   right
   have hocc:∀ (m r:Nat),(T r).length≤m→D r→Occ v (T r)→Occ v a∨Occ v b:=by
    intro m
    induction m with
    | zero=>intro r hm hd; rw [hf.tm r hd] at hm; simp at hm
    | succ m ih =>
     intro r hm hd ho
     rw [hf.tm r hd] at hm ho
     obtain ⟨s,hs1,hs2,hs3⟩:=ho
     rcases Qp.1 hs1 with rfl | hs1
     ·rw [← hs3]; exact h.occ r (hf.lt r hd).1 hs2
     ·obtain ⟨l,hl,hsl⟩:=List.mem_flatten.1 hs1
      have hll:=Zcg hl
      obtain ⟨k,hk,rfl⟩:=List.mem_map.1 hl
      simp only [Qf] at hm
      exact ih (ρ k) (by omega) (hf.kid r hd k hk) ⟨s,hsl,hs2,hs3⟩
   exact hocc _ _ (Qe _) hs.2.2.2 hv
  ·exact Or.inl (Zlq.1 hv)
 ·intro n h1 h2
  unfold Zea
  rw [dif_neg]
  rintro ⟨i,hi,hn,rfl,_⟩
  rcases h.occ i hi hn with h | h
  ·exact h1 h
  ·exact h2 h
theorem Ygq {G:Gr} (hG:G.Ok) {val:Nat→List Sym} (hv:Vals G val) {x k:Nat} (hx:x<G.n) (hk:k ∈ G.kids x):(val k).length<(val x).length:=by
 have hn:(G.hd x).name≠[]:=fun h=>by rw [hG.vn x hx h] at hk; simp at hk
 rw [hv.nm x hx hn]
 have:=Zcg (List.mem_map.2 ⟨k,hk,rfl⟩:val k ∈ (G.kids x).map val)
 simp only [Qf]
 omega
def Stuck (G:Gr) (ρ:Nat→Nat) (P:Nat→Prop) (i:Nat):Prop:=∀ val,Vals G val→Con G.n ρ val→∃ r,P r∧(val r).length≤(val i).length
theorem Stuck.here {G:Gr} {ρ:Nat→Nat} {P:Nat→Prop} {i:Nat} (hi:i<G.n) (h:P (ρ i)):Stuck G ρ P i:=fun val _ hc=>⟨ρ i,h,by rw [hc i hi]; exact Qe _⟩
theorem Stuck.up {G:Gr} (hG:G.Ok) {ρ:Nat→Nat} {P:Nat→Prop} {i k:Nat} (hi:i<G.n) (hx:ρ i<G.n) (hk:k ∈ G.kids (ρ i)) (h:Stuck G ρ (fun r=>P r∨r=ρ i) k):Stuck G ρ P i:=by
 intro val hv hc
 have hl:=Ygq hG hv hx hk
 obtain ⟨r,hr | rfl,hle⟩:=h val hv hc
 ·exact ⟨r,hr,by rw [← hc i hi]; omega⟩
 ·omega
theorem Zzh {G:Gr} {tm:Nat→List Sym} {a b:List Sym} (h:Lay G tm a b) {x y:Nat} (hx:x<G.n) (hy:y<G.n) (ha:tm x=a) (hb:tm y=b) {θ:Nat→List Sym} (hθ:Ts θ) (hu:ap θ a=ap θ b) :
  Vals G (fun i=>ap θ (tm i))∧ap θ (tm x)=ap θ (tm y)∧∀ i,i<G.n→(G.hd i).name=[]→ap θ (tm i)=θ (G.hd i).num:=by
 have hw:∀ i,i<G.n→Wf 1 (tm i):=fun i hi=>h.wf _ i (Qe _) hi
 refine ⟨h.val hθ hw,by rw [ha,hb,hu],?_⟩
 intro i hi hn
 rw [h.tm i hi,h.ok.vn i hi hn,Zay]
 simp [ap1,hn,Zer]
structure Firsts (G:Gr) (ρ:Nat→Nat):Prop where
 rt:Rt G.n ρ
 vars:Vars G ρ
 nm:∀ i,i<G.n→(G.hd i).name≠[]→ρ i=i
 vr:∀ i,i<G.n→(G.hd i).name=[]→(G.hd (ρ i)).name=[]∧(G.hd (ρ i)).num=(G.hd i).num
theorem Firsts.cg {G:Gr} {ρ:Nat→Nat} (h:Firsts G ρ) (i:Nat) (hi:i<G.n):Cg G ρ i:=fun hn=>by rw [h.nm i hi hn]; exact ⟨rfl,rfl⟩
theorem Firsts.con {G:Gr} {ρ:Nat→Nat} (h:Firsts G ρ) {val:Nat→List Sym} (hv:∀ i j,i<G.n→j<G.n→(G.hd i).name=[]→(G.hd j).name=[]→(G.hd i).num=(G.hd j).num→val i=val j):Con G.n ρ val:=by
 intro i hi
 by_cases hn:(G.hd i).name=[]
 ·exact hv _ _ (h.rt.lt i hi) hi (h.vr i hi hn).1 hn (h.vr i hi hn).2
 ·rw [h.nm i hi hn]
theorem Firsts.vars' {G:Gr} {ρ ρ':Nat→Nat} (h:Firsts G ρ) (hg:Grow G.n ρ ρ'):Vars G ρ':=fun i j hi hj h1 h2 e=>hg i j hi hj (h.vars i j hi hj h1 h2 e)
theorem Ydj {G:Gr} {tm:Nat→List Sym} {a b:List Sym} (h:Lay G tm a b) {ρ:Nat→Nat} (h0:Firsts G ρ) {x y:Nat} (hx:x<G.n) (hy:y<G.n) (ha:tm x=a) (hb:tm y=b) (hc:Clash G ρ [x] [y]):NoFit a b:=by
 intro θ hθ hu
 obtain ⟨h1,h2,h3⟩:=Zzh h hx hy ha hb hθ hu
 refine hc _ h1 (h0.con (fun i j hi hj hni hnj e => ?_)) (by simp [h2])
 show ap θ (tm i)=ap θ (tm j)
 rw [h3 i hi hni,h3 j hj hnj,e]
theorem Ydk {G:Gr} {tm:Nat→List Sym} {a b:List Sym} (h:Lay G tm a b) {ρ ρ':Nat→Nat} (h0:Firsts G ρ) {x y:Nat} (hx:x<G.n) (hy:y<G.n) (ha:tm x=a) (hb:tm y=b) (hj:Joined G ρ ρ' [x] [y]) {i:Nat} (hs:Stuck G ρ' (fun _=>False) i):NoFit a b:=by
 intro θ hθ hu
 obtain ⟨h1,h2,h3⟩:=Zzh h hx hy ha hb hθ hu
 have hc:Con G.n ρ (fun i=>ap θ (tm i)):=h0.con (fun i j hi hj hni hnj e=>by
  show ap θ (tm i)=ap θ (tm j)
  rw [h3 i hi hni,h3 j hj hnj,e])
 obtain ⟨r,hr,_⟩:=hs _ h1 (hj.con _ h1 hc (by simp [h2]))
 exact hr
theorem Ydl {G:Gr} {tm:Nat→List Sym} {a b:List Sym} (h:Lay G tm a b) {ρ ρ':Nat→Nat} (h0:Firsts G ρ) {x y:Nat} (hx:x<G.n) (hy:y<G.n) (ha:tm x=a) (hb:tm y=b) (hj:Joined G ρ ρ' [x] [y])
  {D:Nat→Prop} {T:Nat→List Sym} (hf:Known G ρ' D T) (hd:D (ρ' x)):Mgu (Zea G ρ' D T) a b∧ap (Zea G ρ' D T) a=T (ρ' x):=by
 have hcg:∀ i,i<G.n→Cg G ρ' i:=fun i hi=>hj.cg i hi (h0.cg i hi)
 refine ⟨Zzg h hf hj.rt hcg (h0.vars' hj.grow) hx hy ha hb (by simpa using hj.eq) hd ?_,?_⟩
 ·intro val hv _ hvv e
  exact hj.con val hv (h0.con hvv) (by simp [e])
 ·rw [← ha]
  exact Zlu h hf hj.rt hcg (h0.vars' hj.grow) _ x (Qe _) hx hd
def Inst (xs ys:List (List Sym)):Prop:=∃ τ,Ts τ∧ys=xs.map (ap τ)
def Alike (xs ys:List (List Sym)):Prop:=Inst xs ys∧Inst ys xs
theorem Alike.symm {xs ys:List (List Sym)} (h:Alike xs ys):Alike ys xs:=⟨h.2,h.1⟩
theorem Alike.refl {xs:List (List Sym)} (h:∀ x ∈ xs,∃ k,Wf k x):Alike xs xs:=by
 have:Inst xs xs:=⟨vr,Yiq,by
  have:xs.map (ap vr)=xs.map id:=List.map_congr_left (fun x hx=>by obtain ⟨k,hk⟩:=h x hx; exact Ygo hk)
  simpa using this.symm⟩
 exact ⟨this,this⟩
theorem Alike.len {xs ys:List (List Sym)} (h:Alike xs ys):xs.map List.length=ys.map List.length:=by
 obtain ⟨⟨τ,h1,h2⟩,⟨τ',h3,h4⟩⟩:=h
 have hl:xs.length=ys.length:=by simpa using (congrArg List.length h2).symm
 apply List.ext_getElem (by simp [hl])
 intro i hi hj
 simp only [Ql] at hi hj
 simp only [List.getElem_map]
 have e1:ys[i]=ap τ xs[i]:=by simp only [h2,List.getElem_map]
 have e2:xs[i]=ap τ' ys[i]:=by
  have:=List.getElem_of_eq h4 hi
  simpa using this
 have l1:=Zfr h1 xs[i]
 have l2:=Zfr h3 ys[i]
 rw [← e1] at l1
 rw [← e2] at l2
 omega
def upto (V:Nat) (σ τ:Nat→List Sym):Nat→List Sym:=fun n=>if n<V then ap σ (τ n) else σ n
theorem Zlv {V:Nat} {σ τ:Nat→List Sym} (h:Ts σ) (k:Ts τ):Ts (upto V σ τ):=fun n=>by
 unfold upto; split
 ·exact Zhj h (k n)
 ·exact h n
theorem Zun {V:Nat} {σ τ:Nat→List Sym} {l:List Sym} (h:∀ v,Occ v l→v<V):ap (upto V σ τ) l=ap σ (ap τ l):=by
 rw [Zlp]
 exact Zkx (fun n hn=>by unfold upto; rw [if_pos (h n hn)])
theorem Zqk {V:Nat} {σ τ:Nat→List Sym} {l:List Sym} (h:∀ v,Occ v l→V≤v):ap (upto V σ τ) l=ap σ l :=
 Zkx (fun n hn=>by unfold upto; rw [if_neg (by have:=h n hn; omega)])
section
variable {V:Nat} {a b h:List Sym} {xs ys:List (List Sym)}
theorem Ziw (ha:∀ v,Occ v a→v<V) (hh:∀ v,Occ v h→V≤v) {τ θ:Nat→List Sym} (e:b=ap τ a) (hu:ap θ b=ap θ h):ap (upto V θ τ) a=ap (upto V θ τ) h∧ap (upto V θ τ) a=ap θ b:=by
 rw [Zun ha,Zqk hh,← e]
 exact ⟨hu,rfl⟩
theorem NoFit.alike (hi:Inst (a::xs) (b::ys)) (ha:∀ v,Occ v a→v<V) (hh:∀ v,Occ v h→V≤v) (hn:NoFit a h):NoFit b h:=by
 obtain ⟨τ,h1,h2⟩:=hi
 simp only [List.map_cons,List.cons.injEq] at h2
 intro θ hθ hu
 exact hn _ (Zlv hθ h1) (Ziw ha hh h2.1 hu).1
theorem Vast.alike (hi:Alike (a::xs) (b::ys)) (ha:∀ v,Occ v a→v<V) (hb:∀ v,Occ v b→v<V) (hh:∀ v,Occ v h→V≤v) (hn:Vast a h):Vast b h:=by
 obtain ⟨⟨τ,h1,h2⟩,τ',h3,h4⟩:=hi
 simp only [List.map_cons,List.cons.injEq] at h2 h4
 obtain ⟨⟨θ,hθ,hu⟩,hv⟩:=hn
 refine ⟨⟨_,Zlv hθ h3,(Ziw hb hh h4.1 hu).1⟩,fun θ' hθ' hu' => ?_⟩
 have:=Ziw ha hh h2.1 hu'
 have:=hv _ (Zlv hθ' h1) this.1
 rw [(Ziw ha hh h2.1 hu').2] at this
 exact this
theorem Inst.fit {σ σ':Nat→List Sym} {zs:List (List Sym)} (hi:Inst (a::xs) (b::ys)) (ha:∀ x ∈ a::xs,∀ v,Occ v x→v<V) (hh:∀ v,Occ v h→V≤v) (hz:∀ z ∈ zs,∀ v,Occ v z→V≤v) (m:Mgu σ a h) (m':Mgu σ' b h) :
  Inst ((zs++(a::xs)).map (ap σ)) ((zs++(b::ys)).map (ap σ')):=by
 obtain ⟨τ,h1,h2⟩:=hi
 have h2':=h2
 simp only [List.map_cons,List.cons.injEq] at h2'
 have hu:=Ziw (ha a (by simp)) hh h2'.1 m'.unif
 have hw:=m.wide _ (Zlv m'.ts h1) hu.1
 refine ⟨_,Zlv (V:=V) m'.ts h1,?_⟩
 rw [h2,Qr,Qr,Qr,List.map_map,List.map_map,List.map_map]
 congr 1
 ·refine List.map_congr_left (fun z hz' => ?_)
  simp only [Function.comp]
  rw [Zls hw,Zqk (hz z hz')]
 ·refine List.map_congr_left (fun x hx => ?_)
  simp only [Function.comp]
  rw [Zls hw,Zun (ha x hx)]
end
def ren (f:Nat→Nat) (s:Sym):Sym:=if s.name=[] then ⟨[],f s.num,0⟩ else s
theorem ones:∀ {τ:Nat→List Sym},Ts τ→∀ {l:List Sym},(ap τ l).length≤l.length→∀ n,Occ n l→(τ n).length=1:=by
 intro τ hτ l
 induction l with
 | nil=>intro _ n h; obtain ⟨s,h,_⟩:=h; simp at h
 | cons s l ih =>
  intro hl n hn
  rw [Zay] at hl
  simp only [Qg,Qf] at hl
  have h1:=Zfr hτ l
  have h2:1≤(ap1 τ s).length:=by
   unfold ap1; split
   ·exact Zdy (hτ _)
   ·simp
  obtain ⟨t,ht,h3,h4⟩:=hn
  rcases Qp.1 ht with rfl | ht
  ·have:ap1 τ t=τ n:=by unfold ap1; rw [if_pos h3,h4]
   rw [this] at hl h2; omega
  ·exact ih (by omega) n ⟨t,ht,h3,h4⟩
theorem Zwh {τ τ':Nat→List Sym} (h1:Ts τ) (h3:Ts τ'):∀ {l:List Sym},ap τ' (ap τ l)=l→∀ v,Occ v l→ap τ' (τ v)=vr v:=by
 intro l
 induction l with
 | nil=>intro _ v h; obtain ⟨s,h,_⟩:=h; simp at h
 | cons s l ih =>
  intro e v hv
  rw [Zay,Zcq] at e
  have l1:1≤(ap1 τ s).length:=by
   unfold ap1; split
   ·exact Zdy (h1 _)
   ·simp
  have l2:=Zfr h3 (ap1 τ s)
  have l3:=Zfr h3 (ap τ l)
  have l4:=Zfr h1 l
  have l5:=congrArg List.length e
  simp only [Qg,Qf] at l5
  have hh:=List.append_inj (s₁:=ap τ' (ap1 τ s)) (s₂:=[s]) (t₁:=ap τ' (ap τ l)) (t₂:=l) (by simpa using e) (by simp; omega)
  obtain ⟨t,ht,h5,h6⟩:=hv
  rcases Qp.1 ht with rfl | ht
  ·have e1:=hh.1
   unfold ap1 at e1
   rw [if_pos h5,h6] at e1
   have hw:=Zhj h3 (h1 v)
   rw [e1] at hw ⊢
   obtain ⟨s',r,e2,_,h7⟩:=Zul hw
   simp only [List.cons.injEq] at e2
   obtain ⟨rfl,_⟩:=e2
   rw [h7 h5,h6]
  ·exact ih hh.2 v ⟨t,ht,h5,h6⟩
theorem Alike.ren {xs ys:List (List Sym)} (h:Alike xs ys):∃ f g:Nat→Nat,ys=xs.map (List.map (ren f))∧(∀ x ∈ xs,∀ v,Occ v x→g (f v)=v):=by
 obtain ⟨⟨τ,h1,h2⟩,⟨τ',h3,h4⟩⟩:=h
 have hl:xs.length=ys.length:=by simpa using (congrArg List.length h2).symm
 have back:∀ x ∈ xs,ap τ' (ap τ x)=x:=fun x hx=>by
  rw [h2,List.map_map] at h4
  obtain ⟨i,hi,rfl⟩:=List.getElem_of_mem hx
  have:=List.getElem_of_eq h4 hi
  simpa using this.symm
 have key:∀ x ∈ xs,∀ v,Occ v x→∃ n,τ v=vr n∧τ' n=vr v:=fun x hx v hv=>by
  have hb:=Zwh h1 h3 (back x hx) v hv
  obtain ⟨t,r,e,hr,hn⟩:=Zul (h1 v)
  by_cases ht:t.name=[]
  ·refine ⟨t.num,by rw [e,← hn ht,e],?_⟩
   rw [hn ht,Zku] at hb
   exact hb
  ·rw [e,Zay] at hb
   simp [ap1,ht,vr] at hb
   rw [hb.1] at ht
   exact absurd rfl ht
 refine ⟨fun v=>((τ v).head?.map Sym.num).getD 0,fun v=>((τ' v).head?.map Sym.num).getD 0,?_,?_⟩
 ·rw [h2]
  refine List.map_congr_left (fun x hx => ?_)
  have hk:=key x hx
  clear back key h2 h4 hl hx
  induction x with
  | nil=>rfl
  | cons s l ih =>
   rw [Zay,ih (fun v hv=>hk v (by obtain ⟨t,ht,h5⟩:=hv; exact ⟨t,List.mem_cons_of_mem _ ht,h5⟩)),List.map_cons]
   unfold ap1 YtlmjilpjmgjjcaaGreatDoor.ren
   by_cases hs:s.name=[]
   ·obtain ⟨n,e1,_⟩:=hk s.num ⟨s,List.mem_cons_self ..,hs,rfl⟩
    simp [hs,e1,vr]
   ·simp [hs]
 ·intro x hx v hv
  obtain ⟨n,e1,e2⟩:=key x hx v hv
  simp [e1,e2,vr]
end Go.Proofs.YtlmjilpjmgjjcaaGreatDoor
