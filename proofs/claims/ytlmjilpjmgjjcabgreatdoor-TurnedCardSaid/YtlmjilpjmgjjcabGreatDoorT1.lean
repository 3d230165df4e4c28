/-
  PROVED HERE: plain facts on nodes and tries: a node in which the variables are called otherwise has, behind a try, a child in which they are called otherwise (no program, no memory; the conditions stand in each statement).
-/
import Derived.Test.YtlmjilpjmgjjcabGreatDoorRows
import Derived.WalkKit
import Derived.WalkSpells
import Derived.WalkLawsBesides
import GoSem.Claim
import Derived.Lib.Strings
import Derived.RegionTactic
import Derived.ChangeAlike
import Derived.BigRegion
import Derived.Lib.ItoaNum
import Derived.BigQuiet
import Derived.Deep.QuietTactic
import Derived.Deep.LoopGhost
set_option linter.unusedSimpArgs false
set_option linter.unusedVariables false
set_option maxRecDepth 10000
set_option maxHeartbeats 4000000
namespace Go.Proofs.YtlmjilpjmgjjcabGreatDoor
open Go.RowKit
abbrev Qa:=@List.getElem?_eq_some_iff
abbrev Qb:=@List.getElem?_eq_getElem
abbrev Qc:=@List.getElem?_append_left
abbrev Qd:=@List.getElem?_append_right
abbrev Qe:=@Nat.le_refl
abbrev Qf:=@List.length_cons
abbrev Qg:=@List.length_append
abbrev Qh:=@List.mem_of_getElem?
abbrev Qi:=@List.append_assoc
abbrev Qj:=@List.getElem?_map
abbrev Qk:=@List.mem_append
abbrev Ql:=@List.length_map
abbrev Qm:=@Nat.zero_le
abbrev Qn:=@List.length_singleton
abbrev Qo:=@Option.some.injEq
abbrev Qp:=@List.mem_cons
abbrev Qq:=@Nat.le_trans
abbrev Qr:=@List.map_append
abbrev Qs:=@List.append_nil
abbrev Jt:=@List.length_nil
abbrev Qu:=@beq_eq_false_iff_ne
structure Kept (S:Nat→Prop) (w w':World):Prop where
 os:w'.os=w.os
 tape:w'.tape=w.tape
 output:w'.output=w.output
 size:w.heap.size≤w'.heap.size
 block:∀ k,k<w.heap.size→¬ S k→w'.heap[k]?=w.heap[k]?
def Zbl (v:Value):Nat→Prop:=fun k=>v.ownBlock=some k
def Zdc:Nat→Prop:=fun _=>False
theorem Kept.refl (S:Nat→Prop) (w:World):Kept S w w:=⟨rfl,rfl,rfl,Qe _,fun _ _ _=>rfl⟩
theorem Kept.then {S S':Nat→Prop} {a b c:World} (h:Kept S a b) (k:Kept S' b c) (hs:∀ i,i<a.heap.size→S' i→S i):Kept S a c :=
 ⟨k.os.trans h.os,k.tape.trans h.tape,k.output.trans h.output,Qq h.size k.size,
  fun i hi hn=>(k.block i (Nat.lt_of_lt_of_le hi h.size) (fun hk=>hn (hs i hi hk))).trans (h.block i hi hn)⟩
theorem Kept.trans {S:Nat→Prop} {a b c:World} (h:Kept S a b) (k:Kept S b c):Kept S a c:=h.then k (fun _ _ h=>h)
theorem Kept.mono {S S':Nat→Prop} {w w':World} (h:Kept S w w') (hs:∀ i,i<w.heap.size→S i→S' i):Kept S' w w' :=
 ⟨h.os,h.tape,h.output,h.size,fun i hi hn=>h.block i hi (fun hk=>hn (hs i hi hk))⟩
theorem Kept.drew {S:Nat→Prop} {a w:World} (h:Kept S a w):Kept S a w.drew:=⟨h.os,h.tape,h.output,h.size,h.block⟩
theorem Kept.alloc {S:Nat→Prop} {a w:World} (h:Kept S a w) (o:Obj):Kept S a (w.alloc o) :=
 h.trans ⟨rfl,rfl,rfl,by simp,fun k hk _=>Below.heap_alloc _ _ _ hk⟩
theorem Kept.setCell {S:Nat→Prop} {a w:World} (h:Kept S a w) {p:Addr} (hp:p.block<a.heap.size→S p.block) (u:Value):Kept S a (w.setCell p u) :=
 h.then (S':=fun k=>k=p.block) ⟨rfl,rfl,rfl,by simp [World.setCell],fun k _ hn=>Below.heap_setCell _ _ _ _ hn⟩ (fun i hi e=>by subst e; exact hp hi)
theorem Kept.of_grown {w w':World} {row:Option Nat} (h:w.grownBy w' row):Kept (fun k=>row=some k) w w' :=
 ⟨h.os,h.tape,h.output,h.size,fun k hk hn=>h.block k hk (fun e=>hn e.symm)⟩
theorem Kept.below {S:Nat→Prop} {w w':World} {B:Nat} (h:Kept S w w') (hB:B≤w.heap.size) (hs:∀ k,S k→B≤k):Below B w w' :=
 ⟨h.os,h.tape,h.output,h.size,fun k hk=>h.block k (by omega) (fun hS=>by have:=hs k hS; omega)⟩
theorem Kept.of_below {w w':World} {B:Nat} (h:Below B w w'):Kept (fun k=>B≤k) w w' :=
 ⟨h.os,h.tape,h.output,h.size,fun k _ hn=>h.block k (by omega)⟩
theorem Kept.cell {S:Nat→Prop} {w w':World} (h:Kept S w w') {p:Addr} {v:Value} (hc:w.cell? p=some v) (hn:¬ S p.block):w'.cell? p=some v :=
 (World.cell?_of_block (w:=w) (h.block p.block (World.block_lt_of_cell? w p hc) hn)).trans hc
theorem Kept.owns {S:Nat→Prop} {w w':World} (h:Kept S w w') {base:Nat} {e:TypeId} {size:Nat} {v:Value} {n:Nat} {xs:List Value} (ho:w.ownsRow base e size v n xs)
  (hn:∀ k,v.ownBlock=some k→¬ S k):w'.ownsRow base e size v n xs:=by
 refine ⟨ho.1,?_⟩
 rcases ho.2 with hn' | ⟨g,cap,cur,rfl,hb,hgg,rest⟩
 ·exact .inl hn'
 ·refine .inr ⟨g,cap,cur,rfl,hb,?_,rest⟩
  rw [h.block g (Array.getElem?_eq_some_iff.1 hgg).1 (hn g rfl)]
  exact hgg
theorem Zba {w:World} {base base':Nat} {e:TypeId} {size:Nat} {v:Value} {n:Nat} {xs:List Value} (ho:w.ownsRow base e size v n xs) (hb:base'≤base):w.ownsRow base' e size v n xs:=by
 refine ⟨ho.1,?_⟩
 rcases ho.2 with hn' | ⟨g,cap,cur,rfl,hb',rest⟩
 ·exact .inl hn'
 ·exact .inr ⟨g,cap,cur,rfl,Qq hb hb',rest⟩
theorem Zhu {P:Program} (w:World) (base:Nat) (t ty e:TypeId) (i:TypeInfo) (z:Value) (ht:P.underlying t=some (.slice e)) (hi:P.info? e=some i) (hz:i.zero=some z)
  (v:Value) (n:Nat) (xs:List Value) (hown:w.ownsRow base e i.size v n xs)
  (a:Addr) (m c:Nat) (news:List Value) (hl:news.length=m * i.size) (hm:0<m) (hnews:∀ j u,news[j]?=some u→w.cell? (a.add j)=some u) (h1:∀ u ∈ news,u.oneCell'=true)
  (h63:n+m≤maxLen) (hbytes:(n+m) * i.bytes≤140737488355328) (v':Value) (w':World)
  (hr:(Builtin.append_ #[t,t] ty #[v,.slice (some a) m c]).run P w = .ok v' w'):v'.ownBlock=v.ownBlock∨v'.ownBlock=some w.heap.size:=by
 have hsmall:n+m≤9223372036854775807:=by simp only [maxLen] at h63; omega
 rcases hown.2 with ⟨rfl,rfl⟩ | ⟨g,cap,cur,rfl,hbg,hg,hnc,hcm,hcs,htake⟩
 ·have hr':=run_append_nil (P:=P) w t ty e i z ht hi hz a m c news hl hnews hm (by omega) (by have hb:=hbytes; simp only [Nat.zero_add] at hb; omega)
  rw [hr'] at hr
  injection hr with h1 h2
  subst h1
  exact .inr rfl
 ·by_cases hroom:n+m≤cap
  ·have hfit:n * i.size+news.length≤cur.size:=by rw [hl,hcs,← Nat.add_mul]; exact Nat.mul_le_mul_right _ hroom
   have hr':=run_append_room (P:=P) w t ty e i ht hi g n cap cur hg a m c news hl hnews h1 hroom hfit
   rw [hr'] at hr
   injection hr with h1 h2
   subst h1
   exact .inl rfl
  ·have holds:∀ j u,xs[j]?=some u→w.cell? ((⟨g,0,none⟩:Addr).add j)=some u:=hown.cells (g:=g) rfl
   have hr':=run_append_grow (P:=P) w t ty e i z ht hi hz ⟨g,0,none⟩ n cap xs hown.1 holds a m c news hl hnews (by omega) (by omega) (growslice_fits (by omega) hbytes)
   rw [hr'] at hr
   injection hr with h1 h2
   subst h1
   exact .inr rfl
structure Appended (w:World) (base:Nat) (e:TypeId) (size:Nat) (v:Value) (n:Nat) (xs:List Value) (v':Value) (w':World):Prop where
 owns:w'.ownsRow base e size v' n xs
 kept:Kept (Zbl v) w w'
 where_:v'.ownBlock=v.ownBlock∨∃ g,v'.ownBlock=some g∧w.heap.size≤g
theorem Zhf {P:Program} (w:World) (t ty:TypeId) (base:Nat) (e:TypeId) {z:Value} {size bytes:Nat}
  (hinfo:(P.info? e).map (fun i=>(i.zero,i.size,i.bytes))=some (some z,size,bytes)) (ht:P.underlying t=some (.slice e)) (hzs:z.cells.size=size) (hsz:0<size)
  (v:Value) (n:Nat) (xs:List Value) (hown:w.ownsRow base e size v n xs)
  (news:Array Value) (hl:news.size=size) (h1:∀ u ∈ news.toList,u.oneCell'=true)
  (hbig:(n+1) * (bytes+1)≤140737488355328) (hbase:base≤w.heap.size) :
  ∃ v' w',(Builtin.append_ #[t,t] ty #[v,.slice (some ⟨w.heap.size,0,none⟩) 1 1]).run P (w.alloc (.cells news e)) = .ok v' w'∧Appended w base e size v (n+1) (xs++news.toList) v' w':=by
 obtain ⟨i,hi,hz,hsi,hby⟩:=info_parts hinfo
 have hb1:n+1≤140737488355328:=Qq (Nat.le_mul_of_pos_right (n+1) (Nat.succ_pos bytes)) hbig
 have hb2:(n+1) * bytes≤140737488355328:=Qq (Nat.mul_le_mul_left _ (Nat.le_succ _)) hbig
 have h63:n+1≤maxLen:=by simp only [maxLen]; omega
 have hnews:∀ (j:Nat) (u:Value),news.toList[j]?=some u→(w.alloc (.cells news e)).cell? ((⟨w.heap.size,0,none⟩:Addr).add j)=some u:=by
  intro j u hu
  have hadd:(⟨w.heap.size,0,none⟩:Addr).add j=⟨w.heap.size,j,none⟩:=by unfold Addr.add; split <;> simp_all
  rw [hadd,cell_of_row _ w.heap.size j news e (0,0) (heap_alloc_new w _)]
  simpa using hu
 have hown':=hown.alloc (.cells news e)
 obtain ⟨v',w',hr,hA,hB,_⟩:=run_append_own (P:=P) (w.alloc (.cells news e)) base t ty e i z size bytes ht hi hz hsi hby hzs hsz v n xs hown'
  ⟨w.heap.size,0,none⟩ 1 1 news.toList (by simp [hl]) hnews h1 h63 hb2 (by simp; omega)
 refine ⟨v',w',hr,hA,?_,?_⟩
 ·have:=Kept.of_grown hB
  exact ((Kept.refl (Zbl v) w).alloc _).then this (fun i _ h=>h)
 ·subst hsi hby
  rcases Zhu (P:=P) (w.alloc (.cells news e)) base t ty e i z ht hi hz v n xs hown' ⟨w.heap.size,0,none⟩ 1 1 news.toList (by simp [hl]) (by omega) hnews h1 h63 hb2 v' w' hr with h | h
  ·exact .inl h
  ·exact .inr ⟨_,h,by simp⟩
theorem Znx {P:Program} {o:Oper} {a:Act} {K:Act→World→Prop} {Q:Exit→Act→World→Prop} (w:World) (s x:Operand) (t:TypeId)
  (ho:o.op = .call { callee := .builtin .append,args:=#[s,x],argTypes:=#[t,t] })
  (base:Nat) (e:TypeId) {z:Value} {size bytes:Nat}
  (hinfo:(P.info? e).map (fun i=>(i.zero,i.size,i.bytes))=some (some z,size,bytes)) (ht:P.underlying t=some (.slice e)) (hzs:z.cells.size=size) (hsz:0<size)
  (v:Value) (n:Nat) (xs:List Value) (hs:a.eval s=v) (hown:w.ownsRow base e size v n xs)
  (news:Array Value) {N:Nat} (hx:a.eval x = .slice (some ⟨N,0,none⟩) 1 1) (hN:N=w.heap.size) (hl:news.size=size) (h1:∀ u ∈ news.toList,u.oneCell'=true)
  (hbig:(n+1) * (bytes+1)≤140737488355328) (hbase:base≤w.heap.size)
  (h:∀ v' w',Appended w base e size v (n+1) (xs++news.toList) v' w'→K (a.put o.dst v') w'):o.wp P a (w.alloc (.cells news e)) K Q:=by
 subst hN
 obtain ⟨v',w',hr,h2⟩:=Zhf (P:=P) w t o.type base e hinfo ht hzs hsz v n xs hown news hl h1 hbig hbase
 unfold Oper.wp execOp
 simp only [ho,resolve,invoke,builtin,Sem.run_bind,Sem.run_pure,Result.andThen_ok,List.map_toArray,List.map_cons,List.map_nil,hs,hx,hr]
 exact h v' w' h2
theorem Zam {P:Program} {ops:Array Oper} {rest:List Oper} {o:Oper} {a:Act} {Q:Exit→Act→World→Prop} (w:World) (hgd:o.guard=none) (s x:Operand) (t:TypeId)
  (ho:o.op = .call { callee := .builtin .append,args:=#[s,x],argTypes:=#[t,t] })
  (base:Nat) (e:TypeId) {z:Value} {size bytes:Nat}
  (hinfo:(P.info? e).map (fun i=>(i.zero,i.size,i.bytes))=some (some z,size,bytes)) (ht:P.underlying t=some (.slice e)) (hzs:z.cells.size=size) (hsz:0<size)
  (v:Value) (n:Nat) (xs:List Value) (hs:a.eval s=v) (hown:w.ownsRow base e size v n xs)
  (news:Array Value) {N:Nat} (hx:a.eval x = .slice (some ⟨N,0,none⟩) 1 1) (hN:N=w.heap.size) (hl:news.size=size) (h1:∀ u ∈ news.toList,u.oneCell'=true)
  (hbig:(n+1) * (bytes+1)≤140737488355328) (hbase:base≤w.heap.size)
  (h:∀ v' w',Appended w base e size v (n+1) (xs++news.toList) v' w'→wpList P ops Q rest (a.put o.dst v') w'):wpList P ops Q (o::rest) a (w.alloc (.cells news e)) :=
 wpList_plain hgd fun _ hK=>Znx w s x t ho base e hinfo ht hzs hsz v n xs hs hown news hx hN hl h1 hbig hbase fun v' w' h2=>hK _ _ (h v' w' h2)
abbrev Qx:=@Kept.refl
abbrev Qy:=@Kept.setCell
abbrev Qz:=@Kept.alloc
end Go.Proofs.YtlmjilpjmgjjcabGreatDoor
namespace Go.Proofs.YtlmjilpjmgjjcabGreatDoor
def inB (c:UInt8) (s:ByteArray):Bool:=s.data.toList.contains c
def Zek:ByteArray:=⟨#[97,98,99,100,101,102,103,104,105,106,107,108,109,110,111,112,113,114,115,116,117,118,119,120,121,122]⟩
def Zhz:ByteArray:=⟨#[65,66,67,68,69,70,71,72,73,74,75,76,77,78,79,80,81,82,83,84,85,86,87,88,89,90]⟩
def Zya:ByteArray:=⟨#[40,41,44,46]⟩
def Zhw:ByteArray:=⟨#[97,98,99,100,101,102,103,104,105,106,107,108,109,110,111,112,113,114,115,116,117,118,119,120,121,122,65,66,67,68,69,70,71,72,73,74,75,76,77,78,79,80,81,82,83,84,85,86,87,88,89,90,48,49,50,51,52,53,54,55,56,57]⟩
theorem Zdq (s:ByteArray) (k:Nat) (h:k<s.size):s.data.toList.drop k=s[k]::s.data.toList.drop (k+1):=by
 rw [List.drop_eq_getElem_cons (by simpa using h)]; rfl
theorem Zia (s:ByteArray) (k:Nat) (h:¬ k<s.size):s.data.toList.drop k=[]:=by
 apply List.drop_eq_nil_of_le; simp; omega
def Zbm:List UInt8→Nat
 | []=>0
 | c::r=>if inB c Zhw then Zbm r+1 else 0
theorem Zhg (c:UInt8) (r:List UInt8) (h:inB c Zhw=true):Zbm (c::r)=Zbm r+1:=by rw [Zbm,if_pos h]
theorem Zbf (c:UInt8) (r:List UInt8) (h:inB c Zhw=false):Zbm (c::r)=0:=by rw [Zbm,if_neg (by simp [h])]
theorem Zyb (l:List UInt8):Zbm l≤l.length:=by
 induction l with
 | nil=>exact Qe _
 | cons c r ih=>unfold Zbm; split <;> simp <;> omega
theorem Zef {p:UInt8→Bool} (h:(List.range 256).all (fun n=>p (UInt8.ofNat n))=true) (c:UInt8):p c=true:=by
 rw [List.all_eq_true] at h
 have:=h c.toNat (by rw [List.mem_range]; exact c.toNat_lt)
 simpa using this
theorem Zfv {c:UInt8} (h:inB c Zek=true):inB c Zhw=true:=by
 have:=Zef (p:=fun c => !inB c Zek || inB c Zhw) (by decide +kernel) c
 simpa [h] using this
theorem Zgq {c:UInt8} (h:inB c Zhz=true):inB c Zhw=true:=by
 have:=Zef (p:=fun c => !inB c Zhz || inB c Zhw) (by decide +kernel) c
 simpa [h] using this
structure Tok where
 kind:Nat
 text:List UInt8
 pos:Nat
def Zbn (c:UInt8) (r:List UInt8):Nat × Nat :=
 if inB c Zek then (1,Zbm r)
 else if inB c Zhz then (2,Zbm r)
 else if inB c Zya then (c.toNat,0)
 else if c=58∧r.head?=some 45 then (3,1)
 else (5,0)
def Zhh (c:UInt8):Bool:=c == 32 || c == 10
theorem Ybk (c:UInt8) (r:List UInt8):(Zbn c r).2≤r.length:=by
 have:=Zyb r
 unfold Zbn
 split
 ·exact this
 ·split
  ·exact this
  ·split
   ·exact Qm _
   ·split
    ·rename_i h
     cases r with
     | nil=>simp at h
     | cons d r=>simp
    ·exact Qm _
def lexF:Nat→List UInt8→Nat→List Tok
 | 0,_,_=>[]
 | _+1,[],_=>[]
 | f+1,c::r,p =>
  if Zhh c then lexF f r (p+1)
  else ⟨(Zbn c r).1,(c::r).take ((Zbn c r).2+1),p⟩::lexF f (r.drop (Zbn c r).2) (p+(Zbn c r).2+1)
theorem Ybl (f:Nat):∀ (g:Nat) (l:List UInt8) (p:Nat),l.length≤f→l.length≤g→lexF f l p=lexF g l p:=by
 induction f with
 | zero =>
  intro g l p hf hg
  have:l=[]:=List.eq_nil_of_length_eq_zero (by omega)
  subst this
  cases g <;> rfl
 | succ f ih =>
  intro g l p hf hg
  cases l with
  | nil=>cases g <;> rfl
  | cons c r =>
   cases g with
   | zero=>simp at hg
   | succ g =>
    simp only [Qf] at hf hg
    have hd:(r.drop (Zbn c r).2).length≤r.length:=by simp
    rw [lexF,lexF]
    split
    ·exact ih g r _ (by omega) (by omega)
    ·rw [ih g (r.drop (Zbn c r).2) _ (by omega) (by omega)]
def toks (l:List UInt8) (p:Nat):List Tok:=lexF l.length l p
theorem Zyc (c:UInt8) (r:List UInt8) (p:Nat) (h:Zhh c=true):toks (c::r) p=toks r (p+1):=by
 unfold toks
 rw [Qf,lexF,if_pos h]
theorem Zfw (c:UInt8) (r:List UInt8) (p:Nat) (h:Zhh c=false) :
  toks (c::r) p=⟨(Zbn c r).1,(c::r).take ((Zbn c r).2+1),p⟩::toks (r.drop (Zbn c r).2) (p+(Zbn c r).2+1):=by
 unfold toks
 rw [Qf,lexF,if_neg (by simp [h])]
 congr 1
 exact Ybl _ _ _ _ (by simp) (Qe _)
structure Sym where
 name:List UInt8
 num:Nat
 args:Nat
abbrev Names:=List (List UInt8)
end Go.Proofs.YtlmjilpjmgjjcabGreatDoor
namespace Go.Proofs.YtlmjilpjmgjjcabGreatDoor
open Go.RowKit
theorem Zks {k:IntKind} {a b:Int} (h:a=b):Ending.returned (.int k a) = .returned (.int k b):=by rw [h]
theorem Zfq {a b:Bool} (h:a=b):Ending.returned (.bool a) = .returned (.bool b):=by rw [h]
theorem Zac {p:Prop} (h:p):Hid p:=h
theorem Ztx {c:UInt8} (h:Zhh c=true):((c.toNat:Int) == 32)=true∨(((c.toNat:Int) == 32)=false∧((c.toNat:Int) == 10)=true):=by
 have:=Zef (p:=fun c => !Zhh c || ((c.toNat:Int) == 32) || ((c.toNat:Int) == 10)) (by decide +kernel) c
 rw [h] at this
 cases h1:((c.toNat:Int) == 32) <;> simp_all
theorem Ybm {c:UInt8} (h:Zhh c=false):((c.toNat:Int) == 32)=false∧((c.toNat:Int) == 10)=false:=by
 have:=Zef (p:=fun c=>Zhh c || (!((c.toNat:Int) == 32) && !((c.toNat:Int) == 10))) (by decide +kernel) c
 rw [h] at this
 simpa using this
structure LookS where
 want:Nat
 query:Bool
 body:Bool
 stk:List Nat
 size:Nat
 goals:Nat
 heads:Nat
 err:Nat
def ints (l:List Nat):List Value:=l.map fun (n:Nat)=>Value.int .i64 n
theorem Zaa {w:World} {b:Nat} {cs:Array Value} {T:TypeId} (h:w.heap[b]?=some (.cells cs T (0,0))) (i:Nat) (v:Value) (hv:cs[i]?=some v) :
  w.cell? ⟨b,i,none⟩=some v:=by simp [World.cell?,h,hv]
theorem Zae {w:World} {b:Nat} {cs:Array Value} {T:TypeId} (h:w.heap[b]?=some (.cells cs T (0,0))) (i:Nat):w.frozen? ⟨b,i,none⟩=false:=by
 simp [World.frozen?,h]
theorem Zab {w:World} {b:Nat} {o:Obj} (h:w.heap[b]?=some o):b<w.heap.size:=(Array.getElem?_eq_some_iff.1 h).1
theorem Zaf {w:World} {b:Nat} {cs:Array Value} {T:TypeId} (h:w.heap[b]?=some (.cells cs T (0,0))) (i:Nat) (v:Value) :
  (w.setCell ⟨b,i,none⟩ v).heap[b]?=some (.cells (cs.setIfInBounds i v) T (0,0)):=by
 simp [World.setCell,Array.getElem?_modify,h]
theorem Zar {w:World} {b:Nat} {o:Obj} (h:w.heap[b]?=some o) (o':Obj):(w.alloc o').heap[b]?=some o:=by
 rw [Below.heap_alloc _ _ _ (Zab h)]; exact h
def only (b:Nat):Nat→Prop:=fun k=>k=b
theorem Kept.put {a w:World} {b:Nat} (h:Kept (only b) a w) (i:Nat) (u:Value):Kept (only b) a (w.setCell ⟨b,i,none⟩ u):=h.setCell (p:=⟨b,i,none⟩) (fun _=>(rfl:b=b)) u
def Zln (L:LookS) (n:Nat):LookS := { L with size:=L.size+1,err:=if 8<n∨30<L.size+1 then 3 else L.err }
def Zcq (L:LookS):LookS :=
 if L.want=0 then { L with heads:=L.heads+1,body:=false,size:=0,err:=if 24<L.heads+1 then 3 else L.err }
 else if L.want=1 then { L with goals:=L.goals+1,size:=0,err:=if 6<L.goals+1 then 3 else L.err }
 else match L.stk with
  | []=>L
  | n::r => { L with stk:=(n+1)::r,err:=if 4<n+1 then 3 else L.err }
def Zbi (L:LookS) (kd tn:Nat):LookS :=
 if kd≠1∧(kd≠2∨L.want≠2) then { L with err:=2 } else { Zln (Zcq L) tn with want:=if kd=1 then 3 else 4 }
theorem Zgr (w:World) (cs:Array Value) (T:TypeId) (i:Nat) (v:Value) (h:cs[i]?=some v):(w.alloc (.cells cs T)).cell? ⟨w.heap.size,i,none⟩=some v :=
 Zaa (heap_alloc_new w _) i v h
theorem Zao {w:World} {B:Nat} {e:TypeId} {size n:Nat} {v:Value} {xs:List Value} (h:w.ownsRow B e size v n xs) (hn:0<n) :
  ∃ g cap cur,v = .slice (some ⟨g,0,none⟩) n cap∧B≤g∧w.heap[g]?=some (.cells cur e (0,0))∧n≤cap:=by
 rcases h.2 with ⟨_,h1⟩ | ⟨g,cap,cur,h1,hb,hg,hn,_⟩
 ·omega
 ·exact ⟨g,cap,cur,h1,hb,hg,hn⟩
theorem Zai {w:World} {B:Nat} {e:TypeId} {size n g cap:Nat} {xs:List Value} (h:w.ownsRow B e size (.slice (some ⟨g,0,none⟩) n cap) n xs) (j:Nat) (u:Value) (hu:xs[j]?=some u) :
  w.cell? ⟨g,j,none⟩=some u:=by
 have:=h.cells (g:=g) rfl j u hu
 have hadd:(⟨g,0,none⟩:Addr).add j=⟨g,j,none⟩:=by unfold Addr.add; split <;> simp_all
 rwa [hadd] at this
theorem Tryz.infoInt:(Tryz.prog.info? 3).map (fun i=>(i.zero,i.size,i.bytes))=some (some (.int .i64 0),1,8):=by kernel_rfl
def Zal (L:LookS) (kd:Nat):LookS :=
 if kd=40∧L.want=3 then { L with stk:=0::L.stk,want:=2 }
 else if kd=44∧L.stk≠[] then { L with want:=2 }
 else if kd=41∧L.stk≠[] then { L with stk:=L.stk.tail,want:=4 }
 else if L.stk≠[] then { L with err:=2 }
 else if kd=44∧L.body=true then { L with want:=1 }
 else if kd=3∧L.body=false then { L with body:=true,goals:=0,want:=1 }
 else if kd=46∧L.query=true then { L with want:=5 }
 else if kd=46 then { L with want:=0 }
 else { L with err:=2 }
theorem Zad {w:World} {B:Nat} {e:TypeId} {size n:Nat} {v:Value} {xs:List Value} (h:w.ownsRow B e size v n xs):∃ a cap,v = .slice a n cap:=by
 rcases h.2 with ⟨rfl,rfl⟩ | ⟨g,cap,cur,rfl,_⟩
 ·exact ⟨none,0,rfl⟩
 ·exact ⟨_,_,rfl⟩
theorem Zib (x:Int):∀ u ∈ (#[Value.int .i64 x]:Array Value).toList,u.oneCell'=true:=by
 intro u hu
 simp at hu
 subst hu
 rfl
theorem Zpd {w:World} {B:Nat} {e:TypeId} {g n cap:Nat} {xs:List Value} (h:w.ownsRow B e 1 (.slice (some ⟨g,0,none⟩) (n+1) cap) (n+1) xs) :
  w.ownsRow B e 1 (.slice (some ⟨g,0,none⟩) n cap) n (xs.take n):=by
 refine ⟨by have:=h.1; simp at this ⊢; omega,?_⟩
 rcases h.2 with ⟨h1,_⟩ | ⟨g',cap',cur,h1,hb,hg,hn,hc,hs,ht⟩
 ·simp at h1
 ·simp at h1
  obtain ⟨rfl,rfl⟩:=h1
  refine .inr ⟨g,cap,cur,rfl,hb,hg,by omega,hc,hs,?_⟩
  rw [← ht,List.take_take]
  congr 1
  omega
theorem Tryz.infoStr:(Tryz.prog.info? 9).map (fun i=>(i.zero,i.size,i.bytes))=some (some (.string ⟨#[]⟩),1,16):=by kernel_rfl
def strs (l:List (List UInt8)):List Value:=l.map fun s=>Value.string ⟨s.toArray⟩
def Zbr (names:List (List UInt8)) (s:List UInt8):List (List UInt8) × Nat :=
 if s ∈ names then (names,names.idxOf s) else (names++[s],names.length)
theorem Ybn (s:ByteArray):∀ u ∈ (#[Value.string s]:Array Value).toList,u.oneCell'=true:=by
 intro u hu
 simp at hu
 subst hu
 rfl
theorem Zre {names:List (List UInt8)} {s:List UInt8} {k:Nat} (hk:k<names.length) (h:names[k]=s) (hn:s ∉ names.take k):Zbr names s=(names,k):=by
 have hm:s ∈ names:=by rw [← h]; exact List.getElem_mem _
 unfold Zbr
 rw [if_pos hm]
 congr 1
 have h1:names.idxOf s≤k:=by
  rcases Nat.lt_or_ge k (names.idxOf s) with hl | hl
  ·have:=List.not_of_lt_findIdx (p:=(· == s)) (xs:=names) hl
   simp [h] at this
  ·exact hl
 rcases Nat.lt_or_ge (names.idxOf s) k with hl | hl
 ·exfalso
  apply hn
  have hlt:names.idxOf s<names.length:=List.idxOf_lt_length_of_mem hm
  have:names[names.idxOf s]=s:=List.getElem_idxOf hlt
  rw [← this]
  rw [List.mem_take_iff_getElem]
  exact ⟨names.idxOf s,by omega,rfl⟩
 ·omega
theorem Ykw {names:List (List UInt8)} {s:List UInt8} {k:Nat} (hk:k<names.length) (h:¬ names[k]=s) (hn:s ∉ names.take k):s ∉ names.take (k+1):=by
 rw [List.take_succ_eq_append_getElem hk]
 simp only [Qk,List.mem_singleton,not_or]
 exact ⟨hn,fun e=>h e.symm⟩
theorem Zpe {names:List (List UInt8)} {s:List UInt8} {k:Nat} (hk:¬ k<names.length) (hn:s ∉ names.take k):Zbr names s=(names++[s],names.length):=by
 rw [List.take_of_length_le (by omega)] at hn
 unfold Zbr
 rw [if_neg hn]
def Zeo (p:List Tok→Names→Option (List Sym × List Tok × Names)):Nat→List Tok→Names→List (List Sym)→Option (List (List Sym) × List Tok × Names)
 | 0,_,_,_=>none
 | _+1,[],_,_=>none
 | g+1,t::ts,names,acc =>
  if t.kind=41 then some (acc,ts,names)
  else match p ts names with
   | none=>none
   | some r=>Zeo p g r.2.1 r.2.2 (acc++[r.1])
def Zju (p:List Tok→Names→Option (List Sym × List Tok × Names)) (t:Tok):List Tok→Names→Option (List Sym × List Tok × Names)
 | [],_=>none
 | u::us,names =>
  if u.kind≠40 then some ([⟨t.text,0,0⟩],u::us,names)
  else (Zeo p (us.length+1) (u::us) names []).map fun r=>(⟨t.text,0,r.1.length⟩::r.1.flatten,r.2.1,r.2.2)
def Zda:Nat→List Tok→Names→Option (List Sym × List Tok × Names)
 | 0,_,_=>none
 | _+1,[],_=>none
 | f+1,t::ts,names =>
  if t.kind=2 then some ([⟨[],(Zbr names t.text).2,0⟩],ts,(Zbr names t.text).1)
  else Zju (Zda f) t ts names
def Ybo (ts rest:List Tok) (names names':Names):Prop:=∃ n,0<n∧n≤ts.length∧rest=ts.drop n∧names'.length≤names.length+n
theorem Zlo (names:Names) (s:List UInt8):(Zbr names s).1.length≤names.length+1:=by
 unfold Zbr; split <;> simp
theorem Zrf {p:List Tok→Names→Option (List Sym × List Tok × Names)} (hp:∀ ts names r,p ts names=some r→Ybo ts r.2.1 names r.2.2) :
  ∀ (g:Nat) (ts:List Tok) (names:Names) (acc:List (List Sym)) r,Zeo p g ts names acc=some r→Ybo ts r.2.1 names r.2.2:=by
 intro g
 induction g with
 | zero=>intro ts names acc r h; simp [Zeo] at h
 | succ g ih =>
  intro ts names acc r h
  cases ts with
  | nil=>simp [Zeo] at h
  | cons t ts =>
   rw [Zeo] at h
   split at h
   ·simp at h; subst h
    exact ⟨1,by omega,by simp,by simp,by simp⟩
   ·split at h
    ·simp at h
    ·rename_i q hq
     obtain ⟨n,h1,h2,h3,h4⟩:=hp _ _ _ hq
     obtain ⟨m,h5,h6,h7,h8⟩:=ih _ _ _ _ h
     rw [h3,List.drop_drop] at h7
     rw [h3,List.length_drop] at h6
     exact ⟨n+m+1,by omega,by simp; omega,by rw [h7]; simp,by omega⟩
theorem Zgi:∀ (f:Nat) (ts:List Tok) (names:Names) r,Zda f ts names=some r→Ybo ts r.2.1 names r.2.2:=by
 intro f
 induction f with
 | zero=>intro ts names r h; simp [Zda] at h
 | succ f ih =>
  intro ts names r h
  cases ts with
  | nil=>simp [Zda] at h
  | cons t ts =>
   rw [Zda] at h
   split at h
   ·simp at h; subst h
    exact ⟨1,by omega,by simp,by simp,Zlo _ _⟩
   ·cases ts with
    | nil=>simp [Zju] at h
    | cons u us =>
     rw [Zju] at h
     split at h
     ·simp at h; subst h
      exact ⟨1,by omega,by simp,by simp,by simp⟩
     ·rw [Option.map_eq_some_iff] at h
      obtain ⟨q,hq,rfl⟩:=h
      obtain ⟨n,h1,h2,h3,h4⟩:=Zrf ih _ _ _ _ _ hq
      exact ⟨n+1,by omega,by simp at h2 ⊢; omega,by rw [h3]; simp,by simp at h4 ⊢; omega⟩
theorem Zbk {w:World} {B:Nat} {e:TypeId} {size n:Nat} {v:Value} {xs:List Value} (h:w.ownsRow B e size v n xs) (k:Nat) (hk:v.ownBlock=some k):∃ cur,w.heap[k]?=some (.cells cur e (0,0)):=by
 rcases h.2 with ⟨rfl,_⟩ | ⟨g,cap,cur,rfl,_,hg,_⟩
 ·simp [Value.ownBlock] at hk
 ·simp only [Value.ownBlock,Qo] at hk
  subst hk
  exact ⟨cur,hg⟩
theorem Zag {w:World} {B:Nat} {e e':TypeId} {size n:Nat} {v:Value} {xs:List Value} (h:w.ownsRow B e size v n xs) (he:e≠e') {k:Nat} {cs:Array Value} {fr:Nat × Nat} (hk:w.heap[k]?=some (.cells cs e' fr)):¬ Zbl v k:=by
 intro ho
 obtain ⟨cur,hc⟩:=Zbk h k ho
 rw [hc] at hk
 simp at hk
 exact he hk.2.1
theorem Zah {w w':World} {B:Nat} {e:TypeId} {size n:Nat} {v:Value} {xs:List Value} (h:w.ownsRow B e size v n xs) (hk:∀ k,v.ownBlock=some k→w'.heap[k]?=w.heap[k]?):w'.ownsRow B e size v n xs:=by
 refine ⟨h.1,?_⟩
 rcases h.2 with hn | ⟨g,cap,cur,rfl,hb,hg,rest⟩
 ·exact .inl hn
 ·exact .inr ⟨g,cap,cur,rfl,hb,by rw [hk g rfl]; exact hg,rest⟩
theorem Zbd (a b:List UInt8):(⟨a.toArray⟩:ByteArray)++⟨b.toArray⟩=⟨(a++b).toArray⟩:=by
 apply ByteArray.ext
 simp [ByteArray.data_append]
theorem Zpf {a b:ByteArray} (h:a=b):Ending.returned (.string a) = .returned (.string b):=by rw [h]
theorem Zkt (n:Nat):(Lib.decDigits n).length≤n+1:=by
 induction n using Nat.strongRecOn with
 | ind n ih =>
  rw [Lib.decDigits]
  split
  ·simp
  ·have:=ih (n / 10) (by omega)
   simp only [Qg,Qf,Jt]
   omega
def Zfj (n:Nat):List UInt8:=if n<26 then [UInt8.ofNat (65+n)] else UInt8.ofNat (65+n % 26)::Lib.decDigits (n / 26)
def IsT:Nat→List Sym→Prop
 | 0,_=>False
 | f+1,l=>(∃ n:Nat,l=[⟨[],n,0⟩])∨∃ (nm:List UInt8) (ls:List (List Sym)),nm≠[]∧l=⟨nm,0,ls.length⟩::ls.flatten∧∀ l' ∈ ls,IsT f l'
def wvar (n:Nat) (seen:List Nat):List UInt8 × List Nat:=if n ∈ seen then (Zfj (seen.idxOf n),seen) else (Zfj seen.length,seen++[n])
def Zyd (p:List Sym→List Nat→List UInt8 × List Nat × List Sym):Nat→UInt8→List Sym→List Nat→List UInt8 × List Nat × List Sym
 | 0,_,r,seen=>([],seen,r)
 | n+1,sep,r,seen=>(sep::((p r seen).1++(Zyd p n 44 (p r seen).2.2 (p r seen).2.1).1),(Zyd p n 44 (p r seen).2.2 (p r seen).2.1).2)
def Zcr:Nat→List Sym→List Nat→List UInt8 × List Nat × List Sym
 | 0,r,seen=>([],seen,r)
 | _+1,[],seen=>([],seen,[])
 | f+1,s::r,seen =>
  if s.name=[] then ((wvar s.num seen).1,(wvar s.num seen).2,r)
  else if s.args=0 then (s.name,seen,r)
  else (s.name++(Zyd (Zcr f) s.args 40 r seen).1++[41],(Zyd (Zcr f) s.args 40 r seen).2)
def Zfk (f:Nat):UInt8→List (List Sym)→List Nat→List UInt8 × List Nat
 | _,[],seen=>([],seen)
 | sep,l::ls,seen=>(sep::((Zcr f l seen).1++(Zfk f 44 ls (Zcr f l seen).2.1).1),(Zfk f 44 ls (Zcr f l seen).2.1).2)
theorem Zny (f:Nat) (hp:∀ l,IsT f l→∀ rest seen,Zcr f (l++rest) seen=((Zcr f l seen).1,(Zcr f l seen).2.1,rest)) :
  ∀ (ls:List (List Sym)),(∀ l' ∈ ls,IsT f l')→∀ sep rest seen,Zyd (Zcr f) ls.length sep (ls.flatten++rest) seen=((Zfk f sep ls seen).1,(Zfk f sep ls seen).2,rest):=by
 intro ls
 induction ls with
 | nil=>intro _ sep rest seen; rfl
 | cons l ls ih =>
  intro h sep rest seen
  have h1:=hp l (h l (by simp)) (ls.flatten++rest) seen
  have h2:=ih (fun l' hl=>h l' (by simp [hl])) 44 rest (Zcr f l seen).2.1
  simp only [Qf,List.flatten_cons,Qi,Zyd,Zfk]
  rw [h1]
  simp only
  rw [h2]
theorem Ybp:∀ (f:Nat) (l:List Sym),IsT f l→∀ rest seen,Zcr f (l++rest) seen=((Zcr f l seen).1,(Zcr f l seen).2.1,rest):=by
 intro f
 induction f with
 | zero=>intro l h; exact h.elim
 | succ f ih =>
  intro l h rest seen
  rcases h with ⟨n,rfl⟩ | ⟨nm,ls,h1,rfl,h2⟩
  ·simp [Zcr]
  ·have hw:=Zny f ih ls h2 40
   have hw1:=hw rest seen
   have hw2:=hw [] seen
   simp only [Qs] at hw2
   simp only [List.cons_append,Zcr,h1,if_false]
   cases ls with
   | nil=>simp
   | cons l ls =>
    rw [if_neg (by simp),if_neg (by simp)]
    rw [hw1,hw2]
theorem Zku (f:Nat) (nm:List UInt8) (ls:List (List Sym)) (hn:nm≠[]) (h:∀ l' ∈ ls,IsT f l') (hl:ls≠[]) (seen:List Nat) :
  Zcr (f+1) (⟨nm,0,ls.length⟩::ls.flatten) seen=(nm++(Zfk f 40 ls seen).1++[41],(Zfk f 40 ls seen).2,[]):=by
 have hw2:=Zny f (Ybp f) ls h 40 [] seen
 simp only [Qs] at hw2
 simp only [Zcr,hn,if_false]
 rw [if_neg (by simp [hl]),hw2]
theorem Znz (n:Nat) (h:n≤4000):(Zfj n).length≤200:=by
 unfold Zfj
 split
 ·simp
 ·have:=Zkt (n / 26)
  simp only [Qf]
  omega
theorem Yfr (n:Nat) (seen:List Nat) (h:seen.length≤3999):(wvar n seen).1.length≤200∧(wvar n seen).2.length≤seen.length+1:=by
 unfold wvar
 split
 ·rename_i hm
  have:=List.idxOf_lt_length_of_mem hm
  exact ⟨Znz _ (by omega),by simp⟩
 ·exact ⟨Znz _ (by omega),by simp⟩
theorem Ybq (f:Nat) (hp:∀ l,IsT f l→(∀ s ∈ l,s.name.length≤4096)→∀ seen,seen.length+l.length≤4000→(Zcr f l seen).1.length+1≤4100 * l.length∧(Zcr f l seen).2.1.length≤seen.length+l.length) :
  ∀ (ls:List (List Sym)),(∀ l' ∈ ls,IsT f l')→(∀ s ∈ ls.flatten,s.name.length≤4096)→∀ sep seen,seen.length+ls.flatten.length≤4000→(Zfk f sep ls seen).1.length≤4100 * ls.flatten.length∧(Zfk f sep ls seen).2.length≤seen.length+ls.flatten.length:=by
 intro ls
 induction ls with
 | nil=>intro _ _ sep seen _; simp [Zfk]
 | cons l ls ih =>
  intro h hn sep seen hs
  simp only [List.flatten_cons,Qg] at hs
  have h1:=hp l (h l (by simp)) (fun s hs=>hn s (by simp [hs])) seen (by omega)
  have h2:=ih (fun l' hl=>h l' (by simp [hl])) (fun s hs=>hn s (by simp only [List.flatten_cons,Qk]; exact Or.inr hs)) 44 (Zcr f l seen).2.1 (by omega)
  simp only [Zfk,Qf,Qg,List.flatten_cons]
  omega
theorem Ybr:∀ (f:Nat) (l:List Sym),IsT f l→0<l.length:=by
 intro f l h
 cases f with
 | zero=>exact h.elim
 | succ f=>rcases h with ⟨n,rfl⟩ | ⟨nm,ls,h1,rfl,h2⟩ <;> simp
theorem Zpg (f:Nat) (ls:List (List Sym)) (h:∀ l' ∈ ls,IsT f l'):ls.length≤ls.flatten.length:=by
 induction ls with
 | nil=>simp
 | cons l ls ih =>
  have h1:=Ybr f l (h l (by simp))
  have h2:=ih (fun l' hl=>h l' (by simp [hl]))
  simp only [List.flatten_cons,Qg,Qf]
  omega
theorem Zrg:∀ (f:Nat) (l:List Sym),IsT f l→(∀ s ∈ l,s.name.length≤4096)→∀ seen,seen.length+l.length≤4000→(Zcr f l seen).1.length+1≤4100 * l.length∧(Zcr f l seen).2.1.length≤seen.length+l.length:=by
 intro f
 induction f with
 | zero=>intro l h; exact h.elim
 | succ f ih =>
  intro l h hn seen hs
  rcases h with ⟨n,rfl⟩ | ⟨nm,ls,h1,rfl,h2⟩
  ·have:=Yfr n seen (by simp at hs; omega)
   simp [Zcr]
   omega
  ·have hnm:nm.length≤4096:=hn _ (List.mem_cons_self ..)
   by_cases hl:ls=[]
   ·subst hl
    simp [Zcr,h1]
    omega
   ·rw [Zku f nm ls h1 h2 hl]
    simp only [Qf] at hs
    have h3:=Ybq f ih ls h2 (fun s hs=>hn s (List.mem_cons_of_mem _ hs)) 40 seen (by omega)
    have h4:=Zpg f ls h2
    simp only [Qg,Qf,Jt]
    omega
def Zce (L:LookS) (kd tn:Nat):LookS :=
 if L.want≤2 then Zbi L kd tn else if L.want=5 then { L with err:=2 } else Zal L kd
def Zgv:List Tok→LookS→Nat × Nat
 | [],_=>(0,0)
 | t::ts,L =>
  if t.kind=4∧(L.want=5∨L.want=0) then (0,0)
  else if (Zce L t.kind t.text.length).err≠0 then ((Zce L t.kind t.text.length).err,t.pos)
  else Zgv ts (Zce L t.kind t.text.length)
def Zcw (query:Bool):LookS:=⟨if query then 1 else 0,query,query,[],0,0,0,0⟩
theorem Kept.drewN {S:Nat→Prop} {a w:World} (h:Kept S a w) (n:Nat):Kept S a (w.drewN n):=⟨h.os,h.tape,h.output,h.size,h.block⟩
theorem Zye (n:Nat) (h:n<10):(⟨#[48,49,50,51,52,53,54,55,56,57,97,98,99,100,101,102,103,104,105,106,107,108,109,110,111,112,113,114,115,116,117,118,119,120,121,122]⟩:ByteArray).extract n (n+1)=⟨(Lib.decDigits n).toArray⟩:=by
 have:∀ n,n<10→((⟨#[48,49,50,51,52,53,54,55,56,57,97,98,99,100,101,102,103,104,105,106,107,108,109,110,111,112,113,114,115,116,117,118,119,120,121,122]⟩:ByteArray).extract n (n+1)).data.toList=[UInt8.ofNat (48+n)]:=by decide +kernel
 apply ByteArray.ext
 apply Array.ext'
 rw [this n h,Lib.decDigits,dif_pos h]
set_option maxRecDepth 20000 in
theorem Zyf (n:Nat) (h:n<100) (h10:¬ n<10):(⟨#[48,48,48,49,48,50,48,51,48,52,48,53,48,54,48,55,48,56,48,57,49,48,49,49,49,50,49,51,49,52,49,53,49,54,49,55,49,56,49,57,50,48,50,49,50,50,50,51,50,52,50,53,50,54,50,55,50,56,50,57,51,48,51,49,51,50,51,51,51,52,51,53,51,54,51,55,51,56,51,57,52,48,52,49,52,50,52,51,52,52,52,53,52,54,52,55,52,56,52,57,53,48,53,49,53,50,53,51,53,52,53,53,53,54,53,55,53,56,53,57,54,48,54,49,54,50,54,51,54,52,54,53,54,54,54,55,54,56,54,57,55,48,55,49,55,50,55,51,55,52,55,53,55,54,55,55,55,56,55,57,56,48,56,49,56,50,56,51,56,52,56,53,56,54,56,55,56,56,56,57,57,48,57,49,57,50,57,51,57,52,57,53,57,54,57,55,57,56,57,57]⟩:ByteArray).extract (n * 2) (n * 2+2)=⟨(Lib.decDigits n).toArray⟩:=by
 have:∀ n,n<100→((⟨#[48,48,48,49,48,50,48,51,48,52,48,53,48,54,48,55,48,56,48,57,49,48,49,49,49,50,49,51,49,52,49,53,49,54,49,55,49,56,49,57,50,48,50,49,50,50,50,51,50,52,50,53,50,54,50,55,50,56,50,57,51,48,51,49,51,50,51,51,51,52,51,53,51,54,51,55,51,56,51,57,52,48,52,49,52,50,52,51,52,52,52,53,52,54,52,55,52,56,52,57,53,48,53,49,53,50,53,51,53,52,53,53,53,54,53,55,53,56,53,57,54,48,54,49,54,50,54,51,54,52,54,53,54,54,54,55,54,56,54,57,55,48,55,49,55,50,55,51,55,52,55,53,55,54,55,55,55,56,55,57,56,48,56,49,56,50,56,51,56,52,56,53,56,54,56,55,56,56,56,57,57,48,57,49,57,50,57,51,57,52,57,53,57,54,57,55,57,56,57,57]⟩:ByteArray).extract (n * 2) (n * 2+2)).data.toList=[UInt8.ofNat (48+n / 10),UInt8.ofNat (48+n % 10)]:=by decide +kernel
 apply ByteArray.ext
 apply Array.ext'
 rw [this n h,Lib.decDigits,dif_neg h10,Lib.decDigits,dif_pos (by omega)]
 rfl
theorem Zoa (n:Nat):Utf8.encode (65+(n:Int) % 26)=⟨[UInt8.ofNat (65+n % 26)].toArray⟩:=by
 have:∀ m:Nat,m<26→(Utf8.encode (65+(m:Int))).data.toList=[UInt8.ofNat (65+m)]:=by decide +kernel
 rw [show (n:Int) % 26=((n % 26:Nat):Int) from by omega]
 apply ByteArray.ext
 apply Array.ext'
 rw [this (n % 26) (by omega)]
set_option maxRecDepth 20000 in
theorem Ybs (n:Nat) (w:World) (h:n<100):Calls Tryz.prog 106 #[.int .i64 n] w fun e w'=>e = .returned (.string ⟨(Lib.decDigits n).toArray⟩)∧w'=w:=by
 by_cases h10:n<10
 ·go_enter Tryz.func106,Tryz.ntmps106
  go_wp2
  go_ret
  exact ⟨Zpf (Zye n h10),rfl⟩
 ·go_enter Tryz.func106,Tryz.ntmps106
  go_wp2
  go_ret
  exact ⟨Zpf (Zyf n h h10),rfl⟩
theorem Zyg (n:Nat) (w:World) (h:n<100):Calls Tryz.prog 90 #[.int .i64 n,.int .i64 10] w fun e w'=>e = .returned (.string ⟨(Lib.decDigits n).toArray⟩)∧w'=w:=by
 go_enter Tryz.func90,Tryz.ntmps90
 go_wp2_with fail
 refine (Ybs n _ h).mono ?_
 rintro e w' ⟨rfl,rfl⟩
 go_wp2
 go_ret
 exact ⟨rfl,rfl⟩
theorem Ybt (n:Nat) (w:World) (h:n<100):Calls Tryz.prog 70 #[.int .i64 n] w fun e w'=>e = .returned (.string ⟨(Lib.decDigits n).toArray⟩)∧w'=w:=by
 go_enter Tryz.func70,Tryz.ntmps70
 go_wp2_with fail
 refine (Zyg n _ h).mono ?_
 rintro e w' ⟨rfl,rfl⟩
 go_wp2
 go_ret
 exact ⟨rfl,rfl⟩
theorem Zph (n:Nat) (w:World) (h:n<100):Calls Tryz.prog 55 #[.int .i64 n] w fun e w'=>e = .returned (.string ⟨(Lib.decDigits n).toArray⟩)∧w'=w:=by
 go_enter Tryz.func55,Tryz.ntmps55
 go_wp2_with fail
 refine (Ybt n _ h).mono ?_
 rintro e w' ⟨rfl,rfl⟩
 go_wp2
 go_ret
 exact ⟨rfl,rfl⟩
theorem Zty (n:Nat) (w:World) (h:n<2600):Calls Tryz.prog 98 #[.int .i64 n] w fun e w'=>e = .returned (.string ⟨(Zfj n).toArray⟩)∧w'=w:=by
 by_cases h26:n<26
 ·have hd:(n:Int) / 26=0:=by omega
  go_enter Tryz.func98,Tryz.ntmps98
  go_wp2
  go_ret
  refine ⟨Zpf ((Zoa n).trans ?_),rfl⟩
  rw [Zfj,if_pos h26,Nat.mod_eq_of_lt h26]
 ·have hd:((n:Int) / 26 == 0)=false:=by rw [Qu]; omega
  go_enter Tryz.func98,Tryz.ntmps98
  go_wp2_with fail
  refine (Zph (n / 26) _ (by omega)).mono ?_
  rintro e w' ⟨rfl,rfl⟩
  have hlen:=Zkt (n / 26)
  have henc:=Zoa n
  have Henc:=Zac henc
  have hsz:(Utf8.encode (65+(n:Int) % 26)).size=1:=by rw [henc]; rfl
  clear henc
  go_wp2
  go_ret
  refine ⟨Zpf ?_,rfl⟩
  show Utf8.encode (65+(n:Int) % 26)++_=_
  rw [Henc.out,Zbd,Zfj,if_neg h26]
  rfl
def symC (s:Sym):List UInt8:=if s.name=[] then Zfj s.num else s.name
theorem Znt (s:Sym) (w:World) (h:s.num<2600):Calls Tryz.prog 77 #[.agg #[.string ⟨s.name.toArray⟩,.int .i64 s.num,.int .i64 s.args]] w fun e w'=>e = .returned (.string ⟨(symC s).toArray⟩)∧Below w.heap.size w w':=by
 cases hn:s.name with
 | nil =>
  have Hc:Hid (symC s=Zfj s.num):=by show _=_; simp [symC,hn]
  clear hn
  go_enter Tryz.func77,Tryz.ntmps77
  go_wp2_with fail
  refine (Zty s.num _ h).mono ?_
  rintro e w' ⟨rfl,rfl⟩
  go_wp2
  go_ret
  rw [Hc.out]
  exact ⟨rfl,(Below.refl _ _).alloc (Qe _) _⟩
 | cons c r =>
  have Hc:Hid (symC s=c::r):=by show _=_; simp [symC,hn]
  clear hn
  go_enter Tryz.func77,Tryz.ntmps77
  go_wp2
  go_ret
  rw [Hc.out]
  exact ⟨rfl,(Below.refl _ _).alloc (Qe _) _⟩
def Zjf (f:Nat):List UInt8→List (List Sym)→List Nat→List UInt8
 | _,[],_=>[]
 | sep,l::ls,seen=>sep++(Zcr f l seen).1++Zjf f [44,32] ls (Zcr f l seen).2.1
theorem Ztz (f:Nat):∀ (ls:List (List Sym)),(∀ l' ∈ ls,IsT f l')→(∀ s ∈ ls.flatten,s.name.length≤4096)→∀ sep seen,sep.length≤2→seen.length+ls.flatten.length≤4000→(Zjf f sep ls seen).length≤4101 * ls.flatten.length:=by
 intro ls
 induction ls with
 | nil=>intro _ _ sep seen _ _; simp [Zjf]
 | cons l ls ih =>
  intro h hn sep seen hsep hs
  simp only [List.flatten_cons,Qg] at hs
  have h1:=Zrg f l (h l (by simp)) (fun s hs=>hn s (by simp [hs])) seen (by omega)
  have h2:=ih (fun l' hl=>h l' (by simp [hl])) (fun s hs=>hn s (by simp only [List.flatten_cons,Qk]; exact Or.inr hs)) [44,32] (Zcr f l seen).2.1 (by simp) (by omega)
  have h3:=Ybr f l (h l (by simp))
  simp only [Zjf,Qg,List.flatten_cons]
  omega
def Zdh (f:Nat):Nat→List Tok→Names→List (List Sym)→Option (List (List Sym) × List Tok × Names)
 | 0,_,_,_=>none
 | g+1,ts,names,acc =>
  match Zda f ts names with
  | none=>none
  | some r =>
   match r.2.1 with
   | []=>none
   | x::rest=>if x.kind=46 then some (acc++[r.1],rest,r.2.2) else Zdh f g rest r.2.2 (acc++[r.1])
theorem Zob (f:Nat):∀ (l:List UInt8) (p:Nat),(lexF f l p).length≤l.length∧∀ t ∈ lexF f l p,t.text≠[]∧t.text.length≤l.length:=by
 induction f with
 | zero=>intro l p; exact ⟨by simp [lexF],fun t ht=>by simp [lexF] at ht⟩
 | succ f ih =>
  intro l p
  cases l with
  | nil=>exact ⟨by simp [lexF],fun t ht=>by simp [lexF] at ht⟩
  | cons c r =>
   rw [lexF]
   split
   ·have h:=ih r (p+1)
    exact ⟨by simp; omega,fun t ht=>⟨(h.2 t ht).1,by have:=(h.2 t ht).2; simp; omega⟩⟩
   ·have h:=ih (r.drop (Zbn c r).2) (p+(Zbn c r).2+1)
    simp only [List.length_drop] at h
    refine ⟨by simp; omega,fun t ht => ?_⟩
    simp only [Qp] at ht
    rcases ht with rfl | ht
    ·exact ⟨by simp,by simp; omega⟩
    ·exact ⟨(h.2 t ht).1,by have:=(h.2 t ht).2; simp; omega⟩
theorem Yfs (l:List UInt8) (p:Nat):(toks l p).length≤l.length:=(Zob _ l p).1
theorem Zrh (l:List UInt8) (p:Nat):∀ t ∈ toks l p,t.text≠[]∧t.text.length≤l.length:=(Zob _ l p).2
def Zbb (s:ByteArray):List Tok:=toks s.data.toList 0++[⟨4,[],s.size⟩]
theorem Zev (s:ByteArray):(Zbb s).length≤s.size+1:=by
 have:=Yfs s.data.toList 0
 simp [Zbb] at this ⊢
 exact this
theorem Zlp (s:ByteArray):∀ t ∈ Zbb s,t.text.length≤s.size:=by
 intro t ht
 simp only [Zbb,Qk,List.mem_singleton] at ht
 rcases ht with ht | rfl
 ·have:=(Zrh _ _ t ht).2
  simpa using this
 ·simp
theorem Zri (s:ByteArray):∀ i t,(Zbb s)[i]?=some t→i+1<(Zbb s).length→t.text≠[]:=by
 intro i t ht hi
 simp only [Zbb,Qg,Qn] at hi
 rw [Zbb,Qc (by omega)] at ht
 exact (Zrh _ _ t (Qh ht)).1
def Zrj:ByteArray:=⟨#[48,49,50,51,52,53,54,55,56,57]⟩
theorem Zyh (c:UInt8):inB c Zek=decide (97≤c.toNat∧c.toNat≤122):=by
 have:=Zef (p:=fun c=>inB c Zek == decide (97≤c.toNat∧c.toNat≤122)) (by decide +kernel) c
 exact eq_of_beq this
theorem Ybu (c:UInt8):inB c Zhz=decide (65≤c.toNat∧c.toNat≤90):=by
 have:=Zef (p:=fun c=>inB c Zhz == decide (65≤c.toNat∧c.toNat≤90)) (by decide +kernel) c
 exact eq_of_beq this
theorem Zyi (c:UInt8):inB c Zrj=decide (48≤c.toNat∧c.toNat≤57):=by
 have:=Zef (p:=fun c=>inB c Zrj == decide (48≤c.toNat∧c.toNat≤57)) (by decide +kernel) c
 exact eq_of_beq this
theorem Ybv (c:UInt8):inB c Zhw=(inB c Zek || inB c Zhz || inB c Zrj):=by
 have:=Zef (p:=fun c=>inB c Zhw == (inB c Zek || inB c Zhz || inB c Zrj)) (by decide +kernel) c
 exact eq_of_beq this
theorem Zmh (c:UInt8) (w:World):Calls Tryz.prog 99 #[.int .u8 c.toNat] w fun e w'=>e = .returned (.bool (Zhh c))∧w'=w:=by
 cases hb:Zhh c
 ·obtain ⟨h1,h2⟩:=Ybm hb
  go_enter Tryz.func99,Tryz.ntmps99
  go_wp2
  go_ret
  exact ⟨rfl,rfl⟩
 ·rcases Ztx hb with h1 | ⟨h1,h2⟩
  all_goals
   go_enter Tryz.func99,Tryz.ntmps99
   go_wp2
   go_ret
   exact ⟨rfl,rfl⟩
theorem Zcg (c:UInt8) (w:World):Calls Tryz.prog 100 #[.int .u8 c.toNat] w fun e w'=>e = .returned (.bool (inB c Zek))∧w'=w:=by
 rw [Zyh]
 by_cases h1:(97:Int)≤(c.toNat:Int)
 ·by_cases h2:(c.toNat:Int)≤122
  all_goals
   go_enter Tryz.func100,Tryz.ntmps100
   go_wp2
   go_ret
   exact ⟨Zfq (by symm; simp; omega),rfl⟩
 ·go_enter Tryz.func100,Tryz.ntmps100
  go_wp2
  go_ret
  exact ⟨Zfq (by symm; simp; omega),rfl⟩
theorem Zbo (c:UInt8) (w:World):Calls Tryz.prog 101 #[.int .u8 c.toNat] w fun e w'=>e = .returned (.bool (inB c Zhz))∧w'=w:=by
 rw [Ybu]
 by_cases h1:(65:Int)≤(c.toNat:Int)
 ·by_cases h2:(c.toNat:Int)≤90
  all_goals
   go_enter Tryz.func101,Tryz.ntmps101
   go_wp2
   go_ret
   exact ⟨Zfq (by symm; simp; omega),rfl⟩
 ·go_enter Tryz.func101,Tryz.ntmps101
  go_wp2
  go_ret
  exact ⟨Zfq (by symm; simp; omega),rfl⟩
theorem Zjg (c:UInt8) (w:World):Calls Tryz.prog 118 #[.int .u8 c.toNat] w fun e w'=>e = .returned (.bool (inB c Zrj))∧w'=w:=by
 rw [Zyi]
 by_cases h1:(48:Int)≤(c.toNat:Int)
 ·by_cases h2:(c.toNat:Int)≤57
  all_goals
   go_enter Tryz.func118,Tryz.ntmps118
   go_wp2
   go_ret
   exact ⟨Zfq (by symm; simp; omega),rfl⟩
 ·go_enter Tryz.func118,Tryz.ntmps118
  go_wp2
  go_ret
  exact ⟨Zfq (by symm; simp; omega),rfl⟩
theorem Zoc (c:UInt8) (w:World):Calls Tryz.prog 112 #[.int .u8 c.toNat] w fun e w'=>e = .returned (.bool (inB c Zhw))∧w'=w:=by
 rw [Ybv]
 cases h1:inB c Zek
 ·cases h2:inB c Zhz
  ·go_enter Tryz.func112,Tryz.ntmps112
   go_wp2_with (first | (go_at_call 100; refine (Zcg _ _).mono ?_; rintro e w' ⟨rfl,rfl⟩) | (go_at_call 101; refine (Zbo _ _).mono ?_; rintro e w' ⟨rfl,rfl⟩) | (go_at_call 118; refine (Zjg _ _).mono ?_; rintro e w' ⟨rfl,rfl⟩))
   go_ret
   exact ⟨rfl,rfl⟩
  ·go_enter Tryz.func112,Tryz.ntmps112
   go_wp2_with (first | (go_at_call 100; refine (Zcg _ _).mono ?_; rintro e w' ⟨rfl,rfl⟩) | (go_at_call 101; refine (Zbo _ _).mono ?_; rintro e w' ⟨rfl,rfl⟩) | (go_at_call 118; refine (Zjg _ _).mono ?_; rintro e w' ⟨rfl,rfl⟩))
   go_ret
   exact ⟨rfl,rfl⟩
 ·go_enter Tryz.func112,Tryz.ntmps112
  go_wp2_with (first | (go_at_call 100; refine (Zcg _ _).mono ?_; rintro e w' ⟨rfl,rfl⟩) | (go_at_call 101; refine (Zbo _ _).mono ?_; rintro e w' ⟨rfl,rfl⟩) | (go_at_call 118; refine (Zjg _ _).mono ?_; rintro e w' ⟨rfl,rfl⟩))
  go_ret
  exact ⟨rfl,rfl⟩
def Zdv (s:ByteArray) (n:Nat):UInt8:=(s.data.toList[n]?).getD 0
theorem Zmi (s:ByteArray) (n:Nat) (h:n<s.size):Zdv s n=s[n]:=by
 unfold Zdv
 rw [Qb (by simpa using h)]
 rfl
theorem Zmj (s:ByteArray) (n:Nat) (h:¬ n<s.size):Zdv s n=0:=by
 unfold Zdv
 rw [List.getElem?_eq_none (by simp; omega)]
 rfl
theorem Zin (s:ByteArray) (n:Nat) (w:World) (hs:s.size≤4096) (hn:n≤5000):Calls Tryz.prog 79 #[.string s,.int .i64 n] w fun e w'=>e = .returned (.int .u8 (Zdv s n).toNat)∧w'=w:=by
 by_cases h:n<s.size
 ·have Hb:=(show Hid _ from Zmi s n h)
  go_enter Tryz.func79,Tryz.ntmps79
  go_wp2
  go_ret
  rw [Hb.out]
  exact ⟨rfl,rfl⟩
 ·have Hb:=(show Hid _ from Zmj s n h)
  go_enter Tryz.func79,Tryz.ntmps79
  go_wp2
  go_ret
  rw [Hb.out]
  exact ⟨rfl,rfl⟩
def Zcv:List UInt8→Nat
 | []=>0
 | c::r=>if Zhh c then Zcv r+1 else 0
theorem Ybw (l:List UInt8):Zcv l≤l.length:=by
 induction l with
 | nil=>exact Qe _
 | cons c r ih=>unfold Zcv; split <;> simp <;> omega
theorem Zja (s:ByteArray) (n:Nat) (w:World) (hs:s.size≤4096) (hn:n≤s.size):Calls Tryz.prog 78 #[.string s,.int .i64 n] w fun e w'=>e = .returned (.int .i64 ((n+Zcv (s.data.toList.drop n):Nat):Int))∧w'=w:=by
 go_enter Tryz.func78,Tryz.ntmps78
 go_wp2
 go_loop [1] (fun i=>∃ k:Nat,k≤s.size∧i = .int .i64 k∧n+Zcv (s.data.toList.drop n)=k+Zcv (s.data.toList.drop k)) (fun i=>s.size - (intOf i).toNat)
 case atStart=>exact ⟨n,hn,rfl,rfl⟩
 case round =>
  obtain ⟨k,hk,rfl,hn⟩:=hrel
  have Hn:=(show Hid _ from hn)
  clear hn
  by_cases hlt:k<s.size
  ·have hd:=Zdq s k hlt
   cases hb:Zhh s[k]
   ·have Hd:Hid (Zcv (s.data.toList.drop k)=0):=by show _=_; rw [hd,Zcv,if_neg (by simp [hb])]
    clear hd
    go_wp2_with (go_at_call 99; refine (Zmh _ _).mono ?_; rintro e w' ⟨rfl,rfl⟩)
    go_ret
    exact ⟨Zks (by have h1:=Hn.out; have h2:=Hd.out; omega),rfl⟩
   ·have Hd:Hid (Zcv (s.data.toList.drop k)=Zcv (s.data.toList.drop (k+1))+1):=by show _=_; rw [hd,Zcv,if_pos hb]
    clear hd
    go_wp2_with (go_at_call 99; refine (Zmh _ _).mono ?_; rintro e w' ⟨rfl,rfl⟩)
    go_round
    case rel=>exact ⟨k+1,by omega,by go_num,by have h1:=Hn.out; have h2:=Hd.out; omega⟩
    case measure=>simp [intOf]; omega
  ·have Hd:Hid (Zcv (s.data.toList.drop k)=0):=by show _=_; rw [Zia s k hlt]; rfl
   go_wp2
   go_ret
   exact ⟨Zks (by have h1:=Hn.out; have h2:=Hd.out; omega),rfl⟩
theorem Zyj:inB 0 Zhw=false:=by decide +kernel
theorem Zjv (s:ByteArray) (n:Nat) (w:World) (hs:s.size≤4096) (hn:n≤s.size):Calls Tryz.prog 102 #[.string s,.int .i64 n] w fun e w'=>e = .returned (.int .i64 ((n+Zbm (s.data.toList.drop n):Nat):Int))∧w'=w:=by
 go_enter Tryz.func102,Tryz.ntmps102
 go_wp2
 go_loop [1] (fun i=>∃ k:Nat,k≤s.size∧i = .int .i64 k∧n+Zbm (s.data.toList.drop n)=k+Zbm (s.data.toList.drop k)) (fun i=>s.size - (intOf i).toNat)
 case atStart=>exact ⟨n,hn,rfl,rfl⟩
 case round =>
  obtain ⟨k,hk,rfl,hn⟩:=hrel
  have Hn:=(show Hid _ from hn)
  clear hn
  cases hb:inB (Zdv s k) Zhw
  ·have Hd:Hid (Zbm (s.data.toList.drop k)=0):=by
    show _=_
    by_cases hlt:k<s.size
    ·rw [Zdq s k hlt]
     rw [Zmi s k hlt] at hb
     exact Zbf _ _ hb
    ·rw [Zia s k hlt]; rfl
   go_wp2_with (first | (go_at_call 79; refine (Zin _ _ _ hs (by omega)).mono ?_; rintro e w' ⟨rfl,rfl⟩) | (go_at_call 112; refine (Zoc _ _).mono ?_; rintro e w' ⟨rfl,rfl⟩))
   go_ret
   exact ⟨Zks (by have h1:=Hn.out; have h2:=Hd.out; omega),rfl⟩
  ·have hlt:k<s.size:=by
    rcases Nat.lt_or_ge k s.size with h | h
    ·exact h
    ·rw [Zmj s k (by omega),Zyj] at hb; cases hb
   have Hd:Hid (Zbm (s.data.toList.drop k)=Zbm (s.data.toList.drop (k+1))+1):=by
    show _=_
    rw [Zdq s k hlt]
    rw [Zmi s k hlt] at hb
    exact Zhg _ _ hb
   go_wp2_with (first | (go_at_call 79; refine (Zin _ _ _ hs (by omega)).mono ?_; rintro e w' ⟨rfl,rfl⟩) | (go_at_call 112; refine (Zoc _ _).mono ?_; rintro e w' ⟨rfl,rfl⟩))
   go_round
   case rel=>exact ⟨k+1,by omega,by go_num,by have h1:=Hn.out; have h2:=Hd.out; omega⟩
   case measure=>simp [intOf]; omega
def Zdo (c d:UInt8):Nat :=
 if inB c Zek then 1 else if inB c Zhz then 2 else if c=40 then 3 else if c=41 then 4 else if c=44 then 5 else if c=46 then 6 else if c=58∧d=45 then 7 else 8
theorem Zkv {c k:UInt8} (h:c=k):((c.toNat:Int) == (k.toNat:Int))=true:=by subst h; simp
theorem Zgw {c k:UInt8} (h:¬ c=k):((c.toNat:Int) == (k.toNat:Int))=false:=by
 rw [Qu]
 intro e
 exact h (UInt8.toNat_inj.1 (by omega))
theorem Zyk (c d:UInt8) (w:World):Calls Tryz.prog 80 #[.int .u8 c.toNat,.int .u8 d.toNat] w fun e w'=>e = .returned (.int .i64 (Zdo c d))∧w'=w:=by
 cases hA:inB c Zek
 case true =>
  have Hk:Hid (Zdo c d=1):=by show _=_; simp [Zdo,hA]
  go_enter Tryz.func80,Tryz.ntmps80
  go_wp2_with (first | (go_at_call 100; refine (Zcg _ _).mono ?_; rintro e w' ⟨rfl,rfl⟩) | (go_at_call 101; refine (Zbo _ _).mono ?_; rintro e w' ⟨rfl,rfl⟩))
  go_ret
  rw [Hk.out]
  exact ⟨rfl,rfl⟩
 case false =>
  cases hB:inB c Zhz
  case true =>
   have Hk:Hid (Zdo c d=2):=by show _=_; simp [Zdo,hA,hB]
   go_enter Tryz.func80,Tryz.ntmps80
   go_wp2_with (first | (go_at_call 100; refine (Zcg _ _).mono ?_; rintro e w' ⟨rfl,rfl⟩) | (go_at_call 101; refine (Zbo _ _).mono ?_; rintro e w' ⟨rfl,rfl⟩))
   go_ret
   rw [Hk.out]
   exact ⟨rfl,rfl⟩
  case false =>
   by_cases h1:c=40
   ·have Hk:Hid (Zdo c d=3):=by show _=_; unfold Zdo; rw [if_neg (by rw [hA]; simp),if_neg (by rw [hB]; simp),if_pos h1]
    have t1:((c.toNat:Int) == 40)=true:=Zkv h1
    clear h1
    go_enter Tryz.func80,Tryz.ntmps80
    go_wp2_with (first | (go_at_call 100; refine (Zcg _ _).mono ?_; rintro e w' ⟨rfl,rfl⟩) | (go_at_call 101; refine (Zbo _ _).mono ?_; rintro e w' ⟨rfl,rfl⟩))
    go_ret
    rw [Hk.out]
    exact ⟨rfl,rfl⟩
   ·have t1:((c.toNat:Int) == 40)=false:=Zgw h1
    by_cases h2:c=41
    ·have Hk:Hid (Zdo c d=4):=by show _=_; unfold Zdo; rw [if_neg (by rw [hA]; simp),if_neg (by rw [hB]; simp),if_neg h1,if_pos h2]
     have t2:((c.toNat:Int) == 41)=true:=Zkv h2
     clear h1 h2
     go_enter Tryz.func80,Tryz.ntmps80
     go_wp2_with (first | (go_at_call 100; refine (Zcg _ _).mono ?_; rintro e w' ⟨rfl,rfl⟩) | (go_at_call 101; refine (Zbo _ _).mono ?_; rintro e w' ⟨rfl,rfl⟩))
     go_ret
     rw [Hk.out]
     exact ⟨rfl,rfl⟩
    ·have t2:((c.toNat:Int) == 41)=false:=Zgw h2
     by_cases h3:c=44
     ·have Hk:Hid (Zdo c d=5):=by show _=_; unfold Zdo; rw [if_neg (by rw [hA]; simp),if_neg (by rw [hB]; simp),if_neg h1,if_neg h2,if_pos h3]
      have t3:((c.toNat:Int) == 44)=true:=Zkv h3
      clear h1 h2 h3
      go_enter Tryz.func80,Tryz.ntmps80
      go_wp2_with (first | (go_at_call 100; refine (Zcg _ _).mono ?_; rintro e w' ⟨rfl,rfl⟩) | (go_at_call 101; refine (Zbo _ _).mono ?_; rintro e w' ⟨rfl,rfl⟩))
      go_ret
      rw [Hk.out]
      exact ⟨rfl,rfl⟩
     ·have t3:((c.toNat:Int) == 44)=false:=Zgw h3
      by_cases h4:c=46
      ·have Hk:Hid (Zdo c d=6):=by show _=_; unfold Zdo; rw [if_neg (by rw [hA]; simp),if_neg (by rw [hB]; simp),if_neg h1,if_neg h2,if_neg h3,if_pos h4]
       have t4:((c.toNat:Int) == 46)=true:=Zkv h4
       clear h1 h2 h3 h4
       go_enter Tryz.func80,Tryz.ntmps80
       go_wp2_with (first | (go_at_call 100; refine (Zcg _ _).mono ?_; rintro e w' ⟨rfl,rfl⟩) | (go_at_call 101; refine (Zbo _ _).mono ?_; rintro e w' ⟨rfl,rfl⟩))
       go_ret
       rw [Hk.out]
       exact ⟨rfl,rfl⟩
      ·have t4:((c.toNat:Int) == 46)=false:=Zgw h4
       by_cases h5:c=58
       ·have t5:((c.toNat:Int) == 58)=true:=Zkv h5
        by_cases h6:d=45
        ·have t6:((d.toNat:Int) == 45)=true:=Zkv h6
         have Hk:Hid (Zdo c d=7):=by show _=_; unfold Zdo; rw [if_neg (by rw [hA]; simp),if_neg (by rw [hB]; simp),if_neg h1,if_neg h2,if_neg h3,if_neg h4,if_pos ⟨h5,h6⟩]
         clear h1 h2 h3 h4 h5 h6
         go_enter Tryz.func80,Tryz.ntmps80
         go_wp2_with (first | (go_at_call 100; refine (Zcg _ _).mono ?_; rintro e w' ⟨rfl,rfl⟩) | (go_at_call 101; refine (Zbo _ _).mono ?_; rintro e w' ⟨rfl,rfl⟩))
         go_ret
         rw [Hk.out]
         exact ⟨rfl,rfl⟩
        ·have t6:((d.toNat:Int) == 45)=false:=Zgw h6
         have Hk:Hid (Zdo c d=8):=by show _=_; unfold Zdo; rw [if_neg (by rw [hA]; simp),if_neg (by rw [hB]; simp),if_neg h1,if_neg h2,if_neg h3,if_neg h4,if_neg (fun h=>h6 h.2)]
         clear h1 h2 h3 h4 h5 h6
         go_enter Tryz.func80,Tryz.ntmps80
         go_wp2_with (first | (go_at_call 100; refine (Zcg _ _).mono ?_; rintro e w' ⟨rfl,rfl⟩) | (go_at_call 101; refine (Zbo _ _).mono ?_; rintro e w' ⟨rfl,rfl⟩))
         go_ret
         rw [Hk.out]
         exact ⟨rfl,rfl⟩
       ·have t5:((c.toNat:Int) == 58)=false:=Zgw h5
        have Hk:Hid (Zdo c d=8):=by show _=_; unfold Zdo; rw [if_neg (by rw [hA]; simp),if_neg (by rw [hB]; simp),if_neg h1,if_neg h2,if_neg h3,if_neg h4,if_neg (fun h=>h5 h.1)]
        clear h1 h2 h3 h4 h5
        go_enter Tryz.func80,Tryz.ntmps80
        go_wp2_with (first | (go_at_call 100; refine (Zcg _ _).mono ?_; rintro e w' ⟨rfl,rfl⟩) | (go_at_call 101; refine (Zbo _ _).mono ?_; rintro e w' ⟨rfl,rfl⟩))
        go_ret
        rw [Hk.out]
        exact ⟨rfl,rfl⟩
def endC (s:ByteArray) (p kd:Nat):Nat:=if kd=1∨kd=2 then p+Zbm (s.data.toList.drop p) else if kd=7 then p+2 else p+1
theorem Ybx (s:ByteArray) (p kd:Nat) (w:World) (hs:s.size≤4096) (hp:p≤s.size):Calls Tryz.prog 81 #[.string s,.int .i64 p,.int .i64 kd] w fun e w'=>e = .returned (.int .i64 (endC s p kd))∧w'=w:=by
 by_cases h1:kd=1
 ·subst h1
  have Hk:Hid (endC s p 1=p+Zbm (s.data.toList.drop p)):=by show _=_; simp [endC]
  go_enter Tryz.func81,Tryz.ntmps81
  go_wp2_with (go_at_call 102; refine (Zjv _ _ _ hs hp).mono ?_; rintro e w' ⟨rfl,rfl⟩)
  go_ret
  rw [Hk.out]
  exact ⟨rfl,rfl⟩
 ·have t1:((kd:Int) == 1)=false:=by rw [Qu]; omega
  by_cases h2:kd=2
  ·subst h2
   have Hk:Hid (endC s p 2=p+Zbm (s.data.toList.drop p)):=by show _=_; simp [endC]
   clear h1
   go_enter Tryz.func81,Tryz.ntmps81
   go_wp2_with (go_at_call 102; refine (Zjv _ _ _ hs hp).mono ?_; rintro e w' ⟨rfl,rfl⟩)
   go_ret
   rw [Hk.out]
   exact ⟨rfl,rfl⟩
  ·have t2:((kd:Int) == 2)=false:=by rw [Qu]; omega
   by_cases h7:kd=7
   ·have t7:((kd:Int) == 7)=true:=by rw [beq_iff_eq]; omega
    have Hk:Hid (endC s p kd=p+2):=by show _=_; simp [endC,h7]
    clear h1 h2 h7
    go_enter Tryz.func81,Tryz.ntmps81
    go_wp2
    go_ret
    rw [Hk.out]
    exact ⟨Zks (by omega),rfl⟩
   ·have t7:((kd:Int) == 7)=false:=by rw [Qu]; omega
    have Hk:Hid (endC s p kd=p+1):=by show _=_; simp [endC,h1,h2,h7]
    clear h1 h2 h7
    go_enter Tryz.func81,Tryz.ntmps81
    go_wp2
    go_ret
    rw [Hk.out]
    exact ⟨Zks (by omega),rfl⟩
def Zmk (s:ByteArray) (n:Nat):Nat × Nat × Nat :=
 if n+Zcv (s.data.toList.drop n)<s.size then
  (Zdo (Zdv s (n+Zcv (s.data.toList.drop n))) (Zdv s (n+Zcv (s.data.toList.drop n)+1)),n+Zcv (s.data.toList.drop n),
   endC s (n+Zcv (s.data.toList.drop n)) (Zdo (Zdv s (n+Zcv (s.data.toList.drop n))) (Zdv s (n+Zcv (s.data.toList.drop n)+1))))
 else (0,s.size,s.size)
theorem Zwj (s:ByteArray) (n:Nat) (w:World) (hs:s.size≤4096) (hn:n≤s.size):Calls Tryz.prog 66 #[.string s,.int .i64 n] w fun e w' =>
  e = .returned (.agg #[.int .i64 (Zmk s n).1,.int .i64 (Zmk s n).2.1,.int .i64 (Zmk s n).2.2])∧Below w.heap.size w w':=by
 have hbl:=Ybw (s.data.toList.drop n)
 simp only [List.length_drop,Array.length_toList] at hbl
 have hbl':n+Zcv (s.data.toList.drop n)≤s.size:=by
  have:s.data.size=s.size:=rfl
  omega
 obtain ⟨p,hp⟩:∃ p,p=n+Zcv (s.data.toList.drop n):=⟨_,rfl⟩
 have hps:p≤s.size:=by omega
 have Hp:=(show Hid _ from hp)
 by_cases h:p<s.size
 ·have Hr:Hid (Zmk s n=(Zdo (Zdv s p) (Zdv s (p+1)),p,endC s p (Zdo (Zdv s p) (Zdv s (p+1))))):=by
   show _=_
   unfold Zmk
   rw [← hp,if_pos h]
  clear hp hbl hbl'
  go_enter Tryz.func66,Tryz.ntmps66
  go_wp2_with fail
  refine (Zja _ _ _ hs hn).mono ?_
  rintro e w' ⟨rfl,rfl⟩
  rw [← Hp.out]
  go_wp2_with fail
  refine (Zin _ _ _ hs (by omega)).mono ?_
  rintro e w' ⟨rfl,rfl⟩
  go_wp2_with fail
  refine (Zin s (p+1) _ hs (by omega)).mono ?_
  rintro e w' ⟨rfl,rfl⟩
  go_wp2_with fail
  refine (Zyk _ _ _).mono ?_
  rintro e w' ⟨rfl,rfl⟩
  go_wp2_with fail
  refine (Ybx _ _ _ _ hs hps).mono ?_
  rintro e w' ⟨rfl,rfl⟩
  go_wp2
  rw [Hr.out]
  exact bodyPost_ret (v := .agg #[.int .i64 (Zdo (Zdv s p) (Zdv s (p+1))),.int .i64 p,.int .i64 (endC s p (Zdo (Zdv s p) (Zdv s (p+1))))]) (by simp [results,Tryz.results66,go_sem]) rfl ⟨rfl,(Below.refl _ _).alloc (Qe _) _⟩
 ·have Hr:Hid (Zmk s n=(0,s.size,s.size)):=by
   show _=_
   unfold Zmk
   rw [← hp,if_neg h]
  clear hp hbl hbl'
  go_enter Tryz.func66,Tryz.ntmps66
  go_wp2_with fail
  refine (Zja _ _ _ hs hn).mono ?_
  rintro e w' ⟨rfl,rfl⟩
  rw [← Hp.out]
  go_wp2
  rw [Hr.out]
  exact bodyPost_ret (v := .agg #[.int .i64 0,.int .i64 s.size,.int .i64 s.size]) (by simp [results,Tryz.results66,go_sem]) rfl ⟨rfl,(Below.refl _ _).alloc (Qe _) _⟩
end Go.Proofs.YtlmjilpjmgjjcabGreatDoor
namespace Go.Proofs.YtlmjilpjmgjjcabGreatDoor
def Wf:Nat→List Sym→Prop
 | k,[]=>k=0
 | k,s::r=>0<k∧(s.name=[]→s.args=0)∧(s.name≠[]→s.num=0)∧Wf (k - 1+s.args) r
def vr (n:Nat):List Sym:=[⟨[],n,0⟩]
def ap1 (σ:Nat→List Sym) (s:Sym):List Sym:=if s.name=[] then σ s.num else [s]
def ap (σ:Nat→List Sym) (l:List Sym):List Sym:=l.flatMap (ap1 σ)
theorem Zjw (σ:Nat→List Sym):ap σ []=[]:=rfl
theorem Zbs (σ:Nat→List Sym) (s:Sym) (l:List Sym):ap σ (s::l)=ap1 σ s++ap σ l:=rfl
theorem Zgx (σ:Nat→List Sym) (l m:List Sym):ap σ (l++m)=ap σ l++ap σ m:=by simp [ap]
theorem Zkw (σ:Nat→List Sym) (ls:List (List Sym)):ap σ ls.flatten=(ls.map (ap σ)).flatten:=by
 induction ls with
 | nil=>rfl
 | cons l ls ih=>simp [Zgx,ih]
theorem Ykx (σ:Nat→List Sym) (n:Nat):ap σ (vr n)=σ n:=by simp [ap,vr,ap1]
theorem Yiv (θ σ:Nat→List Sym) (l:List Sym):ap θ (ap σ l)=ap (fun n=>ap θ (σ n)) l:=by
 induction l with
 | nil=>rfl
 | cons s l ih =>
  rw [Zbs,Zgx,ih,Zbs]
  congr 1
  unfold ap1
  split
  ·rfl
  ·rename_i h; simp [ap,ap1,h]
def Occ (v:Nat) (l:List Sym):Prop:=∃ s ∈ l,s.name=[]∧s.num=v
theorem Zpi {σ τ:Nat→List Sym} {l:List Sym} (h:∀ n,Occ n l→σ n=τ n):ap σ l=ap τ l:=by
 induction l with
 | nil=>rfl
 | cons s l ih =>
  rw [Zbs,Zbs,ih (fun n hn=>h n (by obtain ⟨t,h1,h2⟩:=hn; exact ⟨t,List.mem_cons_of_mem _ h1,h2⟩))]
  congr 1
  unfold ap1
  split
  ·rename_i hs; exact h _ ⟨s,List.mem_cons_self ..,hs,rfl⟩
  ·rfl
theorem Zyl {v:Nat} {l m:List Sym}:Occ v (l++m)↔Occ v l∨Occ v m:=by
 constructor
 ·rintro ⟨s,h,h1,h2⟩
  rcases Qk.1 h with h | h
  ·exact Or.inl ⟨s,h,h1,h2⟩
  ·exact Or.inr ⟨s,h,h1,h2⟩
 ·rintro (⟨s,h,h1,h2⟩ | ⟨s,h,h1,h2⟩)
  ·exact ⟨s,Qk.2 (Or.inl h),h1,h2⟩
  ·exact ⟨s,Qk.2 (Or.inr h),h1,h2⟩
theorem Yby {v n:Nat}:Occ v (vr n)↔v=n:=by
 constructor
 ·rintro ⟨s,h,h1,h2⟩
  simp [vr] at h; subst h; exact h2.symm
 ·rintro rfl; exact ⟨_,by simp [vr]; rfl,rfl,rfl⟩
theorem Yih {v:Nat} {σ:Nat→List Sym} {l:List Sym}:Occ v (ap σ l)↔∃ n,Occ n l∧Occ v (σ n):=by
 constructor
 ·rintro ⟨s,h,h1,h2⟩
  obtain ⟨t,ht,hs⟩:=List.mem_flatMap.1 h
  unfold ap1 at hs
  split at hs
  ·rename_i hn; exact ⟨t.num,⟨t,ht,hn,rfl⟩,s,hs,h1,h2⟩
  ·simp at hs; subst hs; contradiction
 ·rintro ⟨n,⟨t,ht,h1,h2⟩,s,hs,h3,h4⟩
  refine ⟨s,List.mem_flatMap.2 ⟨t,ht,?_⟩,h3,h4⟩
  unfold ap1; rw [if_pos h1,h2]; exact hs
theorem Zfx:∀ {l:List Sym} {j k:Nat} {m:List Sym},Wf j l→Wf k m→Wf (j+k) (l++m):=by
 intro l
 induction l with
 | nil=>intro j k m h1 h2; cases h1; simpa using h2
 | cons s l ih =>
  intro j k m h1 h2
  obtain ⟨h,ha,hb,hr⟩:=h1
  refine ⟨by omega,ha,hb,?_⟩
  have:=ih hr h2
  have e:j+k - 1+s.args=j - 1+s.args+k:=by omega
  rw [e]; exact this
theorem Zlz:∀ {l:List Sym} {j k:Nat},Wf (j+k) l→∃ a b,l=a++b∧Wf j a∧Wf k b:=by
 intro l
 induction l with
 | nil =>
  intro j k h
  have h:j+k=0:=h
  exact ⟨[],[],rfl,by show j=0; omega,by show k=0; omega⟩
 | cons s l ih =>
  intro j k h
  rcases Nat.eq_zero_or_pos j with rfl | hj
  ·exact ⟨[],s::l,rfl,rfl,by simpa using h⟩
  ·obtain ⟨h1,ha,hb,hr⟩:=h
   have e:j+k - 1+s.args=j - 1+s.args+k:=by omega
   rw [e] at hr
   obtain ⟨a,b,rfl,h2,h3⟩:=ih hr
   exact ⟨s::a,b,rfl,⟨hj,ha,hb,h2⟩,h3⟩
theorem Zrk:∀ {a:List Sym} {k:Nat} {b x y:List Sym},Wf k a→Wf k b→a++x=b++y→a=b∧x=y:=by
 intro a
 induction a with
 | nil =>
  intro k b x y h1 h2 h
  cases h1
  cases b with
  | nil=>exact ⟨rfl,h⟩
  | cons s b=>exact absurd h2.1 (by omega)
 | cons s a ih =>
  intro k b x y h1 h2 h
  cases b with
  | nil =>
   have h2:k=0:=h2
   exact absurd h1.1 (by omega)
  | cons t b =>
   simp only [List.cons_append,List.cons.injEq] at h
   obtain ⟨rfl,h⟩:=h
   obtain ⟨rfl,h3⟩:=ih h1.2.2.2 h2.2.2.2 h
   exact ⟨rfl,h3⟩
theorem Zel:∀ {l:List Sym} {k:Nat},Wf k l→k≤l.length:=by
 intro l
 induction l with
 | nil=>intro k h; have h:k=0:=h; omega
 | cons s l ih=>intro k h; have:=ih h.2.2.2; simp; omega
theorem Zua (n:Nat):Wf 1 (vr n):=⟨by omega,fun _=>rfl,fun h=>absurd rfl h,rfl⟩
theorem Zwk {l:List Sym} (h:Wf 1 l):∃ s r,l=s::r∧Wf s.args r∧(s.name=[]→l=vr s.num):=by
 cases l with
 | nil=>exact absurd (show 1=0 from h) (by omega)
 | cons s r =>
  have hr:=h.2.2.2
  simp only [Nat.sub_self,Nat.zero_add] at hr
  refine ⟨s,r,rfl,hr,fun hn => ?_⟩
  have h0:=h.2.1 hn
  rw [h0] at hr
  cases r with
  | nil=>cases s; simp at hn h0; subst hn h0; rfl
  | cons t r=>exact absurd hr.1 (by omega)
theorem Zkx {ls:List (List Sym)} (h:∀ l ∈ ls,Wf 1 l):Wf ls.length ls.flatten:=by
 induction ls with
 | nil=>rfl
 | cons l ls ih =>
  have:=Zfx (h l (by simp)) (ih (fun l' hl=>h l' (by simp [hl])))
  simpa [Nat.add_comm] using this
theorem Zrl:∀ (k:Nat) {l:List Sym},Wf k l→∃ ls:List (List Sym),ls.length=k∧l=ls.flatten∧∀ l' ∈ ls,Wf 1 l':=by
 intro k
 induction k with
 | zero =>
  intro l h
  cases l with
  | nil=>exact ⟨[],rfl,rfl,by simp⟩
  | cons s l=>exact absurd h.1 (by omega)
 | succ k ih =>
  intro l h
  rw [Nat.add_comm] at h
  obtain ⟨a,b,rfl,h1,h2⟩:=Zlz h
  obtain ⟨ls,h3,rfl,h4⟩:=ih h2
  refine ⟨a::ls,by simp [h3],by simp,?_⟩
  intro l' hl
  rcases Qp.1 hl with rfl | hl
  ·exact h1
  ·exact h4 _ hl
theorem Zjb:∀ {ls ms:List (List Sym)},(∀ l ∈ ls,Wf 1 l)→(∀ l ∈ ms,Wf 1 l)→ls.length=ms.length→ls.flatten=ms.flatten→ls=ms:=by
 intro ls
 induction ls with
 | nil=>intro ms _ _ h _; cases ms with
  | nil=>rfl
  | cons m ms=>simp at h
 | cons l ls ih =>
  intro ms h1 h2 hl h
  cases ms with
  | nil=>simp at hl
  | cons m ms =>
   simp only [List.flatten_cons] at h
   obtain ⟨rfl,h'⟩:=Zrk (h1 l (by simp)) (h2 m (by simp)) h
   rw [ih (fun l' hl=>h1 l' (List.mem_cons_of_mem _ hl)) (fun l' hl=>h2 l' (List.mem_cons_of_mem _ hl)) (by simpa using hl) h']
def Ts (σ:Nat→List Sym):Prop:=∀ n,Wf 1 (σ n)
theorem ts_vr:Ts vr:=Zua
theorem Zml {σ:Nat→List Sym} (hσ:Ts σ):∀ {l:List Sym} {k:Nat},Wf k l→Wf k (ap σ l):=by
 intro l
 induction l with
 | nil=>intro k h; exact h
 | cons s l ih =>
  intro k h
  obtain ⟨h1,h2,h3,h4⟩:=h
  rw [Zbs]
  unfold ap1
  split
  ·rename_i hn
   rw [h2 hn] at h4
   have:=Zfx (hσ s.num) (ih h4)
   have e:1+(k - 1+0)=k:=by omega
   rwa [e] at this
  ·exact ⟨h1,h2,h3,ih h4⟩
theorem Yiw {σ θ:Nat→List Sym} (hσ:Ts σ) (hθ:Ts θ):Ts (fun n=>ap θ (σ n)):=fun n=>Zml hθ (hσ n)
theorem ap_id:∀ {l:List Sym} {k:Nat},Wf k l→ap vr l=l:=by
 intro l
 induction l with
 | nil=>intro k h; rfl
 | cons s l ih =>
  intro k h
  rw [Zbs,ih h.2.2.2]
  unfold ap1
  split
  ·rename_i hn
   have:=h.2.1 hn
   cases s; simp at hn this; subst hn this; rfl
  ·rfl
theorem Zgj {σ:Nat→List Sym} (hσ:Ts σ) (l:List Sym):l.length≤(ap σ l).length:=by
 induction l with
 | nil=>simp
 | cons s l ih =>
  rw [Zbs]
  have:1≤(ap1 σ s).length:=by
   unfold ap1; split
   ·exact Zel (hσ _)
   ·simp
  simp; omega
theorem Zod {σ:Nat→List Sym} (hσ:Ts σ) {v:Nat} {l:List Sym} (h:Occ v l):(σ v).length+l.length≤(ap σ l).length+1:=by
 induction l with
 | nil=>obtain ⟨s,h,_⟩:=h; simp at h
 | cons s l ih =>
  rw [Zbs]
  simp only [Qg,Qf]
  have hl:=Zgj hσ l
  have:1≤(ap1 σ s).length:=by
   unfold ap1; split
   ·exact Zel (hσ _)
   ·simp
  obtain ⟨t,ht,h1,h2⟩:=h
  rcases Qp.1 ht with rfl | ht
  ·have:ap1 σ t=σ v:=by unfold ap1; rw [if_pos h1,h2]
   rw [this]; omega
  ·have:=ih ⟨t,ht,h1,h2⟩; omega
theorem Ybz {θ σ:Nat→List Sym} (h:∀ n,ap θ (σ n)=θ n) (l:List Sym):ap θ (ap σ l)=ap θ l:=by
 rw [Yiv]; exact Zpi (fun n _=>h n)
def NoFit (a b:List Sym):Prop:=∀ θ,Ts θ→ap θ a≠ap θ b
def Vast (a b:List Sym):Prop:=(∃ θ,Ts θ∧ap θ a=ap θ b)∧∀ θ,Ts θ→ap θ a=ap θ b→30<(ap θ a).length
structure Mgu (σ:Nat→List Sym) (a b:List Sym):Prop where
 ts:Ts σ
 unif:ap σ a=ap σ b
 wide:∀ θ,Ts θ→ap θ a=ap θ b→∀ n,ap θ (σ n)=θ n
 occ:∀ n v,Occ v (σ n)→v=n∨Occ v a∨Occ v b
 own:∀ n,¬ Occ n a→¬ Occ n b→σ n=vr n
theorem Mgu.small {σ:Nat→List Sym} {a b:List Sym} (h:Mgu σ a b) (hs:30<(ap σ a).length):Vast a b:=by
 refine ⟨⟨σ,h.ts,h.unif⟩,fun θ hθ hu => ?_⟩
 have:=Zgj hθ (ap σ a)
 rw [Ybz (h.wide θ hθ hu)] at this
 omega
structure Gr where
 n:Nat
 hd:Nat→Sym
 kids:Nat→List Nat
structure Gr.Ok (G:Gr):Prop where
 kl:∀ i,i<G.n→∀ k ∈ G.kids i,k<G.n
 ar:∀ i,i<G.n→(G.hd i).args=(G.kids i).length
 vn:∀ i,i<G.n→(G.hd i).name=[]→G.kids i=[]
 nv:∀ i,i<G.n→(G.hd i).name≠[]→(G.hd i).num=0
structure Rt (n:Nat) (ρ:Nat→Nat):Prop where
 lt:∀ i,i<n→ρ i<n
 idem:∀ i,i<n→ρ (ρ i)=ρ i
def mg (ρ:Nat→Nat) (x y:Nat):Nat→Nat:=fun i=>if ρ i=x then y else ρ i
theorem Rt.mg {n:Nat} {ρ:Nat→Nat} (h:Rt n ρ) {x y:Nat} (hx:x<n) (hy:y<n) (ry:ρ y=y) (hne:x≠y):Rt n (mg ρ x y):=by
 refine ⟨fun i hi => ?_,fun i hi => ?_⟩
 ·unfold YtlmjilpjmgjjcabGreatDoor.mg; split
  ·exact hy
  ·exact h.lt i hi
 ·unfold YtlmjilpjmgjjcabGreatDoor.mg
  by_cases h1:ρ i=x
  ·rw [if_pos h1,if_neg (by rw [ry]; exact fun e=>hne e.symm),ry]
  ·rw [if_neg h1,h.idem i hi,if_neg h1]
structure Vals (G:Gr) (val:Nat→List Sym):Prop where
 wf:∀ i,i<G.n→Wf 1 (val i)
 nm:∀ i,i<G.n→(G.hd i).name≠[]→val i=G.hd i::((G.kids i).map val).flatten
def Con (n:Nat) (ρ:Nat→Nat) (val:Nat→List Sym):Prop:=∀ i,i<n→val (ρ i)=val i
def Cg (G:Gr) (ρ:Nat→Nat) (i:Nat):Prop:=(G.hd i).name≠[]→(G.hd (ρ i)).name=(G.hd i).name∧(G.kids (ρ i)).map ρ=(G.kids i).map ρ
def Grow (n:Nat) (ρ ρ':Nat→Nat):Prop:=∀ i j,i<n→j<n→ρ i=ρ j→ρ' i=ρ' j
theorem Grow.refl (n:Nat) (ρ:Nat→Nat):Grow n ρ ρ:=fun _ _ _ _ h=>h
theorem Grow.trans {n:Nat} {ρ ρ' ρ'':Nat→Nat} (h:Grow n ρ ρ') (k:Grow n ρ' ρ''):Grow n ρ ρ'':=fun i j hi hj e=>k i j hi hj (h i j hi hj e)
theorem Grow.mg {n:Nat} (ρ:Nat→Nat) (x y:Nat):Grow n ρ (mg ρ x y):=fun i j _ _ e=>by unfold YtlmjilpjmgjjcabGreatDoor.mg; rw [e]
theorem Grow.map {n:Nat} {ρ ρ':Nat→Nat} (h:Grow n ρ ρ'):∀ {l m:List Nat},(∀ k ∈ l,k<n)→(∀ k ∈ m,k<n)→l.map ρ=m.map ρ→l.map ρ'=m.map ρ':=by
 intro l
 induction l with
 | nil=>intro m _ _ e; cases m with
  | nil=>rfl
  | cons _ _=>simp at e
 | cons a l ih =>
  intro m hl hm e
  cases m with
  | nil=>simp at e
  | cons b m =>
   simp only [List.map_cons,List.cons.injEq] at e ⊢
   exact ⟨h a b (hl a (by simp)) (hm b (by simp)) e.1,ih (fun k hk=>hl k (by simp [hk])) (fun k hk=>hm k (by simp [hk])) e.2⟩
structure Joined (G:Gr) (ρ ρ':Nat→Nat) (ats bs:List Nat):Prop where
 rt:Rt G.n ρ'
 grow:Grow G.n ρ ρ'
 eq:ats.map ρ'=bs.map ρ'
 cg:∀ i,i<G.n→Cg G ρ i→Cg G ρ' i
 con:∀ val,Vals G val→Con G.n ρ val→ats.map val=bs.map val→Con G.n ρ' val
def Clash (G:Gr) (ρ:Nat→Nat) (ats bs:List Nat):Prop:=∀ val,Vals G val→Con G.n ρ val→ats.map val≠bs.map val
theorem Joined.nil {G:Gr} {ρ:Nat→Nat} (h:Rt G.n ρ):Joined G ρ ρ [] []:=⟨h,Grow.refl _ _,rfl,fun _ _ h=>h,fun _ _ h _=>h⟩
theorem Joined.same {G:Gr} {ρ:Nat→Nat} (h:Rt G.n ρ) {a b:Nat} (e:ρ a=ρ b):Joined G ρ ρ [a] [b]:=⟨h,Grow.refl _ _,by simp [e],fun _ _ h=>h,fun _ _ h _=>h⟩
theorem Joined.snoc {G:Gr} (hG:G.Ok) {ρ ρ' ρ'':Nat→Nat} {ats bs:List Nat} {a b:Nat} (h:Joined G ρ ρ' ats bs) (k:Joined G ρ' ρ'' [a] [b]) (ha:∀ k ∈ ats,k<G.n) (hb:∀ k ∈ bs,k<G.n) :
  Joined G ρ ρ'' (ats++[a]) (bs++[b]):=by
 refine ⟨k.rt,h.grow.trans k.grow,?_,fun i hi hc=>k.cg i hi (h.cg i hi hc),fun val hv hc e => ?_⟩
 ·rw [Qr,Qr,k.grow.map ha hb h.eq,k.eq]
 ·rw [Qr,Qr] at e
  have hl:ats.length=bs.length:=by simpa using congrArg List.length h.eq
  have:=List.append_inj e (by simp [hl])
  exact k.con val hv (h.con val hv hc this.1) this.2
theorem Clash.snoc {G:Gr} {ρ ρ':Nat→Nat} {ats bs:List Nat} {a b:Nat} (h:Joined G ρ ρ' ats bs) (k:Clash G ρ' [a] [b]) (ra rb:List Nat):Clash G ρ (ats++a::ra) (bs++b::rb):=by
 intro val hv hc e
 rw [Qr,Qr] at e
 have hl:ats.length=bs.length:=by simpa using congrArg List.length h.eq
 have:=List.append_inj e (by simp [hl])
 refine k val hv (h.con val hv hc this.1) ?_
 have h2:=this.2
 simp only [List.map_cons,List.cons.injEq] at h2
 simp [h2.1]
theorem Yca {G:Gr} {ρ:Nat→Nat} (h:Rt G.n ρ) {a b x y:Nat} (ha:a<G.n) (hb:b<G.n) (hxy:(x=ρ a∧y=ρ b)∨(x=ρ b∧y=ρ a)) {val:Nat→List Sym} (hv:Vals G val) (hc:Con G.n ρ val) (e:val a=val b):Con G.n (mg ρ x y) val:=by
 have exy:val x=val y:=by
  rcases hxy with ⟨rfl,rfl⟩ | ⟨rfl,rfl⟩
  ·rw [hc a ha,hc b hb,e]
  ·rw [hc a ha,hc b hb,e]
 intro i hi
 unfold mg
 split
 ·rename_i h1
  rw [← exy,← h1,hc i hi]
 ·exact hc i hi
theorem Yky {ρ:Nat→Nat} {a b x y:Nat} (hxy:(x=ρ a∧y=ρ b)∨(x=ρ b∧y=ρ a)):mg ρ x y a=mg ρ x y b:=by
 unfold mg
 rcases hxy with ⟨rfl,rfl⟩ | ⟨rfl,rfl⟩
 ·simp
 ·simp
theorem Joined.var {G:Gr} {ρ:Nat→Nat} (h:Rt G.n ρ) {a b x y:Nat} (ha:a<G.n) (hb:b<G.n) (hxy:(x=ρ a∧y=ρ b)∨(x=ρ b∧y=ρ a)) (hne:x≠y) (hv:(G.hd x).name=[]) :
  Joined G ρ (mg ρ x y) [a] [b]:=by
 have hx:x<G.n:=by rcases hxy with ⟨rfl,rfl⟩ | ⟨rfl,rfl⟩ <;> exact h.lt _ (by assumption)
 have hy:y<G.n:=by rcases hxy with ⟨rfl,rfl⟩ | ⟨rfl,rfl⟩ <;> exact h.lt _ (by assumption)
 have ry:ρ y=y:=by rcases hxy with ⟨rfl,rfl⟩ | ⟨rfl,rfl⟩ <;> exact h.idem _ (by assumption)
 refine ⟨h.mg hx hy ry hne,Grow.mg _ _ _,by simp [Yky hxy],?_,fun val hval hc e=>Yca h ha hb hxy hval hc (by simpa using e)⟩
 intro i hi hc hn
 obtain ⟨h1,h2⟩:=hc hn
 have hix:ρ i≠x:=by
  intro e
  rw [e,hv] at h1
  exact hn h1.symm
 have e:mg ρ x y i=ρ i:=by unfold mg; rw [if_neg hix]
 rw [e]
 refine ⟨h1,?_⟩
 have hkl:∀ (l m:List Nat),l.map ρ=m.map ρ→l.map (mg ρ x y)=m.map (mg ρ x y):=by
  intro l m e
  have:∀ l:List Nat,l.map (mg ρ x y)=(l.map ρ).map (fun j=>if j=x then y else j):=by
   intro l; simp [mg]
  rw [this,this,e]
 exact hkl _ _ h2
theorem Grow.of_map {ρ:Nat→Nat} {x y:Nat} {l m:List Nat} (e:l.map ρ=m.map ρ):l.map (YtlmjilpjmgjjcabGreatDoor.mg ρ x y)=m.map (YtlmjilpjmgjjcabGreatDoor.mg ρ x y):=by
 have:∀ l:List Nat,l.map (YtlmjilpjmgjjcabGreatDoor.mg ρ x y)=(l.map ρ).map (fun j=>if j=x then y else j):=by
  intro l; simp [YtlmjilpjmgjjcabGreatDoor.mg]
 rw [this,this,e]
theorem Joined.name {G:Gr} (hG:G.Ok) {ρ ρ':Nat→Nat} (h:Rt G.n ρ) {a b x y:Nat} (ha:a<G.n) (hb:b<G.n) (hxy:(x=ρ a∧y=ρ b)∨(x=ρ b∧y=ρ a)) (hne:x≠y)
  (hx0:(G.hd x).name≠[]) (hn:(G.hd x).name=(G.hd y).name) (k:Joined G (mg ρ x y) ρ' (G.kids x) (G.kids y)):Joined G ρ ρ' [a] [b]:=by
 have hx:x<G.n:=by rcases hxy with ⟨rfl,rfl⟩ | ⟨rfl,rfl⟩ <;> exact h.lt _ (by assumption)
 have hy:y<G.n:=by rcases hxy with ⟨rfl,rfl⟩ | ⟨rfl,rfl⟩ <;> exact h.lt _ (by assumption)
 have rx:ρ x=x:=by rcases hxy with ⟨rfl,rfl⟩ | ⟨rfl,rfl⟩ <;> exact h.idem _ (by assumption)
 have ry:ρ y=y:=by rcases hxy with ⟨rfl,rfl⟩ | ⟨rfl,rfl⟩ <;> exact h.idem _ (by assumption)
 have hr1:=h.mg hx hy ry hne
 have hg:Grow G.n ρ ρ':=(Grow.mg _ _ _).trans k.grow
 have mgy:mg ρ x y y=y:=by unfold mg; rw [ry,if_neg (fun e=>hne e.symm)]
 have mgx:mg ρ x y x=y:=by unfold mg; rw [rx,if_pos rfl]
 have cy:Cg G ρ' y:=k.cg y hy (fun _=>by rw [mgy]; exact ⟨rfl,rfl⟩)
 have exy:ρ' x=ρ' y:=k.grow x y hx hy (by rw [mgx,mgy])
 refine ⟨k.rt,hg,?_,?_,?_⟩
 ·have:=k.grow a b ha hb (Yky hxy)
  simp [this]
 ·intro i hi hc
  by_cases hix:ρ i=x
  ·intro hin
   obtain ⟨h1,h2⟩:=hc hin
   rw [hix] at h1 h2
   have hiy:ρ' i=ρ' y:=k.grow i y hi hy (by rw [mgy]; unfold mg; rw [if_pos hix])
   obtain ⟨h3,h4⟩:=cy (by rw [← hn]; exact hx0)
   rw [hiy]
   refine ⟨by rw [h3,← hn,h1],?_⟩
   rw [h4,← k.eq]
   exact hg.map (hG.kl x hx) (hG.kl i hi) h2
  ·refine k.cg i hi (fun hin => ?_)
   obtain ⟨h1,h2⟩:=hc hin
   have e:mg ρ x y i=ρ i:=by unfold mg; rw [if_neg hix]
   rw [e]
   exact ⟨h1,Grow.of_map h2⟩
 ·intro val hv hc e
  have e':val a=val b:=by simpa using e
  have c1:=Yca h ha hb hxy hv hc e'
  refine k.con val hv c1 ?_
  have exy:val x=val y:=by
   rcases hxy with ⟨rfl,rfl⟩ | ⟨rfl,rfl⟩
   ·rw [hc a ha,hc b hb,e']
   ·rw [hc a ha,hc b hb,e']
  rw [hv.nm x hx hx0,hv.nm y hy (by rw [← hn]; exact hx0)] at exy
  simp only [List.cons.injEq] at exy
  have hl:(G.kids x).length=(G.kids y).length:=by rw [← hG.ar x hx,← hG.ar y hy,exy.1]
  refine Zjb ?_ ?_ (by simp [hl]) exy.2
  ·intro l hl; obtain ⟨j,hj,rfl⟩:=List.mem_map.1 hl; exact hv.wf j (hG.kl x hx j hj)
  ·intro l hl; obtain ⟨j,hj,rfl⟩:=List.mem_map.1 hl; exact hv.wf j (hG.kl y hy j hj)
theorem Zmm {G:Gr} (hG:G.Ok) {ρ:Nat→Nat} (h:Rt G.n ρ) {a b x y:Nat} (ha:a<G.n) (hb:b<G.n) (hxy:(x=ρ a∧y=ρ b)∨(x=ρ b∧y=ρ a))
  (hx0:(G.hd x).name≠[]) (hy0:(G.hd y).name≠[]) (hn:(G.hd x).name≠(G.hd y).name∨(G.hd x).args≠(G.hd y).args):Clash G ρ [a] [b]:=by
 intro val hv hc e
 have e':val a=val b:=by simpa using e
 have hx:x<G.n:=by rcases hxy with ⟨rfl,rfl⟩ | ⟨rfl,rfl⟩ <;> exact h.lt _ (by assumption)
 have hy:y<G.n:=by rcases hxy with ⟨rfl,rfl⟩ | ⟨rfl,rfl⟩ <;> exact h.lt _ (by assumption)
 have exy:val x=val y:=by
  rcases hxy with ⟨rfl,rfl⟩ | ⟨rfl,rfl⟩
  ·rw [hc a ha,hc b hb,e']
  ·rw [hc a ha,hc b hb,e']
 rw [hv.nm x hx hx0,hv.nm y hy hy0] at exy
 simp only [List.cons.injEq] at exy
 rw [exy.1] at hn
 rcases hn with hn | hn <;> exact hn rfl
theorem Zym {G:Gr} (hG:G.Ok) {ρ:Nat→Nat} (h:Rt G.n ρ) {a b x y:Nat} (ha:a<G.n) (hb:b<G.n) (hxy:(x=ρ a∧y=ρ b)∨(x=ρ b∧y=ρ a))
  (hx0:(G.hd x).name≠[]) (hn:(G.hd x).name=(G.hd y).name) (k:Clash G (mg ρ x y) (G.kids x) (G.kids y)):Clash G ρ [a] [b]:=by
 intro val hv hc e
 have hx:x<G.n:=by rcases hxy with ⟨rfl,rfl⟩ | ⟨rfl,rfl⟩ <;> exact h.lt _ (by assumption)
 have hy:y<G.n:=by rcases hxy with ⟨rfl,rfl⟩ | ⟨rfl,rfl⟩ <;> exact h.lt _ (by assumption)
 have e':val a=val b:=by simpa using e
 have c1:=Yca h ha hb hxy hv hc e'
 refine k val hv c1 ?_
 have exy:val x=val y:=by
  rcases hxy with ⟨rfl,rfl⟩ | ⟨rfl,rfl⟩
  ·rw [hc a ha,hc b hb,e']
  ·rw [hc a ha,hc b hb,e']
 rw [hv.nm x hx hx0,hv.nm y hy (by rw [← hn]; exact hx0)] at exy
 simp only [List.cons.injEq] at exy
 have hl:(G.kids x).length=(G.kids y).length:=by rw [← hG.ar x hx,← hG.ar y hy,exy.1]
 refine Zjb ?_ ?_ (by simp [hl]) exy.2
 ·intro l hl; obtain ⟨j,hj,rfl⟩:=List.mem_map.1 hl; exact hv.wf j (hG.kl x hx j hj)
 ·intro l hl; obtain ⟨j,hj,rfl⟩:=List.mem_map.1 hl; exact hv.wf j (hG.kl y hy j hj)
structure Known (G:Gr) (ρ:Nat→Nat) (D:Nat→Prop) (T:Nat→List Sym):Prop where
 lt:∀ r,D r→r<G.n∧ρ r=r
 tm:∀ r,D r→T r=G.hd r::((G.kids r).map (fun k=>T (ρ k))).flatten
 kid:∀ r,D r→∀ k ∈ G.kids r,D (ρ k)
theorem Known.more {G:Gr} {ρ:Nat→Nat} {D:Nat→Prop} {T:Nat→List Sym} (h:Known G ρ D T) {r:Nat} (hr:r<G.n) (rr:ρ r=r) (hd:¬ D r) (hk:∀ k ∈ G.kids r,D (ρ k)) :
  Known G ρ (fun i=>D i∨i=r) (fun i=>if i=r then G.hd r::((G.kids r).map (fun k=>T (ρ k))).flatten else T i):=by
 have hT:∀ i,D i→(fun i=>if i=r then G.hd r::((G.kids r).map (fun k=>T (ρ k))).flatten else T i) i=T i:=fun i hi=>by
  have:i≠r:=fun e=>hd (e ▸ hi)
  simp [this]
 have hmap:∀ l:List Nat,(∀ k ∈ l,D (ρ k))→l.map (fun k=>(fun i=>if i=r then G.hd r::((G.kids r).map (fun k=>T (ρ k))).flatten else T i) (ρ k))=l.map (fun k=>T (ρ k)):=fun l hl =>
  List.map_congr_left (fun k hk=>hT _ (hl k hk))
 refine ⟨?_,?_,?_⟩
 ·rintro i (hi | rfl)
  ·exact h.lt i hi
  ·exact ⟨hr,rr⟩
 ·rintro i (hi | rfl)
  ·rw [hmap _ (h.kid i hi)]; exact (hT i hi).trans (h.tm i hi)
  ·rw [hmap _ hk]; simp
 ·rintro i (hi | rfl) k hk'
  ·exact Or.inl (h.kid i hi k hk')
  ·exact Or.inl (hk k hk')
theorem Zco {l:List Sym} {ls:List (List Sym)} (h:l ∈ ls):l.length≤ls.flatten.length:=by
 induction ls with
 | nil=>simp at h
 | cons a ls ih =>
  simp only [List.flatten_cons,Qg]
  rcases Qp.1 h with rfl | h
  ·omega
  ·have:=ih h; omega
theorem Known.wf {G:Gr} (hG:G.Ok) {ρ:Nat→Nat} {D:Nat→Prop} {T:Nat→List Sym} (h:Known G ρ D T):∀ (m r:Nat),(T r).length≤m→D r→Wf 1 (T r):=by
 intro m
 induction m with
 | zero=>intro r hm hd; rw [h.tm r hd] at hm; simp at hm
 | succ m ih =>
  intro r hm hd
  have hr:=(h.lt r hd).1
  have e:=h.tm r hd
  rw [e] at hm ⊢
  refine ⟨by omega,fun hn=>by rw [hG.ar r hr,hG.vn r hr hn]; rfl,hG.nv r hr,?_⟩
  simp only [Nat.sub_self,Nat.zero_add]
  rw [hG.ar r hr]
  have:=Zkx (ls:=(G.kids r).map (fun k=>T (ρ k))) (fun l hl=>by
   obtain ⟨k,hk,rfl⟩:=List.mem_map.1 hl
   refine ih (ρ k) ?_ (h.kid r hd k hk)
   have:=Zco hl
   simp only [Qf] at hm
   omega)
  simpa using this
theorem Known.val {G:Gr} (hG:G.Ok) {ρ:Nat→Nat} {D:Nat→Prop} {T:Nat→List Sym} (h:Known G ρ D T) {val:Nat→List Sym} (hv:Vals G val) (hc:Con G.n ρ val) {θ:Nat→List Sym} (hθ:∀ i,i<G.n→(G.hd i).name=[]→val i=θ (G.hd i).num) :
  ∀ (m r:Nat),(T r).length≤m→D r→ap θ (T r)=val r:=by
 intro m
 induction m with
 | zero=>intro r hm hd; rw [h.tm r hd] at hm; simp at hm
 | succ m ih =>
  intro r hm hd
  have hr:=(h.lt r hd).1
  have e:=h.tm r hd
  rw [e] at hm ⊢
  rw [Zbs]
  by_cases hn:(G.hd r).name=[]
  ·rw [hG.vn r hr hn]
   simp only [List.map_nil,List.flatten_nil,Zjw,Qs,ap1,if_pos hn]
   exact (hθ r hr hn).symm
  ·rw [hv.nm r hr hn]
   simp only [ap1,if_neg hn,List.cons_append,List.nil_append,List.cons.injEq,true_and]
   rw [Zkw,List.map_map]
   congr 1
   refine List.map_congr_left (fun k hk => ?_)
   have hm2:T (ρ k) ∈ (G.kids r).map (fun k=>T (ρ k)):=List.mem_map.2 ⟨k,hk,rfl⟩
   have:=Zco hm2
   simp only [Qf] at hm
   have:=ih (ρ k) (by omega) (h.kid r hd k hk)
   simp only [Function.comp]
   rw [this,hc k (hG.kl r hr k hk)]
structure Lay (G:Gr) (tm:Nat→List Sym) (a b:List Sym):Prop where
 ok:G.Ok
 tm:∀ i,i<G.n→tm i=G.hd i::((G.kids i).map tm).flatten
 occ:∀ i,i<G.n→(G.hd i).name=[]→Occ (G.hd i).num a∨Occ (G.hd i).num b
theorem Lay.val {G:Gr} {tm:Nat→List Sym} {a b:List Sym} (h:Lay G tm a b) {θ:Nat→List Sym} (hθ:Ts θ) (hw:∀ i,i<G.n→Wf 1 (tm i)):Vals G (fun i=>ap θ (tm i)):=by
 refine ⟨fun i hi=>Zml hθ (hw i hi),fun i hi hn => ?_⟩
 show ap θ (tm i)=_
 rw [h.tm i hi,Zbs]
 simp only [ap1,if_neg hn,List.cons_append,List.nil_append,List.cons.injEq,true_and]
 rw [Zkw,List.map_map]
 rfl
theorem Lay.wf {G:Gr} {tm:Nat→List Sym} {a b:List Sym} (h:Lay G tm a b):∀ (m i:Nat),(tm i).length≤m→i<G.n→Wf 1 (tm i):=by
 intro m
 induction m with
 | zero=>intro i hm hi; rw [h.tm i hi] at hm; simp at hm
 | succ m ih =>
  intro i hm hi
  rw [h.tm i hi] at hm ⊢
  refine ⟨by omega,fun hn=>by rw [h.ok.ar i hi,h.ok.vn i hi hn]; rfl,h.ok.nv i hi,?_⟩
  simp only [Nat.sub_self,Nat.zero_add]
  rw [h.ok.ar i hi]
  have:=Zkx (ls:=(G.kids i).map tm) (fun l hl=>by
   have hll:=Zco hl
   obtain ⟨k,hk,rfl⟩:=List.mem_map.1 hl
   refine ih k ?_ (h.ok.kl i hi k hk)
   simp only [Qf] at hm
   omega)
  simpa using this
open Classical in
noncomputable def Zep (G:Gr) (ρ:Nat→Nat) (D:Nat→Prop) (T:Nat→List Sym):Nat→List Sym:=fun v =>
 if h:∃ i,i<G.n∧(G.hd i).name=[]∧(G.hd i).num=v∧D (ρ i) then T (ρ h.choose) else vr v
def Vars (G:Gr) (ρ:Nat→Nat):Prop:=∀ i j,i<G.n→j<G.n→(G.hd i).name=[]→(G.hd j).name=[]→(G.hd i).num=(G.hd j).num→ρ i=ρ j
theorem Zpj {G:Gr} {ρ:Nat→Nat} {D:Nat→Prop} {T:Nat→List Sym} (hvs:Vars G ρ) {i:Nat} (hi:i<G.n) (hn:(G.hd i).name=[]) (hd:D (ρ i)):Zep G ρ D T (G.hd i).num=T (ρ i):=by
 have hex:∃ j,j<G.n∧(G.hd j).name=[]∧(G.hd j).num=(G.hd i).num∧D (ρ j):=⟨i,hi,hn,rfl,hd⟩
 unfold Zep
 rw [dif_pos hex]
 have hs:=hex.choose_spec
 rw [hvs _ i hs.1 hi hs.2.1 hn hs.2.2.1]
theorem Zmn {G:Gr} {ρ:Nat→Nat} {D:Nat→Prop} {T tm:Nat→List Sym} {a b:List Sym} (h:Lay G tm a b) (hf:Known G ρ D T) (hrt:Rt G.n ρ) (hcg:∀ i,i<G.n→Cg G ρ i) (hvs:Vars G ρ) :
  ∀ (m i:Nat),(tm i).length≤m→i<G.n→D (ρ i)→ap (Zep G ρ D T) (tm i)=T (ρ i):=by
 intro m
 induction m with
 | zero=>intro i hm hi; rw [h.tm i hi] at hm; simp at hm
 | succ m ih =>
  intro i hm hi hd
  have e:=h.tm i hi
  rw [e] at hm ⊢
  rw [Zbs]
  by_cases hn:(G.hd i).name=[]
  ·rw [h.ok.vn i hi hn]
   simp only [List.map_nil,List.flatten_nil,Zjw,Qs,ap1,if_pos hn]
   exact Zpj hvs hi hn hd
  ·obtain ⟨h1,h2⟩:=hcg i hi hn
   rw [hf.tm _ hd]
   have hri:=hrt.lt i hi
   have hlen:(G.kids (ρ i)).length=(G.kids i).length:=by simpa using congrArg List.length h2
   have hhd:G.hd (ρ i)=G.hd i:=by
    have a1:=h.ok.ar _ hri
    have a2:=h.ok.ar i hi
    have n1:=h.ok.nv _ hri (by rw [h1]; exact hn)
    have n2:=h.ok.nv i hi hn
    have e1:(G.hd (ρ i)).args=(G.hd i).args:=by rw [a1,a2,hlen]
    have e2:(G.hd (ρ i)).num=(G.hd i).num:=by rw [n1,n2]
    revert h1 e1 e2
    cases G.hd (ρ i); cases G.hd i
    simp
    intro h1 h2 h3; exact ⟨h1,h3,h2⟩
   rw [hhd]
   simp only [ap1,if_neg hn,List.cons_append,List.nil_append,List.cons.injEq,true_and]
   rw [Zkw,List.map_map]
   congr 1
   have e3:(G.kids (ρ i)).map (fun k=>T (ρ k))=(G.kids i).map (fun k=>T (ρ k)):=by
    have:∀ l:List Nat,l.map (fun k=>T (ρ k))=(l.map ρ).map T:=fun l=>by simp
    rw [this,this,h2]
   rw [e3]
   refine List.map_congr_left (fun k hk => ?_)
   have hm2:tm k ∈ (G.kids i).map tm:=List.mem_map.2 ⟨k,hk,rfl⟩
   have:=Zco hm2
   simp only [Qf] at hm
   have hdk:D (ρ k):=by
    have:ρ k ∈ (G.kids (ρ i)).map ρ:=by rw [h2]; exact List.mem_map.2 ⟨k,hk,rfl⟩
    obtain ⟨k',hk',e'⟩:=List.mem_map.1 this
    rw [← e']; exact hf.kid _ hd k' hk'
   exact ih k (by omega) (h.ok.kl i hi k hk) hdk
theorem Ycb {G:Gr} {ρ:Nat→Nat} {D:Nat→Prop} {T tm:Nat→List Sym} {a b:List Sym} (h:Lay G tm a b) (hf:Known G ρ D T) (hrt:Rt G.n ρ) (hcg:∀ i,i<G.n→Cg G ρ i) (hvs:Vars G ρ)
  {x y:Nat} (hx:x<G.n) (hy:y<G.n) (ha:tm x=a) (hb:tm y=b) (hxy:ρ x=ρ y) (hd:D (ρ x)) (hcon:∀ val,Vals G val→Con G.n (fun i=>i) val→(∀ i j,i<G.n→j<G.n→(G.hd i).name=[]→(G.hd j).name=[]→(G.hd i).num=(G.hd j).num→val i=val j)→val x=val y→Con G.n ρ val) :
  Mgu (Zep G ρ D T) a b:=by
 have hw:∀ i,i<G.n→Wf 1 (tm i):=fun i hi=>h.wf _ i (Qe _) hi
 have hval:∀ θ,Ts θ→ap θ a=ap θ b→Con G.n ρ (fun i=>ap θ (tm i))∧Vals G (fun i=>ap θ (tm i))∧∀ i,i<G.n→(G.hd i).name=[]→ap θ (tm i)=θ (G.hd i).num:=by
  intro θ hθ hu
  have hvar:∀ i,i<G.n→(G.hd i).name=[]→ap θ (tm i)=θ (G.hd i).num:=by
   intro i hi hn
   rw [h.tm i hi,h.ok.vn i hi hn,Zbs]
   simp [ap1,hn,Zjw]
  refine ⟨hcon _ (h.val hθ hw) (fun _ _=>rfl) ?_ ?_,h.val hθ hw,hvar⟩
  ·intro i j hi hj hni hnj e
   rw [hvar i hi hni,hvar j hj hnj,e]
  ·show ap θ (tm x)=ap θ (tm y)
   rw [ha,hb,hu]
 refine ⟨?_,?_,?_,?_,?_⟩
 ·intro v
  unfold Zep
  split
  ·rename_i hex
   exact hf.wf h.ok _ _ (Qe _) hex.choose_spec.2.2.2
  ·exact Zua v
 ·have e1:=Zmn h hf hrt hcg hvs _ x (Qe _) hx hd
  have e2:=Zmn h hf hrt hcg hvs _ y (Qe _) hy (by rw [← hxy]; exact hd)
  rw [ha] at e1
  rw [hb] at e2
  rw [e1,e2,hxy]
 ·intro θ hθ hu v
  obtain ⟨h1,h2,h3⟩:=hval θ hθ hu
  unfold Zep
  split
  ·rename_i hex
   have hs:=hex.choose_spec
   rw [hf.val h.ok h2 h1 (fun i hi hn=>h3 i hi hn) _ _ (Qe _) hs.2.2.2]
   have:ap θ (tm (ρ hex.choose))=ap θ (tm hex.choose):=h1 _ hs.1
   rw [this,h3 _ hs.1 hs.2.1,hs.2.2.1]
  ·exact Ykx θ v
 ·intro n v hv
  unfold Zep at hv
  split at hv
  ·rename_i hex
   have hs:=hex.choose_spec
   right
   have hocc:∀ (m r:Nat),(T r).length≤m→D r→Occ v (T r)→Occ v a∨Occ v b:=by
    intro m
    induction m with
    | zero=>intro r hm hd; rw [hf.tm r hd] at hm; simp at hm
    | succ m ih =>
     intro r hm hd ho
     rw [hf.tm r hd] at hm ho
     obtain ⟨s,hs1,hs2,hs3⟩:=ho
     rcases Qp.1 hs1 with rfl | hs1
     ·rw [← hs3]; exact h.occ r (hf.lt r hd).1 hs2
     ·obtain ⟨l,hl,hsl⟩:=List.mem_flatten.1 hs1
      have hll:=Zco hl
      obtain ⟨k,hk,rfl⟩:=List.mem_map.1 hl
      simp only [Qf] at hm
      exact ih (ρ k) (by omega) (hf.kid r hd k hk) ⟨s,hsl,hs2,hs3⟩
   exact hocc _ _ (Qe _) hs.2.2.2 hv
  ·exact Or.inl (Yby.1 hv)
 ·intro n h1 h2
  unfold Zep
  rw [dif_neg]
  rintro ⟨i,hi,hn,rfl,_⟩
  rcases h.occ i hi hn with h | h
  ·exact h1 h
  ·exact h2 h
theorem Yix {G:Gr} (hG:G.Ok) {val:Nat→List Sym} (hv:Vals G val) {x k:Nat} (hx:x<G.n) (hk:k ∈ G.kids x):(val k).length<(val x).length:=by
 have hn:(G.hd x).name≠[]:=fun h=>by rw [hG.vn x hx h] at hk; simp at hk
 rw [hv.nm x hx hn]
 have:=Zco (List.mem_map.2 ⟨k,hk,rfl⟩:val k ∈ (G.kids x).map val)
 simp only [Qf]
 omega
def Stuck (G:Gr) (ρ:Nat→Nat) (P:Nat→Prop) (i:Nat):Prop:=∀ val,Vals G val→Con G.n ρ val→∃ r,P r∧(val r).length≤(val i).length
theorem Stuck.here {G:Gr} {ρ:Nat→Nat} {P:Nat→Prop} {i:Nat} (hi:i<G.n) (h:P (ρ i)):Stuck G ρ P i:=fun val _ hc=>⟨ρ i,h,by rw [hc i hi]; exact Qe _⟩
theorem Stuck.up {G:Gr} (hG:G.Ok) {ρ:Nat→Nat} {P:Nat→Prop} {i k:Nat} (hi:i<G.n) (hx:ρ i<G.n) (hk:k ∈ G.kids (ρ i)) (h:Stuck G ρ (fun r=>P r∨r=ρ i) k):Stuck G ρ P i:=by
 intro val hv hc
 have hl:=Yix hG hv hx hk
 obtain ⟨r,hr | rfl,hle⟩:=h val hv hc
 ·exact ⟨r,hr,by rw [← hc i hi]; omega⟩
 ·omega
theorem Ycc {G:Gr} {tm:Nat→List Sym} {a b:List Sym} (h:Lay G tm a b) {x y:Nat} (hx:x<G.n) (hy:y<G.n) (ha:tm x=a) (hb:tm y=b) {θ:Nat→List Sym} (hθ:Ts θ) (hu:ap θ a=ap θ b) :
  Vals G (fun i=>ap θ (tm i))∧ap θ (tm x)=ap θ (tm y)∧∀ i,i<G.n→(G.hd i).name=[]→ap θ (tm i)=θ (G.hd i).num:=by
 have hw:∀ i,i<G.n→Wf 1 (tm i):=fun i hi=>h.wf _ i (Qe _) hi
 refine ⟨h.val hθ hw,by rw [ha,hb,hu],?_⟩
 intro i hi hn
 rw [h.tm i hi,h.ok.vn i hi hn,Zbs]
 simp [ap1,hn,Zjw]
structure Firsts (G:Gr) (ρ:Nat→Nat):Prop where
 rt:Rt G.n ρ
 vars:Vars G ρ
 nm:∀ i,i<G.n→(G.hd i).name≠[]→ρ i=i
 vr:∀ i,i<G.n→(G.hd i).name=[]→(G.hd (ρ i)).name=[]∧(G.hd (ρ i)).num=(G.hd i).num
theorem Firsts.cg {G:Gr} {ρ:Nat→Nat} (h:Firsts G ρ) (i:Nat) (hi:i<G.n):Cg G ρ i:=fun hn=>by rw [h.nm i hi hn]; exact ⟨rfl,rfl⟩
theorem Firsts.con {G:Gr} {ρ:Nat→Nat} (h:Firsts G ρ) {val:Nat→List Sym} (hv:∀ i j,i<G.n→j<G.n→(G.hd i).name=[]→(G.hd j).name=[]→(G.hd i).num=(G.hd j).num→val i=val j):Con G.n ρ val:=by
 intro i hi
 by_cases hn:(G.hd i).name=[]
 ·exact hv _ _ (h.rt.lt i hi) hi (h.vr i hi hn).1 hn (h.vr i hi hn).2
 ·rw [h.nm i hi hn]
theorem Firsts.vars' {G:Gr} {ρ ρ':Nat→Nat} (h:Firsts G ρ) (hg:Grow G.n ρ ρ'):Vars G ρ':=fun i j hi hj h1 h2 e=>hg i j hi hj (h.vars i j hi hj h1 h2 e)
theorem Yft {G:Gr} {tm:Nat→List Sym} {a b:List Sym} (h:Lay G tm a b) {ρ:Nat→Nat} (h0:Firsts G ρ) {x y:Nat} (hx:x<G.n) (hy:y<G.n) (ha:tm x=a) (hb:tm y=b) (hc:Clash G ρ [x] [y]):NoFit a b:=by
 intro θ hθ hu
 obtain ⟨h1,h2,h3⟩:=Ycc h hx hy ha hb hθ hu
 refine hc _ h1 (h0.con (fun i j hi hj hni hnj e => ?_)) (by simp [h2])
 show ap θ (tm i)=ap θ (tm j)
 rw [h3 i hi hni,h3 j hj hnj,e]
theorem Yfu {G:Gr} {tm:Nat→List Sym} {a b:List Sym} (h:Lay G tm a b) {ρ ρ':Nat→Nat} (h0:Firsts G ρ) {x y:Nat} (hx:x<G.n) (hy:y<G.n) (ha:tm x=a) (hb:tm y=b) (hj:Joined G ρ ρ' [x] [y]) {i:Nat} (hs:Stuck G ρ' (fun _=>False) i):NoFit a b:=by
 intro θ hθ hu
 obtain ⟨h1,h2,h3⟩:=Ycc h hx hy ha hb hθ hu
 have hc:Con G.n ρ (fun i=>ap θ (tm i)):=h0.con (fun i j hi hj hni hnj e=>by
  show ap θ (tm i)=ap θ (tm j)
  rw [h3 i hi hni,h3 j hj hnj,e])
 obtain ⟨r,hr,_⟩:=hs _ h1 (hj.con _ h1 hc (by simp [h2]))
 exact hr
theorem Yfv {G:Gr} {tm:Nat→List Sym} {a b:List Sym} (h:Lay G tm a b) {ρ ρ':Nat→Nat} (h0:Firsts G ρ) {x y:Nat} (hx:x<G.n) (hy:y<G.n) (ha:tm x=a) (hb:tm y=b) (hj:Joined G ρ ρ' [x] [y])
  {D:Nat→Prop} {T:Nat→List Sym} (hf:Known G ρ' D T) (hd:D (ρ' x)):Mgu (Zep G ρ' D T) a b∧ap (Zep G ρ' D T) a=T (ρ' x):=by
 have hcg:∀ i,i<G.n→Cg G ρ' i:=fun i hi=>hj.cg i hi (h0.cg i hi)
 refine ⟨Ycb h hf hj.rt hcg (h0.vars' hj.grow) hx hy ha hb (by simpa using hj.eq) hd ?_,?_⟩
 ·intro val hv _ hvv e
  exact hj.con val hv (h0.con hvv) (by simp [e])
 ·rw [← ha]
  exact Zmn h hf hj.rt hcg (h0.vars' hj.grow) _ x (Qe _) hx hd
def Inst (xs ys:List (List Sym)):Prop:=∃ τ,Ts τ∧ys=xs.map (ap τ)
def Alike (xs ys:List (List Sym)):Prop:=Inst xs ys∧Inst ys xs
theorem Alike.symm {xs ys:List (List Sym)} (h:Alike xs ys):Alike ys xs:=⟨h.2,h.1⟩
theorem Alike.refl {xs:List (List Sym)} (h:∀ x ∈ xs,∃ k,Wf k x):Alike xs xs:=by
 have:Inst xs xs:=⟨vr,ts_vr,by
  have:xs.map (ap vr)=xs.map id:=List.map_congr_left (fun x hx=>by obtain ⟨k,hk⟩:=h x hx; exact ap_id hk)
  simpa using this.symm⟩
 exact ⟨this,this⟩
theorem Alike.len {xs ys:List (List Sym)} (h:Alike xs ys):xs.map List.length=ys.map List.length:=by
 obtain ⟨⟨τ,h1,h2⟩,⟨τ',h3,h4⟩⟩:=h
 have hl:xs.length=ys.length:=by simpa using (congrArg List.length h2).symm
 apply List.ext_getElem (by simp [hl])
 intro i hi hj
 simp only [Ql] at hi hj
 simp only [List.getElem_map]
 have e1:ys[i]=ap τ xs[i]:=by simp only [h2,List.getElem_map]
 have e2:xs[i]=ap τ' ys[i]:=by
  have:=List.getElem_of_eq h4 hi
  simpa using this
 have l1:=Zgj h1 xs[i]
 have l2:=Zgj h3 ys[i]
 rw [← e1] at l1
 rw [← e2] at l2
 omega
def upto (V:Nat) (σ τ:Nat→List Sym):Nat→List Sym:=fun n=>if n<V then ap σ (τ n) else σ n
theorem Zmo {V:Nat} {σ τ:Nat→List Sym} (h:Ts σ) (k:Ts τ):Ts (upto V σ τ):=fun n=>by
 unfold upto; split
 ·exact Zml h (k n)
 ·exact h n
theorem Zwl {V:Nat} {σ τ:Nat→List Sym} {l:List Sym} (h:∀ v,Occ v l→v<V):ap (upto V σ τ) l=ap σ (ap τ l):=by
 rw [Yiv]
 exact Zpi (fun n hn=>by unfold upto; rw [if_pos (h n hn)])
theorem Zrm {V:Nat} {σ τ:Nat→List Sym} {l:List Sym} (h:∀ v,Occ v l→V≤v):ap (upto V σ τ) l=ap σ l :=
 Zpi (fun n hn=>by unfold upto; rw [if_neg (by have:=h n hn; omega)])
section
variable {V:Nat} {a b h:List Sym} {xs ys:List (List Sym)}
theorem Zjx (ha:∀ v,Occ v a→v<V) (hh:∀ v,Occ v h→V≤v) {τ θ:Nat→List Sym} (e:b=ap τ a) (hu:ap θ b=ap θ h):ap (upto V θ τ) a=ap (upto V θ τ) h∧ap (upto V θ τ) a=ap θ b:=by
 rw [Zwl ha,Zrm hh,← e]
 exact ⟨hu,rfl⟩
theorem NoFit.alike (hi:Inst (a::xs) (b::ys)) (ha:∀ v,Occ v a→v<V) (hh:∀ v,Occ v h→V≤v) (hn:NoFit a h):NoFit b h:=by
 obtain ⟨τ,h1,h2⟩:=hi
 simp only [List.map_cons,List.cons.injEq] at h2
 intro θ hθ hu
 exact hn _ (Zmo hθ h1) (Zjx ha hh h2.1 hu).1
theorem Vast.alike (hi:Alike (a::xs) (b::ys)) (ha:∀ v,Occ v a→v<V) (hb:∀ v,Occ v b→v<V) (hh:∀ v,Occ v h→V≤v) (hn:Vast a h):Vast b h:=by
 obtain ⟨⟨τ,h1,h2⟩,τ',h3,h4⟩:=hi
 simp only [List.map_cons,List.cons.injEq] at h2 h4
 obtain ⟨⟨θ,hθ,hu⟩,hv⟩:=hn
 refine ⟨⟨_,Zmo hθ h3,(Zjx hb hh h4.1 hu).1⟩,fun θ' hθ' hu' => ?_⟩
 have:=Zjx ha hh h2.1 hu'
 have:=hv _ (Zmo hθ' h1) this.1
 rw [(Zjx ha hh h2.1 hu').2] at this
 exact this
theorem Inst.fit {σ σ':Nat→List Sym} {zs:List (List Sym)} (hi:Inst (a::xs) (b::ys)) (ha:∀ x ∈ a::xs,∀ v,Occ v x→v<V) (hh:∀ v,Occ v h→V≤v) (hz:∀ z ∈ zs,∀ v,Occ v z→V≤v) (m:Mgu σ a h) (m':Mgu σ' b h) :
  Inst ((zs++(a::xs)).map (ap σ)) ((zs++(b::ys)).map (ap σ')):=by
 obtain ⟨τ,h1,h2⟩:=hi
 have h2':=h2
 simp only [List.map_cons,List.cons.injEq] at h2'
 have hu:=Zjx (ha a (by simp)) hh h2'.1 m'.unif
 have hw:=m.wide _ (Zmo m'.ts h1) hu.1
 refine ⟨_,Zmo (V:=V) m'.ts h1,?_⟩
 rw [h2,Qr,Qr,Qr,List.map_map,List.map_map,List.map_map]
 congr 1
 ·refine List.map_congr_left (fun z hz' => ?_)
  simp only [Function.comp]
  rw [Ybz hw,Zrm (hz z hz')]
 ·refine List.map_congr_left (fun x hx => ?_)
  simp only [Function.comp]
  rw [Ybz hw,Zwl (ha x hx)]
end
def ren (f:Nat→Nat) (s:Sym):Sym:=if s.name=[] then ⟨[],f s.num,0⟩ else s
theorem ones:∀ {τ:Nat→List Sym},Ts τ→∀ {l:List Sym},(ap τ l).length≤l.length→∀ n,Occ n l→(τ n).length=1:=by
 intro τ hτ l
 induction l with
 | nil=>intro _ n h; obtain ⟨s,h,_⟩:=h; simp at h
 | cons s l ih =>
  intro hl n hn
  rw [Zbs] at hl
  simp only [Qg,Qf] at hl
  have h1:=Zgj hτ l
  have h2:1≤(ap1 τ s).length:=by
   unfold ap1; split
   ·exact Zel (hτ _)
   ·simp
  obtain ⟨t,ht,h3,h4⟩:=hn
  rcases Qp.1 ht with rfl | ht
  ·have:ap1 τ t=τ n:=by unfold ap1; rw [if_pos h3,h4]
   rw [this] at hl h2; omega
  ·exact ih (by omega) n ⟨t,ht,h3,h4⟩
theorem Zyn {τ τ':Nat→List Sym} (h1:Ts τ) (h3:Ts τ'):∀ {l:List Sym},ap τ' (ap τ l)=l→∀ v,Occ v l→ap τ' (τ v)=vr v:=by
 intro l
 induction l with
 | nil=>intro _ v h; obtain ⟨s,h,_⟩:=h; simp at h
 | cons s l ih =>
  intro e v hv
  rw [Zbs,Zgx] at e
  have l1:1≤(ap1 τ s).length:=by
   unfold ap1; split
   ·exact Zel (h1 _)
   ·simp
  have l2:=Zgj h3 (ap1 τ s)
  have l3:=Zgj h3 (ap τ l)
  have l4:=Zgj h1 l
  have l5:=congrArg List.length e
  simp only [Qg,Qf] at l5
  have hh:=List.append_inj (s₁:=ap τ' (ap1 τ s)) (s₂:=[s]) (t₁:=ap τ' (ap τ l)) (t₂:=l) (by simpa using e) (by simp; omega)
  obtain ⟨t,ht,h5,h6⟩:=hv
  rcases Qp.1 ht with rfl | ht
  ·have e1:=hh.1
   unfold ap1 at e1
   rw [if_pos h5,h6] at e1
   have hw:=Zml h3 (h1 v)
   rw [e1] at hw ⊢
   obtain ⟨s',r,e2,_,h7⟩:=Zwk hw
   simp only [List.cons.injEq] at e2
   obtain ⟨rfl,_⟩:=e2
   rw [h7 h5,h6]
  ·exact ih hh.2 v ⟨t,ht,h5,h6⟩
theorem Alike.ren {xs ys:List (List Sym)} (h:Alike xs ys):∃ f g:Nat→Nat,ys=xs.map (List.map (ren f))∧(∀ x ∈ xs,∀ v,Occ v x→g (f v)=v):=by
 obtain ⟨⟨τ,h1,h2⟩,⟨τ',h3,h4⟩⟩:=h
 have hl:xs.length=ys.length:=by simpa using (congrArg List.length h2).symm
 have back:∀ x ∈ xs,ap τ' (ap τ x)=x:=fun x hx=>by
  rw [h2,List.map_map] at h4
  obtain ⟨i,hi,rfl⟩:=List.getElem_of_mem hx
  have:=List.getElem_of_eq h4 hi
  simpa using this.symm
 have key:∀ x ∈ xs,∀ v,Occ v x→∃ n,τ v=vr n∧τ' n=vr v:=fun x hx v hv=>by
  have hb:=Zyn h1 h3 (back x hx) v hv
  obtain ⟨t,r,e,hr,hn⟩:=Zwk (h1 v)
  by_cases ht:t.name=[]
  ·refine ⟨t.num,by rw [e,← hn ht,e],?_⟩
   rw [hn ht,Ykx] at hb
   exact hb
  ·rw [e,Zbs] at hb
   simp [ap1,ht,vr] at hb
   rw [hb.1] at ht
   exact absurd rfl ht
 refine ⟨fun v=>((τ v).head?.map Sym.num).getD 0,fun v=>((τ' v).head?.map Sym.num).getD 0,?_,?_⟩
 ·rw [h2]
  refine List.map_congr_left (fun x hx => ?_)
  have hk:=key x hx
  clear back key h2 h4 hl hx
  induction x with
  | nil=>rfl
  | cons s l ih =>
   rw [Zbs,ih (fun v hv=>hk v (by obtain ⟨t,ht,h5⟩:=hv; exact ⟨t,List.mem_cons_of_mem _ ht,h5⟩)),List.map_cons]
   unfold ap1 YtlmjilpjmgjjcabGreatDoor.ren
   by_cases hs:s.name=[]
   ·obtain ⟨n,e1,_⟩:=hk s.num ⟨s,List.mem_cons_self ..,hs,rfl⟩
    simp [hs,e1,vr]
   ·simp [hs]
 ·intro x hx v hv
  obtain ⟨n,e1,e2⟩:=key x hx v hv
  simp [e1,e2,vr]
structure Cls where
 head:List Sym
 body:List (List Sym)
 names:Names
def Cls.n (c:Cls):Nat:=c.names.length
def Zcx (v:Nat):Nat→List Sym:=fun n=>vr (n+v)
theorem Zpk (v:Nat):Ts (Zcx v):=fun n=>Zua _
def carr (σ:Nat→List Sym) (gs:List (List Sym × Nat)):List (List Sym × Nat):=gs.map (fun g=>(ap σ g.1,g.2))
structure ND where
 goals:List (List Sym × Nat)
 vals:List (List Sym)
 done:List (List Sym × Nat)
 used:List Nat
 vars:Nat
def bigG (g:List Sym × Nat):Bool:=decide (30<g.1.length)
def Zmp (n:ND):Bool:=(decide (40<n.goals.length) || decide (100<n.used.length)) || n.goals.any bigG || n.done.any bigG
def Zfg (n:ND):Nat:=if Zmp n then 3 else if n.goals=[] then 2 else 1
def Zaq (σ:Nat→List Sym) (n:ND) (c:Cls) (k:Nat) (g:List Sym × Nat) (gs:List (List Sym × Nat)):ND :=
 ⟨carr σ (c.body.map (fun t=>(ap (Zcx n.vars) t,g.2+1))++gs),n.vals.map (ap σ),carr σ (n.done++[g]),n.used++[k],n.vars+c.n⟩
def ND.terms (n:ND):List (List Sym):=n.goals.map (·.1)++(n.vals++n.done.map (·.1))
structure NOk (n:ND):Prop where
 wf:∀ t ∈ n.terms,Wf 1 t
 occ:∀ t ∈ n.terms,∀ v,Occ v t→v<n.vars
 gs:∀ g ∈ n.goals,g.1.length≤30∧g.2≤n.used.length
 ds:∀ g ∈ n.done,g.1.length≤30∧g.2≤n.used.length
 vs:∀ t ∈ n.vals,∃ x ∈ n.goals++n.done,∃ a b,x.1=a++t++b
 gl:n.goals.length≤40
 dl:n.done.length=n.used.length
 ul:n.used.length≤100
 vl:n.vals.length≤1000
 vars:n.vars≤1000 * (n.used.length+1)
theorem NOk.vsize {n:ND} (h:NOk n) {t:List Sym} (ht:t ∈ n.vals):t.length≤30:=by
 obtain ⟨x,hx,a,b,e⟩:=h.vs t ht
 have hl:x.1.length≤30:=by
  rcases Qk.1 hx with hx | hx
  ·exact (h.gs x hx).1
  ·exact (h.ds x hx).1
 rw [e] at hl
 simp at hl; omega
structure COk (c:Cls):Prop where
 wfh:Wf 1 c.head
 wfb:∀ t ∈ c.body,Wf 1 t
 och:∀ v,Occ v c.head→v<c.n
 ocb:∀ t ∈ c.body,∀ v,Occ v t→v<c.n
 n:c.n≤1000
 hl:c.head.length≤30
 bl:∀ t ∈ c.body,t.length≤30
 bn:c.body.length≤6
structure Same (n m:ND):Prop where
 used:n.used=m.used
 vars:n.vars=m.vars
 gd:n.goals.map (·.2)=m.goals.map (·.2)
 dd:n.done.map (·.2)=m.done.map (·.2)
 vl:n.vals.length=m.vals.length
 al:Alike n.terms m.terms
theorem Same.gl {n m:ND} (h:Same n m):n.goals.length=m.goals.length:=by simpa using congrArg List.length h.gd
theorem Same.dl {n m:ND} (h:Same n m):n.done.length=m.done.length:=by simpa using congrArg List.length h.dd
theorem Same.symm {n m:ND} (h:Same n m):Same m n:=⟨h.used.symm,h.vars.symm,h.gd.symm,h.dd.symm,h.vl.symm,h.al.symm⟩
theorem Same.refl {n:ND} (h:NOk n):Same n n:=⟨rfl,rfl,rfl,rfl,rfl,Alike.refl (fun x hx=>⟨1,h.wf x hx⟩)⟩
theorem Zrn {α β:Type} {f:α→β} {a b:List α} {c d:List β} (h:c++d=(a++b).map f) (hl:c.length=a.length):c=a.map f∧d=b.map f:=by
 rw [Qr] at h
 exact List.append_inj h (by simp [hl])
theorem Inst.trans {xs ys zs:List (List Sym)} (h:Inst xs ys) (k:Inst ys zs):Inst xs zs:=by
 obtain ⟨τ,h1,rfl⟩:=h
 obtain ⟨υ,k1,rfl⟩:=k
 refine ⟨_,Yiw h1 k1,?_⟩
 rw [List.map_map]
 exact List.map_congr_left (fun x _=>Yiv υ τ x)
theorem Alike.trans {xs ys zs:List (List Sym)} (h:Alike xs ys) (k:Alike ys zs):Alike xs zs:=⟨h.1.trans k.1,k.2.trans h.2⟩
theorem Same.trans {n m o:ND} (h:Same n m) (k:Same m o):Same n o:=⟨h.used.trans k.used,h.vars.trans k.vars,h.gd.trans k.gd,h.dd.trans k.dd,h.vl.trans k.vl,h.al.trans k.al⟩
theorem Zpl (σ:Nat→List Sym) (l:List (List Sym × Nat)):(carr σ l).map (·.1)=(l.map (·.1)).map (ap σ):=by simp [carr]
theorem Zma (σ:Nat→List Sym) (l:List (List Sym × Nat)):(carr σ l).map (·.2)=l.map (·.2):=by simp [carr]
theorem Zgy {V:Nat} {l:List Sym} {v:Nat} (h:Occ v (ap (Zcx V) l)):∃ u,Occ u l∧v=u+V:=by
 obtain ⟨u,hu,ho⟩:=Yih.1 h
 exact ⟨u,hu,Yby.1 ho⟩
theorem Zfy (σ:Nat→List Sym) (n:ND) (c:Cls) (k:Nat) (g:List Sym × Nat) (gs:List (List Sym × Nat)) :
  (Zaq σ n c k g gs).terms=(c.body.map (ap (Zcx n.vars))++gs.map (·.1)).map (ap σ)++(n.vals.map (ap σ)++(n.done.map (·.1)++[g.1]).map (ap σ)):=by
 simp [ND.terms,Zaq,Zpl,Function.comp_def]
theorem Zoe {n m:ND} (hn:NOk n) (hm:NOk m) (hs:Same n m) {c:Cls} (hc:COk c) (k:Nat) {g g':List Sym × Nat} {gs gs':List (List Sym × Nat)} (hg:n.goals=g::gs) (hg':m.goals=g'::gs')
  {σ σ':Nat→List Sym} (h1:Mgu σ g.1 (ap (Zcx n.vars) c.head)) (h2:Mgu σ' g'.1 (ap (Zcx m.vars) c.head)) :
  Inst (Zaq σ n c k g gs).terms (Zaq σ' m c k g' gs').terms:=by
 have hv:=hs.vars
 have hvl:=hs.vl
 have hdl:=hs.dl
 have hgl:=hs.gl
 have hal:=hs.al.1
 have hocc:=hn.occ
 unfold ND.terms at hal hocc
 rw [hg,hg',List.map_cons,List.map_cons,List.cons_append,List.cons_append] at hal
 rw [hg,List.map_cons,List.cons_append] at hocc
 rw [← hv] at h2
 have key:=Inst.fit (V:=n.vars) (zs:=c.body.map (ap (Zcx n.vars))) hal (fun x hx=>hocc x hx) (fun v h=>by obtain ⟨u,_,e⟩:=Zgy h; omega)
  (fun z hz v h=>by
   obtain ⟨t,_,rfl⟩:=List.mem_map.1 hz
   obtain ⟨u,_,e⟩:=Zgy h
   omega) h1 h2
 obtain ⟨τ,ht,e⟩:=key
 refine ⟨τ,ht,?_⟩
 rw [Qr] at e
 rw [Qr] at e
 rw [hg,hg'] at hgl
 simp only [Qf,Nat.add_right_cancel_iff] at hgl
 obtain ⟨e1,e⟩:=Zrn e (by simp)
 simp only [List.map_cons,Qr] at e
 simp only [List.cons.injEq] at e
 obtain ⟨e2,e⟩:=e
 have l1:gs'.length=gs.length:=hgl.symm
 obtain ⟨e3,e⟩:=List.append_inj e (by simp [l1])
 obtain ⟨e4,e5⟩:=List.append_inj e (by simp [hvl])
 rw [Zfy,Zfy,← hv]
 simp only [Qr,List.map_cons,List.map_nil]
 rw [e1,e2,e3,e4,e5]
theorem Zyo {n m:ND} (hn:NOk n) (hm:NOk m) (hs:Same n m) {c:Cls} (hc:COk c) (k:Nat) {g g':List Sym × Nat} {gs gs':List (List Sym × Nat)} (hg:n.goals=g::gs) (hg':m.goals=g'::gs')
  {σ σ':Nat→List Sym} (h1:Mgu σ g.1 (ap (Zcx n.vars) c.head)) (h2:Mgu σ' g'.1 (ap (Zcx m.vars) c.head)) :
  Same (Zaq σ n c k g gs) (Zaq σ' m c k g' gs'):=by
 have hgd:=hs.gd
 rw [hg,hg'] at hgd
 simp only [List.map_cons,List.cons.injEq] at hgd
 refine ⟨by simp [Zaq,hs.used],by simp [Zaq,hs.vars],?_,?_,by simp [Zaq,hs.vl],Zoe hn hm hs hc k hg hg' h1 h2,Zoe hm hn hs.symm hc k hg' hg h2 h1⟩
 ·simp only [Zaq,Zma,Qr,List.map_map,Function.comp_def,hgd.1,hgd.2]
 ·simp only [Zaq,Zma,Qr,List.map_cons,List.map_nil,hgd.1,hs.dd]
theorem Same.big {n m:ND} (hs:Same n m):n.goals.any bigG=m.goals.any bigG∧n.done.any bigG=m.done.any bigG:=by
 have h:=hs.al.len
 unfold ND.terms at h
 simp only [Qr,List.map_map] at h
 obtain ⟨e1,h⟩:=List.append_inj h (by simp [hs.gl])
 obtain ⟨_,e2⟩:=List.append_inj h (by simp [hs.vl])
 have key:∀ {a b:List (List Sym × Nat)},a.map (List.length ∘ (·.1))=b.map (List.length ∘ (·.1))→a.any bigG=b.any bigG:=by
  intro a
  induction a with
  | nil=>intro b h; cases b with
   | nil=>rfl
   | cons y b=>simp at h
  | cons x a ih =>
   intro b h
   cases b with
   | nil=>simp at h
   | cons y b =>
    simp only [List.map_cons,List.cons.injEq,Function.comp] at h
    simp only [List.any_cons,bigG,h.1]
    congr 1
    exact ih h.2
 exact ⟨key e1,key e2⟩
theorem Same.kind {n m:ND} (hs:Same n m):Zfg n=Zfg m:=by
 have hb:=hs.big
 have hg:(n.goals=[])↔(m.goals=[]):=by
  rw [← List.length_eq_zero_iff,← List.length_eq_zero_iff,hs.gl]
 unfold Zfg Zmp
 rw [hb.1,hb.2,hs.gl,hs.used]
 split
 ·rfl
 ·split
  ·rw [if_pos (hg.1 (by assumption))]
  ·rw [if_neg (fun h=>by rename_i h'; exact h' (hg.2 h))]
theorem Zpm {n:ND} (hn:NOk n) {c:Cls} (hc:COk c) (k:Nat) {g:List Sym × Nat} {gs:List (List Sym × Nat)} (hg:n.goals=g::gs) {σ:Nat→List Sym} (h1:Mgu σ g.1 (ap (Zcx n.vars) c.head)) (hk:Zfg (Zaq σ n c k g gs)≠3) :
  NOk (Zaq σ n c k g gs):=by
 have hov:Zmp (Zaq σ n c k g gs)=false:=by
  unfold Zfg at hk
  cases h:Zmp (Zaq σ n c k g gs) with
  | false=>rfl
  | true=>rw [h] at hk; simp at hk
 unfold Zmp at hov
 simp only [Bool.or_eq_false_iff,decide_eq_false_iff_not,Nat.not_lt] at hov
 obtain ⟨⟨⟨o1,o2⟩,o3⟩,o4⟩:=hov
 have o3':∀ x ∈ (Zaq σ n c k g gs).goals,x.1.length≤30:=fun x hx=>by
  have:=List.any_eq_false.1 o3 x hx
  simpa [bigG] using this
 have o4':∀ x ∈ (Zaq σ n c k g gs).done,x.1.length≤30:=fun x hx=>by
  have:=List.any_eq_false.1 o4 x hx
  simpa [bigG] using this
 have hul:(Zaq σ n c k g gs).used.length=n.used.length+1:=by simp [Zaq]
 have hwf:=hn.wf
 have hocc:=hn.occ
 unfold ND.terms at hwf hocc
 rw [hg] at hwf hocc
 have hsub:∀ t ∈ (Zaq σ n c k g gs).terms,∃ u,t=ap σ u∧((∃ b ∈ c.body,u=ap (Zcx n.vars) b)∨u ∈ List.map (·.1) (g::gs)++(n.vals++List.map (·.1) n.done)):=by
  intro t ht
  rw [Zfy] at ht
  simp only [Qk,List.mem_map] at ht
  rcases ht with ⟨u,hu,rfl⟩ | ⟨u,hu,rfl⟩ | ⟨u,hu,rfl⟩
  ·rcases hu with ⟨b,hb,rfl⟩ | ⟨x,hx,rfl⟩
   ·exact ⟨_,rfl,Or.inl ⟨b,hb,rfl⟩⟩
   ·exact ⟨_,rfl,Or.inr (List.mem_append_left _ (List.mem_map.2 ⟨x,by simp [hx],rfl⟩))⟩
  ·exact ⟨_,rfl,Or.inr (by simp [hu])⟩
  ·rcases hu with ⟨x,hx,rfl⟩ | hu
   ·exact ⟨_,rfl,Or.inr (List.mem_append_right _ (List.mem_append_right _ (List.mem_map.2 ⟨x,hx,rfl⟩)))⟩
   ·simp at hu; subst hu
    exact ⟨_,rfl,Or.inr (by simp)⟩
 have hocv:∀ u,((∃ b ∈ c.body,u=ap (Zcx n.vars) b)∨u ∈ List.map (·.1) (g::gs)++(n.vals++List.map (·.1) n.done))→∀ v,Occ v u→v<n.vars+c.n:=by
  intro u hu v hv
  rcases hu with ⟨b,hb,rfl⟩ | hu
  ·obtain ⟨z,hz,e⟩:=Zgy hv
   have:=hc.ocb b hb z hz
   omega
  ·have:=hocc u hu v hv; omega
 refine ⟨?_,?_,?_,?_,?_,o1,?_,o2,?_,?_⟩
 ·intro t ht
  obtain ⟨u,rfl,hu⟩:=hsub t ht
  refine Zml h1.ts ?_
  rcases hu with ⟨b,hb,rfl⟩ | hu
  ·exact Zml (Zpk _) (hc.wfb b hb)
  ·exact hwf u hu
 ·intro t ht v hv
  obtain ⟨u,rfl,hu⟩:=hsub t ht
  obtain ⟨z,hz,hv⟩:=Yih.1 hv
  show v<n.vars+c.n
  rcases h1.occ z v hv with rfl | h | h
  ·exact hocv u hu v hz
  ·have:=hocc g.1 (by simp) v h; omega
  ·obtain ⟨y,hy,e⟩:=Zgy h
   have:=hc.och y hy
   omega
 ·intro x hx
  refine ⟨o3' x hx,?_⟩
  rw [hul]
  simp only [Zaq,carr,List.mem_map,Qk] at hx
  obtain ⟨y,hy,rfl⟩:=hx
  have hg2:=(hn.gs g (by rw [hg]; simp)).2
  rcases hy with ⟨t,_,rfl⟩ | hy
  ·simp only; omega
  ·have:=(hn.gs y (by rw [hg]; simp [hy])).2
   simp only; omega
 ·intro x hx
  refine ⟨o4' x hx,?_⟩
  rw [hul]
  simp only [Zaq,carr,List.mem_map,Qk,List.mem_singleton] at hx
  obtain ⟨y,hy,rfl⟩:=hx
  rcases hy with hy | rfl
  ·have:=(hn.ds y hy).2
   simp only; omega
  ·have:=(hn.gs y (by rw [hg]; simp)).2
   simp only; omega
 ·intro t ht
  simp only [Zaq,List.mem_map] at ht
  obtain ⟨u,hu,rfl⟩:=ht
  obtain ⟨x,hx,a,b,e⟩:=hn.vs u hu
  refine ⟨(ap σ x.1,x.2),?_,ap σ a,ap σ b,by rw [e]; simp [Zgx]⟩
  rw [hg] at hx
  simp only [Zaq,carr,Qk,List.mem_map,Qp,List.mem_singleton] at hx ⊢
  rcases hx with (rfl | hx) | hx
  ·exact Or.inr ⟨x,Or.inr (Or.inl rfl),rfl⟩
  ·exact Or.inl ⟨x,Or.inr hx,rfl⟩
  ·exact Or.inr ⟨x,Or.inl hx,rfl⟩
 ·simp [Zaq,carr,hn.dl]
 ·simp [Zaq,hn.vl]
 ·have:=hn.vars
  have:=hc.n
  rw [hul]
  show n.vars+c.n≤_
  omega
def Out (n:ND) (c:Cls) (k:Nat) (q:Nat) (ch:ND):Prop:=∃ g gs,n.goals=g::gs∧((q=0∧NoFit g.1 (ap (Zcx n.vars) c.head))∨(q=3∧Vast g.1 (ap (Zcx n.vars) c.head)) ∨
 (∃ σ,Mgu σ g.1 (ap (Zcx n.vars) c.head)∧(ap σ g.1).length≤30∧q=Zfg (Zaq σ n c k g gs)∧ch=Zaq σ n c k g gs))
theorem Mgu.fits {σ:Nat→List Sym} {a b:List Sym} (h:Mgu σ a b):¬ NoFit a b:=fun hn=>hn σ h.ts h.unif
theorem Vast.fits {a b:List Sym} (h:Vast a b):¬ NoFit a b:=fun hn=>by obtain ⟨⟨θ,hθ,e⟩,_⟩:=h; exact hn θ hθ e
theorem Zwm {n m:ND} (hn:NOk n) (hm:NOk m) (hs:Same n m) {c:Cls} (hc:COk c) {k q q':Nat} {ch ch':ND} (h:Out n c k q ch) (h':Out m c k q' ch'):q=q'∧(q=1∨q=2→NOk ch∧NOk ch'∧Same ch ch'):=by
 obtain ⟨g,gs,hg,h⟩:=h
 obtain ⟨g',gs',hg',h'⟩:=h'
 have hal:=hs.al
 have ho1:=hn.occ
 have ho2:=hm.occ
 unfold ND.terms at hal ho1 ho2
 rw [hg,hg',List.map_cons,List.map_cons,List.cons_append,List.cons_append] at hal
 rw [hg,List.map_cons,List.cons_append] at ho1
 rw [hg',List.map_cons,List.cons_append] at ho2
 have hv:=hs.vars
 have hhd:∀ v,Occ v (ap (Zcx n.vars) c.head)→n.vars≤v:=fun v h=>by obtain ⟨u,_,e⟩:=Zgy h; omega
 have oa:∀ v,Occ v g.1→v<n.vars:=fun v h=>ho1 g.1 (by simp) v h
 have ob:∀ v,Occ v g'.1→v<n.vars:=fun v h=>by have:=ho2 g'.1 (by simp) v h; omega
 have n1:NoFit g.1 (ap (Zcx n.vars) c.head)→NoFit g'.1 (ap (Zcx m.vars) c.head):=fun h=>by rw [← hv]; exact NoFit.alike (V:=n.vars) hal.1 oa hhd h
 have n2:NoFit g'.1 (ap (Zcx m.vars) c.head)→NoFit g.1 (ap (Zcx n.vars) c.head):=fun h=>by rw [← hv] at h; exact NoFit.alike (V:=n.vars) hal.2 ob hhd h
 have v1:Vast g.1 (ap (Zcx n.vars) c.head)→Vast g'.1 (ap (Zcx m.vars) c.head):=fun h=>by rw [← hv]; exact Vast.alike (V:=n.vars) hal oa ob hhd h
 have v2:Vast g'.1 (ap (Zcx m.vars) c.head)→Vast g.1 (ap (Zcx n.vars) c.head):=fun h=>by rw [← hv] at h; exact Vast.alike (V:=n.vars) hal.symm ob oa hhd h
 rcases h with ⟨rfl,h⟩ | ⟨rfl,h⟩ | ⟨σ,h1,h2,h3,rfl⟩
 ·rcases h' with ⟨rfl,h'⟩ | ⟨rfl,h'⟩ | ⟨σ',k1,k2,k3,rfl⟩
  ·exact ⟨rfl,fun h=>by omega⟩
  ·exact absurd (n1 h) h'.fits
  ·exact absurd (n1 h) k1.fits
 ·rcases h' with ⟨rfl,h'⟩ | ⟨rfl,h'⟩ | ⟨σ',k1,k2,k3,rfl⟩
  ·exact absurd (n2 h') h.fits
  ·exact ⟨rfl,fun h=>by omega⟩
  ·have:=(v1 h).2 σ' k1.ts k1.unif; omega
 ·rcases h' with ⟨rfl,h'⟩ | ⟨rfl,h'⟩ | ⟨σ',k1,k2,k3,rfl⟩
  ·exact absurd (n2 h') h1.fits
  ·have:=(v2 h').2 σ h1.ts h1.unif; omega
  ·have hsame:=Zyo hn hm hs hc k hg hg' h1 k1
   have hk:=hsame.kind
   exact ⟨by omega,fun hq=>⟨Zpm hn hc k hg h1 (by omega),Zpm hm hc k hg' k1 (by omega),hsame⟩⟩
open Classical in
noncomputable def tryN (m:ND) (c:Cls) (k:Nat):ND × Nat :=
 if h:∃ r:ND × Nat,∃ n,NOk n∧Same n m∧Out n c k r.2 r.1 then Classical.choose h else (⟨[],[],[],[],0⟩,0)
theorem Zhi {n m:ND} (hn:NOk n) (hs:Same n m) {c:Cls} (hc:COk c) {k q:Nat} {ch:ND} (h:Out n c k q ch):q=(tryN m c k).2∧(q=1∨q=2→NOk ch∧Same ch (tryN m c k).1):=by
 have hex:∃ r:ND × Nat,∃ n,NOk n∧Same n m∧Out n c k r.2 r.1:=⟨(ch,q),n,hn,hs,h⟩
 have e:tryN m c k=Classical.choose hex:=by unfold tryN; rw [dif_pos hex]
 obtain ⟨n',hn',hs',ho⟩:=Classical.choose_spec hex
 rw [e]
 have:=Zwm hn hn' (hs.trans hs'.symm) hc h ho
 exact ⟨this.1,fun hq=>⟨(this.2 hq).1,(this.2 hq).2.2⟩⟩
end Go.Proofs.YtlmjilpjmgjjcabGreatDoor
