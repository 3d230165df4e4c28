/-
  PROVED HERE: 'lines' returns true of lines that are what they should be (the conditions stand in each statement).
-/
import Derived.Test.YtlmjilpjmgjjcaaGreatDoorRows
import Derived.WalkKit
import Derived.WalkSpells
import Derived.WalkLawsBesides
import GoSem.Claim
import Derived.Lib.Strings
import Derived.RegionTactic
import Derived.ChangeAlike
import Derived.BigRegion
import Derived.Lib.ItoaNum
import Derived.BigQuiet
import Derived.Deep.QuietTactic
import Derived.Deep.LoopGhost
import Derived.Orders
import Derived.Deep.RegionWith
import Derived.Deep.CutRange
import Derived.Shelf.LaysM
import Derived.Shelf.Strconv.Itoa3
import Derived.Lib.AppendIntMem
set_option linter.unusedSimpArgs false
set_option linter.unusedVariables false
set_option maxRecDepth 10000
set_option maxHeartbeats 4000000
namespace Go.Proofs.YtlmjilpjmgjjcaaGreatDoor
open Go.RowKit
abbrev Qa:=@List.getElem?_eq_some_iff
abbrev Qb:=@List.getElem?_eq_getElem
abbrev Qc:=@List.getElem?_append_left
abbrev Qd:=@List.getElem?_append_right
abbrev Qe:=@Nat.le_refl
abbrev Qf:=@List.length_cons
abbrev Qg:=@List.length_append
abbrev Qh:=@List.mem_of_getElem?
abbrev Qi:=@List.append_assoc
abbrev Qj:=@List.getElem?_map
abbrev Qk:=@List.mem_append
abbrev Ql:=@List.length_map
abbrev Qm:=@Nat.zero_le
abbrev Qn:=@List.length_singleton
abbrev Qo:=@Option.some.injEq
abbrev Qp:=@List.mem_cons
abbrev Qq:=@Nat.le_trans
abbrev Qr:=@List.map_append
abbrev Qs:=@List.append_nil
abbrev Jt:=@List.length_nil
abbrev Qu:=@beq_eq_false_iff_ne
structure Kept (S:Nat→Prop) (w w':World):Prop where
 os:w'.os=w.os
 tape:w'.tape=w.tape
 output:w'.output=w.output
 size:w.heap.size≤w'.heap.size
 block:∀ k,k<w.heap.size→¬ S k→w'.heap[k]?=w.heap[k]?
def Zbo (v:Value):Nat→Prop:=fun k=>v.ownBlock=some k
def Zdk:Nat→Prop:=fun _=>False
theorem Kept.refl (S:Nat→Prop) (w:World):Kept S w w:=⟨rfl,rfl,rfl,Qe _,fun _ _ _=>rfl⟩
theorem Kept.then {S S':Nat→Prop} {a b c:World} (h:Kept S a b) (k:Kept S' b c) (hs:∀ i,i<a.heap.size→S' i→S i):Kept S a c :=
 ⟨k.os.trans h.os,k.tape.trans h.tape,k.output.trans h.output,Qq h.size k.size,
  fun i hi hn=>(k.block i (Nat.lt_of_lt_of_le hi h.size) (fun hk=>hn (hs i hi hk))).trans (h.block i hi hn)⟩
theorem Kept.trans {S:Nat→Prop} {a b c:World} (h:Kept S a b) (k:Kept S b c):Kept S a c:=h.then k (fun _ _ h=>h)
theorem Kept.mono {S S':Nat→Prop} {w w':World} (h:Kept S w w') (hs:∀ i,i<w.heap.size→S i→S' i):Kept S' w w' :=
 ⟨h.os,h.tape,h.output,h.size,fun i hi hn=>h.block i hi (fun hk=>hn (hs i hi hk))⟩
theorem Kept.drew {S:Nat→Prop} {a w:World} (h:Kept S a w):Kept S a w.drew:=⟨h.os,h.tape,h.output,h.size,h.block⟩
theorem Kept.alloc {S:Nat→Prop} {a w:World} (h:Kept S a w) (o:Obj):Kept S a (w.alloc o) :=
 h.trans ⟨rfl,rfl,rfl,by simp,fun k hk _=>Below.heap_alloc _ _ _ hk⟩
theorem Kept.setCell {S:Nat→Prop} {a w:World} (h:Kept S a w) {p:Addr} (hp:p.block<a.heap.size→S p.block) (u:Value):Kept S a (w.setCell p u) :=
 h.then (S':=fun k=>k=p.block) ⟨rfl,rfl,rfl,by simp [World.setCell],fun k _ hn=>Below.heap_setCell _ _ _ _ hn⟩ (fun i hi e=>by subst e; exact hp hi)
theorem Kept.of_grown {w w':World} {row:Option Nat} (h:w.grownBy w' row):Kept (fun k=>row=some k) w w' :=
 ⟨h.os,h.tape,h.output,h.size,fun k hk hn=>h.block k hk (fun e=>hn e.symm)⟩
theorem Kept.below {S:Nat→Prop} {w w':World} {B:Nat} (h:Kept S w w') (hB:B≤w.heap.size) (hs:∀ k,S k→B≤k):Below B w w' :=
 ⟨h.os,h.tape,h.output,h.size,fun k hk=>h.block k (by omega) (fun hS=>by have:=hs k hS; omega)⟩
theorem Kept.of_below {w w':World} {B:Nat} (h:Below B w w'):Kept (fun k=>B≤k) w w' :=
 ⟨h.os,h.tape,h.output,h.size,fun k _ hn=>h.block k (by omega)⟩
theorem Kept.cell {S:Nat→Prop} {w w':World} (h:Kept S w w') {p:Addr} {v:Value} (hc:w.cell? p=some v) (hn:¬ S p.block):w'.cell? p=some v :=
 (World.cell?_of_block (w:=w) (h.block p.block (World.block_lt_of_cell? w p hc) hn)).trans hc
theorem Kept.owns {S:Nat→Prop} {w w':World} (h:Kept S w w') {base:Nat} {e:TypeId} {size:Nat} {v:Value} {n:Nat} {xs:List Value} (ho:w.ownsRow base e size v n xs)
  (hn:∀ k,v.ownBlock=some k→¬ S k):w'.ownsRow base e size v n xs:=by
 refine ⟨ho.1,?_⟩
 rcases ho.2 with hn' | ⟨g,cap,cur,rfl,hb,hgg,rest⟩
 ·exact .inl hn'
 ·refine .inr ⟨g,cap,cur,rfl,hb,?_,rest⟩
  rw [h.block g (Array.getElem?_eq_some_iff.1 hgg).1 (hn g rfl)]
  exact hgg
theorem Zbf {w:World} {base base':Nat} {e:TypeId} {size:Nat} {v:Value} {n:Nat} {xs:List Value} (ho:w.ownsRow base e size v n xs) (hb:base'≤base):w.ownsRow base' e size v n xs:=by
 refine ⟨ho.1,?_⟩
 rcases ho.2 with hn' | ⟨g,cap,cur,rfl,hb',rest⟩
 ·exact .inl hn'
 ·exact .inr ⟨g,cap,cur,rfl,Qq hb hb',rest⟩
theorem Zhx {P:Program} (w:World) (base:Nat) (t ty e:TypeId) (i:TypeInfo) (z:Value) (ht:P.underlying t=some (.slice e)) (hi:P.info? e=some i) (hz:i.zero=some z)
  (v:Value) (n:Nat) (xs:List Value) (hown:w.ownsRow base e i.size v n xs)
  (a:Addr) (m c:Nat) (news:List Value) (hl:news.length=m * i.size) (hm:0<m) (hnews:∀ j u,news[j]?=some u→w.cell? (a.add j)=some u) (h1:∀ u ∈ news,u.oneCell'=true)
  (h63:n+m≤maxLen) (hbytes:(n+m) * i.bytes≤140737488355328) (v':Value) (w':World)
  (hr:(Builtin.append_ #[t,t] ty #[v,.slice (some a) m c]).run P w = .ok v' w'):v'.ownBlock=v.ownBlock∨v'.ownBlock=some w.heap.size:=by
 have hsmall:n+m≤9223372036854775807:=by simp only [maxLen] at h63; omega
 rcases hown.2 with ⟨rfl,rfl⟩ | ⟨g,cap,cur,rfl,hbg,hg,hnc,hcm,hcs,htake⟩
 ·have hr':=run_append_nil (P:=P) w t ty e i z ht hi hz a m c news hl hnews hm (by omega) (by have hb:=hbytes; simp only [Nat.zero_add] at hb; omega)
  rw [hr'] at hr
  injection hr with h1 h2
  subst h1
  exact .inr rfl
 ·by_cases hroom:n+m≤cap
  ·have hfit:n * i.size+news.length≤cur.size:=by rw [hl,hcs,← Nat.add_mul]; exact Nat.mul_le_mul_right _ hroom
   have hr':=run_append_room (P:=P) w t ty e i ht hi g n cap cur hg a m c news hl hnews h1 hroom hfit
   rw [hr'] at hr
   injection hr with h1 h2
   subst h1
   exact .inl rfl
  ·have holds:∀ j u,xs[j]?=some u→w.cell? ((⟨g,0,none⟩:Addr).add j)=some u:=hown.cells (g:=g) rfl
   have hr':=run_append_grow (P:=P) w t ty e i z ht hi hz ⟨g,0,none⟩ n cap xs hown.1 holds a m c news hl hnews (by omega) (by omega) (growslice_fits (by omega) hbytes)
   rw [hr'] at hr
   injection hr with h1 h2
   subst h1
   exact .inr rfl
structure Appended (w:World) (base:Nat) (e:TypeId) (size:Nat) (v:Value) (n:Nat) (xs:List Value) (v':Value) (w':World):Prop where
 owns:w'.ownsRow base e size v' n xs
 kept:Kept (Zbo v) w w'
 where_:v'.ownBlock=v.ownBlock∨∃ g,v'.ownBlock=some g∧w.heap.size≤g
theorem Zhk {P:Program} (w:World) (t ty:TypeId) (base:Nat) (e:TypeId) {z:Value} {size bytes:Nat}
  (hinfo:(P.info? e).map (fun i=>(i.zero,i.size,i.bytes))=some (some z,size,bytes)) (ht:P.underlying t=some (.slice e)) (hzs:z.cells.size=size) (hsz:0<size)
  (v:Value) (n:Nat) (xs:List Value) (hown:w.ownsRow base e size v n xs)
  (news:Array Value) (hl:news.size=size) (h1:∀ u ∈ news.toList,u.oneCell'=true)
  (hbig:(n+1) * (bytes+1)≤140737488355328) (hbase:base≤w.heap.size) :
  ∃ v' w',(Builtin.append_ #[t,t] ty #[v,.slice (some ⟨w.heap.size,0,none⟩) 1 1]).run P (w.alloc (.cells news e)) = .ok v' w'∧Appended w base e size v (n+1) (xs++news.toList) v' w':=by
 obtain ⟨i,hi,hz,hsi,hby⟩:=info_parts hinfo
 have hb1:n+1≤140737488355328:=Qq (Nat.le_mul_of_pos_right (n+1) (Nat.succ_pos bytes)) hbig
 have hb2:(n+1) * bytes≤140737488355328:=Qq (Nat.mul_le_mul_left _ (Nat.le_succ _)) hbig
 have h63:n+1≤maxLen:=by simp only [maxLen]; omega
 have hnews:∀ (j:Nat) (u:Value),news.toList[j]?=some u→(w.alloc (.cells news e)).cell? ((⟨w.heap.size,0,none⟩:Addr).add j)=some u:=by
  intro j u hu
  have hadd:(⟨w.heap.size,0,none⟩:Addr).add j=⟨w.heap.size,j,none⟩:=by unfold Addr.add; split <;> simp_all
  rw [hadd,cell_of_row _ w.heap.size j news e (0,0) (heap_alloc_new w _)]
  simpa using hu
 have hown':=hown.alloc (.cells news e)
 obtain ⟨v',w',hr,hA,hB,_⟩:=run_append_own (P:=P) (w.alloc (.cells news e)) base t ty e i z size bytes ht hi hz hsi hby hzs hsz v n xs hown'
  ⟨w.heap.size,0,none⟩ 1 1 news.toList (by simp [hl]) hnews h1 h63 hb2 (by simp; omega)
 refine ⟨v',w',hr,hA,?_,?_⟩
 ·have:=Kept.of_grown hB
  exact ((Kept.refl (Zbo v) w).alloc _).then this (fun i _ h=>h)
 ·subst hsi hby
  rcases Zhx (P:=P) (w.alloc (.cells news e)) base t ty e i z ht hi hz v n xs hown' ⟨w.heap.size,0,none⟩ 1 1 news.toList (by simp [hl]) (by omega) hnews h1 h63 hb2 v' w' hr with h | h
  ·exact .inl h
  ·exact .inr ⟨_,h,by simp⟩
theorem Zom {P:Program} {o:Oper} {a:Act} {K:Act→World→Prop} {Q:Exit→Act→World→Prop} (w:World) (s x:Operand) (t:TypeId)
  (ho:o.op = .call { callee := .builtin .append,args:=#[s,x],argTypes:=#[t,t] })
  (base:Nat) (e:TypeId) {z:Value} {size bytes:Nat}
  (hinfo:(P.info? e).map (fun i=>(i.zero,i.size,i.bytes))=some (some z,size,bytes)) (ht:P.underlying t=some (.slice e)) (hzs:z.cells.size=size) (hsz:0<size)
  (v:Value) (n:Nat) (xs:List Value) (hs:a.eval s=v) (hown:w.ownsRow base e size v n xs)
  (news:Array Value) {N:Nat} (hx:a.eval x = .slice (some ⟨N,0,none⟩) 1 1) (hN:N=w.heap.size) (hl:news.size=size) (h1:∀ u ∈ news.toList,u.oneCell'=true)
  (hbig:(n+1) * (bytes+1)≤140737488355328) (hbase:base≤w.heap.size)
  (h:∀ v' w',Appended w base e size v (n+1) (xs++news.toList) v' w'→K (a.put o.dst v') w'):o.wp P a (w.alloc (.cells news e)) K Q:=by
 subst hN
 obtain ⟨v',w',hr,h2⟩:=Zhk (P:=P) w t o.type base e hinfo ht hzs hsz v n xs hown news hl h1 hbig hbase
 unfold Oper.wp execOp
 simp only [ho,resolve,invoke,builtin,Sem.run_bind,Sem.run_pure,Result.andThen_ok,List.map_toArray,List.map_cons,List.map_nil,hs,hx,hr]
 exact h v' w' h2
theorem Zan {P:Program} {ops:Array Oper} {rest:List Oper} {o:Oper} {a:Act} {Q:Exit→Act→World→Prop} (w:World) (hgd:o.guard=none) (s x:Operand) (t:TypeId)
  (ho:o.op = .call { callee := .builtin .append,args:=#[s,x],argTypes:=#[t,t] })
  (base:Nat) (e:TypeId) {z:Value} {size bytes:Nat}
  (hinfo:(P.info? e).map (fun i=>(i.zero,i.size,i.bytes))=some (some z,size,bytes)) (ht:P.underlying t=some (.slice e)) (hzs:z.cells.size=size) (hsz:0<size)
  (v:Value) (n:Nat) (xs:List Value) (hs:a.eval s=v) (hown:w.ownsRow base e size v n xs)
  (news:Array Value) {N:Nat} (hx:a.eval x = .slice (some ⟨N,0,none⟩) 1 1) (hN:N=w.heap.size) (hl:news.size=size) (h1:∀ u ∈ news.toList,u.oneCell'=true)
  (hbig:(n+1) * (bytes+1)≤140737488355328) (hbase:base≤w.heap.size)
  (h:∀ v' w',Appended w base e size v (n+1) (xs++news.toList) v' w'→wpList P ops Q rest (a.put o.dst v') w'):wpList P ops Q (o::rest) a (w.alloc (.cells news e)) :=
 wpList_plain hgd fun _ hK=>Zom w s x t ho base e hinfo ht hzs hsz v n xs hs hown news hx hN hl h1 hbig hbase fun v' w' h2=>hK _ _ (h v' w' h2)
abbrev Qx:=@Kept.refl
abbrev Qy:=@Kept.setCell
abbrev Qz:=@Kept.alloc
end Go.Proofs.YtlmjilpjmgjjcaaGreatDoor
namespace Go.Proofs.YtlmjilpjmgjjcaaGreatDoor
def inB (c:UInt8) (s:ByteArray):Bool:=s.data.toList.contains c
def Zec:ByteArray:=⟨#[97,98,99,100,101,102,103,104,105,106,107,108,109,110,111,112,113,114,115,116,117,118,119,120,121,122]⟩
def Zic:ByteArray:=⟨#[65,66,67,68,69,70,71,72,73,74,75,76,77,78,79,80,81,82,83,84,85,86,87,88,89,90]⟩
def Zym:ByteArray:=⟨#[40,41,44,46]⟩
def Zgl:ByteArray:=⟨#[97,98,99,100,101,102,103,104,105,106,107,108,109,110,111,112,113,114,115,116,117,118,119,120,121,122,65,66,67,68,69,70,71,72,73,74,75,76,77,78,79,80,81,82,83,84,85,86,87,88,89,90,48,49,50,51,52,53,54,55,56,57]⟩
theorem Zds (s:ByteArray) (k:Nat) (h:k<s.size):s.data.toList.drop k=s[k]::s.data.toList.drop (k+1):=by
 rw [List.drop_eq_getElem_cons (by simpa using h)]; rfl
theorem Zid (s:ByteArray) (k:Nat) (h:¬ k<s.size):s.data.toList.drop k=[]:=by
 apply List.drop_eq_nil_of_le; simp; omega
def Zbe:List UInt8→Nat
 | []=>0
 | c::r=>if inB c Zgl then Zbe r+1 else 0
theorem Zhl (c:UInt8) (r:List UInt8) (h:inB c Zgl=true):Zbe (c::r)=Zbe r+1:=by rw [Zbe,if_pos h]
theorem Zbc (c:UInt8) (r:List UInt8) (h:inB c Zgl=false):Zbe (c::r)=0:=by rw [Zbe,if_neg (by simp [h])]
theorem Zyn (l:List UInt8):Zbe l≤l.length:=by
 induction l with
 | nil=>exact Qe _
 | cons c r ih=>unfold Zbe; split <;> simp <;> omega
theorem Zdu {p:UInt8→Bool} (h:(List.range 256).all (fun n=>p (UInt8.ofNat n))=true) (c:UInt8):p c=true:=by
 rw [List.all_eq_true] at h
 have:=h c.toNat (by rw [List.mem_range]; exact c.toNat_lt)
 simpa using this
theorem Zer {c:UInt8} (h:inB c Zec=true):inB c Zgl=true:=by
 have:=Zdu (p:=fun c => !inB c Zec || inB c Zgl) (by decide +kernel) c
 simpa [h] using this
theorem Zgu {c:UInt8} (h:inB c Zic=true):inB c Zgl=true:=by
 have:=Zdu (p:=fun c => !inB c Zic || inB c Zgl) (by decide +kernel) c
 simpa [h] using this
structure Tok where
 kind:Nat
 text:List UInt8
 pos:Nat
def Zbm (c:UInt8) (r:List UInt8):Nat × Nat :=
 if inB c Zec then (1,Zbe r)
 else if inB c Zic then (2,Zbe r)
 else if inB c Zym then (c.toNat,0)
 else if c=58∧r.head?=some 45 then (3,1)
 else (5,0)
def Zgv (c:UInt8):Bool:=c == 32 || c == 10
theorem Ybr (c:UInt8) (r:List UInt8):(Zbm c r).2≤r.length:=by
 have:=Zyn r
 unfold Zbm
 split
 ·exact this
 ·split
  ·exact this
  ·split
   ·exact Qm _
   ·split
    ·rename_i h
     cases r with
     | nil=>simp at h
     | cons d r=>simp
    ·exact Qm _
def lexF:Nat→List UInt8→Nat→List Tok
 | 0,_,_=>[]
 | _+1,[],_=>[]
 | f+1,c::r,p =>
  if Zgv c then lexF f r (p+1)
  else ⟨(Zbm c r).1,(c::r).take ((Zbm c r).2+1),p⟩::lexF f (r.drop (Zbm c r).2) (p+(Zbm c r).2+1)
theorem Ybs (f:Nat):∀ (g:Nat) (l:List UInt8) (p:Nat),l.length≤f→l.length≤g→lexF f l p=lexF g l p:=by
 induction f with
 | zero =>
  intro g l p hf hg
  have:l=[]:=List.eq_nil_of_length_eq_zero (by omega)
  subst this
  cases g <;> rfl
 | succ f ih =>
  intro g l p hf hg
  cases l with
  | nil=>cases g <;> rfl
  | cons c r =>
   cases g with
   | zero=>simp at hg
   | succ g =>
    simp only [Qf] at hf hg
    have hd:(r.drop (Zbm c r).2).length≤r.length:=by simp
    rw [lexF,lexF]
    split
    ·exact ih g r _ (by omega) (by omega)
    ·rw [ih g (r.drop (Zbm c r).2) _ (by omega) (by omega)]
def toks (l:List UInt8) (p:Nat):List Tok:=lexF l.length l p
theorem Ziq (c:UInt8) (r:List UInt8) (p:Nat) (h:Zgv c=true):toks (c::r) p=toks r (p+1):=by
 unfold toks
 rw [Qf,lexF,if_pos h]
theorem Zes (c:UInt8) (r:List UInt8) (p:Nat) (h:Zgv c=false) :
  toks (c::r) p=⟨(Zbm c r).1,(c::r).take ((Zbm c r).2+1),p⟩::toks (r.drop (Zbm c r).2) (p+(Zbm c r).2+1):=by
 unfold toks
 rw [Qf,lexF,if_neg (by simp [h])]
 congr 1
 exact Ybs _ _ _ _ (by simp) (Qe _)
structure Sym where
 name:List UInt8
 num:Nat
 args:Nat
abbrev Names:=List (List UInt8)
end Go.Proofs.YtlmjilpjmgjjcaaGreatDoor
namespace Go.Proofs.YtlmjilpjmgjjcaaGreatDoor
open Go.RowKit
theorem Zkv {k:IntKind} {a b:Int} (h:a=b):Ending.returned (.int k a) = .returned (.int k b):=by rw [h]
theorem Zft {a b:Bool} (h:a=b):Ending.returned (.bool a) = .returned (.bool b):=by rw [h]
theorem Zac {p:Prop} (h:p):Hid p:=h
theorem Zuo {c:UInt8} (h:Zgv c=true):((c.toNat:Int) == 32)=true∨(((c.toNat:Int) == 32)=false∧((c.toNat:Int) == 10)=true):=by
 have:=Zdu (p:=fun c => !Zgv c || ((c.toNat:Int) == 32) || ((c.toNat:Int) == 10)) (by decide +kernel) c
 rw [h] at this
 cases h1:((c.toNat:Int) == 32) <;> simp_all
theorem Ybt {c:UInt8} (h:Zgv c=false):((c.toNat:Int) == 32)=false∧((c.toNat:Int) == 10)=false:=by
 have:=Zdu (p:=fun c=>Zgv c || (!((c.toNat:Int) == 32) && !((c.toNat:Int) == 10))) (by decide +kernel) c
 rw [h] at this
 simpa using this
structure LookS where
 want:Nat
 query:Bool
 body:Bool
 stk:List Nat
 size:Nat
 goals:Nat
 heads:Nat
 err:Nat
def ints (l:List Nat):List Value:=l.map fun (n:Nat)=>Value.int .i64 n
theorem Zaa {w:World} {b:Nat} {cs:Array Value} {T:TypeId} (h:w.heap[b]?=some (.cells cs T (0,0))) (i:Nat) (v:Value) (hv:cs[i]?=some v) :
  w.cell? ⟨b,i,none⟩=some v:=by simp [World.cell?,h,hv]
theorem Zad {w:World} {b:Nat} {cs:Array Value} {T:TypeId} (h:w.heap[b]?=some (.cells cs T (0,0))) (i:Nat):w.frozen? ⟨b,i,none⟩=false:=by
 simp [World.frozen?,h]
theorem Zab {w:World} {b:Nat} {o:Obj} (h:w.heap[b]?=some o):b<w.heap.size:=(Array.getElem?_eq_some_iff.1 h).1
theorem Zaf {w:World} {b:Nat} {cs:Array Value} {T:TypeId} (h:w.heap[b]?=some (.cells cs T (0,0))) (i:Nat) (v:Value) :
  (w.setCell ⟨b,i,none⟩ v).heap[b]?=some (.cells (cs.setIfInBounds i v) T (0,0)):=by
 simp [World.setCell,Array.getElem?_modify,h]
theorem Zas {w:World} {b:Nat} {o:Obj} (h:w.heap[b]?=some o) (o':Obj):(w.alloc o').heap[b]?=some o:=by
 rw [Below.heap_alloc _ _ _ (Zab h)]; exact h
def only (b:Nat):Nat→Prop:=fun k=>k=b
theorem Kept.put {a w:World} {b:Nat} (h:Kept (only b) a w) (i:Nat) (u:Value):Kept (only b) a (w.setCell ⟨b,i,none⟩ u):=h.setCell (p:=⟨b,i,none⟩) (fun _=>(rfl:b=b)) u
def Zlp (L:LookS) (n:Nat):LookS := { L with size:=L.size+1,err:=if 8<n∨30<L.size+1 then 3 else L.err }
def Zcq (L:LookS):LookS :=
 if L.want=0 then { L with heads:=L.heads+1,body:=false,size:=0,err:=if 24<L.heads+1 then 3 else L.err }
 else if L.want=1 then { L with goals:=L.goals+1,size:=0,err:=if 6<L.goals+1 then 3 else L.err }
 else match L.stk with
  | []=>L
  | n::r => { L with stk:=(n+1)::r,err:=if 4<n+1 then 3 else L.err }
def Zbj (L:LookS) (kd tn:Nat):LookS :=
 if kd≠1∧(kd≠2∨L.want≠2) then { L with err:=2 } else { Zlp (Zcq L) tn with want:=if kd=1 then 3 else 4 }
theorem Zgw (w:World) (cs:Array Value) (T:TypeId) (i:Nat) (v:Value) (h:cs[i]?=some v):(w.alloc (.cells cs T)).cell? ⟨w.heap.size,i,none⟩=some v :=
 Zaa (heap_alloc_new w _) i v h
theorem Zap {w:World} {B:Nat} {e:TypeId} {size n:Nat} {v:Value} {xs:List Value} (h:w.ownsRow B e size v n xs) (hn:0<n) :
  ∃ g cap cur,v = .slice (some ⟨g,0,none⟩) n cap∧B≤g∧w.heap[g]?=some (.cells cur e (0,0))∧n≤cap:=by
 rcases h.2 with ⟨_,h1⟩ | ⟨g,cap,cur,h1,hb,hg,hn,_⟩
 ·omega
 ·exact ⟨g,cap,cur,h1,hb,hg,hn⟩
theorem Zai {w:World} {B:Nat} {e:TypeId} {size n g cap:Nat} {xs:List Value} (h:w.ownsRow B e size (.slice (some ⟨g,0,none⟩) n cap) n xs) (j:Nat) (u:Value) (hu:xs[j]?=some u) :
  w.cell? ⟨g,j,none⟩=some u:=by
 have:=h.cells (g:=g) rfl j u hu
 have hadd:(⟨g,0,none⟩:Addr).add j=⟨g,j,none⟩:=by unfold Addr.add; split <;> simp_all
 rwa [hadd] at this
theorem Tryz.infoInt:(Tryz.prog.info? 3).map (fun i=>(i.zero,i.size,i.bytes))=some (some (.int .i64 0),1,8):=by kernel_rfl
def Zal (L:LookS) (kd:Nat):LookS :=
 if kd=40∧L.want=3 then { L with stk:=0::L.stk,want:=2 }
 else if kd=44∧L.stk≠[] then { L with want:=2 }
 else if kd=41∧L.stk≠[] then { L with stk:=L.stk.tail,want:=4 }
 else if L.stk≠[] then { L with err:=2 }
 else if kd=44∧L.body=true then { L with want:=1 }
 else if kd=3∧L.body=false then { L with body:=true,goals:=0,want:=1 }
 else if kd=46∧L.query=true then { L with want:=5 }
 else if kd=46 then { L with want:=0 }
 else { L with err:=2 }
theorem Zae {w:World} {B:Nat} {e:TypeId} {size n:Nat} {v:Value} {xs:List Value} (h:w.ownsRow B e size v n xs):∃ a cap,v = .slice a n cap:=by
 rcases h.2 with ⟨rfl,rfl⟩ | ⟨g,cap,cur,rfl,_⟩
 ·exact ⟨none,0,rfl⟩
 ·exact ⟨_,_,rfl⟩
theorem Zie (x:Int):∀ u ∈ (#[Value.int .i64 x]:Array Value).toList,u.oneCell'=true:=by
 intro u hu
 simp at hu
 subst hu
 rfl
theorem Zqe {w:World} {B:Nat} {e:TypeId} {g n cap:Nat} {xs:List Value} (h:w.ownsRow B e 1 (.slice (some ⟨g,0,none⟩) (n+1) cap) (n+1) xs) :
  w.ownsRow B e 1 (.slice (some ⟨g,0,none⟩) n cap) n (xs.take n):=by
 refine ⟨by have:=h.1; simp at this ⊢; omega,?_⟩
 rcases h.2 with ⟨h1,_⟩ | ⟨g',cap',cur,h1,hb,hg,hn,hc,hs,ht⟩
 ·simp at h1
 ·simp at h1
  obtain ⟨rfl,rfl⟩:=h1
  refine .inr ⟨g,cap,cur,rfl,hb,hg,by omega,hc,hs,?_⟩
  rw [← ht,List.take_take]
  congr 1
  omega
theorem Tryz.infoStr:(Tryz.prog.info? 9).map (fun i=>(i.zero,i.size,i.bytes))=some (some (.string ⟨#[]⟩),1,16):=by kernel_rfl
def strs (l:List (List UInt8)):List Value:=l.map fun s=>Value.string ⟨s.toArray⟩
def Zbt (names:List (List UInt8)) (s:List UInt8):List (List UInt8) × Nat :=
 if s ∈ names then (names,names.idxOf s) else (names++[s],names.length)
theorem Ybu (s:ByteArray):∀ u ∈ (#[Value.string s]:Array Value).toList,u.oneCell'=true:=by
 intro u hu
 simp at hu
 subst hu
 rfl
theorem Zru {names:List (List UInt8)} {s:List UInt8} {k:Nat} (hk:k<names.length) (h:names[k]=s) (hn:s ∉ names.take k):Zbt names s=(names,k):=by
 have hm:s ∈ names:=by rw [← h]; exact List.getElem_mem _
 unfold Zbt
 rw [if_pos hm]
 congr 1
 have h1:names.idxOf s≤k:=by
  rcases Nat.lt_or_ge k (names.idxOf s) with hl | hl
  ·have:=List.not_of_lt_findIdx (p:=(· == s)) (xs:=names) hl
   simp [h] at this
  ·exact hl
 rcases Nat.lt_or_ge (names.idxOf s) k with hl | hl
 ·exfalso
  apply hn
  have hlt:names.idxOf s<names.length:=List.idxOf_lt_length_of_mem hm
  have:names[names.idxOf s]=s:=List.getElem_idxOf hlt
  rw [← this]
  rw [List.mem_take_iff_getElem]
  exact ⟨names.idxOf s,by omega,rfl⟩
 ·omega
theorem Ymb {names:List (List UInt8)} {s:List UInt8} {k:Nat} (hk:k<names.length) (h:¬ names[k]=s) (hn:s ∉ names.take k):s ∉ names.take (k+1):=by
 rw [List.take_succ_eq_append_getElem hk]
 simp only [Qk,List.mem_singleton,not_or]
 exact ⟨hn,fun e=>h e.symm⟩
theorem Zqf {names:List (List UInt8)} {s:List UInt8} {k:Nat} (hk:¬ k<names.length) (hn:s ∉ names.take k):Zbt names s=(names++[s],names.length):=by
 rw [List.take_of_length_le (by omega)] at hn
 unfold Zbt
 rw [if_neg hn]
def Zee (p:List Tok→Names→Option (List Sym × List Tok × Names)):Nat→List Tok→Names→List (List Sym)→Option (List (List Sym) × List Tok × Names)
 | 0,_,_,_=>none
 | _+1,[],_,_=>none
 | g+1,t::ts,names,acc =>
  if t.kind=41 then some (acc,ts,names)
  else match p ts names with
   | none=>none
   | some r=>Zee p g r.2.1 r.2.2 (acc++[r.1])
def Zji (p:List Tok→Names→Option (List Sym × List Tok × Names)) (t:Tok):List Tok→Names→Option (List Sym × List Tok × Names)
 | [],_=>none
 | u::us,names =>
  if u.kind≠40 then some ([⟨t.text,0,0⟩],u::us,names)
  else (Zee p (us.length+1) (u::us) names []).map fun r=>(⟨t.text,0,r.1.length⟩::r.1.flatten,r.2.1,r.2.2)
def Zcp:Nat→List Tok→Names→Option (List Sym × List Tok × Names)
 | 0,_,_=>none
 | _+1,[],_=>none
 | f+1,t::ts,names =>
  if t.kind=2 then some ([⟨[],(Zbt names t.text).2,0⟩],ts,(Zbt names t.text).1)
  else Zji (Zcp f) t ts names
def Ybv (ts rest:List Tok) (names names':Names):Prop:=∃ n,0<n∧n≤ts.length∧rest=ts.drop n∧names'.length≤names.length+n
theorem Zlq (names:Names) (s:List UInt8):(Zbt names s).1.length≤names.length+1:=by
 unfold Zbt; split <;> simp
theorem Zrv {p:List Tok→Names→Option (List Sym × List Tok × Names)} (hp:∀ ts names r,p ts names=some r→Ybv ts r.2.1 names r.2.2) :
  ∀ (g:Nat) (ts:List Tok) (names:Names) (acc:List (List Sym)) r,Zee p g ts names acc=some r→Ybv ts r.2.1 names r.2.2:=by
 intro g
 induction g with
 | zero=>intro ts names acc r h; simp [Zee] at h
 | succ g ih =>
  intro ts names acc r h
  cases ts with
  | nil=>simp [Zee] at h
  | cons t ts =>
   rw [Zee] at h
   split at h
   ·simp at h; subst h
    exact ⟨1,by omega,by simp,by simp,by simp⟩
   ·split at h
    ·simp at h
    ·rename_i q hq
     obtain ⟨n,h1,h2,h3,h4⟩:=hp _ _ _ hq
     obtain ⟨m,h5,h6,h7,h8⟩:=ih _ _ _ _ h
     rw [h3,List.drop_drop] at h7
     rw [h3,List.length_drop] at h6
     exact ⟨n+m+1,by omega,by simp; omega,by rw [h7]; simp,by omega⟩
theorem Zgo:∀ (f:Nat) (ts:List Tok) (names:Names) r,Zcp f ts names=some r→Ybv ts r.2.1 names r.2.2:=by
 intro f
 induction f with
 | zero=>intro ts names r h; simp [Zcp] at h
 | succ f ih =>
  intro ts names r h
  cases ts with
  | nil=>simp [Zcp] at h
  | cons t ts =>
   rw [Zcp] at h
   split at h
   ·simp at h; subst h
    exact ⟨1,by omega,by simp,by simp,Zlq _ _⟩
   ·cases ts with
    | nil=>simp [Zji] at h
    | cons u us =>
     rw [Zji] at h
     split at h
     ·simp at h; subst h
      exact ⟨1,by omega,by simp,by simp,by simp⟩
     ·rw [Option.map_eq_some_iff] at h
      obtain ⟨q,hq,rfl⟩:=h
      obtain ⟨n,h1,h2,h3,h4⟩:=Zrv ih _ _ _ _ _ hq
      exact ⟨n+1,by omega,by simp at h2 ⊢; omega,by rw [h3]; simp,by simp at h4 ⊢; omega⟩
theorem Zcg {w:World} {B:Nat} {e:TypeId} {size n:Nat} {v:Value} {xs:List Value} (h:w.ownsRow B e size v n xs) (k:Nat) (hk:v.ownBlock=some k):∃ cur,w.heap[k]?=some (.cells cur e (0,0)):=by
 rcases h.2 with ⟨rfl,_⟩ | ⟨g,cap,cur,rfl,_,hg,_⟩
 ·simp [Value.ownBlock] at hk
 ·simp only [Value.ownBlock,Qo] at hk
  subst hk
  exact ⟨cur,hg⟩
theorem Zag {w:World} {B:Nat} {e e':TypeId} {size n:Nat} {v:Value} {xs:List Value} (h:w.ownsRow B e size v n xs) (he:e≠e') {k:Nat} {cs:Array Value} {fr:Nat × Nat} (hk:w.heap[k]?=some (.cells cs e' fr)):¬ Zbo v k:=by
 intro ho
 obtain ⟨cur,hc⟩:=Zcg h k ho
 rw [hc] at hk
 simp at hk
 exact he hk.2.1
theorem Zah {w w':World} {B:Nat} {e:TypeId} {size n:Nat} {v:Value} {xs:List Value} (h:w.ownsRow B e size v n xs) (hk:∀ k,v.ownBlock=some k→w'.heap[k]?=w.heap[k]?):w'.ownsRow B e size v n xs:=by
 refine ⟨h.1,?_⟩
 rcases h.2 with hn | ⟨g,cap,cur,rfl,hb,hg,rest⟩
 ·exact .inl hn
 ·exact .inr ⟨g,cap,cur,rfl,hb,by rw [hk g rfl]; exact hg,rest⟩
theorem Zbb (a b:List UInt8):(⟨a.toArray⟩:ByteArray)++⟨b.toArray⟩=⟨(a++b).toArray⟩:=by
 apply ByteArray.ext
 simp [ByteArray.data_append]
theorem Zqg {a b:ByteArray} (h:a=b):Ending.returned (.string a) = .returned (.string b):=by rw [h]
theorem Zjj (n:Nat):(Lib.decDigits n).length≤n+1:=by
 induction n using Nat.strongRecOn with
 | ind n ih =>
  rw [Lib.decDigits]
  split
  ·simp
  ·have:=ih (n / 10) (by omega)
   simp only [Qg,Qf,Jt]
   omega
def Zek (n:Nat):List UInt8:=if n<26 then [UInt8.ofNat (65+n)] else UInt8.ofNat (65+n % 26)::Lib.decDigits (n / 26)
def IsT:Nat→List Sym→Prop
 | 0,_=>False
 | f+1,l=>(∃ n:Nat,l=[⟨[],n,0⟩])∨∃ (nm:List UInt8) (ls:List (List Sym)),nm≠[]∧l=⟨nm,0,ls.length⟩::ls.flatten∧∀ l' ∈ ls,IsT f l'
def wvar (n:Nat) (seen:List Nat):List UInt8 × List Nat:=if n ∈ seen then (Zek (seen.idxOf n),seen) else (Zek seen.length,seen++[n])
def Zyo (p:List Sym→List Nat→List UInt8 × List Nat × List Sym):Nat→UInt8→List Sym→List Nat→List UInt8 × List Nat × List Sym
 | 0,_,r,seen=>([],seen,r)
 | n+1,sep,r,seen=>(sep::((p r seen).1++(Zyo p n 44 (p r seen).2.2 (p r seen).2.1).1),(Zyo p n 44 (p r seen).2.2 (p r seen).2.1).2)
def Zcr:Nat→List Sym→List Nat→List UInt8 × List Nat × List Sym
 | 0,r,seen=>([],seen,r)
 | _+1,[],seen=>([],seen,[])
 | f+1,s::r,seen =>
  if s.name=[] then ((wvar s.num seen).1,(wvar s.num seen).2,r)
  else if s.args=0 then (s.name,seen,r)
  else (s.name++(Zyo (Zcr f) s.args 40 r seen).1++[41],(Zyo (Zcr f) s.args 40 r seen).2)
def Zfp (f:Nat):UInt8→List (List Sym)→List Nat→List UInt8 × List Nat
 | _,[],seen=>([],seen)
 | sep,l::ls,seen=>(sep::((Zcr f l seen).1++(Zfp f 44 ls (Zcr f l seen).2.1).1),(Zfp f 44 ls (Zcr f l seen).2.1).2)
theorem Zon (f:Nat) (hp:∀ l,IsT f l→∀ rest seen,Zcr f (l++rest) seen=((Zcr f l seen).1,(Zcr f l seen).2.1,rest)) :
  ∀ (ls:List (List Sym)),(∀ l' ∈ ls,IsT f l')→∀ sep rest seen,Zyo (Zcr f) ls.length sep (ls.flatten++rest) seen=((Zfp f sep ls seen).1,(Zfp f sep ls seen).2,rest):=by
 intro ls
 induction ls with
 | nil=>intro _ sep rest seen; rfl
 | cons l ls ih =>
  intro h sep rest seen
  have h1:=hp l (h l (by simp)) (ls.flatten++rest) seen
  have h2:=ih (fun l' hl=>h l' (by simp [hl])) 44 rest (Zcr f l seen).2.1
  simp only [Qf,List.flatten_cons,Qi,Zyo,Zfp]
  rw [h1]
  simp only
  rw [h2]
theorem Ybw:∀ (f:Nat) (l:List Sym),IsT f l→∀ rest seen,Zcr f (l++rest) seen=((Zcr f l seen).1,(Zcr f l seen).2.1,rest):=by
 intro f
 induction f with
 | zero=>intro l h; exact h.elim
 | succ f ih =>
  intro l h rest seen
  rcases h with ⟨n,rfl⟩ | ⟨nm,ls,h1,rfl,h2⟩
  ·simp [Zcr]
  ·have hw:=Zon f ih ls h2 40
   have hw1:=hw rest seen
   have hw2:=hw [] seen
   simp only [Qs] at hw2
   simp only [List.cons_append,Zcr,h1,if_false]
   cases ls with
   | nil=>simp
   | cons l ls =>
    rw [if_neg (by simp),if_neg (by simp)]
    rw [hw1,hw2]
theorem Zkw (f:Nat) (nm:List UInt8) (ls:List (List Sym)) (hn:nm≠[]) (h:∀ l' ∈ ls,IsT f l') (hl:ls≠[]) (seen:List Nat) :
  Zcr (f+1) (⟨nm,0,ls.length⟩::ls.flatten) seen=(nm++(Zfp f 40 ls seen).1++[41],(Zfp f 40 ls seen).2,[]):=by
 have hw2:=Zon f (Ybw f) ls h 40 [] seen
 simp only [Qs] at hw2
 simp only [Zcr,hn,if_false]
 rw [if_neg (by simp [hl]),hw2]
theorem Zoo (n:Nat) (h:n≤4000):(Zek n).length≤200:=by
 unfold Zek
 split
 ·simp
 ·have:=Zjj (n / 26)
  simp only [Qf]
  omega
theorem Yge (n:Nat) (seen:List Nat) (h:seen.length≤3999):(wvar n seen).1.length≤200∧(wvar n seen).2.length≤seen.length+1:=by
 unfold wvar
 split
 ·rename_i hm
  have:=List.idxOf_lt_length_of_mem hm
  exact ⟨Zoo _ (by omega),by simp⟩
 ·exact ⟨Zoo _ (by omega),by simp⟩
theorem Ybx (f:Nat) (hp:∀ l,IsT f l→(∀ s ∈ l,s.name.length≤4096)→∀ seen,seen.length+l.length≤4000→(Zcr f l seen).1.length+1≤4100 * l.length∧(Zcr f l seen).2.1.length≤seen.length+l.length) :
  ∀ (ls:List (List Sym)),(∀ l' ∈ ls,IsT f l')→(∀ s ∈ ls.flatten,s.name.length≤4096)→∀ sep seen,seen.length+ls.flatten.length≤4000→(Zfp f sep ls seen).1.length≤4100 * ls.flatten.length∧(Zfp f sep ls seen).2.length≤seen.length+ls.flatten.length:=by
 intro ls
 induction ls with
 | nil=>intro _ _ sep seen _; simp [Zfp]
 | cons l ls ih =>
  intro h hn sep seen hs
  simp only [List.flatten_cons,Qg] at hs
  have h1:=hp l (h l (by simp)) (fun s hs=>hn s (by simp [hs])) seen (by omega)
  have h2:=ih (fun l' hl=>h l' (by simp [hl])) (fun s hs=>hn s (by simp only [List.flatten_cons,Qk]; exact Or.inr hs)) 44 (Zcr f l seen).2.1 (by omega)
  simp only [Zfp,Qf,Qg,List.flatten_cons]
  omega
theorem Yby:∀ (f:Nat) (l:List Sym),IsT f l→0<l.length:=by
 intro f l h
 cases f with
 | zero=>exact h.elim
 | succ f=>rcases h with ⟨n,rfl⟩ | ⟨nm,ls,h1,rfl,h2⟩ <;> simp
theorem Zqh (f:Nat) (ls:List (List Sym)) (h:∀ l' ∈ ls,IsT f l'):ls.length≤ls.flatten.length:=by
 induction ls with
 | nil=>simp
 | cons l ls ih =>
  have h1:=Yby f l (h l (by simp))
  have h2:=ih (fun l' hl=>h l' (by simp [hl]))
  simp only [List.flatten_cons,Qg,Qf]
  omega
theorem Zrw:∀ (f:Nat) (l:List Sym),IsT f l→(∀ s ∈ l,s.name.length≤4096)→∀ seen,seen.length+l.length≤4000→(Zcr f l seen).1.length+1≤4100 * l.length∧(Zcr f l seen).2.1.length≤seen.length+l.length:=by
 intro f
 induction f with
 | zero=>intro l h; exact h.elim
 | succ f ih =>
  intro l h hn seen hs
  rcases h with ⟨n,rfl⟩ | ⟨nm,ls,h1,rfl,h2⟩
  ·have:=Yge n seen (by simp at hs; omega)
   simp [Zcr]
   omega
  ·have hnm:nm.length≤4096:=hn _ (List.mem_cons_self ..)
   by_cases hl:ls=[]
   ·subst hl
    simp [Zcr,h1]
    omega
   ·rw [Zkw f nm ls h1 h2 hl]
    simp only [Qf] at hs
    have h3:=Ybx f ih ls h2 (fun s hs=>hn s (List.mem_cons_of_mem _ hs)) 40 seen (by omega)
    have h4:=Zqh f ls h2
    simp only [Qg,Qf,Jt]
    omega
def Zcc (L:LookS) (kd tn:Nat):LookS :=
 if L.want≤2 then Zbj L kd tn else if L.want=5 then { L with err:=2 } else Zal L kd
def Zfy:List Tok→LookS→Nat × Nat
 | [],_=>(0,0)
 | t::ts,L =>
  if t.kind=4∧(L.want=5∨L.want=0) then (0,0)
  else if (Zcc L t.kind t.text.length).err≠0 then ((Zcc L t.kind t.text.length).err,t.pos)
  else Zfy ts (Zcc L t.kind t.text.length)
def Zdc (query:Bool):LookS:=⟨if query then 1 else 0,query,query,[],0,0,0,0⟩
theorem Kept.drewN {S:Nat→Prop} {a w:World} (h:Kept S a w) (n:Nat):Kept S a (w.drewN n):=⟨h.os,h.tape,h.output,h.size,h.block⟩
abbrev Ext (w w':World):Prop:=Below w.heap.size w w'
section inv
variable {P:Program} {ops:Array Oper} {Q:Exit→Act→World→Prop} {md:Region.Mode}
def unl (ops:Array Oper) (L:Array Bool):Nat:=((List.range ops.size).filter (fun i => !L.getD i true)).length
theorem Zrx {α:Type} {p q:α→Bool} {l:List α} (h:∀ x ∈ l,q x=true→p x=true) {x:α} (hx:x ∈ l) (hp:p x=true) (hq:q x=false):(l.filter q).length<(l.filter p).length:=by
 induction l with
 | nil=>simp at hx
 | cons y l ih =>
  have hle:(l.filter q).length≤(l.filter p).length:=by
   clear ih hx
   induction l with
   | nil=>simp
   | cons z l ih =>
    have h1:=h z (by simp)
    have h2:=ih (fun u hu=>h u (by
     rcases Qp.1 hu with rfl | hu
     ·simp
     ·simp [hu]))
    simp only [List.filter_cons]
    split
    ·rename_i hz
     rw [if_pos (h1 hz)]; simp; omega
    ·split <;> simp <;> omega
  simp only [List.filter_cons]
  rcases Qp.1 hx with rfl | hx
  ·rw [hp,hq]; simp; omega
  ·have:=ih (fun u hu=>h u (by simp [hu])) hx
   split
   ·rename_i hy
    rw [if_pos (h y (by simp) hy)]; simp; omega
   ·split <;> simp <;> omega
theorem Ybz {L:Array Bool} {i:Nat} (hi:i<ops.size) (hl:L.getD i true=false):unl ops (L.setIfInBounds i true)<unl ops L:=by
 have hil:i<L.size:=by
  rcases Nat.lt_or_ge i L.size with h | h
  ·exact h
  ·simp [Array.getElem?_eq_none h] at hl
 refine Zrx (x:=i) (fun j _ hj => ?_) (List.mem_range.2 hi) (by simp at hl ⊢; exact hl) (by simp [hil])
 by_cases e:i=j
 ·subst e; simp [hil] at hj
 ·rw [getD_set_ne true e] at hj; exact hj
theorem Zkc {J:Array Bool→Act→World→Prop} (hs:∀ L a w i,i ∈ Region.ready md ops L→J L a w→wpOp P ops Q i (J (L.setIfInBounds i true)) a w)
  (hf:∀ L a w,Region.ready md ops L=[]→J L a w→Q .normal a w):∀ (fuel:Nat) (L:Array Bool) (a:Act) (w:World),unl ops L≤fuel→J L a w→wpAny P md ops Q fuel L a w:=by
 intro fuel
 induction fuel with
 | zero =>
  intro L a w hu hJ
  have hr:Region.ready md ops L=[]:=by
   cases h:Region.ready md ops L with
   | nil=>rfl
   | cons i r =>
    have hi:i ∈ Region.ready md ops L:=by rw [h]; simp
    obtain ⟨h0,o,ho,_⟩:=mem_ready.1 hi
    have:=Ybz (ops:=ops) (Array.getElem?_eq_some_iff.1 ho).1 h0
    omega
  exact ⟨hr,hf L a w hr hJ⟩
 | succ fuel ih =>
  intro L a w hu hJ
  refine ⟨fun hr=>hf L a w hr hJ,fun i hi=>wpOp_mono (fun a' w' h=>ih _ a' w' ?_ h) (hs L a w i hi hJ)⟩
  obtain ⟨h0,o,ho,_⟩:=mem_ready.1 hi
  have:=Ybz (ops:=ops) (Array.getElem?_eq_some_iff.1 ho).1 h0
  omega
end inv
inductive Kd where
 | pur (c:Value)
 | post (g:Value→Value)
 | cal
 | alo (t:TypeId) (z:Array Value) (s:Nat) (cs:Value→Array Value)
 | sto (i:Nat)
def Kd.val (vc:Value) (β:Nat→Nat) (i:Nat):Kd→Value
 | .pur c=>c
 | .post g=>g vc
 | .cal=>vc
 | .alo .. => .pointer (some ⟨β i,0,none⟩)
 | .sto _=>undef
def pa (a0:Act) (vc:Value) (β:Nat→Nat) (lst:Nat→Bool):Nat→List Oper→List Kd→Act
 | _,[],_=>a0
 | _,_,[]=>a0
 | k,o::os,q::qs=>if lst k then (pa a0 vc β lst (k+1) os qs).put o.dst (q.val vc β k) else pa a0 vc β lst (k+1) os qs
abbrev paAll (a0:Act) (ops:List Oper) (kd:List Kd) (vc:Value) (β:Nat→Nat):Act:=pa a0 vc β (fun _=>true) 0 ops kd
def Zdv:Kd→Bool
 | .post _=>true
 | .sto _=>true
 | _=>false
def Zfh:Kd→Bool
 | .post _=>true
 | .cal=>true
 | _=>false
def Zcw (o:Oper) (j:Nat):Bool:=o.after.any fun e=>Region.binds .any e && e.on == j
def Zir (ops:List Oper) (kd:List Kd) (ic:Nat):Bool :=
 ops.length == kd.length &&
 (List.range ops.length).all fun i=>match ops[i]?,kd[i]? with
  | some o,some q =>
   o.guard.isNone && (match o.op with | .select .. => false | _=>true) &&
   (o.after.all fun e => !Region.binds .any e || e.on<i) &&
   ((List.range ops.length).all fun j=>match ops[j]? with
    | some p=>match p.dst with
     | some d=>((j == i) || (o.dst != some d)) && (!(o.looksAt ops.toArray).contains d || Zcw o j)
     | none=>true
    | none=>true) &&
   (match q with
    | .pur _=>true
    | .cal=>i == ic
    | .post _=>(List.range i).any fun j=>Zcw o j && (match kd[j]? with | some r=>Zfh r | none=>false)
    | .alo _ _ s _=>match kd[s]? with | some (.sto k)=>k == i | _=>false
    | .sto k=>o.dst.isNone && Zcw o k && ((List.range i).any fun j=>Zcw o j && (match kd[j]? with | some r=>Zfh r | none=>false)) && (match kd[k]? with | some (.alo _ _ s _)=>s == i | _=>false))
  | _,_=>false
theorem Zet {a0:Act} {vc vc':Value} {β β':Nat→Nat} {lst lst':Nat→Bool}:∀ {ops:List Oper} {kd:List Kd} {k:Nat},(∀ j q,kd[j]?=some q→lst (k+j)=lst' (k+j)∧(lst (k+j)=true→q.val vc β (k+j)=q.val vc' β' (k+j))) →
  pa a0 vc β lst k ops kd=pa a0 vc' β' lst' k ops kd:=by
 intro ops
 induction ops with
 | nil=>intro kd k _; simp [pa]
 | cons o os ih =>
  intro kd k h
  cases kd with
  | nil=>simp [pa]
  | cons q qs =>
   have h0:=h 0 q rfl
   simp only [Nat.add_zero] at h0
   have ih':=ih (kd:=qs) (k:=k+1) (fun j r hr=>by
    have:=h (j+1) r (by simpa using hr)
    have e:k+1+j=k+(j+1):=by omega
    rw [e]; exact this)
   rw [pa,pa,ih',← h0.1]
   split
   ·rename_i hk; rw [h0.2 hk]
   ·rfl
theorem Zup {a0:Act} {vc:Value} {β:Nat→Nat} {lst:Nat→Bool} {x:Operand}:∀ {ops:List Oper} {kd:List Kd} {k:Nat},(∀ j o,ops[j]?=some o→lst (k+j)=false→∀ d,o.dst=some d→x ≠ .tmp d) →
  (pa a0 vc β lst k ops kd).eval x=(pa a0 vc β (fun _=>true) k ops kd).eval x:=by
 intro ops
 induction ops with
 | nil=>intro kd k _; simp [pa]
 | cons o os ih =>
  intro kd k h
  cases kd with
  | nil=>simp [pa]
  | cons q qs =>
   have ih':=ih (kd:=qs) (k:=k+1) (fun j r hr hl=>by
    have e:k+1+j=k+(j+1):=by omega
    rw [e] at hl
    exact h (j+1) r (by simpa using hr) hl)
   rw [pa,pa]
   simp only [if_true]
   by_cases hx:∃ d,o.dst=some d∧x = .tmp d
   ·obtain ⟨d,hd,rfl⟩:=hx
    cases hk:lst k
    ·exact absurd rfl (h 0 o rfl hk d hd)
    ·simp only [if_true]
     rw [hd]
     have hsz:∀ (lst':Nat→Bool) (k':Nat) (os':List Oper) (qs':List Kd),(pa a0 vc β lst' k' os' qs').tmps.size=a0.tmps.size:=by
      intro lst' k' os'
      induction os' generalizing k' with
      | nil=>intro qs'; simp [pa]
      | cons o' os' ih2 =>
       intro qs'
       cases qs' with
       | nil=>simp [pa]
       | cons q' qs' =>
        rw [pa]
        split
        ·cases o'.dst <;> simp [Act.put,ih2]
        ·exact ih2 _ _
     simp only [Act.eval,Act.put,Array.getD_eq_getD_getElem?]
     rcases Nat.lt_or_ge d a0.tmps.size with hd' | hd'
     ·rw [Array.getElem?_setIfInBounds_self_of_lt (by rw [hsz]; exact hd'),Array.getElem?_setIfInBounds_self_of_lt (by rw [hsz]; exact hd')]
     ·rw [Array.getElem?_eq_none (by simp [hsz]; omega),Array.getElem?_eq_none (by simp [hsz]; omega)]
   ·have hne:∀ d,o.dst=some d→x ≠ .tmp d:=fun d hd e=>hx ⟨d,hd,e⟩
    rw [Act.eval_put hne]
    split
    ·rw [Act.eval_put hne]; exact ih'
    ·exact ih'
theorem Zwv {a0:Act} {vc:Value} {β:Nat→Nat} {lst:Nat→Bool}:∀ {ops:List Oper} {kd:List Kd} {k i:Nat} {o:Oper} {q:Kd},ops[i]?=some o→kd[i]?=some q→lst (k+i)=false →
  (∀ j p d,ops[j]?=some p→p.dst=some d→j=i∨o.dst≠some d)→pa a0 vc β (fun j=>lst j || j == k+i) k ops kd=(pa a0 vc β lst k ops kd).put o.dst (q.val vc β (k+i)):=by
 intro ops
 induction ops with
 | nil=>intro kd k i o q h; simp at h
 | cons p os ih =>
  intro kd k i o q ho hq hl hd
  cases kd with
  | nil=>simp at hq
  | cons r qs =>
   cases i with
   | zero =>
    simp at ho hq
    subst ho hq
    simp only [Nat.add_zero] at hl ⊢
    rw [pa,pa]
    simp only [hl,Bool.false_or,BEq.rfl,if_true,Bool.false_eq_true,if_false]
    congr 1
    refine Zet (fun j s hs=>⟨?_,fun _=>rfl⟩)
    have:(k+1+j == k)=false:=by rw [Qu]; omega
    simp [this]
   | succ i =>
    have e:k+(i+1)=k+1+i:=by omega
    have ih':=ih (kd:=qs) (k:=k+1) (i:=i) (o:=o) (q:=q) (by simpa using ho) (by simpa using hq) (by rw [← e]; exact hl) (fun j p' d hp hd'=>by
     rcases hd (j+1) p' d (by simpa using hp) hd' with h | h
     ·exact Or.inl (by omega)
     ·exact Or.inr h)
    rw [e]
    rw [pa,pa,ih']
    have hk:(k == k+1+i)=false:=by rw [Qu]; omega
    simp only [hk,Bool.or_false]
    split
    ·refine Act.put_comm _ _ _ (fun d hd' e' => ?_)
     rcases hd 0 p d rfl e' with h | h
     ·omega
     ·exact h hd'
    ·rfl
def Ob (P:Program) (kd:List Kd) (w0:World) (FA:Value→(Nat→Nat)→Act) (R:(Nat→Prop)→Value→World→Prop) (f:FuncId) (args:Array Value) (o:Oper):Kd→Prop
 | .pur c=>∀ vc β w,Ext w0 w→(execOp (FA vc β).eval o).run P w = .ok (.value c) w
 | .post g=>∀ vc β X w,R X vc w→(execOp (FA vc β).eval o).run P w = .ok (.value (g vc)) w
 | .cal=>∀ vc β w,(execOp (FA vc β).eval o).run P w = .ok (.enter f args) w
 | .alo t z _ _=>∀ vc β w,(execOp (FA vc β).eval o).run P w = .ok (.value (.pointer (some ⟨w.heap.size,0,none⟩))) (w.alloc (.cells z t))
 | .sto i=>∀ vc β X w t z s cs,kd[i]?=some (.alo t z s cs)→R X vc w→w.heap[β i]?=some (.cells z t (0,0)) →
   ∃ w',(execOp (FA vc β).eval o).run P w = .ok .skip w'∧w'.heap[β i]?=some (.cells (cs vc) t (0,0))∧Kept (fun k=>k=β i) w w'
def AllOb (P:Program) (kd:List Kd) (w0:World) (FA:Value→(Nat→Nat)→Act) (R:(Nat→Prop)→Value→World→Prop) (f:FuncId) (args:Array Value):List Oper→List Kd→Prop
 | o::os,q::qs=>Ob P kd w0 FA R f args o q∧AllOb P kd w0 FA R f args os qs
 | _,_=>True
theorem AllOb.at {P:Program} {kd:List Kd} {w0:World} {FA:Value→(Nat→Nat)→Act} {R:(Nat→Prop)→Value→World→Prop} {f:FuncId} {args:Array Value}:∀ {ops:List Oper} {ks:List Kd},AllOb P kd w0 FA R f args ops ks →
  ∀ {i:Nat} {o:Oper} {q:Kd},ops[i]?=some o→ks[i]?=some q→Ob P kd w0 FA R f args o q:=by
 intro ops
 induction ops with
 | nil=>intro ks _ i o q h; simp at h
 | cons p os ih =>
  intro ks h i o q ho hq
  cases ks with
  | nil=>simp at hq
  | cons r qs =>
   cases i with
   | zero=>simp at ho hq; subst ho hq; exact h.1
   | succ i=>exact ih h.2 (by simpa using ho) (by simpa using hq)
def Zis (kd:List Kd) (β:Nat→Nat) (lst:Nat→Bool):Nat→Prop:=fun k=>∃ i t z s cs,kd[i]?=some (.alo t z s cs)∧lst i=true∧k=β i
structure Plan (P:Program) (ops:List Oper) (kd:List Kd) (ic:Nat) (a0:Act) (w0:World) (R:(Nat→Prop)→Value→World→Prop) (L:Array Bool) (a:Act) (w:World):Prop where
 size:L.size=ops.length
 ext:Ext w0 w
 st:∃ vc β,a=pa a0 vc β (fun j=>L.getD j false) 0 ops kd∧(L.getD ic false=true→R (Zis kd β (fun j=>L.getD j false)) vc w) ∧
  (∀ (i:Nat) q,kd[i]?=some q→L.getD i false=true→Zdv q=true→L.getD ic false=true) ∧
  (∀ (i:Nat) t z s cs,kd[i]?=some (.alo t z s cs)→L.getD i false=true→w0.heap.size≤β i∧w.heap[β i]?=some (.cells (if L.getD s false then cs vc else z) t (0,0))) ∧
  (∀ (i j:Nat) t z s cs t' z' s' cs',kd[i]?=some (.alo t z s cs)→kd[j]?=some (.alo t' z' s' cs')→L.getD i false=true→L.getD j false=true→i≠j→β i≠β j) ∧
  (∀ (i k:Nat),kd[i]?=some (.sto k)→L.getD i false=true→L.getD k false=true)
theorem Zhm {L:Array Bool} {i:Nat} (hi:i<L.size) (j:Nat):(L.setIfInBounds i true).getD j false=(L.getD j false || j == i):=by
 by_cases e:i=j
 ·subst e; simp [hi]
 ·rw [getD_set_ne false e]
  have:(j == i)=false:=by rw [Qu]; omega
  simp [this]
structure FitsAt (ops:List Oper) (kd:List Kd) (ic i:Nat) (o:Oper) (q:Kd):Prop where
 gd:o.guard=none
 sel:∀ cs b,o.op ≠ .select cs b
 low:∀ e ∈ o.after,Region.binds .any e=true→e.on<i
 dst:∀ j p d,ops[j]?=some p→p.dst=some d→j=i∨o.dst≠some d
 look:∀ j p d,ops[j]?=some p→p.dst=some d→d ∈ o.looksAt ops.toArray→Zcw o j=true
 cal:q = .cal→i=ic
 post:Zdv q=true→∃ j r,Zcw o j=true∧kd[j]?=some r∧Zfh r=true
 alo:∀ t z s cs,q = .alo t z s cs→kd[s]?=some (.sto i)
 sto:∀ k,q = .sto k→o.dst=none∧Zcw o k=true∧∃ t z cs,kd[k]?=some (.alo t z i cs)
theorem Zqi {ops:List Oper} {kd:List Kd} {ic:Nat} (h:Zir ops kd ic=true) {i:Nat} {o:Oper} (ho:ops[i]?=some o):∃ q,kd[i]?=some q∧FitsAt ops kd ic i o q:=by
 unfold Zir at h
 simp only [Bool.and_eq_true,List.all_eq_true,List.mem_range,beq_iff_eq] at h
 obtain ⟨hl,h⟩:=h
 have hi:=(Qa.1 ho).1
 have h:=h i hi
 rw [ho] at h
 cases hq:kd[i]? with
 | none=>rw [hq] at h; simp at h
 | some q =>
  rw [hq] at h
  simp only [Bool.and_eq_true,List.all_eq_true,List.mem_range] at h
  obtain ⟨⟨⟨⟨h1,h2⟩,h3⟩,h4⟩,h5⟩:=h
  refine ⟨q,rfl,?_,?_,?_,?_,?_,?_,?_,?_,?_⟩
  ·simpa using h1
  ·intro cs b e; rw [e] at h2; simp at h2
  ·intro e he hb
   have:=Array.all_eq_true_iff_forall_mem.1 h3 e he
   simpa [hb] using this
  ·intro j p d hp hd
   have:=h4 j (Qa.1 hp).1
   rw [hp] at this
   simp only [hd,Bool.and_eq_true,Bool.or_eq_true,beq_iff_eq,bne_iff_ne] at this
   exact this.1
  ·intro j p d hp hd hm
   have:=h4 j (Qa.1 hp).1
   rw [hp] at this
   simp only [hd,Bool.and_eq_true,Bool.or_eq_true,beq_iff_eq,bne_iff_ne] at this
   rcases this.2 with h | h
   ·simp [hm] at h
   ·exact h
  ·intro e; subst e; simpa using h5
  ·intro hp
   cases q with
   | post g =>
    simp only [List.any_eq_true,List.mem_range,Bool.and_eq_true] at h5
    obtain ⟨j,_,h6,h7⟩:=h5
    cases hr:kd[j]? with
    | none=>rw [hr] at h7; simp at h7
    | some r=>rw [hr] at h7; exact ⟨j,r,h6,hr,h7⟩
   | sto k =>
    simp only [List.any_eq_true,List.mem_range,Bool.and_eq_true] at h5
    obtain ⟨⟨_,j,_,h6,h7⟩,_⟩:=h5
    cases hr:kd[j]? with
    | none=>rw [hr] at h7; simp at h7
    | some r=>rw [hr] at h7; exact ⟨j,r,h6,hr,h7⟩
   | _=>simp [Zdv] at hp
  ·intro t z s cs e
   subst e
   simp only at h5
   split at h5
   ·rename_i k hk; simp at h5; subst h5; exact hk
   ·simp at h5
  ·intro k e
   subst e
   simp only [List.any_eq_true,List.mem_range,Bool.and_eq_true] at h5
   obtain ⟨⟨⟨h6,h7⟩,_⟩,h8⟩:=h5
   refine ⟨by simpa using h6,h7,?_⟩
   split at h8
   ·rename_i t z s cs hk; simp at h8; subst h8; exact ⟨t,z,cs,hk⟩
   ·simp at h8
theorem Zbq {ops:List Oper} {L:Array Bool} {i j:Nat} {o:Oper} (hr:i ∈ Region.ready .any ops.toArray L) (ho:ops[i]?=some o) (hw:Zcw o j=true):L.getD j false=true:=by
 obtain ⟨_,o',ho',h⟩:=mem_ready.1 hr
 have:o'=o:=by simpa [ho] using ho'.symm
 subst this
 obtain ⟨e,he,hb⟩:=Array.any_eq_true'.1 hw
 simp only [Bool.and_eq_true,beq_iff_eq] at hb
 rw [← hb.2]
 exact h e he hb.1
theorem Zyp {ops:List Oper} {kd:List Kd} {ic:Nat} (hfit:Zir ops kd ic=true) {L:Array Bool} (hs:L.size=ops.length) (hr:Region.ready .any ops.toArray L=[]):∀ i,i<ops.length→L.getD i false=true:=by
 intro i
 induction i using Nat.strongRecOn with
 | _ i ih =>
  intro hi
  cases hl:L.getD i false with
  | true=>rfl
  | false =>
   exfalso
   have ho:ops[i]?=some ops[i]:=Qb hi
   obtain ⟨q,hq,hF⟩:=Zqi hfit ho
   have:i ∈ Region.ready .any ops.toArray L:=by
    refine mem_ready.2 ⟨?_,ops[i],by simp,fun e he hb=>ih e.on (hF.low e he hb) (by have:=hF.low e he hb; omega)⟩
    have hi':i<L.size:=by omega
    simp [hi'] at hl ⊢
    exact hl
   rw [hr] at this
   simp at this
theorem Zry {P:Program} {ops:List Oper} {id:Nat} {Q:Exit→Act→World→Prop} {a0:Act} {w:World} (hm:P.follows .mixedOrders=true) (kd:List Kd) (ic:Nat) (hfit:Zir ops kd ic=true)
  (R:(Nat→Prop)→Value→World→Prop) (f:FuncId) (args:Array Value)
  (hR:∀ X X' v u u',R X v u→(∀ k,k<u.heap.size→¬ X k→u'.heap[k]?=u.heap[k]?)→u.heap.size≤u'.heap.size→(∀ k,k<u.heap.size→X' k→X k)→R X' v u')
  (hC:∀ X u,Ext w.drew u→(∀ k,X k→w.heap.size≤k∧k<u.heap.size∧∃ (i:Nat) (t:TypeId) (z:Array Value) (s:Nat) (cs:Value→Array Value) (cl:Array Value),kd[i]?=some (.alo t z s cs)∧u.heap[k]?=some (.cells cl t (0,0)))→Calls P f args u (fun e u'=>∃ v,e = .returned v∧Ext u u'∧R X v u'))
  (hob:AllOb P kd w.drew (paAll a0 ops kd) R f args ops kd)
  (hcal:kd[ic]?=some .cal) (hil:ic<ops.length)
  (hQ:∀ vc β u,Ext w.drew u→R (Zis kd β (fun _=>true)) vc u→(∀ (i:Nat) t z s cs,kd[i]?=some (.alo t z s cs)→w.heap.size≤β i∧u.heap[β i]?=some (.cells (cs vc) t (0,0))) →
   (∀ (i j:Nat) t z s cs t' z' s' cs',kd[i]?=some (.alo t z s cs)→kd[j]?=some (.alo t' z' s' cs')→i≠j→β i≠β j)→Q .normal (paAll a0 ops kd vc β) u) :
  (Code.region id ops.toArray true).wp P Q a0 w:=by
 have hlen:ops.length=kd.length:=by
  unfold Zir at hfit
  simp only [Bool.and_eq_true,beq_iff_eq] at hfit
  exact hfit.1
 refine wp_region_any hm (Zkc (J:=Plan P ops kd ic a0 w.drew R) ?_ ?_ _ _ _ _ ?_ ?_)
 ·intro L a u i hr hJ
  obtain ⟨hsz,hext,vc,β,rfl,hcR,hpost,hbox,hdist,hsto⟩:=hJ
  obtain ⟨h0,o,ho',_⟩:=mem_ready.1 hr
  have ho:ops[i]?=some o:=by simpa using ho'
  have hi:i<ops.length:=(Qa.1 ho).1
  have hil:i<L.size:=by omega
  have hun:L.getD i false=false:=by simp [hil] at h0 ⊢; exact h0
  obtain ⟨q,hq,hF⟩:=Zqi hfit ho
  have hOb:=hob.at ho hq
  have hexec:execOp (pa a0 vc β (fun j=>L.getD j false) 0 ops kd).eval o=execOp (paAll a0 ops kd vc β).eval o:=by
   refine execOp_congr o hF.sel (fun x hx=>Zup (fun j p hp hl d hd e => ?_))
   subst e
   have hw:=hF.look j p d hp hd (List.mem_append_left _ (List.mem_filterMap.2 ⟨.tmp d,by simpa using hx,rfl⟩))
   have:=Zbq hr ho hw
   simp only [Nat.zero_add] at hl
   rw [hl] at this
   simp at this
  have hwant:Region.wanted o (yielded ops.toArray (pa a0 vc β (fun j=>L.getD j false) 0 ops kd).tmps)=true:=by simp [Region.wanted,hF.gd]
  have hL:=Zhm hil
  have hput:∀ vc' β',(∀ j r,kd[j]?=some r→L.getD j false=true→r.val vc β j=r.val vc' β' j) →
    (pa a0 vc β (fun j=>L.getD j false) 0 ops kd).put o.dst (q.val vc' β' i)=pa a0 vc' β' (fun j=>(L.setIfInBounds i true).getD j false) 0 ops kd:=by
   intro vc' β' hv
   have e1:pa a0 vc β (fun j=>L.getD j false) 0 ops kd=pa a0 vc' β' (fun j=>L.getD j false) 0 ops kd:=Zet (fun j r hr'=>by
    simp only [Nat.zero_add]
    exact ⟨trivial,fun hl=>hv j r hr' hl⟩)
   rw [e1]
   have e2:=Zwv (a0:=a0) (vc:=vc') (β:=β') (lst:=fun j=>L.getD j false) (k:=0) ho hq (by simpa using hun) hF.dst
   simp only [Nat.zero_add] at e2
   rw [← e2]
   exact Zet (fun j r hr'=>⟨by simp only [Nat.zero_add,hL],fun _=>rfl⟩)
  have hicn:∀ r,kd[ic]?=some r→r = .cal:=fun r h=>by rw [hcal] at h; exact (Option.some.inj h).symm
  have hold:∀ j,L.getD j false=true→(L.setIfInBounds i true).getD j false=true:=fun j h=>by rw [hL,h]; rfl
  have hnew:∀ j,j≠i→(L.setIfInBounds i true).getD j false=L.getD j false:=fun j h=>by
   rw [hL]
   have:(j == i)=false:=by rw [Qu]; exact h
   simp [this]
  unfold wpOp
  simp only [ho']
  rw [if_pos hwant]
  refine Or.inl ?_
  unfold Oper.wp
  rw [hexec]
  have hpl:∀ (i':Nat) q',kd[i']?=some q'→(L.setIfInBounds i true).getD i' false=true→Zdv q'=true→i'≠i→(L.setIfInBounds i true).getD ic false=true:=fun i' q' h1 h2 h3 hne =>
   hold _ (hpost i' q' h1 (by rw [hnew i' hne] at h2; exact h2) h3)
  have hkat:∀ {i':Nat} {q':Kd},kd[i']?=some q'→∃ o',FitsAt ops kd ic i' o' q':=fun {i' q'} h1=>by
   obtain ⟨q2,hq2,hF2⟩:=Zqi hfit (Qb (l:=ops) (i:=i') (by have:=(Qa.1 h1).1; omega))
   rw [h1] at hq2; simp at hq2; subst hq2
   exact ⟨_,hF2⟩
  have hne:∀ {i':Nat} {q':Kd},kd[i']?=some q'→q'≠q→i'≠i:=fun {i' q'} h1 h2 e=>by
   subst e; rw [hq] at h1; exact h2 (Option.some.inj h1).symm
  have hvars:(∀ t z s cs,q ≠ .alo t z s cs)→∀ k,Zis kd β (fun j=>(L.setIfInBounds i true).getD j false) k→Zis kd β (fun j=>L.getD j false) k:=by
   rintro hna k ⟨i',t,z,s,cs,h1,h2,rfl⟩
   have:i'≠i:=hne h1 (fun e=>hna t z s cs e.symm)
   exact ⟨i',t,z,s,cs,h1,(hnew i' this).symm.trans h2,rfl⟩
  have hdist':(∀ t z s cs,q ≠ .alo t z s cs)→∀ (i' j':Nat) t z s cs t' z' s' cs',kd[i']?=some (.alo t z s cs)→kd[j']?=some (.alo t' z' s' cs')→(L.setIfInBounds i true).getD i' false=true→(L.setIfInBounds i true).getD j' false=true→i'≠j'→β i'≠β j':=by
   intro hna i' j' t z s cs t' z' s' cs' h1 h2 h3 h4
   rw [hnew i' (hne h1 (fun e=>hna _ _ _ _ e.symm))] at h3
   rw [hnew j' (hne h2 (fun e=>hna _ _ _ _ e.symm))] at h4
   exact hdist i' j' t z s cs t' z' s' cs' h1 h2 h3 h4
  have hbox':(∀ t z s cs,q ≠ .alo t z s cs)→(∀ k,q ≠ .sto k)→∀ (i':Nat) t z s cs,kd[i']?=some (.alo t z s cs)→(L.setIfInBounds i true).getD i' false=true→w.drew.heap.size≤β i'∧u.heap[β i']?=some (.cells (if (L.setIfInBounds i true).getD s false then cs vc else z) t (0,0)):=by
   intro hna hns i' t z s cs h1 h2
   obtain ⟨o',hF'⟩:=hkat h1
   have hs:s≠i:=hne (hF'.alo t z s cs rfl) (fun e=>hns _ e.symm)
   rw [hnew s hs]
   exact hbox i' t z s cs h1 ((hnew i' (hne h1 (fun e=>hna _ _ _ _ e.symm))).symm.trans h2)
  have hsto':(∀ k,q ≠ .sto k)→∀ (i' k:Nat),kd[i']?=some (.sto k)→(L.setIfInBounds i true).getD i' false=true→(L.setIfInBounds i true).getD k false=true:=fun hns i' k h1 h2 =>
   hold _ (hsto i' k h1 ((hnew i' (hne h1 (fun e=>hns _ e.symm))).symm.trans h2))
  have hpost':Zdv q=false→∀ (i':Nat) q',kd[i']?=some q'→(L.setIfInBounds i true).getD i' false=true→Zdv q'=true→(L.setIfInBounds i true).getD ic false=true:=fun hp i' q' h1 h2 h3 =>
   hpl i' q' h1 h2 h3 (hne h1 (fun e=>by rw [e,hp] at h3; simp at h3))
  have hcl:Zdv q=true→L.getD ic false=true:=fun hp=>by
   obtain ⟨j,r,h1,h2,h3⟩:=hF.post hp
   have hj:=Zbq hr ho h1
   cases r with
   | post g=>exact hpost j _ h2 hj rfl
   | cal =>
    obtain ⟨o',hF'⟩:=hkat h2
    have:=hF'.cal rfl
    rw [← this]; exact hj
   | _=>simp [Zfh] at h3
  cases q with
  | pur c =>
   rw [hOb vc β u hext]
   have hic:ic≠i:=hne hcal (by simp)
   refine ⟨by simpa using hsz,hext,vc,β,hput vc β (fun _ _ _ _=>rfl),?_,hpost' rfl,hbox' (by simp) (by simp),hdist' (by simp),hsto' (by simp)⟩
   intro h
   rw [hnew ic hic] at h
   exact hR _ _ vc u u (hcR h) (fun _ _ _=>rfl) (Qe _) (fun k _=>hvars (by simp) k)
  | post g =>
   have hic:=hcl rfl
   rw [hOb vc β _ u (hcR hic)]
   refine ⟨by simpa using hsz,hext,vc,β,hput vc β (fun _ _ _ _=>rfl),?_,fun i' q' _ _ _=>hold _ hic,hbox' (by simp) (by simp),hdist' (by simp),hsto' (by simp)⟩
   intro h
   exact hR _ _ vc u u (hcR hic) (fun _ _ _=>rfl) (Qe _) (fun k _=>hvars (by simp) k)
  | cal =>
   have hie:=hF.cal rfl
   rw [hOb vc β u]
   refine (hC (Zis kd β (fun j=>L.getD j false)) u hext ?_).mono ?_
   ·rintro k ⟨i',t,z,s,cs,h1,h2,rfl⟩
    have:=hbox i' t z s cs h1 h2
    exact ⟨this.1,(Array.getElem?_eq_some_iff.1 this.2).1,i',t,z,s,cs,_,h1,this.2⟩
   ·rintro e u' ⟨v,rfl,he,hr'⟩
    refine ⟨by simpa using hsz,hext.trans (he.mono hext.size),v,β,hput v β ?_,?_,?_,?_,hdist' (by simp),hsto' (by simp)⟩
    ·intro j r h1 h2
     cases r with
     | post g =>
      have:=hpost j _ h1 h2 rfl
      rw [← hie,hun] at this; simp at this
     | cal =>
      obtain ⟨o',hF'⟩:=hkat h1
      have:=hF'.cal rfl
      rw [this,← hie,hun] at h2; simp at h2
     | _=>rfl
    ·intro _
     exact hR _ _ v u' u' hr' (fun _ _ _=>rfl) (Qe _) (fun k _=>hvars (by simp) k)
    ·intro i' q' _ _ _
     rw [← hie,hL]; simp
    ·intro i' t z s cs h1 h2
     have hi':=hne h1 (by simp)
     have hb:=hbox i' t z s cs h1 ((hnew i' hi').symm.trans h2)
     refine ⟨hb.1,(he.block _ (Array.getElem?_eq_some_iff.1 hb.2).1).trans ?_⟩
     obtain ⟨o',hF'⟩:=hkat h1
     have hks:=hF'.alo t z s cs rfl
     have hs:s≠i:=hne hks (by simp)
     have hsl:L.getD s false=false:=by
      cases hsl:L.getD s false with
      | false=>rfl
      | true =>
       have:=hpost s _ hks hsl rfl
       rw [← hie,hun] at this; simp at this
     rw [hnew s hs,hsl]
     rw [hsl] at hb
     exact hb.2
  | alo t z s cs =>
   have hic:ic≠i:=hne hcal (by simp)
   rw [hOb vc β u]
   have hkat':=hF.alo t z s cs rfl
   have hs:s≠i:=hne hkat' (by simp)
   have hsl:L.getD s false=false:=by
    cases hsl:L.getD s false with
    | false=>rfl
    | true =>
     have:=hsto s i hkat' hsl
     rw [hun] at this; simp at this
   have hβ:∀ j,j≠i→(fun j=>if j=i then u.heap.size else β j) j=β j:=fun j h=>by simp [h]
   have hβi:(fun j=>if j=i then u.heap.size else β j) i=u.heap.size:=by simp
   have hp:=hput vc (fun j=>if j=i then u.heap.size else β j) (fun j r h1 h2=>by
    have hj:j≠i:=fun e=>by rw [e,hun] at h2; simp at h2
    cases r with
    | alo=>simp only [Kd.val]; rw [if_neg hj]
    | _=>rfl)
   simp only [Kd.val,if_true] at hp
   have hlt:∀ (i':Nat) t z s cs,kd[i']?=some (.alo t z s cs)→L.getD i' false=true→β i'<u.heap.size:=fun i' t z s cs h1 h2=>(Array.getElem?_eq_some_iff.1 (hbox i' t z s cs h1 h2).2).1
   refine ⟨by simpa using hsz,hext.alloc hext.size _,vc,(fun j=>if j=i then u.heap.size else β j),hp,?_,?_,?_,?_,hsto' (by simp)⟩
   ·intro h
    rw [hnew ic hic] at h
    refine hR _ _ vc u _ (hcR h) (fun k hk _=>Below.heap_alloc _ _ _ hk) (by simp) ?_
    rintro k hk ⟨i',t,z,s,cs,h1,h2,rfl⟩
    by_cases e:i'=i
    ·subst e; simp at hk
    ·rw [hβ i' e]
     exact ⟨i',t,z,s,cs,h1,(hnew i' e).symm.trans h2,rfl⟩
   ·exact hpost' rfl
   ·intro i' t' z' s' cs' h1 h2
    by_cases e:i'=i
    ·subst e
     rw [hq] at h1
     simp only [Qo,Kd.alo.injEq] at h1
     obtain ⟨rfl,rfl,rfl,rfl⟩:=h1
     rw [hβi,hnew s hs,hsl]
     exact ⟨hext.size,heap_alloc_new u _⟩
    ·rw [hβ i' e]
     have hl':=(hnew i' e).symm.trans h2
     have hb:=hbox i' t' z' s' cs' h1 hl'
     have hs':s'≠i:=by
      obtain ⟨o',hF'⟩:=hkat h1
      exact hne (hF'.alo t' z' s' cs' rfl) (by simp)
     rw [hnew s' hs']
     exact ⟨hb.1,(Below.heap_alloc _ _ _ (hlt i' t' z' s' cs' h1 hl')).trans hb.2⟩
   ·intro i' j' t' z' s' cs' t'' z'' s'' cs'' h1 h2 h3 h4 hij
    by_cases e:i'=i
    ·have e':j'≠i:=fun h=>hij (e.trans h.symm)
     rw [e,hβi,hβ j' e']
     have:=hlt j' _ _ _ _ h2 ((hnew j' e').symm.trans h4)
     omega
    ·rw [hβ i' e]
     by_cases e':j'=i
     ·rw [e',hβi]
      have:=hlt i' _ _ _ _ h1 ((hnew i' e).symm.trans h3)
      omega
     ·rw [hβ j' e']
      exact hdist i' j' _ _ _ _ _ _ _ _ h1 h2 ((hnew i' e).symm.trans h3) ((hnew j' e').symm.trans h4) hij
  | sto k =>
   have hic:=hcl rfl
   obtain ⟨hdn,hwk,t,z,cs,hkk⟩:=hF.sto k rfl
   have hkl:=Zbq hr ho hwk
   have hbk:=hbox k t z i cs hkk hkl
   rw [hun] at hbk
   obtain ⟨w',hrun,hnewb,hkept⟩:=hOb vc β _ u t z i cs hkk (hcR hic) hbk.2
   rw [hrun]
   have hki:k≠i:=hne hkk (by simp)
   refine ⟨by simpa using hsz,hext.trans (hkept.below hext.size (fun j e=>by rw [e]; exact hbk.1)),vc,β,hput vc β (fun _ _ _ _=>rfl),?_,fun i' q' _ _ _=>hold _ hic,?_,hdist' (by simp),?_⟩
   ·intro _
    refine hR _ _ vc u w' (hcR hic) (fun j hj hn=>hkept.block j hj (fun e=>hn ⟨k,t,z,i,cs,hkk,hkl,e⟩)) hkept.size (fun j _=>hvars (by simp) j)
   ·intro i' t' z' s' cs' h1 h2
    have e:i'≠i:=hne h1 (by simp)
    have hl':=(hnew i' e).symm.trans h2
    by_cases ek:i'=k
    ·subst ek
     rw [hkk] at h1
     simp only [Qo,Kd.alo.injEq] at h1
     obtain ⟨rfl,rfl,rfl,rfl⟩:=h1
     rw [hL]
     simp only [BEq.rfl,Bool.or_true,if_true]
     exact ⟨hbk.1,hnewb⟩
    ·have hb:=hbox i' t' z' s' cs' h1 hl'
     have hs':s'≠i:=fun e'=>by
      obtain ⟨o',hF'⟩:=hkat h1
      have:=hF'.alo t' z' s' cs' rfl
      rw [e',hq] at this
      simp at this
      exact ek this.symm
     rw [hnew s' hs']
     exact ⟨hb.1,(hkept.block _ (Array.getElem?_eq_some_iff.1 hb.2).1 (hdist i' k _ _ _ _ _ _ _ _ h1 hkk hl' hkl ek)).trans hb.2⟩
   ·intro i' k' h1 h2
    by_cases e:i'=i
    ·subst e
     rw [hq] at h1
     simp at h1
     subst h1
     exact hold _ hkl
    ·exact hold _ (hsto i' k' h1 ((hnew i' e).symm.trans h2))
 ·intro L a u hr hJ
  obtain ⟨hsz,hext,vc,β,rfl,hcR,hpost,hbox,hdist,hsto⟩:=hJ
  have hall:=Zyp hfit hsz hr
  have e:pa a0 vc β (fun j=>L.getD j false) 0 ops kd=paAll a0 ops kd vc β:=Zet (fun j r hr'=>⟨by
   simp only [Nat.zero_add]
   exact hall j (by have:=(Qa.1 hr').1; omega),fun _=>rfl⟩)
  rw [e]
  have hk:∀ (i:Nat) t z s cs,kd[i]?=some (.alo t z s cs)→L.getD i false=true∧L.getD s false=true:=fun i t z s cs h=>by
   have hi:=(Qa.1 h).1
   obtain ⟨q2,hq2,hF2⟩:=Zqi hfit (Qb (l:=ops) (i:=i) (by omega))
   rw [h] at hq2; simp at hq2; subst hq2
   have:=(Qa.1 (hF2.alo t z s cs rfl)).1
   exact ⟨hall i (by omega),hall s (by omega)⟩
  refine hQ vc β u hext ?_ ?_ ?_
  ·refine hR _ _ vc u u (hcR (hall ic hil)) (fun _ _ _=>rfl) (Qe _) ?_
   rintro k _ ⟨i',t,z,s,cs,h1,h2,rfl⟩
   exact ⟨i',t,z,s,cs,h1,(hk i' t z s cs h1).1,rfl⟩
  ·intro i t z s cs h
   have:=hbox i t z s cs h (hk i t z s cs h).1
   rw [(hk i t z s cs h).2] at this
   exact this
  ·intro i j t z s cs t' z' s' cs' h1 h2
   exact hdist i j t z s cs t' z' s' cs' h1 h2 (hk i t z s cs h1).1 (hk j t' z' s' cs' h2).1
 ·have:(ops.toArray).size=ops.length:=by simp
  unfold unl
  exact Qq (List.length_filter_le _ _) (by simp)
 ·have hz:∀ j,(Array.replicate ops.toArray.size false).getD j false=false:=fun j=>by
   simp only [Array.getD_eq_getD_getElem?,Array.getElem?_replicate]
   split <;> rfl
  refine ⟨by simp,Below.refl _ _,undef,fun _=>0,?_,?_,?_,?_,?_,?_⟩
  ·have:∀ (k:Nat) (os:List Oper) (qs:List Kd),pa a0 undef (fun _=>0) (fun j=>(Array.replicate ops.toArray.size false).getD j false) k os qs=a0:=by
    intro k os
    induction os generalizing k with
    | nil=>intro qs; simp [pa]
    | cons o os ih =>
     intro qs
     cases qs with
     | nil=>simp [pa]
     | cons q qs=>rw [pa,hz]; simp only [Bool.false_eq_true,if_false]; exact ih _ _
   exact (this _ _ _).symm
  ·intro h; rw [hz] at h; simp at h
  ·intro i q _ h; rw [hz] at h; simp at h
  ·intro i t z s cs _ h; rw [hz] at h; simp at h
  ·intro i j t z s cs t' z' s' cs' _ _ h; rw [hz] at h; simp at h
  ·intro i k _ h; rw [hz] at h; simp at h
theorem Zjk {P:Program} {ops:List Oper} {id:Nat} {Q:Exit→Act→World→Prop} {a0:Act} {w:World} (hm:P.follows .mixedOrders=true) (kd:List Kd) (ic:Nat) (hfit:Zir ops kd ic=true)
  (R:(Nat→Prop)→Value→World→Prop) (f:FuncId) (args:Array Value)
  (hR:∀ X X' v u u',R X v u→(∀ k,k<u.heap.size→¬ X k→u'.heap[k]?=u.heap[k]?)→u.heap.size≤u'.heap.size→(∀ k,k<u.heap.size→X' k→X k)→R X' v u')
  (hC:∀ X u,Ext w.drew u→(∀ k,X k→w.heap.size≤k∧k<u.heap.size)→Calls P f args u (fun e u'=>∃ v,e = .returned v∧Ext u u'∧R X v u'))
  (hob:AllOb P kd w.drew (paAll a0 ops kd) R f args ops kd)
  (hcal:kd[ic]?=some .cal) (hil:ic<ops.length)
  (hQ:∀ vc β u,Ext w.drew u→R (Zis kd β (fun _=>true)) vc u→(∀ (i:Nat) t z s cs,kd[i]?=some (.alo t z s cs)→w.heap.size≤β i∧u.heap[β i]?=some (.cells (cs vc) t (0,0))) →
   (∀ (i j:Nat) t z s cs t' z' s' cs',kd[i]?=some (.alo t z s cs)→kd[j]?=some (.alo t' z' s' cs')→i≠j→β i≠β j)→Q .normal (paAll a0 ops kd vc β) u) :
  (Code.region id ops.toArray true).wp P Q a0 w :=
 Zry hm kd ic hfit R f args hR (fun X u hu hX=>hC X u hu (fun k hk=>⟨(hX k hk).1,(hX k hk).2.1⟩)) hob hcal hil hQ
def segT (s:List UInt8 × List UInt8):List UInt8:=s.1++([32,98,121,32]++s.2)
def linT (L:List (List UInt8 × List UInt8)):List UInt8:=L.flatMap (fun s=>segT s++[10])
def linB (L:List (List UInt8 × List UInt8)):List UInt8:=L.flatMap (fun s=>s.2++[46])
structure SegOk (s:List UInt8 × List UInt8):Prop where
 b:∀ c ∈ s.1,c≠10
 d:∀ c ∈ s.2,c≠10∧c≠46
 n:s.2≠[]
theorem Zop {α:Type} {f:α→List UInt8} {L:List α} {i:Nat} {s:α} (h:L[i]?=some s):L.flatMap f=(L.take i).flatMap f++(f s++(L.drop (i+1)).flatMap f):=by
 have hi:=(Qa.1 h).1
 have e:L=L.take i++(s::L.drop (i+1)):=by
  rw [← (Qa.1 h).2,← List.drop_eq_getElem_cons hi,List.take_append_drop]
 conv=>lhs; rw [e]
 simp
theorem Zrz {α:Type} {f:α→List UInt8} {L:List α} {i:Nat} {s:α} (h:L[i]?=some s):(L.take (i+1)).flatMap f=(L.take i).flatMap f++f s:=by
 rw [List.take_add_one,h]
 simp
theorem Yca {S:ByteArray} {a m z:List UInt8} (h:S.data.toList=a++(m++z)):S.extract a.length (a.length+m.length)=⟨m.toArray⟩:=by
 rw [Lib.extract_eq]
 have e:(S.data.toList.drop a.length).take (a.length+m.length - a.length)=m:=by
  rw [h,List.drop_left,show a.length+m.length - a.length=m.length by omega,List.take_left]
 first
  | (rw [e])
  | (congr 1; apply Array.ext'; simpa using e)
  | simp [e]
theorem Zmm {S:ByteArray} {k:Nat} {c:UInt8} (h:S.data.toList[k]?=some c):∃ hk:k<S.size,S[k]=c:=by
 have hk:=(Qa.1 h).1
 refine ⟨by simpa using hk,?_⟩
 exact (Qa.1 h).2
set_option maxHeartbeats 8000000 in
theorem Ycb (T B:ByteArray) (L:List (List UInt8 × List UInt8)) (w:World) (hL:∀ s ∈ L,SegOk s) (hne:L≠[]) (hT:T.data.toList=linT L) (hB:B.data.toList++[46]=linB L) (h0:∃ c,T.data.toList[0]?=some c∧c≠32) (hTs:T.size≤100000000) (hBs:B.size≤1000000) :
  Calls Tryz.prog 35 #[.string T,.string B] w fun e w'=>e = .returned (.bool true)∧Ext w w':=by
 obtain ⟨c0,hc0,hc32⟩:=h0
 obtain ⟨ht0,hb0⟩:=Zmm hc0
 have hTl:T.size=(linT L).length:=by rw [← hT]; simp
 have hBl:B.size+1=(linB L).length:=by rw [← hB]; simp
 have HL:=Zac hL
 have HT:=Zac hT
 have HB:=Zac hB
 have HTl:=Zac hTl
 have HBl:=Zac hBl
 clear hL hT hB hc0 hTl hBl
 go_enter Tryz.func35,Tryz.ntmps35
 go_wp2
 go_loopw [5,6] (fun a e u=>∃ (i p q:Nat),i≤L.length∧p=(linB (L.take i)).length∧q=(linT (L.take i)).length∧q≤100000000∧p≤1000001∧a = .int .i64 p∧e = .int .i64 q∧Ext w u) (fun _ e _=>T.size - (intOf e).toNat)
 case atStart=>exact ⟨0,0,0,Qm _,rfl,rfl,by omega,by omega,rfl,rfl,Below.refl _ _⟩
 case round =>
  obtain ⟨i,p,q,hi,hp,hq,hq6,hp6,rfl,rfl,hEu⟩:=hrel
  have HEu:=Zac hEu
  clear hEu
  by_cases hlt:i<L.length
  ·obtain ⟨s,hs⟩:∃ s,L[i]?=some s:=⟨_,Qb hlt⟩
   have hok:=HL.out s (Qh hs)
   obtain ⟨X,hX⟩:∃ X,X=segT s:=⟨_,rfl⟩
   have hX10:∀ c ∈ X,c≠10:=fun c hc=>by
    rw [hX] at hc
    simp only [segT,Qk] at hc
    rcases hc with hc | hc | hc
    ·exact hok.b c hc
    ·simp at hc
     rcases hc with rfl | rfl | rfl | rfl <;> decide
    ·exact (hok.d c hc).1
   have hsp:T.data.toList=linT (L.take i)++(X++(10::linT (L.drop (i+1)))):=by
    rw [HT.out]
    unfold linT
    rw [Zop hs,hX]
    simp
   have hspB:linB L=linB (L.take i)++(s.2++(46::linB (L.drop (i+1)))):=by
    unfold linB
    rw [Zop hs]
    simp
   have hnx:linT (L.take (i+1))=linT (L.take i)++(X++[10]):=by unfold linT; rw [Zrz hs,hX]
   have hnxB:linB (L.take (i+1))=linB (L.take i)++(s.2++[46]):=by unfold linB; rw [Zrz hs]
   have hlT:T.size=q+X.length+1+(linT (L.drop (i+1))).length:=by
    have:=congrArg List.length hsp
    simp only [Qg,Qf] at this
    rw [hq]
    have e:T.size=T.data.toList.length:=by simp
    omega
   have hlB:B.size+1=p+s.2.length+1+(linB (L.drop (i+1))).length:=by
    have:=congrArg List.length hspB
    simp only [Qg,Qf] at this
    rw [HBl.out,hp]
    omega
   have hd1:1≤s.2.length:=by
    have:=hok.n
    cases h:s.2 with
    | nil=>exact absurd h this
    | cons a l=>simp
   have hXl:X.length=s.1.length+(4+s.2.length):=by rw [hX]; simp [segT]; omega
   -- the bytes of the line
   have Hin:Hid (∀ x,x<X.length→∃ c,∃ h:q+x<T.size,T[q+x]=c∧((c.toNat:Int) == 10)=false∧((c.toNat:Int) != 10)=true):=fun x hx=>by
    have e:T.data.toList[q+x]?=some X[x]:=by
     rw [hsp,hq,Qd (by omega),show (linT (L.take i)).length+x - (linT (L.take i)).length=x by omega,Qc hx,Qb hx]
    obtain ⟨h1,h2⟩:=Zmm e
    suffices hz:(((X[x]:UInt8).toNat:Int) == 10)=false from ⟨X[x],h1,h2,hz,by simpa [bne] using hz⟩
    rw [Qu]
    intro e2
    apply hX10 X[x] (List.getElem_mem hx)
    apply UInt8.toNat_inj.1
    have:X[x].toNat=10:=by omega
    rw [this]
    rfl
   have Hend:Hid (∃ h:q+X.length<T.size,T[q+X.length]=10):=by
    have e:T.data.toList[q+X.length]?=some 10:=by
     rw [hsp,hq,Qd (by omega),show (linT (L.take i)).length+X.length - (linT (L.take i)).length=X.length by omega,Qd (Qe _)]
     simp
    exact Zmm e
   have HinB:Hid (∀ y,y<s.2.length→∃ c,∃ h:p+y<B.size,B[p+y]=c∧((c.toNat:Int) == 46)=false∧((c.toNat:Int) != 46)=true):=fun y hy=>by
    have hlt2:p+y<B.size:=by omega
    have e:B.data.toList[p+y]?=some s.2[y]:=by
     have e1:(B.data.toList++[46])[p+y]?=some s.2[y]:=by
      rw [HB.out,hspB,hp,Qd (by omega),show (linB (L.take i)).length+y - (linB (L.take i)).length=y by omega,Qc hy,Qb hy]
     rw [Qc (by simpa using hlt2)] at e1
     exact e1
    obtain ⟨h1,h2⟩:=Zmm e
    suffices hz:(((s.2[y]:UInt8).toNat:Int) == 46)=false from ⟨s.2[y],h1,h2,hz,by simpa [bne] using hz⟩
    rw [Qu]
    intro e2
    apply (hok.d s.2[y] (List.getElem_mem hy)).2
    apply UInt8.toNat_inj.1
    have:s.2[y].toNat=46:=by omega
    rw [this]
    rfl
   have HendB:Hid (¬ p+s.2.length<B.size∨∃ h:p+s.2.length<B.size,B[p+s.2.length]=46):=by
    by_cases hb:p+s.2.length<B.size
    ·refine Or.inr ?_
     have e1:(B.data.toList++[46])[p+s.2.length]?=some 46:=by
      rw [HB.out,hspB,hp,Qd (by omega),show (linB (L.take i)).length+s.2.length - (linB (L.take i)).length=s.2.length by omega,Qd (Qe _)]
      simp
     rw [Qc (by simpa using hb)] at e1
     exact Zmm e1
    ·exact Or.inl hb
   have hcutB:B.extract p (p+s.2.length)=⟨s.2.toArray⟩:=by
    have hz:∃ z,B.data.toList=linB (L.take i)++(s.2++z):=by
     have e1:B.data.toList++[46]=linB (L.take i)++(s.2++(46::linB (L.drop (i+1)))):=by rw [HB.out]; exact hspB
     have e2:B.data.toList=(linB (L.take i)++(s.2++(46::linB (L.drop (i+1))))).dropLast:=by rw [← e1]; simp
     refine ⟨(46::linB (L.drop (i+1))).dropLast,?_⟩
     rw [e2,List.dropLast_append_of_ne_nil (by simp),List.dropLast_append_of_ne_nil (by simp)]
    obtain ⟨z,hz⟩:=hz
    rw [hp]
    exact Yca hz
   obtain ⟨SB,hSB⟩:∃ SB:ByteArray,SB=⟨s.2.toArray⟩:=⟨_,rfl⟩
   rw [← hSB] at hcutB
   have hSBz:SB.size=s.2.length:=by rw [hSB]; simp [ByteArray.size]
   have hSBs:SB.size≤1000001:=by omega
   obtain ⟨TL,hTL⟩:∃ TL:ByteArray,TL=⟨#[32,98,121,32]⟩++SB:=⟨_,rfl⟩
   have hTL':TL=⟨([32,98,121,32]++s.2).toArray⟩:=by rw [hTL,hSB]; exact Zbb [32,98,121,32] s.2
   have hTLs:TL.size=4+s.2.length:=by rw [hTL']; simp [ByteArray.size]; omega
   have hcutT:T.extract (q+X.length - TL.size) (q+X.length)=TL:=by
    have h:=Yca (S:=T) (a:=linT (L.take i)++s.1) (m:=[32,98,121,32]++s.2) (z:=10::linT (L.drop (i+1))) (by rw [hsp,hX]; simp [segT])
    have e1:(linT (L.take i)++s.1).length=q+X.length - TL.size:=by rw [Qg,← hq,hTLs]; omega
    have e2:(linT (L.take i)++s.1).length+([32,98,121,32]++s.2).length=q+X.length:=by rw [Qg,← hq]; simp; omega
    rw [e2,e1] at h
    rw [h,hTL']
   have Hq:Hid (q=(linT (L.take i)).length∧p=(linB (L.take i)).length∧linT (L.take (i+1))=linT (L.take i)++(X++[10])∧linB (L.take (i+1))=linB (L.take i)++(s.2++[46])):=⟨hq,hp,hnx,hnxB⟩
   obtain ⟨xl,hxl⟩:∃ xl,xl=X.length:=⟨_,rfl⟩
   obtain ⟨sl,hsl⟩:∃ sl,sl=s.2.length:=⟨_,rfl⟩
   rw [← hxl] at Hin Hend hlT hcutT hXl
   rw [← hsl] at HinB HendB hlB hd1 hcutB hTLs hXl
   have Hxl:=Zac hxl
   have Hsl:=Zac hsl
   have HhTL:=Zac hTL
   have HcT:=Zac hcutT
   have HTLs:=Zac hTLs
   clear hX10 hsp hspB hnx hnxB hok hX hTL hTL' hq hp hxl hsl hcutT hTLs hs hSB hSBz
   obtain ⟨wo,hwo⟩:∃ wo,wo=wr:=⟨_,rfl⟩
   subst hwo
   have hqx:q+xl+1≤T.size:=by omega
   have hpB:p+sl≤B.size:=by omega
   have hxs:4+sl≤xl:=by omega
   have hqT:q<T.size:=by omega
   have HlT:=Zac hlT
   have HlB:=Zac hlB
   clear hlT hlB hXl
   go_wp2
   go_loopw [6] (fun e u=>∃ x,x≤xl∧e = .int .i64 ((q+x:Nat):Int)∧Ext w u) (fun e _=>T.size - (intOf e).toNat)
   case atStart=>exact ⟨0,Qm _,rfl,HEu.out⟩
   case round =>
    obtain ⟨x,hx,rfl,hEx⟩:=hrel
    have HEx:=Zac hEx
    clear hEx
    by_cases hxx:x<xl
    ·obtain ⟨c,h1,h2,h3,h4⟩:=Hin.out x hxx
     go_wp2
     go_roundw
     case rel=>exact ⟨x+1,by omega,by go_num,HEx.out⟩
     case measure=>simp [intOf]; omega
    ·obtain rfl:x=xl:=by omega
     obtain ⟨h1,h2⟩:=Hend.out
     go_wp2
     obtain ⟨wq,hwq⟩:∃ wq,wq=wr:=⟨_,rfl⟩
     subst hwq
     clear h1 h2
     go_loopw [7] (fun t u=>∃ y,y≤sl∧t = .int .i64 ((p+y:Nat):Int)∧Ext w u) (fun t _=>B.size+1 - (intOf t).toNat)
     case atStart=>exact ⟨0,Qm _,rfl,HEx.out⟩
     case round =>
      obtain ⟨y,hy,rfl,hEy⟩:=hrel
      have HEy:=Zac hEy
      clear hEy
      by_cases hyy:y<sl
      ·obtain ⟨c,h1,h2,h3,h4⟩:=HinB.out y hyy
       go_wp2
       go_roundw
       case rel=>exact ⟨y+1,by omega,by go_num,HEy.out⟩
       case measure=>simp [intOf]; omega
      ·obtain rfl:y=sl:=by omega
       have hTLq:(⟨#[32,98,121,32]⟩:ByteArray)++SB=TL:=HhTL.out.symm
       have hTLz:=HTLs.out
       have hTLle:TL.size≤q+x:=by omega
       have hn1:¬ B.size≤p:=by omega
       have hn1':decide (B.size≤p)=false:=by simpa using hn1
       have hn2:¬ q+x<TL.size:=by omega
       have hn2':decide (q+x<TL.size)=false:=by simpa using hn2
       have hn2i:¬ ((q:Int)+(x:Int)<(TL.size:Int)):=by omega
       have hn2j:decide ((q:Int)+(x:Int)<(TL.size:Int))=false:=by simpa using hn2i
       have hn3:¬ T.size≤q+x:=by omega
       have hn3':decide (T.size≤q+x)=false:=by simpa using hn3
       have hn3i:¬ ((T.size:Int)≤(q:Int)+(x:Int)):=by omega
       have hn3j:decide ((T.size:Int)≤(q:Int)+(x:Int))=false:=by simpa using hn3i
       clear hTLz
       have Hrel:Hid (p+y+1=(linB (L.take (i+1))).length∧q+x+1=(linT (L.take (i+1))).length):=by
        obtain ⟨g1,g2,g3,g4⟩:=Hq.out
        rw [g3,g4,Qg,Qg,Qg,Qg,← g1,← g2,← Hxl.out,← Hsl.out]
        exact ⟨by simp; omega,by simp; omega⟩
       have hcT:=HcT.out
       rcases HendB.out with hb | ⟨hb1,hb2⟩
       ·go_wp2
        go_roundw
        case rel=>exact ⟨i+1,p+y+1,q+x+1,by omega,Hrel.out.1,Hrel.out.2,by omega,by omega,by go_num,by go_num,HEy.out⟩
        case measure=>simp [intOf]; omega
       ·go_wp2
        go_roundw
        case rel=>exact ⟨i+1,p+y+1,q+x+1,by omega,Hrel.out.1,Hrel.out.2,by omega,by omega,by go_num,by go_num,HEy.out⟩
        case measure=>simp [intOf]; omega
  ·obtain rfl:i=L.length:=by omega
   have hqT:q=T.size:=by rw [hq,List.take_length]; exact HTl.out.symm
   have hpB:p=B.size+1:=by rw [hp,List.take_length]; exact HBl.out.symm
   have h32:((c0.toNat:Int) == 32)=false:=by
    rw [Qu]
    intro e
    apply hc32
    apply UInt8.toNat_inj.1
    have:c0.toNat=32:=by omega
    rw [this]
    rfl
   have h32':((c0.toNat:Int) != 32)=true:=by simpa [bne] using h32
   clear hq hp hq6 hp6
   subst hqT hpB
   go_wp2
   go_ret
   exact ⟨rfl,HEu.out⟩
end Go.Proofs.YtlmjilpjmgjjcaaGreatDoor
