/-
  PROVED HERE: what the reference's 'over' answers of a row of tokens (its conditions stand in the statement); nothing that was there turns.
-/
import Derived.Test.YtlmjilpjmgjjcaaGreatDoorRows
import Derived.WalkKit
import Derived.WalkSpells
import Derived.WalkLawsBesides
import GoSem.Claim
import Derived.Lib.Strings
import Derived.RegionTactic
import Derived.ChangeAlike
import Derived.BigRegion
import Derived.Lib.ItoaNum
import Derived.Deep.QuietTactic
import Derived.BigQuiet
set_option linter.unusedSimpArgs false
set_option linter.unusedVariables false
set_option maxRecDepth 10000
set_option maxHeartbeats 4000000
namespace Go.Proofs.YtlmjilpjmgjjcaaGreatDoor
open Go.RowKit
abbrev Qa:=@List.getElem?_eq_some_iff
abbrev Qb:=@List.getElem?_eq_getElem
abbrev Qc:=@List.getElem?_append_left
abbrev Qd:=@List.getElem?_append_right
abbrev Qe:=@Nat.le_refl
abbrev Qf:=@List.length_cons
abbrev Qg:=@List.length_append
abbrev Qh:=@List.mem_of_getElem?
abbrev Qi:=@List.append_assoc
abbrev Qj:=@List.getElem?_map
abbrev Qk:=@List.mem_append
abbrev Ql:=@List.length_map
abbrev Qm:=@Nat.zero_le
abbrev Qn:=@List.length_singleton
abbrev Qo:=@Option.some.injEq
abbrev Qp:=@List.mem_cons
abbrev Qq:=@Nat.le_trans
abbrev Qr:=@List.map_append
abbrev Qs:=@List.append_nil
abbrev Qt:=@List.length_nil
abbrev Qu:=@beq_eq_false_iff_ne
structure Kept (S:Nat→Prop) (w w':World):Prop where
 os:w'.os=w.os
 tape:w'.tape=w.tape
 output:w'.output=w.output
 size:w.heap.size≤w'.heap.size
 block:∀ k,k<w.heap.size→¬ S k→w'.heap[k]?=w.heap[k]?
def Zap (v:Value):Nat→Prop:=fun k=>v.ownBlock=some k
def Zbf:Nat→Prop:=fun _=>False
theorem Kept.refl (S:Nat→Prop) (w:World):Kept S w w:=⟨rfl,rfl,rfl,Qe _,fun _ _ _=>rfl⟩
theorem Kept.then {S S':Nat→Prop} {a b c:World} (h:Kept S a b) (k:Kept S' b c) (hs:∀ i,i<a.heap.size→S' i→S i):Kept S a c :=
 ⟨k.os.trans h.os,k.tape.trans h.tape,k.output.trans h.output,Qq h.size k.size,
  fun i hi hn=>(k.block i (Nat.lt_of_lt_of_le hi h.size) (fun hk=>hn (hs i hi hk))).trans (h.block i hi hn)⟩
theorem Kept.trans {S:Nat→Prop} {a b c:World} (h:Kept S a b) (k:Kept S b c):Kept S a c:=h.then k (fun _ _ h=>h)
theorem Kept.mono {S S':Nat→Prop} {w w':World} (h:Kept S w w') (hs:∀ i,i<w.heap.size→S i→S' i):Kept S' w w' :=
 ⟨h.os,h.tape,h.output,h.size,fun i hi hn=>h.block i hi (fun hk=>hn (hs i hi hk))⟩
theorem Kept.drew {S:Nat→Prop} {a w:World} (h:Kept S a w):Kept S a w.drew:=⟨h.os,h.tape,h.output,h.size,h.block⟩
theorem Kept.alloc {S:Nat→Prop} {a w:World} (h:Kept S a w) (o:Obj):Kept S a (w.alloc o) :=
 h.trans ⟨rfl,rfl,rfl,by simp,fun k hk _=>Below.heap_alloc _ _ _ hk⟩
theorem Kept.setCell {S:Nat→Prop} {a w:World} (h:Kept S a w) {p:Addr} (hp:p.block<a.heap.size→S p.block) (u:Value):Kept S a (w.setCell p u) :=
 h.then (S':=fun k=>k=p.block) ⟨rfl,rfl,rfl,by simp [World.setCell],fun k _ hn=>Below.heap_setCell _ _ _ _ hn⟩ (fun i hi e=>by subst e; exact hp hi)
theorem Kept.of_grown {w w':World} {row:Option Nat} (h:w.grownBy w' row):Kept (fun k=>row=some k) w w' :=
 ⟨h.os,h.tape,h.output,h.size,fun k hk hn=>h.block k hk (fun e=>hn e.symm)⟩
theorem Kept.below {S:Nat→Prop} {w w':World} {B:Nat} (h:Kept S w w') (hB:B≤w.heap.size) (hs:∀ k,S k→B≤k):Below B w w' :=
 ⟨h.os,h.tape,h.output,h.size,fun k hk=>h.block k (by omega) (fun hS=>by have:=hs k hS; omega)⟩
theorem Kept.of_below {w w':World} {B:Nat} (h:Below B w w'):Kept (fun k=>B≤k) w w' :=
 ⟨h.os,h.tape,h.output,h.size,fun k _ hn=>h.block k (by omega)⟩
theorem Kept.cell {S:Nat→Prop} {w w':World} (h:Kept S w w') {p:Addr} {v:Value} (hc:w.cell? p=some v) (hn:¬ S p.block):w'.cell? p=some v :=
 (World.cell?_of_block (w:=w) (h.block p.block (World.block_lt_of_cell? w p hc) hn)).trans hc
theorem Kept.owns {S:Nat→Prop} {w w':World} (h:Kept S w w') {base:Nat} {e:TypeId} {size:Nat} {v:Value} {n:Nat} {xs:List Value} (ho:w.ownsRow base e size v n xs)
  (hn:∀ k,v.ownBlock=some k→¬ S k):w'.ownsRow base e size v n xs:=by
 refine ⟨ho.1,?_⟩
 rcases ho.2 with hn' | ⟨g,cap,cur,rfl,hb,hgg,rest⟩
 ·exact .inl hn'
 ·refine .inr ⟨g,cap,cur,rfl,hb,?_,rest⟩
  rw [h.block g (Array.getElem?_eq_some_iff.1 hgg).1 (hn g rfl)]
  exact hgg
theorem Zbb {w:World} {base base':Nat} {e:TypeId} {size:Nat} {v:Value} {n:Nat} {xs:List Value} (ho:w.ownsRow base e size v n xs) (hb:base'≤base):w.ownsRow base' e size v n xs:=by
 refine ⟨ho.1,?_⟩
 rcases ho.2 with hn' | ⟨g,cap,cur,rfl,hb',rest⟩
 ·exact .inl hn'
 ·exact .inr ⟨g,cap,cur,rfl,Qq hb hb',rest⟩
theorem Zhg {P:Program} (w:World) (base:Nat) (t ty e:TypeId) (i:TypeInfo) (z:Value) (ht:P.underlying t=some (.slice e)) (hi:P.info? e=some i) (hz:i.zero=some z)
  (v:Value) (n:Nat) (xs:List Value) (hown:w.ownsRow base e i.size v n xs)
  (a:Addr) (m c:Nat) (news:List Value) (hl:news.length=m * i.size) (hm:0<m) (hnews:∀ j u,news[j]?=some u→w.cell? (a.add j)=some u) (h1:∀ u ∈ news,u.oneCell'=true)
  (h63:n+m≤maxLen) (hbytes:(n+m) * i.bytes≤140737488355328) (v':Value) (w':World)
  (hr:(Builtin.append_ #[t,t] ty #[v,.slice (some a) m c]).run P w = .ok v' w'):v'.ownBlock=v.ownBlock∨v'.ownBlock=some w.heap.size:=by
 have hsmall:n+m≤9223372036854775807:=by simp only [maxLen] at h63; omega
 rcases hown.2 with ⟨rfl,rfl⟩ | ⟨g,cap,cur,rfl,hbg,hg,hnc,hcm,hcs,htake⟩
 ·have hr':=run_append_nil (P:=P) w t ty e i z ht hi hz a m c news hl hnews hm (by omega) (by have hb:=hbytes; simp only [Nat.zero_add] at hb; omega)
  rw [hr'] at hr
  injection hr with h1 h2
  subst h1
  exact .inr rfl
 ·by_cases hroom:n+m≤cap
  ·have hfit:n * i.size+news.length≤cur.size:=by rw [hl,hcs,← Nat.add_mul]; exact Nat.mul_le_mul_right _ hroom
   have hr':=run_append_room (P:=P) w t ty e i ht hi g n cap cur hg a m c news hl hnews h1 hroom hfit
   rw [hr'] at hr
   injection hr with h1 h2
   subst h1
   exact .inl rfl
  ·have holds:∀ j u,xs[j]?=some u→w.cell? ((⟨g,0,none⟩:Addr).add j)=some u:=hown.cells (g:=g) rfl
   have hr':=run_append_grow (P:=P) w t ty e i z ht hi hz ⟨g,0,none⟩ n cap xs hown.1 holds a m c news hl hnews (by omega) (by omega) (growslice_fits (by omega) hbytes)
   rw [hr'] at hr
   injection hr with h1 h2
   subst h1
   exact .inr rfl
structure Appended (w:World) (base:Nat) (e:TypeId) (size:Nat) (v:Value) (n:Nat) (xs:List Value) (v':Value) (w':World):Prop where
 owns:w'.ownsRow base e size v' n xs
 kept:Kept (Zap v) w w'
 where_:v'.ownBlock=v.ownBlock∨∃ g,v'.ownBlock=some g∧w.heap.size≤g
theorem Zfo {P:Program} (w:World) (t ty:TypeId) (base:Nat) (e:TypeId) {z:Value} {size bytes:Nat}
  (hinfo:(P.info? e).map (fun i=>(i.zero,i.size,i.bytes))=some (some z,size,bytes)) (ht:P.underlying t=some (.slice e)) (hzs:z.cells.size=size) (hsz:0<size)
  (v:Value) (n:Nat) (xs:List Value) (hown:w.ownsRow base e size v n xs)
  (news:Array Value) (hl:news.size=size) (h1:∀ u ∈ news.toList,u.oneCell'=true)
  (hbig:(n+1) * (bytes+1)≤140737488355328) (hbase:base≤w.heap.size) :
  ∃ v' w',(Builtin.append_ #[t,t] ty #[v,.slice (some ⟨w.heap.size,0,none⟩) 1 1]).run P (w.alloc (.cells news e)) = .ok v' w'∧Appended w base e size v (n+1) (xs++news.toList) v' w':=by
 obtain ⟨i,hi,hz,hsi,hby⟩:=info_parts hinfo
 have hb1:n+1≤140737488355328:=Qq (Nat.le_mul_of_pos_right (n+1) (Nat.succ_pos bytes)) hbig
 have hb2:(n+1) * bytes≤140737488355328:=Qq (Nat.mul_le_mul_left _ (Nat.le_succ _)) hbig
 have h63:n+1≤maxLen:=by simp only [maxLen]; omega
 have hnews:∀ (j:Nat) (u:Value),news.toList[j]?=some u→(w.alloc (.cells news e)).cell? ((⟨w.heap.size,0,none⟩:Addr).add j)=some u:=by
  intro j u hu
  have hadd:(⟨w.heap.size,0,none⟩:Addr).add j=⟨w.heap.size,j,none⟩:=by unfold Addr.add; split <;> simp_all
  rw [hadd,cell_of_row _ w.heap.size j news e (0,0) (heap_alloc_new w _)]
  simpa using hu
 have hown':=hown.alloc (.cells news e)
 obtain ⟨v',w',hr,hA,hB,_⟩:=run_append_own (P:=P) (w.alloc (.cells news e)) base t ty e i z size bytes ht hi hz hsi hby hzs hsz v n xs hown'
  ⟨w.heap.size,0,none⟩ 1 1 news.toList (by simp [hl]) hnews h1 h63 hb2 (by simp; omega)
 refine ⟨v',w',hr,hA,?_,?_⟩
 ·have:=Kept.of_grown hB
  exact ((Kept.refl (Zap v) w).alloc _).then this (fun i _ h=>h)
 ·subst hsi hby
  rcases Zhg (P:=P) (w.alloc (.cells news e)) base t ty e i z ht hi hz v n xs hown' ⟨w.heap.size,0,none⟩ 1 1 news.toList (by simp [hl]) (by omega) hnews h1 h63 hb2 v' w' hr with h | h
  ·exact .inl h
  ·exact .inr ⟨_,h,by simp⟩
theorem Znq {P:Program} {o:Oper} {a:Act} {K:Act→World→Prop} {Q:Exit→Act→World→Prop} (w:World) (s x:Operand) (t:TypeId)
  (ho:o.op = .call { callee := .builtin .append,args:=#[s,x],argTypes:=#[t,t] })
  (base:Nat) (e:TypeId) {z:Value} {size bytes:Nat}
  (hinfo:(P.info? e).map (fun i=>(i.zero,i.size,i.bytes))=some (some z,size,bytes)) (ht:P.underlying t=some (.slice e)) (hzs:z.cells.size=size) (hsz:0<size)
  (v:Value) (n:Nat) (xs:List Value) (hs:a.eval s=v) (hown:w.ownsRow base e size v n xs)
  (news:Array Value) {N:Nat} (hx:a.eval x = .slice (some ⟨N,0,none⟩) 1 1) (hN:N=w.heap.size) (hl:news.size=size) (h1:∀ u ∈ news.toList,u.oneCell'=true)
  (hbig:(n+1) * (bytes+1)≤140737488355328) (hbase:base≤w.heap.size)
  (h:∀ v' w',Appended w base e size v (n+1) (xs++news.toList) v' w'→K (a.put o.dst v') w'):o.wp P a (w.alloc (.cells news e)) K Q:=by
 subst hN
 obtain ⟨v',w',hr,h2⟩:=Zfo (P:=P) w t o.type base e hinfo ht hzs hsz v n xs hown news hl h1 hbig hbase
 unfold Oper.wp execOp
 simp only [ho,resolve,invoke,builtin,Sem.run_bind,Sem.run_pure,Result.andThen_ok,List.map_toArray,List.map_cons,List.map_nil,hs,hx,hr]
 exact h v' w' h2
theorem Zal {P:Program} {ops:Array Oper} {rest:List Oper} {o:Oper} {a:Act} {Q:Exit→Act→World→Prop} (w:World) (hgd:o.guard=none) (s x:Operand) (t:TypeId)
  (ho:o.op = .call { callee := .builtin .append,args:=#[s,x],argTypes:=#[t,t] })
  (base:Nat) (e:TypeId) {z:Value} {size bytes:Nat}
  (hinfo:(P.info? e).map (fun i=>(i.zero,i.size,i.bytes))=some (some z,size,bytes)) (ht:P.underlying t=some (.slice e)) (hzs:z.cells.size=size) (hsz:0<size)
  (v:Value) (n:Nat) (xs:List Value) (hs:a.eval s=v) (hown:w.ownsRow base e size v n xs)
  (news:Array Value) {N:Nat} (hx:a.eval x = .slice (some ⟨N,0,none⟩) 1 1) (hN:N=w.heap.size) (hl:news.size=size) (h1:∀ u ∈ news.toList,u.oneCell'=true)
  (hbig:(n+1) * (bytes+1)≤140737488355328) (hbase:base≤w.heap.size)
  (h:∀ v' w',Appended w base e size v (n+1) (xs++news.toList) v' w'→wpList P ops Q rest (a.put o.dst v') w'):wpList P ops Q (o::rest) a (w.alloc (.cells news e)) :=
 wpList_plain hgd fun _ hK=>Znq w s x t ho base e hinfo ht hzs hsz v n xs hs hown news hx hN hl h1 hbig hbase fun v' w' h2=>hK _ _ (h v' w' h2)
abbrev Qx:=@Kept.refl
abbrev Qy:=@Kept.setCell
abbrev Qz:=@Kept.alloc
end Go.Proofs.YtlmjilpjmgjjcaaGreatDoor
namespace Go.Proofs.YtlmjilpjmgjjcaaGreatDoor
def inB (c:UInt8) (s:ByteArray):Bool:=s.data.toList.contains c
def Zeb:ByteArray:=⟨#[97,98,99,100,101,102,103,104,105,106,107,108,109,110,111,112,113,114,115,116,117,118,119,120,121,122]⟩
def Zfi:ByteArray:=⟨#[65,66,67,68,69,70,71,72,73,74,75,76,77,78,79,80,81,82,83,84,85,86,87,88,89,90]⟩
def Zhn:ByteArray:=⟨#[40,41,44,46]⟩
def Zhj:ByteArray:=⟨#[97,98,99,100,101,102,103,104,105,106,107,108,109,110,111,112,113,114,115,116,117,118,119,120,121,122,65,66,67,68,69,70,71,72,73,74,75,76,77,78,79,80,81,82,83,84,85,86,87,88,89,90,48,49,50,51,52,53,54,55,56,57]⟩
theorem Zzf (s:ByteArray) (k:Nat) (h:k<s.size):s.data.toList.take (k+1)=s.data.toList.take k++[s[k]]:=by
 rw [List.take_succ_eq_append_getElem (by simpa using h)]; rfl
theorem Zcu (s:ByteArray) (k:Nat) (h:k<s.size):s.data.toList.drop k=s[k]::s.data.toList.drop (k+1):=by
 rw [List.drop_eq_getElem_cons (by simpa using h)]; rfl
theorem Zfp (s:ByteArray) (k:Nat) (h:¬ k<s.size):s.data.toList.drop k=[]:=by
 apply List.drop_eq_nil_of_le; simp; omega
theorem Zzg {a b:UInt8} (h:(((a.toNat:Int)) == (b.toNat:Int))=true):a=b:=by
 have:=eq_of_beq h
 exact UInt8.toNat_inj.1 (by omega)
theorem Ygk {a b:UInt8} (h:(((a.toNat:Int)) == (b.toNat:Int))=false):a≠b:=by
 intro e; subst e; simp at h
theorem Yig {c:UInt8} {s:ByteArray} {k:Nat} (hk:k<s.size) (h:(((s[k].toNat:Int)) == (c.toNat:Int))=true):inB c s=true:=by
 have:=Zzg h
 unfold inB
 rw [List.contains_iff_mem,← this]
 have:s[k]=s.data.toList[k]'(by simpa using hk):=rfl
 rw [this]; exact List.getElem_mem _
theorem in_on {c:UInt8} {s:ByteArray} {k:Nat} (hk:k<s.size) (h:(((s[k].toNat:Int)) == (c.toNat:Int))=false) (hn:(s.data.toList.take k).contains c=false) :
  (s.data.toList.take (k+1)).contains c=false:=by
 have hne:=Ygk h
 rw [Zzf s k hk]
 simp only [List.contains_eq_mem,decide_eq_false_iff_not,Qk,List.mem_singleton,not_or] at hn ⊢
 exact ⟨hn,fun e=>hne e.symm⟩
theorem Yih {c:UInt8} {s:ByteArray} {k:Nat} (hk:¬ k<s.size) (hn:(s.data.toList.take k).contains c=false):inB c s=false:=by
 rw [List.take_of_length_le (by simp; omega)] at hn; exact hn
def Zbi:List UInt8→Nat
 | []=>0
 | c::r=>if inB c Zhj then Zbi r+1 else 0
theorem Zet (c:UInt8) (r:List UInt8) (h:inB c Zhj=true):Zbi (c::r)=Zbi r+1:=by rw [Zbi,if_pos h]
theorem Znr (c:UInt8) (r:List UInt8) (h:inB c Zhj=false):Zbi (c::r)=0:=by rw [Zbi,if_neg (by simp [h])]
theorem Zkk (l:List UInt8):Zbi l≤l.length:=by
 induction l with
 | nil=>exact Qe _
 | cons c r ih=>unfold Zbi; split <;> simp <;> omega
theorem Zeg {p:UInt8→Bool} (h:(List.range 256).all (fun n=>p (UInt8.ofNat n))=true) (c:UInt8):p c=true:=by
 rw [List.all_eq_true] at h
 have:=h c.toNat (by rw [List.mem_range]; exact c.toNat_lt)
 simpa using this
theorem Zho {c:UInt8} (h:inB c Zeb=true):inB c Zhj=true:=by
 have:=Zeg (p:=fun c => !inB c Zeb || inB c Zhj) (by decide +kernel) c
 simpa [h] using this
theorem Zip {c:UInt8} (h:inB c Zfi=true):inB c Zhj=true:=by
 have:=Zeg (p:=fun c => !inB c Zfi || inB c Zhj) (by decide +kernel) c
 simpa [h] using this
structure Tok where
 kind:Nat
 text:List UInt8
 pos:Nat
def Zbq (c:UInt8) (r:List UInt8):Nat × Nat :=
 if inB c Zeb then (1,Zbi r)
 else if inB c Zfi then (2,Zbi r)
 else if inB c Zhn then (c.toNat,0)
 else if c=58∧r.head?=some 45 then (3,1)
 else (5,0)
def Zhk (c:UInt8):Bool:=c == 32 || c == 10
theorem Zqr (c:UInt8) (r:List UInt8):(Zbq c r).2≤r.length:=by
 have:=Zkk r
 unfold Zbq
 split
 ·exact this
 ·split
  ·exact this
  ·split
   ·exact Qm _
   ·split
    ·rename_i h
     cases r with
     | nil=>simp at h
     | cons d r=>simp
    ·exact Qm _
def lexF:Nat→List UInt8→Nat→List Tok
 | 0,_,_=>[]
 | _+1,[],_=>[]
 | f+1,c::r,p =>
  if Zhk c then lexF f r (p+1)
  else ⟨(Zbq c r).1,(c::r).take ((Zbq c r).2+1),p⟩::lexF f (r.drop (Zbq c r).2) (p+(Zbq c r).2+1)
theorem Zzh (f:Nat):∀ (g:Nat) (l:List UInt8) (p:Nat),l.length≤f→l.length≤g→lexF f l p=lexF g l p:=by
 induction f with
 | zero =>
  intro g l p hf hg
  have:l=[]:=List.eq_nil_of_length_eq_zero (by omega)
  subst this
  cases g <;> rfl
 | succ f ih =>
  intro g l p hf hg
  cases l with
  | nil=>cases g <;> rfl
  | cons c r =>
   cases g with
   | zero=>simp at hg
   | succ g =>
    simp only [Qf] at hf hg
    have hd:(r.drop (Zbq c r).2).length≤r.length:=by simp
    rw [lexF,lexF]
    split
    ·exact ih g r _ (by omega) (by omega)
    ·rw [ih g (r.drop (Zbq c r).2) _ (by omega) (by omega)]
def toks (l:List UInt8) (p:Nat):List Tok:=lexF l.length l p
theorem Ycz (p:Nat):toks [] p=[]:=rfl
theorem Zns (c:UInt8) (r:List UInt8) (p:Nat) (h:Zhk c=true):toks (c::r) p=toks r (p+1):=by
 unfold toks
 rw [Qf,lexF,if_pos h]
theorem Zqs (c:UInt8) (r:List UInt8) (p:Nat) (h:Zhk c=false) :
  toks (c::r) p=⟨(Zbq c r).1,(c::r).take ((Zbq c r).2+1),p⟩::toks (r.drop (Zbq c r).2) (p+(Zbq c r).2+1):=by
 unfold toks
 rw [Qf,lexF,if_neg (by simp [h])]
 congr 1
 exact Zzh _ _ _ _ (by simp) (Qe _)
structure Sym where
 name:List UInt8
 num:Nat
 args:Nat
abbrev Names:=List (List UInt8)
end Go.Proofs.YtlmjilpjmgjjcaaGreatDoor
namespace Go.Proofs.YtlmjilpjmgjjcaaGreatDoor
open Go.RowKit
theorem Zhp {k:IntKind} {a b:Int} (h:a=b):Ending.returned (.int k a) = .returned (.int k b):=by rw [h]
theorem Zem {a b:Bool} (h:a=b):Ending.returned (.bool a) = .returned (.bool b):=by rw [h]
theorem Zct (c:UInt8) (s:ByteArray) (w:World) (hs:s.size≤maxLen) :
  Calls Tryz.prog 175 #[.int .u8 c.toNat,.string s] w fun e w'=>e = .returned (.bool (inB c s))∧w'=w:=by
 unfold maxLen at hs
 go_enter Tryz.func175,Tryz.ntmps175
 go_wp2
 go_loop [5] (fun i=>∃ k:Nat,k≤s.size∧i = .int .i64 k∧(s.data.toList.take k).contains c=false) (fun i=>s.size - (intOf i).toNat)
 case atStart=>exact ⟨0,Qm _,rfl,rfl⟩
 case round =>
  obtain ⟨k,hk,rfl,hn⟩:=hrel
  have Hn:Hid ((s.data.toList.take k).contains c=false):=hn
  clear hn
  by_cases hlt:k<s.size
  ·go_wp2
   ·go_ret
    exact ⟨Zem (Yig hlt (by assumption)).symm,rfl⟩
   ·go_round
    case rel=>exact ⟨k+1,by omega,by go_num,in_on hlt (by assumption) Hn.out⟩
    case measure=>simp [intOf]; omega
  ·go_wp2
   go_ret
   exact ⟨Zem (Yih hlt Hn.out).symm,rfl⟩
theorem Zvb (s:ByteArray) (n:Nat) (w:World) (hs:s.size≤maxLen) (hn:n≤s.size) :
  Calls Tryz.prog 176 #[.string s,.int .i64 n] w fun e w'=>e = .returned (.int .i64 ((n+Zbi (s.data.toList.drop n):Nat):Int))∧w'=w:=by
 unfold maxLen at hs
 go_enter Tryz.func176,Tryz.ntmps176
 go_wp2
 go_loop [1] (fun i=>∃ k:Nat,k≤s.size∧i = .int .i64 k∧n+Zbi (s.data.toList.drop n)=k+Zbi (s.data.toList.drop k)) (fun i=>s.size - (intOf i).toNat)
 case atStart=>exact ⟨n,hn,rfl,rfl⟩
 case round =>
  obtain ⟨k,hk,rfl,hn⟩:=hrel
  have Hn:Hid (n+Zbi (s.data.toList.drop n)=k+Zbi (s.data.toList.drop k)):=hn
  clear hn
  by_cases hlt:k<s.size
  ·have hd:=Zcu s k hlt
   by_cases hin:inB s[k] Zhj=true
   ·have Hd:Hid (Zbi (s.data.toList.drop k)=Zbi (s.data.toList.drop (k+1))+1):=by
     show _=_; rw [hd]; exact Zet _ _ hin
    clear hd
    go_wp2_with (go_at_call 175; refine (Zct _ Zhj _ (by decide)).mono ?_; rintro e w' ⟨rfl,rfl⟩)
    go_round
    case rel=>exact ⟨k+1,by omega,by go_num,by have h1:=Hn.out; have h2:=Hd.out; omega⟩
    case measure=>simp [intOf]; omega
   ·have hin':inB s[k] Zhj=false:=by simpa using hin
    have Hd:Hid (Zbi (s.data.toList.drop k)=0):=by
     show _=_; rw [hd]; exact Znr _ _ hin'
    clear hd hin
    go_wp2_with (go_at_call 175; refine (Zct _ Zhj _ (by decide)).mono ?_; rintro e w' ⟨rfl,rfl⟩)
    go_ret
    exact ⟨Zhp (by have h1:=Hn.out; have h2:=Hd.out; omega),rfl⟩
  ·have Hd:Hid (Zbi (s.data.toList.drop k)=0):=by
    show _=_; rw [Zfp s k hlt]; rfl
   go_wp2
   go_ret
   exact ⟨Zhp (by have h1:=Hn.out; have h2:=Hd.out; omega),rfl⟩
theorem Tryz.infoTok:(Tryz.prog.info? 243).map (fun i=>(i.zero,i.size,i.bytes))=some (some (.agg #[.int .i64 0,.string ⟨#[]⟩,.int .i64 0]),3,32):=by kernel_rfl
theorem Zaa {p:Prop} (h:p):Hid p:=h
def Zeh (t:Tok):List Value:=[.int .i64 t.kind,.string ⟨t.text.toArray⟩,.int .i64 t.pos]
def Zbc (l:List Tok):List Value:=l.flatMap Zeh
theorem Zhq (x z:Int) (y:ByteArray):∀ u ∈ (#[Value.int .i64 x,.string y,.int .i64 z]:Array Value).toList,u.oneCell'=true:=by
  intro u hu
  simp at hu
  rcases hu with rfl | rfl | rfl <;> rfl
theorem Zlv {c:UInt8} (h:Zhk c=true):((c.toNat:Int) == 32)=true∨(((c.toNat:Int) == 32)=false∧((c.toNat:Int) == 10)=true):=by
  have:=Zeg (p:=fun c => !Zhk c || ((c.toNat:Int) == 32) || ((c.toNat:Int) == 10)) (by decide +kernel) c
  rw [h] at this
  cases h1:((c.toNat:Int) == 32) <;> simp_all
theorem Zqt {c:UInt8} (h:Zhk c=false):((c.toNat:Int) == 32)=false∧((c.toNat:Int) == 10)=false:=by
  have:=Zeg (p:=fun c=>Zhk c || (!((c.toNat:Int) == 32) && !((c.toNat:Int) == 10))) (by decide +kernel) c
  rw [h] at this
  simpa using this
theorem Zoz {c:UInt8} (h:inB c Zhn=true):((c.toNat:Int) == 0)=false:=by
  have:=Zeg (p:=fun c => !inB c Zhn || !((c.toNat:Int) == 0)) (by decide +kernel) c
  rw [h] at this
  simpa using this
theorem Ygl {s:ByteArray} {k:Nat} {c:UInt8} (h:(s.data.toList.drop k).head?=some c):∃ h:k<s.size,((s[k].toNat:Int) == (c.toNat:Int))=true:=by
  by_cases hl:k<s.size
  · rw [Zcu s k hl] at h
    simp at h
    exact ⟨hl,by rw [h]; simp⟩
  · rw [Zfp s k hl] at h; simp at h
theorem Yda {s:ByteArray} {k:Nat} {c:UInt8} (hl:k<s.size) (h:¬ (s.data.toList.drop k).head?=some c):((s[k].toNat:Int) == (c.toNat:Int))=false:=by
  rw [Zcu s k hl] at h
  simp at h
  rw [Qu]
  intro e
  exact h (UInt8.toNat_inj.1 (by omega))
theorem Zfq {s:ByteArray} {w wr:World} {k to kd:Nat} {done:List Tok} {v v':Value} {w1:World} {x:List Value} (hk:k<s.size) (hd:s.data.toList.drop k=s[k]::s.data.toList.drop (k+1)) (hb:Zhk s[k]=false)
    (hto:to=k+(Zbq s[k] (s.data.toList.drop (k+1))).2+1) (hkd:kd=(Zbq s[k] (s.data.toList.drop (k+1))).1) (hdk:done.length≤k)
    (hdone:done++toks (s.data.toList.drop k) k=toks s.data.toList 0) (hbel:Below w.heap.size w wr) (hown:wr.ownsRow w.heap.size 243 3 v done.length (Zbc done))
    (hA:Appended wr w.heap.size 243 3 v (done.length+1) x v' w1) (hx:x=Zbc done++[.int .i64 kd,.string (s.extract k to),.int .i64 k]) :
    ∃ (j:Nat) (done':List Tok),j≤s.size∧to=j∧done'.length≤j∧done'++toks (s.data.toList.drop j) j=toks s.data.toList 0∧Below w.heap.size w w1 ∧
      w1.ownsRow w.heap.size 243 3 v' done'.length (Zbc done'):=by
  have hle:=Zqr s[k] (s.data.toList.drop (k+1))
  have hlen:(s.data.toList.drop (k+1)).length=s.size - (k+1):=by simp
  have hext:s.extract k to=⟨((s[k]::s.data.toList.drop (k+1)).take ((Zbq s[k] (s.data.toList.drop (k+1))).2+1)).toArray⟩:=by
    rw [← hd]
    apply ByteArray.ext
    apply Array.ext'
    rw [Lib.extract_data]
    have:to - k=(Zbq s[k] (s.data.toList.drop (k+1))).2+1:=by omega
    rw [this]
  refine ⟨to,done++[⟨kd,(s[k]::s.data.toList.drop (k+1)).take ((Zbq s[k] (s.data.toList.drop (k+1))).2+1),k⟩],?_,rfl,?_,?_,?_,?_⟩
  · omega
  · simp; omega
  · rw [hd,Zqs _ _ _ hb] at hdone
    rw [← hdone,Qi,List.drop_drop]
    have h1:k+1+(Zbq s[k] (s.data.toList.drop (k+1))).2=to:=by omega
    rw [h1,← hto,← hkd]
    rfl
  · exact hbel.trans ((hA.kept.below hbel.size (fun i hi=>by
      rcases hown.lt i hi with ⟨h,_⟩; exact h)))
  · have:=hA.owns
    rw [hx,hext] at this
    simpa [Zbc,Zeh] using this
set_option maxRecDepth 100000 in
theorem Zwm (s:ByteArray) (w:World) (hs:s.size≤4096) :
    Calls Tryz.prog 141 #[.string s] w fun e w'=>∃ v,e = .returned v∧Below w.heap.size w w' ∧
      w'.ownsRow w.heap.size 243 3 v ((toks s.data.toList 0).length+1) (Zbc (toks s.data.toList 0++[⟨4,[],s.size⟩])):=by
  have hm:s.size≤maxLen:=by unfold maxLen; omega
  go_enter Tryz.func141,Tryz.ntmps141
  go_wp2
  go_loopw [3,4] (fun v i wr=>∃ (k:Nat) (done:List Tok),k≤s.size∧i = .int .i64 k∧done.length≤k∧done++toks (s.data.toList.drop k) k=toks s.data.toList 0∧Below w.heap.size w wr ∧
      wr.ownsRow w.heap.size 243 3 v done.length (Zbc done)) (fun _ i _=>s.size - (intOf i).toNat)
  case atStart=>exact ⟨0,[],Qm _,rfl,Qe _,rfl,Below.refl _ _,World.ownsRow_nil _ _ _ _⟩
  case round =>
    obtain ⟨k,done,hk,rfl,hdk,hdone,hbel,hown⟩:=hrel
    have Hdone:Hid (done++toks (s.data.toList.drop k) k=toks s.data.toList 0):=hdone
    have Hown:Hid (wr.ownsRow w.heap.size 243 3 _ done.length (Zbc done)):=hown
    clear hdone hown
    by_cases hlt:k<s.size
    · have hd:=Zcu s k hlt
      have Hd:Hid _:=hd
      clear hd
      cases hbl:Zhk s[k]
      case true =>
        have hdone':Hid (done++toks (s.data.toList.drop (k+1)) (k+1)=toks s.data.toList 0):=by
          have h:=Hdone.out; rw [Hd.out,Zns _ _ _ hbl] at h; exact h
        rcases Zlv hbl with h32 | ⟨h32,h10⟩
        all_goals
          go_wp2_with fail
          refine (Zct _ Zeb _ (by decide)).mono ?_; rintro e w' ⟨rfl,rfl⟩
          go_wp2_with fail
          refine (Zct _ Zfi _ (by decide)).mono ?_; rintro e w' ⟨rfl,rfl⟩
          go_wp2_with fail
          refine (Zct _ Zhn _ (by decide)).mono ?_; rintro e w' ⟨rfl,rfl⟩
          go_wp2_with fail
          go_roundw
          case rel=>exact ⟨k+1,done,by omega,by go_num,by omega,hdone'.out,hbel,Hown.out⟩
          case measure=>simp [intOf]; omega
      case false =>
        obtain ⟨h32,h10⟩:=Zqt hbl
        have Hbl:Hid (Zhk s[k]=false):=hbl
        clear hbl
        cases hA:inB s[k] Zeb
        case true =>
          have Hhead:Hid (Zbq s[k] (s.data.toList.drop (k+1))=(1,Zbi (s.data.toList.drop (k+1)))):=by show _=_; unfold Zbq; rw [if_pos hA]
          have Hw:Hid (Zbi (s.data.toList.drop k)=Zbi (s.data.toList.drop (k+1))+1):=by show _=_; rw [Hd.out]; exact Zet _ _ (Zho (by assumption))
          have hwl:k+Zbi (s.data.toList.drop k)≤s.size:=by have:=Zkk (s.data.toList.drop k); simp at this; omega
          have hw1:1≤Zbi (s.data.toList.drop k):=by have:=Hw.out; omega
          go_wp2_with fail
          refine (Zct _ Zeb _ (by decide)).mono ?_; rintro e w' ⟨rfl,rfl⟩
          go_wp2_with fail
          refine (Zct _ Zfi _ (by decide)).mono ?_; rintro e w' ⟨rfl,rfl⟩
          go_wp2_with fail
          refine (Zct _ Zhn _ (by decide)).mono ?_; rintro e w' ⟨rfl,rfl⟩
          go_wp2_with fail
          refine (Zvb _ _ _ hm (by omega)).mono ?_; rintro e w' ⟨rfl,rfl⟩
          go_wp2_with (at_builtin; refine Zal _ rfl (.tmp 66) (.tmp 74) 238 rfl w.heap.size 243 Tryz.infoTok Tryz.underlying238 rfl (by decide) _ done.length (Zbc done) rfl Hown.out _ rfl rfl rfl (Zhq _ _ _) ?_ hbel.size ?_)
          · omega
          intro v' w1 hap
          have Hap:=Zaa hap
          clear hap
          go_wp2
          go_roundw
          case rel =>
            obtain ⟨j,done',h1,h2,h3,h4,h5,h6⟩:=Zfq hlt Hd.out Hbl.out (by rw [Hhead.out]; have:=Hw.out; omega) (by simp [Hhead.out]) hdk Hdone.out hbel Hown.out Hap.out rfl
            exact ⟨j,done',h1,by rw [← h2]; go_num,h3,h4,h5,h6⟩
          case measure=>simp [intOf]; omega
        case false =>
         cases hB:inB s[k] Zfi
         case true =>
          have Hhead:Hid (Zbq s[k] (s.data.toList.drop (k+1))=(2,Zbi (s.data.toList.drop (k+1)))):=by show _=_; unfold Zbq; rw [if_neg (by simp [hA]),if_pos hB]
          have Hw:Hid (Zbi (s.data.toList.drop k)=Zbi (s.data.toList.drop (k+1))+1):=by show _=_; rw [Hd.out]; exact Zet _ _ (Zip (by assumption))
          have hwl:k+Zbi (s.data.toList.drop k)≤s.size:=by have:=Zkk (s.data.toList.drop k); simp at this; omega
          have hw1:1≤Zbi (s.data.toList.drop k):=by have:=Hw.out; omega
          go_wp2_with fail
          refine (Zct _ Zeb _ (by decide)).mono ?_; rintro e w' ⟨rfl,rfl⟩
          go_wp2_with fail
          refine (Zct _ Zfi _ (by decide)).mono ?_; rintro e w' ⟨rfl,rfl⟩
          go_wp2_with fail
          refine (Zct _ Zhn _ (by decide)).mono ?_; rintro e w' ⟨rfl,rfl⟩
          go_wp2_with fail
          refine (Zvb _ _ _ hm (by omega)).mono ?_; rintro e w' ⟨rfl,rfl⟩
          go_wp2_with (at_builtin; refine Zal _ rfl (.tmp 66) (.tmp 74) 238 rfl w.heap.size 243 Tryz.infoTok Tryz.underlying238 rfl (by decide) _ done.length (Zbc done) rfl Hown.out _ rfl rfl rfl (Zhq _ _ _) ?_ hbel.size ?_)
          · omega
          intro v' w1 hap
          have Hap:=Zaa hap
          clear hap
          go_wp2
          go_roundw
          case rel =>
            obtain ⟨j,done',h1,h2,h3,h4,h5,h6⟩:=Zfq hlt Hd.out Hbl.out (by rw [Hhead.out]; have:=Hw.out; omega) (by simp [Hhead.out]) hdk Hdone.out hbel Hown.out Hap.out rfl
            exact ⟨j,done',h1,by rw [← h2]; go_num,h3,h4,h5,h6⟩
          case measure=>simp [intOf]; omega
         case false =>
          cases hC:inB s[k] Zhn
          case true =>
           have Hhead:Hid (Zbq s[k] (s.data.toList.drop (k+1))=(s[k].toNat,0)):=by show _=_; unfold Zbq; rw [if_neg (by simp [hA]),if_neg (by simp [hB]),if_pos hC]
           have hne0:((s[k].toNat:Int) == 0)=false:=Zoz hC
           have hby:(s[k].toNat:Int)<256:=by have:=s[k].toNat_lt; omega
           go_wp2_with fail
           refine (Zct _ Zeb _ (by decide)).mono ?_; rintro e w' ⟨rfl,rfl⟩
           go_wp2_with fail
           refine (Zct _ Zfi _ (by decide)).mono ?_; rintro e w' ⟨rfl,rfl⟩
           go_wp2_with fail
           refine (Zct _ Zhn _ (by decide)).mono ?_; rintro e w' ⟨rfl,rfl⟩
           go_wp2_with (at_builtin; refine Zal _ rfl (.tmp 66) (.tmp 74) 238 rfl w.heap.size 243 Tryz.infoTok Tryz.underlying238 rfl (by decide) _ done.length (Zbc done) rfl Hown.out _ rfl rfl rfl (Zhq _ _ _) ?_ hbel.size ?_)
           · omega
           intro v' w1 hap
           have Hap:=Zaa hap
           clear hap
           go_wp2
           go_roundw
           case rel =>
             obtain ⟨j,done',h1,h2,h3,h4,h5,h6⟩:=Zfq (to:=k+1) (kd:=s[k].toNat) hlt Hd.out Hbl.out (by simp [Hhead.out]) (by simp [Hhead.out]) hdk Hdone.out hbel Hown.out Hap.out (by first | rfl | simp [wrap64_byte])
             exact ⟨j,done',h1,by rw [← h2]; go_num,h3,h4,h5,h6⟩
           case measure=>simp [intOf]; omega
          case false =>
           by_cases hD:s[k]=58∧(s.data.toList.drop (k+1)).head?=some 45
           · have Hhead:Hid (Zbq s[k] (s.data.toList.drop (k+1))=(3,1)):=by show _=_; unfold Zbq; rw [if_neg (by simp [hA]),if_neg (by simp [hB]),if_neg (by simp [hC]),if_pos hD]
             obtain ⟨hl2,h45'⟩:=Ygl hD.2
             have h45:((s[k+1].toNat:Int) == 45)=true:=h45'
             clear h45'
             have h58:((s[k].toNat:Int) == 58)=true:=by rw [hD.1]; rfl
             clear hD
             go_wp2_with fail
             refine (Zct _ Zeb _ (by decide)).mono ?_; rintro e w' ⟨rfl,rfl⟩
             go_wp2_with fail
             refine (Zct _ Zfi _ (by decide)).mono ?_; rintro e w' ⟨rfl,rfl⟩
             go_wp2_with fail
             refine (Zct _ Zhn _ (by decide)).mono ?_; rintro e w' ⟨rfl,rfl⟩
             go_wp2_with (at_builtin; refine Zal _ rfl (.tmp 66) (.tmp 74) 238 rfl w.heap.size 243 Tryz.infoTok Tryz.underlying238 rfl (by decide) _ done.length (Zbc done) rfl Hown.out _ rfl rfl rfl (Zhq _ _ _) ?_ hbel.size ?_)
             · omega
             intro v' w1 hap
             have Hap:=Zaa hap
             clear hap
             go_wp2
             go_roundw
             case rel =>
               obtain ⟨j,done',h1,h2,h3,h4,h5,h6⟩:=Zfq hlt Hd.out Hbl.out (by simp [Hhead.out]) (by simp [Hhead.out]) hdk Hdone.out hbel Hown.out Hap.out rfl
               exact ⟨j,done',h1,by rw [← h2]; go_num,h3,h4,h5,h6⟩
             case measure=>simp [intOf]; omega
           · have Hhead:Hid (Zbq s[k] (s.data.toList.drop (k+1))=(5,0)):=by show _=_; unfold Zbq; rw [if_neg (by simp [hA]),if_neg (by simp [hB]),if_neg (by simp [hC]),if_neg hD]
             cases h58:((s[k].toNat:Int) == 58)
             · clear hD
               go_wp2_with fail
               refine (Zct _ Zeb _ (by decide)).mono ?_; rintro e w' ⟨rfl,rfl⟩
               go_wp2_with fail
               refine (Zct _ Zfi _ (by decide)).mono ?_; rintro e w' ⟨rfl,rfl⟩
               go_wp2_with fail
               refine (Zct _ Zhn _ (by decide)).mono ?_; rintro e w' ⟨rfl,rfl⟩
               go_wp2_with (at_builtin; refine Zal _ rfl (.tmp 66) (.tmp 74) 238 rfl w.heap.size 243 Tryz.infoTok Tryz.underlying238 rfl (by decide) _ done.length (Zbc done) rfl Hown.out _ rfl rfl rfl (Zhq _ _ _) ?_ hbel.size ?_)
               · omega
               intro v' w1 hap
               have Hap:=Zaa hap
               clear hap
               go_wp2
               go_roundw
               case rel =>
                 obtain ⟨j,done',h1,h2,h3,h4,h5,h6⟩:=Zfq hlt Hd.out Hbl.out (by simp [Hhead.out]) (by simp [Hhead.out]) hdk Hdone.out hbel Hown.out Hap.out rfl
                 exact ⟨j,done',h1,by rw [← h2]; go_num,h3,h4,h5,h6⟩
               case measure=>simp [intOf]; omega
             · have hD':¬ (s.data.toList.drop (k+1)).head?=some 45:=fun h=>hD ⟨Zzg (b:=58) h58,h⟩
               clear hD
               by_cases hl2:k+1<s.size
               · have h45:((s[k+1].toNat:Int) == 45)=false:=Yda hl2 hD'
                 clear hD'
                 go_wp2_with fail
                 refine (Zct _ Zeb _ (by decide)).mono ?_; rintro e w' ⟨rfl,rfl⟩
                 go_wp2_with fail
                 refine (Zct _ Zfi _ (by decide)).mono ?_; rintro e w' ⟨rfl,rfl⟩
                 go_wp2_with fail
                 refine (Zct _ Zhn _ (by decide)).mono ?_; rintro e w' ⟨rfl,rfl⟩
                 go_wp2_with (at_builtin; refine Zal _ rfl (.tmp 66) (.tmp 74) 238 rfl w.heap.size 243 Tryz.infoTok Tryz.underlying238 rfl (by decide) _ done.length (Zbc done) rfl Hown.out _ rfl rfl rfl (Zhq _ _ _) ?_ hbel.size ?_)
                 · omega
                 intro v' w1 hap
                 have Hap:=Zaa hap
                 clear hap
                 go_wp2
                 go_roundw
                 case rel =>
                   obtain ⟨j,done',h1,h2,h3,h4,h5,h6⟩:=Zfq hlt Hd.out Hbl.out (by simp [Hhead.out]) (by simp [Hhead.out]) hdk Hdone.out hbel Hown.out Hap.out rfl
                   exact ⟨j,done',h1,by rw [← h2]; go_num,h3,h4,h5,h6⟩
                 case measure=>simp [intOf]; omega
               · clear hD'
                 go_wp2_with fail
                 refine (Zct _ Zeb _ (by decide)).mono ?_; rintro e w' ⟨rfl,rfl⟩
                 go_wp2_with fail
                 refine (Zct _ Zfi _ (by decide)).mono ?_; rintro e w' ⟨rfl,rfl⟩
                 go_wp2_with fail
                 refine (Zct _ Zhn _ (by decide)).mono ?_; rintro e w' ⟨rfl,rfl⟩
                 go_wp2_with (at_builtin; refine Zal _ rfl (.tmp 66) (.tmp 74) 238 rfl w.heap.size 243 Tryz.infoTok Tryz.underlying238 rfl (by decide) _ done.length (Zbc done) rfl Hown.out _ rfl rfl rfl (Zhq _ _ _) ?_ hbel.size ?_)
                 · omega
                 intro v' w1 hap
                 have Hap:=Zaa hap
                 clear hap
                 go_wp2
                 go_roundw
                 case rel =>
                   obtain ⟨j,done',h1,h2,h3,h4,h5,h6⟩:=Zfq hlt Hd.out Hbl.out (by simp [Hhead.out]) (by simp [Hhead.out]) hdk Hdone.out hbel Hown.out Hap.out rfl
                   exact ⟨j,done',h1,by rw [← h2]; go_num,h3,h4,h5,h6⟩
                 case measure=>simp [intOf]; omega
    · have Hfin:Hid (done=toks s.data.toList 0):=by
        have h:=Hdone.out; rw [Zfp s k hlt] at h; show done=_; simpa [Ycz] using h
      go_wp2_with (at_builtin; refine Zal _ rfl (.tmp 77) (.tmp 81) 238 rfl w.heap.size 243 Tryz.infoTok Tryz.underlying238 rfl (by decide) _ done.length (Zbc done) rfl Hown.out _ rfl rfl rfl (Zhq _ _ _) ?_ hbel.size ?_)
      · omega
      intro v' w1 hap
      have Hap:=Zaa hap
      clear hap
      go_wp2
      go_ret
      have ha:=Hap.out
      rw [Hfin.out] at ha
      refine ⟨v',rfl,hbel.trans (ha.kept.below hbel.size (fun i hi=>(Hown.out.lt i hi).1)),?_⟩
      simpa [Zbc,Zeh] using ha.owns
structure LookS where
 want:Nat
 query:Bool
 body:Bool
 stk:List Nat
 size:Nat
 goals:Nat
 heads:Nat
 err:Nat
def Zay (L:LookS) (ov:Value):Array Value :=
 #[.int .i64 L.want,.bool L.query,.bool L.body,ov,.int .i64 L.size,.int .i64 L.goals,.int .i64 L.heads,.int .i64 L.err]
def ints (l:List Nat):List Value:=l.map fun (n:Nat)=>Value.int .i64 n
structure IsLook (w:World) (B b:Nat) (L:LookS) (ov:Value):Prop where
 blk:w.heap[b]?=some (.cells (Zay L ov) 278 (0,0))
 opn:w.ownsRow B 3 1 ov L.stk.length (ints L.stk.reverse)
theorem Zab {w:World} {b:Nat} {cs:Array Value} {T:TypeId} (h:w.heap[b]?=some (.cells cs T (0,0))) (i:Nat) (v:Value) (hv:cs[i]?=some v) :
  w.cell? ⟨b,i,none⟩=some v:=by simp [World.cell?,h,hv]
theorem Zae {w:World} {b:Nat} {cs:Array Value} {T:TypeId} (h:w.heap[b]?=some (.cells cs T (0,0))) (i:Nat):w.frozen? ⟨b,i,none⟩=false:=by
 simp [World.frozen?,h]
theorem Zac {w:World} {b:Nat} {o:Obj} (h:w.heap[b]?=some o):b<w.heap.size:=(Array.getElem?_eq_some_iff.1 h).1
theorem Zai {w:World} {b:Nat} {cs:Array Value} {T:TypeId} (h:w.heap[b]?=some (.cells cs T (0,0))) (i:Nat) (v:Value) :
  (w.setCell ⟨b,i,none⟩ v).heap[b]?=some (.cells (cs.setIfInBounds i v) T (0,0)):=by
 simp [World.setCell,Array.getElem?_modify,h]
theorem Zag {w:World} {b:Nat} {o:Obj} (h:w.heap[b]?=some o) (o':Obj):(w.alloc o').heap[b]?=some o:=by
 rw [Below.heap_alloc _ _ _ (Zac h)]; exact h
theorem IsLook.facts {w:World} {B b:Nat} {L:LookS} {ov:Value} (h:IsLook w B b L ov) :
  b<w.heap.size∧(w.cell? ⟨b,0,none⟩=some (.int .i64 L.want)∧w.cell? ⟨b,1,none⟩=some (.bool L.query)∧w.cell? ⟨b,2,none⟩=some (.bool L.body)∧w.cell? ⟨b,3,none⟩=some ov ∧
   w.cell? ⟨b,4,none⟩=some (.int .i64 L.size)∧w.cell? ⟨b,5,none⟩=some (.int .i64 L.goals)∧w.cell? ⟨b,6,none⟩=some (.int .i64 L.heads)∧w.cell? ⟨b,7,none⟩=some (.int .i64 L.err)) ∧
  (∀ i,w.frozen? ⟨b,i,none⟩=false) :=
 ⟨Zac h.blk,⟨Zab h.blk 0 _ rfl,Zab h.blk 1 _ rfl,Zab h.blk 2 _ rfl,Zab h.blk 3 _ rfl,Zab h.blk 4 _ rfl,Zab h.blk 5 _ rfl,Zab h.blk 6 _ rfl,Zab h.blk 7 _ rfl⟩,
  fun i=>Zae h.blk i⟩
theorem IsLook.apart {w:World} {B b:Nat} {L:LookS} {ov:Value} (h:IsLook w B b L ov):∀ k,ov.ownBlock=some k→¬ k=b:=by
 rintro k hk rfl
 rcases h.opn.2 with ⟨rfl,_⟩ | ⟨g,cap,cur,rfl,_,hg,_⟩
 ·simp [Value.ownBlock] at hk
 ·simp only [Value.ownBlock,Qo] at hk
  subst hk
  rw [h.blk] at hg
  simp at hg
theorem IsLook.later {S:Nat→Prop} {w w':World} {B b:Nat} {L:LookS} {ov:Value} (h:IsLook w B b L ov) (hk:Kept S w w') (hb:¬ S b) (ho:∀ k,ov.ownBlock=some k→¬ S k):IsLook w' B b L ov :=
 ⟨(hk.block b (Zac h.blk) hb).trans h.blk,hk.owns h.opn ho⟩
def only (b:Nat):Nat→Prop:=fun k=>k=b
theorem Kept.put {a w:World} {b:Nat} (h:Kept (only b) a w) (i:Nat) (u:Value):Kept (only b) a (w.setCell ⟨b,i,none⟩ u):=h.setCell (p:=⟨b,i,none⟩) (fun _=>(rfl:b=b)) u
def Zhr (L:LookS) (n:Nat):LookS := { L with size:=L.size+1,err:=if 8<n∨30<L.size+1 then 3 else L.err }
theorem Zfa (w:World) (B b:Nat) (L:LookS) (ov:Value) (kd ps:Int) (tx:ByteArray) (h:IsLook w B b L ov) (hs:L.size≤4096) (ht:tx.size≤4096) :
  Calls Tryz.prog 201 #[.pointer (some ⟨b,0,none⟩),.agg #[.int .i64 kd,.string tx,.int .i64 ps]] w fun e w' =>
   e = .returned (.tuple #[])∧Kept (only b) w w'∧IsLook w' B b (Zhr L tx.size) ov:=by
 obtain ⟨hb,⟨c0,c1,c2,c3,c4,c5,c6,c7⟩,hf⟩:=h.facts
 have fin:∀ (x:World) (e:Nat),x.heap[b]?=some (.cells (((Zay L ov).setIfInBounds 4 (.int .i64 (L.size+1:Nat))).setIfInBounds 7 (.int .i64 e)) 278 (0,0))→e=(Zhr L tx.size).err→Kept (only b) w x→IsLook x B b (Zhr L tx.size) ov:=by
  intro x e hx he hk
  refine ⟨?_,hk.owns h.opn h.apart⟩
  rw [hx,he]
  rfl
 have Hfin:=Zaa fin
 have Hblk:=Zaa h.blk
 clear fin h
 by_cases h1:8<tx.size
 ·go_enter Tryz.func201,Tryz.ntmps201
  go_wp2
  go_end0
  have hk:Kept (only b) w (((w.setCell ⟨b,4,none⟩ (.int .i64 (L.size+1:Nat))).setCell ⟨b,7,none⟩ (.int .i64 (3:Nat))).alloc (.cells #[.int .i64 kd,.string tx,.int .i64 ps] 243)) :=
   (((Qx _ w).put 4 _).put 7 _).alloc _
  exact ⟨rfl,hk,Hfin.out _ 3 (Zag (Zai (Zai Hblk.out 4 _) 7 _) _) (by simp [Zhr,h1]) hk⟩
 ·by_cases h2:30<L.size+1
  ·have h2':((30:Int)<(L.size:Int)+1):=by omega
   go_enter Tryz.func201,Tryz.ntmps201
   go_wp2
   go_end0
   have hk:Kept (only b) w (((w.setCell ⟨b,4,none⟩ (.int .i64 (L.size+1:Nat))).setCell ⟨b,7,none⟩ (.int .i64 (3:Nat))).alloc (.cells #[.int .i64 kd,.string tx,.int .i64 ps] 243)) :=
    (((Qx _ w).put 4 _).put 7 _).alloc _
   exact ⟨rfl,hk,Hfin.out _ 3 (Zag (Zai (Zai Hblk.out 4 _) 7 _) _) (by simp [Zhr,h1,h2]) hk⟩
  ·have h2':¬ ((30:Int)<(L.size:Int)+1):=by omega
   go_enter Tryz.func201,Tryz.ntmps201
   go_wp2
   go_end0
   have hk:Kept (only b) w ((w.setCell ⟨b,4,none⟩ (.int .i64 (L.size+1:Nat))).alloc (.cells #[.int .i64 kd,.string tx,.int .i64 ps] 243)) :=
    ((Qx _ w).put 4 _).alloc _
   exact ⟨rfl,hk,Hfin.out _ L.err (Zag (Zai Hblk.out 4 _) _) (by simp [Zhr,h1]; omega) hk⟩
def Zbm (L:LookS):LookS :=
 if L.want=0 then { L with heads:=L.heads+1,body:=false,size:=0,err:=if 24<L.heads+1 then 3 else L.err }
 else if L.want=1 then { L with goals:=L.goals+1,size:=0,err:=if 6<L.goals+1 then 3 else L.err }
 else match L.stk with
  | []=>L
  | n::r => { L with stk:=(n+1)::r,err:=if 4<n+1 then 3 else L.err }
def Zau (L:LookS) (kd tn:Nat):LookS :=
 if kd≠1∧(kd≠2∨L.want≠2) then { L with err:=2 } else { Zhr (Zbm L) tn with want:=if kd=1 then 3 else 4 }
theorem Zcl (w:World) (cs:Array Value) (T:TypeId) (i:Nat) (v:Value) (h:cs[i]?=some v):(w.alloc (.cells cs T)).cell? ⟨w.heap.size,i,none⟩=some v :=
 Zab (heap_alloc_new w _) i v h
theorem Zky {W:World} {b:Nat} (i:Nat) (h:b<W.heap.size):¬ only b (⟨W.heap.size,i,none⟩:Addr).block:=fun e=>by have:W.heap.size=b:=e; omega
theorem IsLook.from {w W:World} {B b:Nat} {L L':LookS} {ov:Value} {cs:Array Value} (h:IsLook w B b L ov) (hk:Kept (only b) w W) (hblk:W.heap[b]?=some (.cells cs 278 (0,0)))
  (hcs:cs=Zay L' ov) (hst:L'.stk=L.stk):IsLook W B b L' ov :=
 ⟨by rw [hblk,hcs],by rw [hst]; exact hk.owns h.opn h.apart⟩
theorem Zsw (w:World) (B b:Nat) (L:LookS) (ov:Value) (ps:Int) (tx:ByteArray) (h:IsLook w B b L ov) (hL:L.heads≤4096) (ht:tx.size≤4096) (hw:L.want=0) :
  Calls Tryz.prog 177 #[.pointer (some ⟨b,0,none⟩),.agg #[.int .i64 1,.string tx,.int .i64 ps]] w fun e w' =>
   e = .returned (.tuple #[])∧Kept (only b) w w'∧IsLook w' B b (Zau L 1 tx.size) ov:=by
 obtain ⟨hb,⟨c0,c1,c2,c3,c4,c5,c6,c7⟩,hf⟩:=h.facts
 rw [hw] at c0
 have Hw:=Zaa hw
 have Hlook:=Zaa h
 clear h hw
 by_cases h1:24<L.heads+1
 ·have h1':(24:Int)<(L.heads:Int)+1:=by omega
  go_enter Tryz.func177,Tryz.ntmps177
  go_wp2_with fail
  refine (Zfa _ B b (Zbm L) ov _ _ _ ?_ ?_ ht).mono ?_
  ·exact Hlook.out.from ((((((Qx (only b) w).put 6 _).put 2 _).put 4 _).put 7 _).alloc _) (Zag (Zai (Zai (Zai (Zai Hlook.out.blk 6 _) 2 _) 4 _) 7 _) _) (by simp [Zay,Zbm,Hw.out,h1]) (by simp [Zbm,Hw.out,h1])
  ·simp [Zbm,Hw.out,h1]
  rintro e w1 ⟨rfl,hk1,hl1⟩
  have hbox:w1.cell? ⟨w.heap.size,0,none⟩=some (.int .i64 1):=by
   have h:=hk1.cell (Zcl _ _ _ 0 _ rfl) (Zky _ (by simpa using hb))
   simpa using h
  have hk1':=Zaa (((((((Qx (only b) w).put 6 _).put 2 _).put 4 _).put 7 _).alloc _).trans hk1)
  have hl1':=Zaa hl1
  have d0:=hl1.facts.2.1.1
  have df:=hl1.facts.2.2
  clear hk1 hl1 c0 c1 c2 c3 c4 c5 c6 c7 hf
  go_wp2
  go_end0
  exact ⟨rfl,hk1'.out.trans (((Qx (only b) w1).put 0 _).put 0 _),hl1'.out.from (((Qx (only b) w1).put 0 _).put 0 _) (Zai (Zai hl1'.out.blk 0 _) 0 _) (by simp [Zay,Zau,Hw.out,h1]) (by simp [Zau,Hw.out,h1])⟩
 ·have h1':¬ (24:Int)<(L.heads:Int)+1:=by omega
  go_enter Tryz.func177,Tryz.ntmps177
  go_wp2_with fail
  refine (Zfa _ B b (Zbm L) ov _ _ _ ?_ ?_ ht).mono ?_
  ·exact Hlook.out.from (((((Qx (only b) w).put 6 _).put 2 _).put 4 _).alloc _) (Zag (Zai (Zai (Zai Hlook.out.blk 6 _) 2 _) 4 _) _) (by simp [Zay,Zbm,Hw.out,h1]) (by simp [Zbm,Hw.out,h1])
  ·simp [Zbm,Hw.out,h1]
  rintro e w1 ⟨rfl,hk1,hl1⟩
  have hbox:w1.cell? ⟨w.heap.size,0,none⟩=some (.int .i64 1):=by
   have h:=hk1.cell (Zcl _ _ _ 0 _ rfl) (Zky _ (by simpa using hb))
   simpa using h
  have hk1':=Zaa ((((((Qx (only b) w).put 6 _).put 2 _).put 4 _).alloc _).trans hk1)
  have hl1':=Zaa hl1
  have d0:=hl1.facts.2.1.1
  have df:=hl1.facts.2.2
  clear hk1 hl1 c0 c1 c2 c3 c4 c5 c6 c7 hf
  go_wp2
  go_end0
  exact ⟨rfl,hk1'.out.trans (((Qx (only b) w1).put 0 _).put 0 _),hl1'.out.from (((Qx (only b) w1).put 0 _).put 0 _) (Zai (Zai hl1'.out.blk 0 _) 0 _) (by simp [Zay,Zau,Hw.out,h1]) (by simp [Zau,Hw.out,h1])⟩
theorem Zsx (w:World) (B b:Nat) (L:LookS) (ov:Value) (ps:Int) (tx:ByteArray) (h:IsLook w B b L ov) (hL:L.goals≤4096) (ht:tx.size≤4096) (hw:L.want=1) :
  Calls Tryz.prog 177 #[.pointer (some ⟨b,0,none⟩),.agg #[.int .i64 1,.string tx,.int .i64 ps]] w fun e w' =>
   e = .returned (.tuple #[])∧Kept (only b) w w'∧IsLook w' B b (Zau L 1 tx.size) ov:=by
 obtain ⟨hb,⟨c0,c1,c2,c3,c4,c5,c6,c7⟩,hf⟩:=h.facts
 rw [hw] at c0
 have Hw:=Zaa hw
 have Hlook:=Zaa h
 clear h hw
 by_cases h1:6<L.goals+1
 ·have h1':(6:Int)<(L.goals:Int)+1:=by omega
  go_enter Tryz.func177,Tryz.ntmps177
  go_wp2_with fail
  refine (Zfa _ B b (Zbm L) ov _ _ _ ?_ ?_ ht).mono ?_
  ·exact Hlook.out.from (((((Qx (only b) w).put 5 _).put 4 _).put 7 _).alloc _) (Zag (Zai (Zai (Zai Hlook.out.blk 5 _) 4 _) 7 _) _) (by simp [Zay,Zbm,Hw.out,h1]) (by simp [Zbm,Hw.out,h1])
  ·simp [Zbm,Hw.out,h1]
  rintro e w1 ⟨rfl,hk1,hl1⟩
  have hbox:w1.cell? ⟨w.heap.size,0,none⟩=some (.int .i64 1):=by
   have h:=hk1.cell (Zcl _ _ _ 0 _ rfl) (Zky _ (by simpa using hb))
   simpa using h
  have hk1':=Zaa ((((((Qx (only b) w).put 5 _).put 4 _).put 7 _).alloc _).trans hk1)
  have hl1':=Zaa hl1
  have d0:=hl1.facts.2.1.1
  have df:=hl1.facts.2.2
  clear hk1 hl1 c0 c1 c2 c3 c4 c5 c6 c7 hf
  go_wp2
  go_end0
  exact ⟨rfl,hk1'.out.trans (((Qx (only b) w1).put 0 _).put 0 _),hl1'.out.from (((Qx (only b) w1).put 0 _).put 0 _) (Zai (Zai hl1'.out.blk 0 _) 0 _) (by simp [Zay,Zau,Hw.out,h1]) (by simp [Zau,Hw.out,h1])⟩
 ·have h1':¬ (6:Int)<(L.goals:Int)+1:=by omega
  go_enter Tryz.func177,Tryz.ntmps177
  go_wp2_with fail
  refine (Zfa _ B b (Zbm L) ov _ _ _ ?_ ?_ ht).mono ?_
  ·exact Hlook.out.from ((((Qx (only b) w).put 5 _).put 4 _).alloc _) (Zag (Zai (Zai Hlook.out.blk 5 _) 4 _) _) (by simp [Zay,Zbm,Hw.out,h1]) (by simp [Zbm,Hw.out,h1])
  ·simp [Zbm,Hw.out,h1]
  rintro e w1 ⟨rfl,hk1,hl1⟩
  have hbox:w1.cell? ⟨w.heap.size,0,none⟩=some (.int .i64 1):=by
   have h:=hk1.cell (Zcl _ _ _ 0 _ rfl) (Zky _ (by simpa using hb))
   simpa using h
  have hk1':=Zaa (((((Qx (only b) w).put 5 _).put 4 _).alloc _).trans hk1)
  have hl1':=Zaa hl1
  have d0:=hl1.facts.2.1.1
  have df:=hl1.facts.2.2
  clear hk1 hl1 c0 c1 c2 c3 c4 c5 c6 c7 hf
  go_wp2
  go_end0
  exact ⟨rfl,hk1'.out.trans (((Qx (only b) w1).put 0 _).put 0 _),hl1'.out.from (((Qx (only b) w1).put 0 _).put 0 _) (Zai (Zai hl1'.out.blk 0 _) 0 _) (by simp [Zay,Zau,Hw.out,h1]) (by simp [Zau,Hw.out,h1])⟩
theorem Zwn (w:World) (B b:Nat) (L:LookS) (ov:Value) (kd:Nat) (ps:Int) (tx:ByteArray) (h:IsLook w B b L ov) (hk:kd≠1∧(kd≠2∨L.want≠2)) :
  Calls Tryz.prog 177 #[.pointer (some ⟨b,0,none⟩),.agg #[.int .i64 kd,.string tx,.int .i64 ps]] w fun e w' =>
   e = .returned (.tuple #[])∧Kept (only b) w w'∧IsLook w' B b (Zau L kd tx.size) ov:=by
 obtain ⟨hb,⟨c0,c1,c2,c3,c4,c5,c6,c7⟩,hf⟩:=h.facts
 have Hk:=Zaa hk
 have Hlook:=Zaa h
 have g1:((kd:Int) == 1)=false:=by rw [Qu]; omega
 have g1':((kd:Int) != 1)=true:=by rw [bne_iff_ne]; omega
 cases g2:((kd:Int) != 2)
 ·have g3:((L.want:Int) != 2)=true:=by
   rw [bne_iff_ne]
   have:(kd:Int)=2:=by simpa using g2
   omega
  clear h hk
  go_enter Tryz.func177,Tryz.ntmps177
  go_wp2
  refine bodyPost_ret (results_none rfl _ _ _) rfl ?_
  exact ⟨rfl,((Qx (only b) w).put 7 _).alloc _,Hlook.out.from (((Qx (only b) w).put 7 _).alloc _) (Zag (Zai Hlook.out.blk 7 _) _) (by unfold Zau; rw [if_pos Hk.out]; simp [Zay]) (by unfold Zau; rw [if_pos Hk.out])⟩
 ·clear h hk
  go_enter Tryz.func177,Tryz.ntmps177
  go_wp2
  refine bodyPost_ret (results_none rfl _ _ _) rfl ?_
  exact ⟨rfl,((Qx (only b) w).put 7 _).alloc _,Hlook.out.from (((Qx (only b) w).put 7 _).alloc _) (Zag (Zai Hlook.out.blk 7 _) _) (by unfold Zau; rw [if_pos Hk.out]; simp [Zay]) (by unfold Zau; rw [if_pos Hk.out])⟩
def Zdx (b:Nat) (ov:Value):Nat→Prop:=fun k=>k=b∨ov.ownBlock=some k
theorem Zpa {w:World} {B:Nat} {e:TypeId} {g n cap:Nat} {xs:List Value} (h:w.ownsRow B e 1 (.slice (some ⟨g,0,none⟩) n cap) n xs) (i:Nat) (u:Value) :
  (w.setCell ⟨g,i,none⟩ u).ownsRow B e 1 (.slice (some ⟨g,0,none⟩) n cap) n (xs.set i u):=by
 refine ⟨by simpa using h.1,?_⟩
 rcases h.2 with ⟨h1,_⟩ | ⟨g',cap',cur,h1,hb,hg,hn,hc,hs,ht⟩
 ·simp at h1
 ·simp at h1
  obtain ⟨rfl,rfl⟩:=h1
  refine .inr ⟨g,cap,cur.setIfInBounds i u,rfl,hb,Zai hg i u,hn,hc,by simpa using hs,?_⟩
  rw [← ht]
  simp [List.take_set]
theorem Zan {w:World} {B:Nat} {e:TypeId} {size n:Nat} {v:Value} {xs:List Value} (h:w.ownsRow B e size v n xs) (hn:0<n) :
  ∃ g cap cur,v = .slice (some ⟨g,0,none⟩) n cap∧B≤g∧w.heap[g]?=some (.cells cur e (0,0))∧n≤cap:=by
 rcases h.2 with ⟨_,h1⟩ | ⟨g,cap,cur,h1,hb,hg,hn,_⟩
 ·omega
 ·exact ⟨g,cap,cur,h1,hb,hg,hn⟩
theorem Zaf {w:World} {B:Nat} {e:TypeId} {size n g cap:Nat} {xs:List Value} (h:w.ownsRow B e size (.slice (some ⟨g,0,none⟩) n cap) n xs) (j:Nat) (u:Value) (hu:xs[j]?=some u) :
  w.cell? ⟨g,j,none⟩=some u:=by
 have:=h.cells (g:=g) rfl j u hu
 have hadd:(⟨g,0,none⟩:Addr).add j=⟨g,j,none⟩:=by unfold Addr.add; split <;> simp_all
 rwa [hadd] at this
theorem IsLook.bump {w:World} {B b g n cap:Nat} {L:LookS} {r:List Nat} (h:IsLook w B b L (.slice (some ⟨g,0,none⟩) (r.length+1) cap)) (hst:L.stk=n::r) :
  IsLook (w.setCell ⟨g,r.length,none⟩ (.int .i64 ((n:Int)+1))) B b { L with stk:=(n+1)::r } (.slice (some ⟨g,0,none⟩) (r.length+1) cap):=by
 have hgb:¬ g=b:=h.apart g rfl
 refine ⟨?_,?_⟩
 ·rw [Below.heap_setCell _ _ _ _ (fun e=>hgb e.symm)]; exact h.blk
 ·have ho:=h.opn
  rw [hst] at ho
  have h2:=Zpa ho r.length (.int .i64 ((n:Int)+1))
  simp only [Qf]
  have e:(ints (n::r).reverse).set r.length (.int .i64 ((n:Int)+1))=ints ((n+1)::r).reverse:=by
   simp [ints]
  rw [e] at h2
  exact h2
theorem Zen (w:World) (cs:Array Value) (T:TypeId) (i:Nat) (v:Value) (h:cs[i]?=some v):(w.alloc (.cells cs T)).drew.cell? ⟨w.heap.size,i,none⟩=some v :=
 Zab (heap_alloc_new w _) i v h
theorem Zqu (w:World) (B b:Nat) (L:LookS) (n:Nat) (r:List Nat) (ov:Value) (ps:Int) (tx:ByteArray) (h:IsLook w B b L ov) (hst:L.stk=n::r) (hL:L.size≤4000) (hn:n≤4096) (hr:r.length≤4096) (ht:tx.size≤4096) (hw:L.want=2) :
  Calls Tryz.prog 177 #[.pointer (some ⟨b,0,none⟩),.agg #[.int .i64 1,.string tx,.int .i64 ps]] w fun e w' =>
   e = .returned (.tuple #[])∧Kept (Zdx b ov) w w'∧IsLook w' B b (Zau L 1 tx.size) ov:=by
 obtain ⟨hb,⟨c0,c1,c2,c3,c4,c5,c6,c7⟩,hf⟩:=h.facts
 have hop:=h.opn
 rw [hst] at hop
 obtain ⟨g,cap,cur,rfl,hBg,hg,hcap⟩:=Zan hop (by simp)
 have hgl:=Zac hg
 have hgb:¬ g=b:=h.apart g rfl
 have cg:w.cell? ⟨g,r.length,none⟩=some (.int .i64 n):=Zaf hop r.length _ (by simp [ints])
 have fg:=Zae hg r.length
 rw [hw] at c0
 simp only [Qf] at hop hcap c3 h
 have Hw:=Zaa hw
 have Hst:=Zaa hst
 have Hl:=Zaa (h.bump hst)
 have Hk:Hid (Kept (Zdx b (.slice (some ⟨g,0,none⟩) (r.length+1) cap)) w (w.setCell ⟨g,r.length,none⟩ (.int .i64 ((n:Int)+1)))):=(Qx _ w).setCell (p:=⟨g,r.length,none⟩) (fun _=>Or.inr rfl) _
 clear h hw hst hop hg
 by_cases h1:4<n+1
 ·have h1':(4:Int)<(n:Int)+1:=by omega
  go_enter Tryz.func177,Tryz.ntmps177
  go_wp2_with fail
  go_region
  go_wp2_with fail
  refine (Zfa _ B b (Zbm L) (.slice (some ⟨g,0,none⟩) (r.length+1) cap) _ _ _ ?_ ?_ ht).mono ?_
  ·exact Hl.out.from ((((Qx (only b) _).put 7 _).alloc _).drew) (Zag (Zai Hl.out.blk 7 _) _) (by simp [Zay,Zbm,Hw.out,Hst.out,h1]) (by simp [Zbm,Hw.out,Hst.out,h1])
  ·simp [Zbm,Hw.out,Hst.out,h1]; omega
  rintro e w1 ⟨rfl,hk1,hl1⟩
  have hbox:w1.cell? ⟨w.heap.size,0,none⟩=some (.int .i64 1):=by
   have h:=hk1.cell (Zen _ _ _ 0 _ rfl) (Zky _ (by simpa using hb))
   simpa using h
  have hk1':=Zaa (Hk.out.then (((((Qx (only b) _).put 7 _).alloc _).drew).trans hk1) (fun i _ h=>Or.inl h))
  have hl1':=Zaa hl1
  have d0:=hl1.facts.2.1.1
  have df:=hl1.facts.2.2
  clear hk1 hl1 c0 c1 c2 c3 c4 c5 c6 c7 hf cg fg
  go_wp2
  go_end0
  exact ⟨rfl,hk1'.out.then (((Qx (only b) w1).put 0 _).put 0 _) (fun i _ h=>Or.inl h),hl1'.out.from (((Qx (only b) w1).put 0 _).put 0 _) (Zai (Zai hl1'.out.blk 0 _) 0 _) (by simp [Zay,Zau,Hw.out,Hst.out,h1]) (by simp [Zau,Hw.out,Hst.out,h1])⟩
 ·have h1':¬ (4:Int)<(n:Int)+1:=by omega
  go_enter Tryz.func177,Tryz.ntmps177
  go_wp2_with fail
  go_region
  go_wp2_with fail
  refine (Zfa _ B b (Zbm L) (.slice (some ⟨g,0,none⟩) (r.length+1) cap) _ _ _ ?_ ?_ ht).mono ?_
  ·exact Hl.out.from (((Qx (only b) _).alloc _).drew) (Zag Hl.out.blk _) (by simp [Zay,Zbm,Hw.out,Hst.out,h1]) (by simp [Zbm,Hw.out,Hst.out,h1])
  ·simp [Zbm,Hw.out,Hst.out,h1]; omega
  rintro e w1 ⟨rfl,hk1,hl1⟩
  have hbox:w1.cell? ⟨w.heap.size,0,none⟩=some (.int .i64 1):=by
   have h:=hk1.cell (Zen _ _ _ 0 _ rfl) (Zky _ (by simpa using hb))
   simpa using h
  have hk1':=Zaa (Hk.out.then ((((Qx (only b) _).alloc _).drew).trans hk1) (fun i _ h=>Or.inl h))
  have hl1':=Zaa hl1
  have d0:=hl1.facts.2.1.1
  have df:=hl1.facts.2.2
  clear hk1 hl1 c0 c1 c2 c3 c4 c5 c6 c7 hf cg fg
  go_wp2
  go_end0
  exact ⟨rfl,hk1'.out.then (((Qx (only b) w1).put 0 _).put 0 _) (fun i _ h=>Or.inl h),hl1'.out.from (((Qx (only b) w1).put 0 _).put 0 _) (Zai (Zai hl1'.out.blk 0 _) 0 _) (by simp [Zay,Zau,Hw.out,Hst.out,h1]) (by simp [Zau,Hw.out,Hst.out,h1])⟩
theorem Zqv (w:World) (B b:Nat) (L:LookS) (n:Nat) (r:List Nat) (ov:Value) (ps:Int) (tx:ByteArray) (h:IsLook w B b L ov) (hst:L.stk=n::r) (hL:L.size≤4000) (hn:n≤4096) (hr:r.length≤4096) (ht:tx.size≤4096) (hw:L.want=2) :
  Calls Tryz.prog 177 #[.pointer (some ⟨b,0,none⟩),.agg #[.int .i64 2,.string tx,.int .i64 ps]] w fun e w' =>
   e = .returned (.tuple #[])∧Kept (Zdx b ov) w w'∧IsLook w' B b (Zau L 2 tx.size) ov:=by
 obtain ⟨hb,⟨c0,c1,c2,c3,c4,c5,c6,c7⟩,hf⟩:=h.facts
 have hop:=h.opn
 rw [hst] at hop
 obtain ⟨g,cap,cur,rfl,hBg,hg,hcap⟩:=Zan hop (by simp)
 have hgl:=Zac hg
 have hgb:¬ g=b:=h.apart g rfl
 have cg:w.cell? ⟨g,r.length,none⟩=some (.int .i64 n):=Zaf hop r.length _ (by simp [ints])
 have fg:=Zae hg r.length
 rw [hw] at c0
 simp only [Qf] at hop hcap c3 h
 have Hw:=Zaa hw
 have Hst:=Zaa hst
 have Hl:=Zaa (h.bump hst)
 have Hk:Hid (Kept (Zdx b (.slice (some ⟨g,0,none⟩) (r.length+1) cap)) w (w.setCell ⟨g,r.length,none⟩ (.int .i64 ((n:Int)+1)))):=(Qx _ w).setCell (p:=⟨g,r.length,none⟩) (fun _=>Or.inr rfl) _
 clear h hw hst hop hg
 by_cases h1:4<n+1
 ·have h1':(4:Int)<(n:Int)+1:=by omega
  go_enter Tryz.func177,Tryz.ntmps177
  go_wp2_with fail
  go_region
  go_wp2_with fail
  refine (Zfa _ B b (Zbm L) (.slice (some ⟨g,0,none⟩) (r.length+1) cap) _ _ _ ?_ ?_ ht).mono ?_
  ·exact Hl.out.from ((((Qx (only b) _).put 7 _).alloc _).drew) (Zag (Zai Hl.out.blk 7 _) _) (by simp [Zay,Zbm,Hw.out,Hst.out,h1]) (by simp [Zbm,Hw.out,Hst.out,h1])
  ·simp [Zbm,Hw.out,Hst.out,h1]; omega
  rintro e w1 ⟨rfl,hk1,hl1⟩
  have hbox:w1.cell? ⟨w.heap.size,0,none⟩=some (.int .i64 2):=by
   have h:=hk1.cell (Zen _ _ _ 0 _ rfl) (Zky _ (by simpa using hb))
   simpa using h
  have hk1':=Zaa (Hk.out.then (((((Qx (only b) _).put 7 _).alloc _).drew).trans hk1) (fun i _ h=>Or.inl h))
  have hl1':=Zaa hl1
  have d0:=hl1.facts.2.1.1
  have df:=hl1.facts.2.2
  clear hk1 hl1 c0 c1 c2 c3 c4 c5 c6 c7 hf cg fg
  go_wp2
  go_end0
  exact ⟨rfl,hk1'.out.then ((Qx (only b) w1).put 0 _) (fun i _ h=>Or.inl h),hl1'.out.from ((Qx (only b) w1).put 0 _) (Zai hl1'.out.blk 0 _) (by simp [Zay,Zau,Hw.out,Hst.out,h1]) (by simp [Zau,Hw.out,Hst.out,h1])⟩
 ·have h1':¬ (4:Int)<(n:Int)+1:=by omega
  go_enter Tryz.func177,Tryz.ntmps177
  go_wp2_with fail
  go_region
  go_wp2_with fail
  refine (Zfa _ B b (Zbm L) (.slice (some ⟨g,0,none⟩) (r.length+1) cap) _ _ _ ?_ ?_ ht).mono ?_
  ·exact Hl.out.from (((Qx (only b) _).alloc _).drew) (Zag Hl.out.blk _) (by simp [Zay,Zbm,Hw.out,Hst.out,h1]) (by simp [Zbm,Hw.out,Hst.out,h1])
  ·simp [Zbm,Hw.out,Hst.out,h1]; omega
  rintro e w1 ⟨rfl,hk1,hl1⟩
  have hbox:w1.cell? ⟨w.heap.size,0,none⟩=some (.int .i64 2):=by
   have h:=hk1.cell (Zen _ _ _ 0 _ rfl) (Zky _ (by simpa using hb))
   simpa using h
  have hk1':=Zaa (Hk.out.then ((((Qx (only b) _).alloc _).drew).trans hk1) (fun i _ h=>Or.inl h))
  have hl1':=Zaa hl1
  have d0:=hl1.facts.2.1.1
  have df:=hl1.facts.2.2
  clear hk1 hl1 c0 c1 c2 c3 c4 c5 c6 c7 hf cg fg
  go_wp2
  go_end0
  exact ⟨rfl,hk1'.out.then ((Qx (only b) w1).put 0 _) (fun i _ h=>Or.inl h),hl1'.out.from ((Qx (only b) w1).put 0 _) (Zai hl1'.out.blk 0 _) (by simp [Zay,Zau,Hw.out,Hst.out,h1]) (by simp [Zau,Hw.out,Hst.out,h1])⟩
theorem Tryz.infoInt:(Tryz.prog.info? 3).map (fun i=>(i.zero,i.size,i.bytes))=some (some (.int .i64 0),1,8):=by kernel_rfl
def Zaj (L:LookS) (kd:Nat):LookS :=
 if kd=40∧L.want=3 then { L with stk:=0::L.stk,want:=2 }
 else if kd=44∧L.stk≠[] then { L with want:=2 }
 else if kd=41∧L.stk≠[] then { L with stk:=L.stk.tail,want:=4 }
 else if L.stk≠[] then { L with err:=2 }
 else if kd=44∧L.body=true then { L with want:=1 }
 else if kd=3∧L.body=false then { L with body:=true,goals:=0,want:=1 }
 else if kd=46∧L.query=true then { L with want:=5 }
 else if kd=46 then { L with want:=0 }
 else { L with err:=2 }
theorem Zad {w:World} {B:Nat} {e:TypeId} {size n:Nat} {v:Value} {xs:List Value} (h:w.ownsRow B e size v n xs):∃ a cap,v = .slice a n cap:=by
 rcases h.2 with ⟨rfl,rfl⟩ | ⟨g,cap,cur,rfl,_⟩
 ·exact ⟨none,0,rfl⟩
 ·exact ⟨_,_,rfl⟩
theorem Ziv (x:Int):∀ u ∈ (#[Value.int .i64 x]:Array Value).toList,u.oneCell'=true:=by
 intro u hu
 simp at hu
 subst hu
 rfl
theorem Zpb {w:World} {B:Nat} {e:TypeId} {g n cap:Nat} {xs:List Value} (h:w.ownsRow B e 1 (.slice (some ⟨g,0,none⟩) (n+1) cap) (n+1) xs) :
  w.ownsRow B e 1 (.slice (some ⟨g,0,none⟩) n cap) n (xs.take n):=by
 refine ⟨by have:=h.1; simp at this ⊢; omega,?_⟩
 rcases h.2 with ⟨h1,_⟩ | ⟨g',cap',cur,h1,hb,hg,hn,hc,hs,ht⟩
 ·simp at h1
 ·simp at h1
  obtain ⟨rfl,rfl⟩:=h1
  refine .inr ⟨g,cap,cur,rfl,hb,hg,by omega,hc,hs,?_⟩
  rw [← ht,List.take_take]
  congr 1
  omega
theorem IsLook.below {w W:World} {B b:Nat} {L L':LookS} {ov:Value} {cs:Array Value} (h:IsLook w B b L ov) (hBb:B≤b) (hk:Kept (only b) w W) (hblk:W.heap[b]?=some (.cells cs 278 (0,0)))
  (hcs:cs=Zay L' ov) (hst:L'.stk=L.stk):∃ ov',Kept (Zdx b ov) w W∧IsLook W B b L' ov' :=
 ⟨ov,hk.mono (fun _ _ e=>Or.inl e),h.from hk hblk hcs hst⟩
theorem Zpc (w:World) (B b:Nat) (L:LookS) (ov:Value) (ps:Int) (tx:ByteArray) (h:IsLook w B b L ov) (hBb:B≤b) (hL:L.stk.length≤4096) :
  Calls Tryz.prog 178 #[.pointer (some ⟨b,0,none⟩),.agg #[.int .i64 44,.string tx,.int .i64 ps]] w fun e w' =>
   e = .returned (.tuple #[])∧∃ ov',Kept (Zdx b ov) w w'∧IsLook w' B b (Zaj L 44) ov':=by
 obtain ⟨hb,⟨c0,c1,c2,c3,c4,c5,c6,c7⟩,hf⟩:=h.facts
 have Hlook:=Zaa h
 obtain ⟨sa,scap,rfl⟩:=Zad h.opn
 clear h
 cases hstk:L.stk with
 | nil =>
  simp only [hstk,Qt] at c3 Hlook
  have Hst:=Zaa hstk
  clear hstk
  cases hbd:L.body
  ·rw [hbd] at c2
   have Hbd:=Zaa hbd
   clear hbd
   go_enter Tryz.func178,Tryz.ntmps178
   go_wp2
   go_end0
   exact ⟨rfl,Hlook.out.below hBb (((Qx (only b) w).put 7 _).alloc _) (Zag (Zai Hlook.out.blk 7 _) _) (by simp [Zay,Zaj,Hst.out,Hbd.out]) (by simp [Zaj,Hst.out,Hbd.out])⟩
  ·rw [hbd] at c2
   have Hbd:=Zaa hbd
   clear hbd
   go_enter Tryz.func178,Tryz.ntmps178
   go_wp2
   go_end0
   exact ⟨rfl,Hlook.out.below hBb (((Qx (only b) w).put 0 _).alloc _) (Zag (Zai Hlook.out.blk 0 _) _) (by simp [Zay,Zaj,Hst.out,Hbd.out]) (by simp [Zaj,Hst.out,Hbd.out])⟩
 | cons sn sr =>
  have hsl:sr.length+1≤4096:=by rw [hstk] at hL; simpa using hL
  simp only [hstk,Qf] at c3 Hlook
  have Hst:=Zaa hstk
  clear hstk
  go_enter Tryz.func178,Tryz.ntmps178
  go_wp2
  go_end0
  exact ⟨rfl,Hlook.out.below hBb (((Qx (only b) w).put 0 _).alloc _) (Zag (Zai Hlook.out.blk 0 _) _) (by simp [Zay,Zaj,Hst.out]) (by simp [Zaj,Hst.out])⟩
theorem Zpd (w:World) (B b:Nat) (L:LookS) (ov:Value) (ps:Int) (tx:ByteArray) (h:IsLook w B b L ov) (hBb:B≤b) (hL:L.stk.length≤4096) :
  Calls Tryz.prog 178 #[.pointer (some ⟨b,0,none⟩),.agg #[.int .i64 3,.string tx,.int .i64 ps]] w fun e w' =>
   e = .returned (.tuple #[])∧∃ ov',Kept (Zdx b ov) w w'∧IsLook w' B b (Zaj L 3) ov':=by
 obtain ⟨hb,⟨c0,c1,c2,c3,c4,c5,c6,c7⟩,hf⟩:=h.facts
 have Hlook:=Zaa h
 obtain ⟨sa,scap,rfl⟩:=Zad h.opn
 clear h
 cases hstk:L.stk with
 | nil =>
  simp only [hstk,Qt] at c3 Hlook
  have Hst:=Zaa hstk
  clear hstk
  cases hbd:L.body
  ·rw [hbd] at c2
   have Hbd:=Zaa hbd
   clear hbd
   go_enter Tryz.func178,Tryz.ntmps178
   go_wp2
   go_end0
   exact ⟨rfl,Hlook.out.below hBb (((((Qx (only b) w).put 2 _).put 5 _).put 0 _).alloc _) (Zag (Zai (Zai (Zai Hlook.out.blk 2 _) 5 _) 0 _) _) (by simp [Zay,Zaj,Hst.out,Hbd.out]) (by simp [Zaj,Hst.out,Hbd.out])⟩
  ·rw [hbd] at c2
   have Hbd:=Zaa hbd
   clear hbd
   go_enter Tryz.func178,Tryz.ntmps178
   go_wp2
   go_end0
   exact ⟨rfl,Hlook.out.below hBb (((Qx (only b) w).put 7 _).alloc _) (Zag (Zai Hlook.out.blk 7 _) _) (by simp [Zay,Zaj,Hst.out,Hbd.out]) (by simp [Zaj,Hst.out,Hbd.out])⟩
 | cons sn sr =>
  have hsl:sr.length+1≤4096:=by rw [hstk] at hL; simpa using hL
  simp only [hstk,Qf] at c3 Hlook
  have Hst:=Zaa hstk
  clear hstk
  go_enter Tryz.func178,Tryz.ntmps178
  go_wp2
  go_end0
  exact ⟨rfl,Hlook.out.below hBb (((Qx (only b) w).put 7 _).alloc _) (Zag (Zai Hlook.out.blk 7 _) _) (by simp [Zay,Zaj,Hst.out]) (by simp [Zaj,Hst.out])⟩
theorem Zsy (w:World) (B b:Nat) (L:LookS) (ov:Value) (ps:Int) (tx:ByteArray) (h:IsLook w B b L ov) (hBb:B≤b) (hL:L.stk.length≤4096) :
  Calls Tryz.prog 178 #[.pointer (some ⟨b,0,none⟩),.agg #[.int .i64 46,.string tx,.int .i64 ps]] w fun e w' =>
   e = .returned (.tuple #[])∧∃ ov',Kept (Zdx b ov) w w'∧IsLook w' B b (Zaj L 46) ov':=by
 obtain ⟨hb,⟨c0,c1,c2,c3,c4,c5,c6,c7⟩,hf⟩:=h.facts
 have Hlook:=Zaa h
 obtain ⟨sa,scap,rfl⟩:=Zad h.opn
 clear h
 cases hstk:L.stk with
 | nil =>
  simp only [hstk,Qt] at c3 Hlook
  have Hst:=Zaa hstk
  clear hstk
  cases hqu:L.query
  ·rw [hqu] at c1
   have Hqu:=Zaa hqu
   clear hqu
   go_enter Tryz.func178,Tryz.ntmps178
   go_wp2
   go_end0
   exact ⟨rfl,Hlook.out.below hBb (((Qx (only b) w).put 0 _).alloc _) (Zag (Zai Hlook.out.blk 0 _) _) (by simp [Zay,Zaj,Hst.out,Hqu.out]) (by simp [Zaj,Hst.out,Hqu.out])⟩
  ·rw [hqu] at c1
   have Hqu:=Zaa hqu
   clear hqu
   go_enter Tryz.func178,Tryz.ntmps178
   go_wp2
   go_end0
   exact ⟨rfl,Hlook.out.below hBb (((Qx (only b) w).put 0 _).alloc _) (Zag (Zai Hlook.out.blk 0 _) _) (by simp [Zay,Zaj,Hst.out,Hqu.out]) (by simp [Zaj,Hst.out,Hqu.out])⟩
 | cons sn sr =>
  have hsl:sr.length+1≤4096:=by rw [hstk] at hL; simpa using hL
  simp only [hstk,Qf] at c3 Hlook
  have Hst:=Zaa hstk
  clear hstk
  go_enter Tryz.func178,Tryz.ntmps178
  go_wp2
  go_end0
  exact ⟨rfl,Hlook.out.below hBb (((Qx (only b) w).put 7 _).alloc _) (Zag (Zai Hlook.out.blk 7 _) _) (by simp [Zay,Zaj,Hst.out]) (by simp [Zaj,Hst.out])⟩
theorem Zlw (w:World) (B b:Nat) (L:LookS) (ov:Value) (ps:Int) (tx:ByteArray) (h:IsLook w B b L ov) (hBb:B≤b) (hL:L.stk.length≤4096) (hw:L.want≠3) :
  Calls Tryz.prog 178 #[.pointer (some ⟨b,0,none⟩),.agg #[.int .i64 40,.string tx,.int .i64 ps]] w fun e w' =>
   e = .returned (.tuple #[])∧∃ ov',Kept (Zdx b ov) w w'∧IsLook w' B b (Zaj L 40) ov':=by
 obtain ⟨hb,⟨c0,c1,c2,c3,c4,c5,c6,c7⟩,hf⟩:=h.facts
 have Hlook:=Zaa h
 obtain ⟨sa,scap,rfl⟩:=Zad h.opn
 clear h
 have hw3:((L.want:Int) == 3)=false:=by rw [Qu]; omega
 have Hw:=Zaa hw
 clear hw
 cases hstk:L.stk with
 | nil =>
  simp only [hstk,Qt] at c3 Hlook
  have Hst:=Zaa hstk
  clear hstk
  go_enter Tryz.func178,Tryz.ntmps178
  go_wp2
  go_end0
  exact ⟨rfl,Hlook.out.below hBb (((Qx (only b) w).put 7 _).alloc _) (Zag (Zai Hlook.out.blk 7 _) _) (by simp [Zay,Zaj,Hst.out,Hw.out]) (by simp [Zaj,Hst.out,Hw.out])⟩
 | cons sn sr =>
  have hsl:sr.length+1≤4096:=by rw [hstk] at hL; simpa using hL
  simp only [hstk,Qf] at c3 Hlook
  have Hst:=Zaa hstk
  clear hstk
  go_enter Tryz.func178,Tryz.ntmps178
  go_wp2
  go_end0
  exact ⟨rfl,Hlook.out.below hBb (((Qx (only b) w).put 7 _).alloc _) (Zag (Zai Hlook.out.blk 7 _) _) (by simp [Zay,Zaj,Hst.out,Hw.out]) (by simp [Zaj,Hst.out,Hw.out])⟩
theorem Zpe (w:World) (B b:Nat) (L:LookS) (ov:Value) (ps:Int) (tx:ByteArray) (h:IsLook w B b L ov) (hBb:B≤b) (hL:L.stk.length≤4096) :
  Calls Tryz.prog 178 #[.pointer (some ⟨b,0,none⟩),.agg #[.int .i64 41,.string tx,.int .i64 ps]] w fun e w' =>
   e = .returned (.tuple #[])∧∃ ov',Kept (Zdx b ov) w w'∧IsLook w' B b (Zaj L 41) ov':=by
 obtain ⟨hb,⟨c0,c1,c2,c3,c4,c5,c6,c7⟩,hf⟩:=h.facts
 have Hlook:=Zaa h
 obtain ⟨sa,scap,rfl⟩:=Zad h.opn
 clear h
 cases hstk:L.stk with
 | nil =>
  simp only [hstk,Qt] at c3 Hlook
  have Hst:=Zaa hstk
  clear hstk
  go_enter Tryz.func178,Tryz.ntmps178
  go_wp2
  go_end0
  exact ⟨rfl,Hlook.out.below hBb (((Qx (only b) w).put 7 _).alloc _) (Zag (Zai Hlook.out.blk 7 _) _) (by simp [Zay,Zaj,Hst.out]) (by simp [Zaj,Hst.out])⟩
 | cons sn sr =>
  have hsl:sr.length+1≤4096:=by rw [hstk] at hL; simpa using hL
  simp only [hstk,Qf] at c3 Hlook
  have Hst:=Zaa hstk
  clear hstk
  obtain ⟨sg,scap',scur,he,hBg,hg,hcp⟩:=Zan Hlook.out.opn (by rw [Hst.out]; simp)
  simp only [Value.slice.injEq] at he
  obtain ⟨rfl,_,rfl⟩:=he
  rw [Hst.out] at hcp
  simp only [Qf] at hcp
  clear hg
  go_enter Tryz.func178,Tryz.ntmps178
  go_wp2
  go_end0
  have hop:=Hlook.out.opn
  refine ⟨rfl,.slice (some ⟨sg,0,none⟩) sr.length scap,?_,?_,?_⟩
  ·exact ((((Qx (only b) w).put 3 _).put 0 _).alloc _).mono (fun _ _ e=>Or.inl e)
  ·rw [Zag (Zai (Zai Hlook.out.blk 3 _) 0 _) _]
   simp [Zay,Zaj,Hst.out]
  ·have h2:w.ownsRow B 3 1 (.slice (some ⟨sg,0,none⟩) sr.length scap) sr.length (ints sr.reverse):=by
    rw [Hst.out] at hop
    have h3:=Zpb (n:=sr.length) hop
    have e:(ints (sn::sr).reverse).take sr.length=ints sr.reverse:=by simp [ints]
    rwa [e] at h3
   have h4:(Zaj L 41).stk=sr:=by simp [Zaj,Hst.out]
   rw [h4]
   exact ((((Qx (only b) w).put 3 _).put 0 _).alloc _).owns h2 (fun k hk=>Hlook.out.apart k (by simpa [Value.ownBlock] using hk))
theorem Zpf (w:World) (B b:Nat) (L:LookS) (ov:Value) (kd:Nat) (ps:Int) (tx:ByteArray) (h:IsLook w B b L ov) (hBb:B≤b) (hL:L.stk.length≤4096) (hk:kd≠40∧kd≠41∧kd≠44∧kd≠46∧kd≠3) :
  Calls Tryz.prog 178 #[.pointer (some ⟨b,0,none⟩),.agg #[.int .i64 kd,.string tx,.int .i64 ps]] w fun e w' =>
   e = .returned (.tuple #[])∧∃ ov',Kept (Zdx b ov) w w'∧IsLook w' B b (Zaj L kd) ov':=by
 obtain ⟨hb,⟨c0,c1,c2,c3,c4,c5,c6,c7⟩,hf⟩:=h.facts
 have Hlook:=Zaa h
 obtain ⟨sa,scap,rfl⟩:=Zad h.opn
 clear h
 have k1:((kd:Int) == 40)=false:=by rw [Qu]; omega
 have k2:((kd:Int) == 41)=false:=by rw [Qu]; omega
 have k3:((kd:Int) == 44)=false:=by rw [Qu]; omega
 have k4:((kd:Int) == 46)=false:=by rw [Qu]; omega
 have k5:((kd:Int) == 3)=false:=by rw [Qu]; omega
 have Hk:=Zaa hk
 clear hk
 cases hstk:L.stk with
 | nil =>
  simp only [hstk,Qt] at c3 Hlook
  have Hst:=Zaa hstk
  clear hstk
  go_enter Tryz.func178,Tryz.ntmps178
  go_wp2
  go_end0
  exact ⟨rfl,Hlook.out.below hBb (((Qx (only b) w).put 7 _).alloc _) (Zag (Zai Hlook.out.blk 7 _) _) (by simp [Zay,Zaj,Hst.out,Hk.out]) (by simp [Zaj,Hst.out,Hk.out])⟩
 | cons sn sr =>
  have hsl:sr.length+1≤4096:=by rw [hstk] at hL; simpa using hL
  simp only [hstk,Qf] at c3 Hlook
  have Hst:=Zaa hstk
  clear hstk
  go_enter Tryz.func178,Tryz.ntmps178
  go_wp2
  go_end0
  exact ⟨rfl,Hlook.out.below hBb (((Qx (only b) w).put 7 _).alloc _) (Zag (Zai Hlook.out.blk 7 _) _) (by simp [Zay,Zaj,Hst.out,Hk.out]) (by simp [Zaj,Hst.out,Hk.out])⟩
theorem Tryz.infoStr:(Tryz.prog.info? 9).map (fun i=>(i.zero,i.size,i.bytes))=some (some (.string ⟨#[]⟩),1,16):=by kernel_rfl
def strs (l:List (List UInt8)):List Value:=l.map fun s=>Value.string ⟨s.toArray⟩
def Zbl (names:List (List UInt8)) (s:List UInt8):List (List UInt8) × Nat :=
 if s ∈ names then (names,names.idxOf s) else (names++[s],names.length)
theorem Zsz (s:ByteArray):∀ u ∈ (#[Value.string s]:Array Value).toList,u.oneCell'=true:=by
 intro u hu
 simp at hu
 subst hu
 rfl
theorem Zkz {names:List (List UInt8)} {s:List UInt8} {k:Nat} (hk:k<names.length) (h:names[k]=s) (hn:s ∉ names.take k):Zbl names s=(names,k):=by
 have hm:s ∈ names:=by rw [← h]; exact List.getElem_mem _
 unfold Zbl
 rw [if_pos hm]
 congr 1
 have h1:names.idxOf s≤k:=by
  rcases Nat.lt_or_ge k (names.idxOf s) with hl | hl
  ·have:=List.not_of_lt_findIdx (p:=(· == s)) (xs:=names) hl
   simp [h] at this
  ·exact hl
 rcases Nat.lt_or_ge (names.idxOf s) k with hl | hl
 ·exfalso
  apply hn
  have hlt:names.idxOf s<names.length:=List.idxOf_lt_length_of_mem hm
  have:names[names.idxOf s]=s:=List.getElem_idxOf hlt
  rw [← this]
  rw [List.mem_take_iff_getElem]
  exact ⟨names.idxOf s,by omega,rfl⟩
 ·omega
theorem Yfv {names:List (List UInt8)} {s:List UInt8} {k:Nat} (hk:k<names.length) (h:¬ names[k]=s) (hn:s ∉ names.take k):s ∉ names.take (k+1):=by
 rw [List.take_succ_eq_append_getElem hk]
 simp only [Qk,List.mem_singleton,not_or]
 exact ⟨hn,fun e=>h e.symm⟩
theorem Zjp {names:List (List UInt8)} {s:List UInt8} {k:Nat} (hk:¬ k<names.length) (hn:s ∉ names.take k):Zbl names s=(names++[s],names.length):=by
 rw [List.take_of_length_le (by omega)] at hn
 unfold Zbl
 rw [if_neg hn]
theorem Zwo (w:World) (B:Nat) (names:List (List UInt8)) (s:List UInt8) (v:Value) (h:w.ownsRow B 9 1 v names.length (strs names)) (hB:B≤w.heap.size) (hn:names.length≤4096) (hs:s.length≤4096) :
  Calls Tryz.prog 179 #[v,.string ⟨s.toArray⟩] w fun e w'=>∃ v',e = .returned (.tuple #[v',.int .i64 (Zbl names s).2])∧Appended w B 9 1 v (Zbl names s).1.length (strs (Zbl names s).1) v' w':=by
 obtain ⟨a,cap,rfl⟩:=Zad h
 have Hown:=Zaa h
 clear h
 go_enter Tryz.func179,Tryz.ntmps179
 go_wp2
 go_loop [6] (fun i=>∃ k:Nat,k≤names.length∧i = .int .i64 k∧s ∉ names.take k) (fun i=>names.length - (intOf i).toNat)
 case atStart=>exact ⟨0,Qm _,rfl,by simp⟩
 case round =>
  obtain ⟨k,hk,rfl,hnot⟩:=hrel
  have Hnot:=Zaa hnot
  clear hnot
  by_cases hlt:k<names.length
  ·obtain ⟨g,cap',cur,he,hBg,hg,hcp⟩:=Zan Hown.out (by omega)
   simp only [Value.slice.injEq] at he
   obtain ⟨rfl,_,rfl⟩:=he
   obtain ⟨nm,hnm⟩:∃ nm,nm=names[k]:=⟨_,rfl⟩
   have hc:w.cell? ⟨g,k,none⟩=some (.string ⟨nm.toArray⟩):=Zaf Hown.out k _ (by simp [strs,hlt,hnm])
   have Hnm:=Zaa hnm
   clear hg hnm
   go_wp2
   ·have hq:nm=s:=eq_of_beq (by assumption)
    go_ret2
    have hr:=Zkz hlt (Hnm.out.symm.trans hq) Hnot.out
    rw [hr]
    exact ⟨_,rfl,Hown.out,Qx _ _,Or.inl rfl⟩
   ·have hq:nm≠s:=ne_of_beq_false (by assumption)
    go_round
    case rel=>exact ⟨k+1,by omega,by go_num,Yfv hlt (fun h=>hq (Hnm.out.trans h)) Hnot.out⟩
    case measure=>simp [intOf]; omega
  ·have Hmiss:=Zaa (Zjp hlt Hnot.out)
   go_wp2_with (at_builtin; refine Zal _ rfl (.tmp 24) (.tmp 26) 47 rfl B 9 Tryz.infoStr Tryz.underlying47 rfl (by decide) _ names.length (strs names) rfl Hown.out _ rfl rfl rfl (Zsz _) ?_ hB ?_)
   ·omega
   intro v' w1 hap
   have Hap:=Zaa hap
   clear hap
   go_wp2
   go_ret2
   rw [Hmiss.out]
   refine ⟨v',rfl,?_⟩
   have:=Hap.out
   simpa [strs] using this
def Zer (p:List Tok→Names→Option (List Sym × List Tok × Names)):Nat→List Tok→Names→List (List Sym)→Option (List (List Sym) × List Tok × Names)
 | 0,_,_,_=>none
 | _+1,[],_,_=>none
 | g+1,t::ts,names,acc =>
  if t.kind=41 then some (acc,ts,names)
  else match p ts names with
   | none=>none
   | some r=>Zer p g r.2.1 r.2.2 (acc++[r.1])
def Zlk (p:List Tok→Names→Option (List Sym × List Tok × Names)) (t:Tok):List Tok→Names→Option (List Sym × List Tok × Names)
 | [],_=>none
 | u::us,names =>
  if u.kind≠40 then some ([⟨t.text,0,0⟩],u::us,names)
  else (Zer p (us.length+1) (u::us) names []).map fun r=>(⟨t.text,0,r.1.length⟩::r.1.flatten,r.2.1,r.2.2)
def Zda:Nat→List Tok→Names→Option (List Sym × List Tok × Names)
 | 0,_,_=>none
 | _+1,[],_=>none
 | f+1,t::ts,names =>
  if t.kind=2 then some ([⟨[],(Zbl names t.text).2,0⟩],ts,(Zbl names t.text).1)
  else Zlk (Zda f) t ts names
def Zzi (ts rest:List Tok) (names names':Names):Prop:=∃ n,0<n∧n≤ts.length∧rest=ts.drop n∧names'.length≤names.length+n
theorem Zla (names:Names) (s:List UInt8):(Zbl names s).1.length≤names.length+1:=by
 unfold Zbl; split <;> simp
theorem Zqw {p:List Tok→Names→Option (List Sym × List Tok × Names)} (hp:∀ ts names r,p ts names=some r→Zzi ts r.2.1 names r.2.2) :
  ∀ (g:Nat) (ts:List Tok) (names:Names) (acc:List (List Sym)) r,Zer p g ts names acc=some r→Zzi ts r.2.1 names r.2.2:=by
 intro g
 induction g with
 | zero=>intro ts names acc r h; simp [Zer] at h
 | succ g ih =>
  intro ts names acc r h
  cases ts with
  | nil=>simp [Zer] at h
  | cons t ts =>
   rw [Zer] at h
   split at h
   ·simp at h; subst h
    exact ⟨1,by omega,by simp,by simp,by simp⟩
   ·split at h
    ·simp at h
    ·rename_i q hq
     obtain ⟨n,h1,h2,h3,h4⟩:=hp _ _ _ hq
     obtain ⟨m,h5,h6,h7,h8⟩:=ih _ _ _ _ h
     rw [h3,List.drop_drop] at h7
     rw [h3,List.length_drop] at h6
     exact ⟨n+m+1,by omega,by simp; omega,by rw [h7]; simp,by omega⟩
theorem Zdq:∀ (f:Nat) (ts:List Tok) (names:Names) r,Zda f ts names=some r→Zzi ts r.2.1 names r.2.2:=by
 intro f
 induction f with
 | zero=>intro ts names r h; simp [Zda] at h
 | succ f ih =>
  intro ts names r h
  cases ts with
  | nil=>simp [Zda] at h
  | cons t ts =>
   rw [Zda] at h
   split at h
   ·simp at h; subst h
    exact ⟨1,by omega,by simp,by simp,Zla _ _⟩
   ·cases ts with
    | nil=>simp [Zlk] at h
    | cons u us =>
     rw [Zlk] at h
     split at h
     ·simp at h; subst h
      exact ⟨1,by omega,by simp,by simp,by simp⟩
     ·rw [Option.map_eq_some_iff] at h
      obtain ⟨q,hq,rfl⟩:=h
      obtain ⟨n,h1,h2,h3,h4⟩:=Zqw ih _ _ _ _ _ hq
      exact ⟨n+1,by omega,by simp at h2 ⊢; omega,by rw [h3]; simp,by simp at h4 ⊢; omega⟩
def RepT:Nat→World→Nat→Nat→Value→Value→Value→List Sym→Prop
 | 0,_,_,_,_,_,_,_=>False
 | f+1,w,lo,hi,a,b,c,l =>
  (∃ n:Nat,a = .string ⟨#[]⟩∧b = .int .i64 n∧c = .slice none 0 0∧l=[⟨[],n,0⟩]) ∨
  (∃ (nm:List UInt8) (ls:List (List Sym)) (xs:List Value),nm≠[]∧a = .string ⟨nm.toArray⟩∧b = .int .i64 0∧l=⟨nm,0,ls.length⟩::ls.flatten ∧
   w.ownsRow lo 183 3 c ls.length xs∧(∀ k,c.ownBlock=some k→k<hi) ∧
   ∀ (i:Nat) (l':List Sym),ls[i]?=some l'→∃ a' b' c',xs[i * 3]?=some a'∧xs[i * 3+1]?=some b'∧xs[i * 3+2]?=some c'∧RepT f w lo hi a' b' c' l')
def Zeo (w:World) (k:Nat):Prop:=∃ cur,w.heap[k]?=some (.cells cur 183 (0,0))
theorem Zar {w:World} {B:Nat} {e:TypeId} {size n:Nat} {v:Value} {xs:List Value} (h:w.ownsRow B e size v n xs) (k:Nat) (hk:v.ownBlock=some k):∃ cur,w.heap[k]?=some (.cells cur e (0,0)):=by
 rcases h.2 with ⟨rfl,_⟩ | ⟨g,cap,cur,rfl,_,hg,_⟩
 ·simp [Value.ownBlock] at hk
 ·simp only [Value.ownBlock,Qo] at hk
  subst hk
  exact ⟨cur,hg⟩
theorem Zah {w:World} {B:Nat} {e e':TypeId} {size n:Nat} {v:Value} {xs:List Value} (h:w.ownsRow B e size v n xs) (he:e≠e') {k:Nat} {cs:Array Value} {fr:Nat × Nat} (hk:w.heap[k]?=some (.cells cs e' fr)):¬ Zap v k:=by
 intro ho
 obtain ⟨cur,hc⟩:=Zar h k ho
 rw [hc] at hk
 simp at hk
 exact he hk.2.1
theorem Zak {w w':World} {B:Nat} {e:TypeId} {size n:Nat} {v:Value} {xs:List Value} (h:w.ownsRow B e size v n xs) (hk:∀ k,v.ownBlock=some k→w'.heap[k]?=w.heap[k]?):w'.ownsRow B e size v n xs:=by
 refine ⟨h.1,?_⟩
 rcases h.2 with hn | ⟨g,cap,cur,rfl,hb,hg,rest⟩
 ·exact .inl hn
 ·exact .inr ⟨g,cap,cur,rfl,hb,by rw [hk g rfl]; exact hg,rest⟩
theorem RepT.later:∀ (f:Nat) {w w':World} {lo hi:Nat} {a b c:Value} {l:List Sym},RepT f w lo hi a b c l→(∀ k,lo≤k→k<hi→Zeo w k→w'.heap[k]?=w.heap[k]?)→RepT f w' lo hi a b c l:=by
 intro f
 induction f with
 | zero=>intro w w' lo hi a b c l h; exact h.elim
 | succ f ih =>
  intro w w' lo hi a b c l h hk
  rcases h with h | ⟨nm,ls,xs,h1,h2,h3,h4,h5,h6,h7⟩
  ·exact Or.inl h
  ·refine Or.inr ⟨nm,ls,xs,h1,h2,h3,h4,Zak h5 (fun k e=>hk k (h5.lt k e).1 (h6 k e) (Zar h5 k e)),h6,?_⟩
   intro i l' hl
   obtain ⟨a',b',c',g1,g2,g3,g4⟩:=h7 i l' hl
   exact ⟨a',b',c',g1,g2,g3,ih g4 hk⟩
theorem RepT.wide:∀ (f:Nat) {w:World} {lo hi lo' hi':Nat} {a b c:Value} {l:List Sym},RepT f w lo hi a b c l→lo'≤lo→hi≤hi'→RepT f w lo' hi' a b c l:=by
 intro f
 induction f with
 | zero=>intro w lo hi lo' hi' a b c l h; exact h.elim
 | succ f ih =>
  intro w lo hi lo' hi' a b c l h hl hh
  rcases h with h | ⟨nm,ls,xs,h1,h2,h3,h4,h5,h6,h7⟩
  ·exact Or.inl h
  ·refine Or.inr ⟨nm,ls,xs,h1,h2,h3,h4,Zbb h5 hl,fun k e=>Nat.lt_of_lt_of_le (h6 k e) hh,?_⟩
   intro i l' hl'
   obtain ⟨a',b',c',g1,g2,g3,g4⟩:=h7 i l' hl'
   exact ⟨a',b',c',g1,g2,g3,ih g4 hl hh⟩
theorem Zcf (a b:List UInt8):(⟨a.toArray⟩:ByteArray)++⟨b.toArray⟩=⟨(a++b).toArray⟩:=by
 apply ByteArray.ext
 simp [ByteArray.data_append]
theorem Zhs {a b:ByteArray} (h:a=b):Ending.returned (.string a) = .returned (.string b):=by rw [h]
theorem Zqx (m:Nat) (h:m<10):(⟨#[48,49,50,51,52,53,54,55,56,57]⟩:ByteArray).extract m (m+1)=⟨[UInt8.ofNat (48+m)].toArray⟩:=by
 have:∀ m,m<10→((⟨#[48,49,50,51,52,53,54,55,56,57]⟩:ByteArray).extract m (m+1)).data.toList=[UInt8.ofNat (48+m)]:=by decide
 apply ByteArray.ext
 apply Array.ext'
 rw [this m h]
theorem Zwp (m:Nat) (h:m<26):Zfi.extract m (m+1)=⟨[UInt8.ofNat (65+m)].toArray⟩:=by
 have:∀ m,m<26→(Zfi.extract m (m+1)).data.toList=[UInt8.ofNat (65+m)]:=by decide +kernel
 apply ByteArray.ext
 apply Array.ext'
 rw [this m h]
theorem Zpg (n:Nat):(Lib.decDigits n).length≤n+1:=by
 induction n using Nat.strongRecOn with
 | ind n ih =>
  rw [Lib.decDigits]
  split
  ·simp
  ·have:=ih (n / 10) (by omega)
   simp only [Qg,Qf,Qt]
   omega
def Zph (n:Nat):Prop:=∀ w:World,Calls Tryz.prog 117 #[.int .i64 n] w fun e w'=>e = .returned (.string ⟨(Lib.decDigits n).toArray⟩)∧w'=w
theorem Zwq (n:Nat) (hn:n<10):Zph n:=by
 intro w
 have Hd:=(show Hid _ from Zqx (n % 10) (by omega))
 go_enter Tryz.func117,Tryz.ntmps117
 go_wp2
 go_ret
 refine ⟨Zhs (Hd.out.trans ?_),rfl⟩
 rw [Lib.decDigits,dif_pos hn,Nat.mod_eq_of_lt hn]
theorem Zwr (n:Nat) (hn:¬ n<10) (hb:n<1000000000) (ih:Zph (n / 10)):Zph n:=by
 intro w
 have Hd:=(show Hid _ from Zqx (n % 10) (by omega))
 have Hih:=(show Hid _ from ih)
 clear ih
 have hlen:=Zpg (n / 10)
 go_enter Tryz.func117,Tryz.ntmps117
 go_wp2_with fail
 refine (Hih.out _).mono ?_
 rintro e w' ⟨rfl,rfl⟩
 go_wp2
 go_ret
 refine ⟨Zhs ?_,rfl⟩
 rw [Hd.out,Zcf]
 congr 2
 conv=>rhs; rw [Lib.decDigits,dif_neg hn]
theorem Zta (n:Nat) (hb:n<1000000000):Zph n:=by
 induction n using Nat.strongRecOn with
 | ind n ih =>
  by_cases hn:n<10
  ·exact Zwq n hn
  ·exact Zwr n hn hb (ih (n / 10) (by omega) (by omega))
def Zdr (n:Nat):List UInt8:=if n<26 then [UInt8.ofNat (65+n)] else UInt8.ofNat (65+n % 26)::Lib.decDigits (n / 26)
theorem Znt (n:Nat) (w:World) (hb:n<1000000000) :
  Calls Tryz.prog 145 #[.int .i64 n] w fun e w'=>e = .returned (.string ⟨(Zdr n).toArray⟩)∧w'=w:=by
 have Hd:=(show Hid _ from Zwp (n % 26) (by omega))
 by_cases h:n<26
 ·go_enter Tryz.func145,Tryz.ntmps145
  go_wp2
  go_ret
  refine ⟨Zhs (Hd.out.trans ?_),rfl⟩
  rw [Zdr,if_pos h,Nat.mod_eq_of_lt h]
 ·go_enter Tryz.func145,Tryz.ntmps145
  go_wp2_with fail
  refine (Zta (n / 26) (by omega) _).mono ?_
  rintro e w' ⟨rfl,rfl⟩
  have hlen:=Zpg (n / 26)
  go_wp2
  go_ret
  refine ⟨Zhs ?_,rfl⟩
  show Zfi.extract (n % 26) (n % 26+1)++_=_
  rw [Hd.out,Zcf,Zdr,if_neg h]
  rfl
def IsT:Nat→List Sym→Prop
 | 0,_=>False
 | f+1,l=>(∃ n:Nat,l=[⟨[],n,0⟩])∨∃ (nm:List UInt8) (ls:List (List Sym)),nm≠[]∧l=⟨nm,0,ls.length⟩::ls.flatten∧∀ l' ∈ ls,IsT f l'
theorem RepT.isT:∀ (f:Nat) {w:World} {lo hi:Nat} {a b c:Value} {l:List Sym},RepT f w lo hi a b c l→IsT f l:=by
 intro f
 induction f with
 | zero=>intro w lo hi a b c l h; exact h.elim
 | succ f ih =>
  intro w lo hi a b c l h
  rcases h with ⟨n,_,_,_,h⟩ | ⟨nm,ls,xs,h1,_,_,h4,_,_,h7⟩
  ·exact Or.inl ⟨n,h⟩
  ·refine Or.inr ⟨nm,ls,h1,h4,fun l' hl => ?_⟩
   obtain ⟨i,hi,rfl⟩:=List.getElem_of_mem hl
   obtain ⟨a',b',c',_,_,_,g⟩:=h7 i _ (Qb hi)
   exact ih g
def wvar (n:Nat) (seen:List Nat):List UInt8 × List Nat:=if n ∈ seen then (Zdr (seen.idxOf n),seen) else (Zdr seen.length,seen++[n])
def Zws (p:List Sym→List Nat→List UInt8 × List Nat × List Sym):Nat→UInt8→List Sym→List Nat→List UInt8 × List Nat × List Sym
 | 0,_,r,seen=>([],seen,r)
 | n+1,sep,r,seen=>(sep::((p r seen).1++(Zws p n 44 (p r seen).2.2 (p r seen).2.1).1),(Zws p n 44 (p r seen).2.2 (p r seen).2.1).2)
def Zbs:Nat→List Sym→List Nat→List UInt8 × List Nat × List Sym
 | 0,r,seen=>([],seen,r)
 | _+1,[],seen=>([],seen,[])
 | f+1,s::r,seen =>
  if s.name=[] then ((wvar s.num seen).1,(wvar s.num seen).2,r)
  else if s.args=0 then (s.name,seen,r)
  else (s.name++(Zws (Zbs f) s.args 40 r seen).1++[41],(Zws (Zbs f) s.args 40 r seen).2)
def Zcv (f:Nat):UInt8→List (List Sym)→List Nat→List UInt8 × List Nat
 | _,[],seen=>([],seen)
 | sep,l::ls,seen=>(sep::((Zbs f l seen).1++(Zcv f 44 ls (Zbs f l seen).2.1).1),(Zcv f 44 ls (Zbs f l seen).2.1).2)
theorem Znu (f:Nat) (hp:∀ l,IsT f l→∀ rest seen,Zbs f (l++rest) seen=((Zbs f l seen).1,(Zbs f l seen).2.1,rest)) :
  ∀ (ls:List (List Sym)),(∀ l' ∈ ls,IsT f l')→∀ sep rest seen,Zws (Zbs f) ls.length sep (ls.flatten++rest) seen=((Zcv f sep ls seen).1,(Zcv f sep ls seen).2,rest):=by
 intro ls
 induction ls with
 | nil=>intro _ sep rest seen; rfl
 | cons l ls ih =>
  intro h sep rest seen
  have h1:=hp l (h l (by simp)) (ls.flatten++rest) seen
  have h2:=ih (fun l' hl=>h l' (by simp [hl])) 44 rest (Zbs f l seen).2.1
  simp only [Qf,List.flatten_cons,Qi,Zws,Zcv]
  rw [h1]
  simp only
  rw [h2]
theorem Zzj:∀ (f:Nat) (l:List Sym),IsT f l→∀ rest seen,Zbs f (l++rest) seen=((Zbs f l seen).1,(Zbs f l seen).2.1,rest):=by
 intro f
 induction f with
 | zero=>intro l h; exact h.elim
 | succ f ih =>
  intro l h rest seen
  rcases h with ⟨n,rfl⟩ | ⟨nm,ls,h1,rfl,h2⟩
  ·simp [Zbs]
  ·have hw:=Znu f ih ls h2 40
   have hw1:=hw rest seen
   have hw2:=hw [] seen
   simp only [Qs] at hw2
   simp only [List.cons_append,Zbs,h1,if_false]
   cases ls with
   | nil=>simp
   | cons l ls =>
    rw [if_neg (by simp),if_neg (by simp)]
    rw [hw1,hw2]
theorem Zif (f:Nat) (nm:List UInt8) (ls:List (List Sym)) (hn:nm≠[]) (h:∀ l' ∈ ls,IsT f l') (hl:ls≠[]) (seen:List Nat) :
  Zbs (f+1) (⟨nm,0,ls.length⟩::ls.flatten) seen=(nm++(Zcv f 40 ls seen).1++[41],(Zcv f 40 ls seen).2,[]):=by
 have hw2:=Znu f (Zzj f) ls h 40 [] seen
 simp only [Qs] at hw2
 simp only [Zbs,hn,if_false]
 rw [if_neg (by simp [hl]),hw2]
theorem Znv (n:Nat) (h:n≤4000):(Zdr n).length≤200:=by
 unfold Zdr
 split
 ·simp
 ·have:=Zpg (n / 26)
  simp only [Qf]
  omega
theorem Ydb (n:Nat) (seen:List Nat) (h:seen.length≤3999):(wvar n seen).1.length≤200∧(wvar n seen).2.length≤seen.length+1:=by
 unfold wvar
 split
 ·rename_i hm
  have:=List.idxOf_lt_length_of_mem hm
  exact ⟨Znv _ (by omega),by simp⟩
 ·exact ⟨Znv _ (by omega),by simp⟩
theorem Zqy (f:Nat) (hp:∀ l,IsT f l→(∀ s ∈ l,s.name.length≤4096)→∀ seen,seen.length+l.length≤4000→(Zbs f l seen).1.length+1≤4100 * l.length∧(Zbs f l seen).2.1.length≤seen.length+l.length) :
  ∀ (ls:List (List Sym)),(∀ l' ∈ ls,IsT f l')→(∀ s ∈ ls.flatten,s.name.length≤4096)→∀ sep seen,seen.length+ls.flatten.length≤4000→(Zcv f sep ls seen).1.length≤4100 * ls.flatten.length∧(Zcv f sep ls seen).2.length≤seen.length+ls.flatten.length:=by
 intro ls
 induction ls with
 | nil=>intro _ _ sep seen _; simp [Zcv]
 | cons l ls ih =>
  intro h hn sep seen hs
  simp only [List.flatten_cons,Qg] at hs
  have h1:=hp l (h l (by simp)) (fun s hs=>hn s (by simp [hs])) seen (by omega)
  have h2:=ih (fun l' hl=>h l' (by simp [hl])) (fun s hs=>hn s (by simp only [List.flatten_cons,Qk]; exact Or.inr hs)) 44 (Zbs f l seen).2.1 (by omega)
  simp only [Zcv,Qf,Qg,List.flatten_cons]
  omega
theorem Zzk:∀ (f:Nat) (l:List Sym),IsT f l→0<l.length:=by
 intro f l h
 cases f with
 | zero=>exact h.elim
 | succ f=>rcases h with ⟨n,rfl⟩ | ⟨nm,ls,h1,rfl,h2⟩ <;> simp
theorem Zlo (f:Nat) (ls:List (List Sym)) (h:∀ l' ∈ ls,IsT f l'):ls.length≤ls.flatten.length:=by
 induction ls with
 | nil=>simp
 | cons l ls ih =>
  have h1:=Zzk f l (h l (by simp))
  have h2:=ih (fun l' hl=>h l' (by simp [hl]))
  simp only [List.flatten_cons,Qg,Qf]
  omega
theorem Zjq:∀ (f:Nat) (l:List Sym),IsT f l→(∀ s ∈ l,s.name.length≤4096)→∀ seen,seen.length+l.length≤4000→(Zbs f l seen).1.length+1≤4100 * l.length∧(Zbs f l seen).2.1.length≤seen.length+l.length:=by
 intro f
 induction f with
 | zero=>intro l h; exact h.elim
 | succ f ih =>
  intro l h hn seen hs
  rcases h with ⟨n,rfl⟩ | ⟨nm,ls,h1,rfl,h2⟩
  ·have:=Ydb n seen (by simp at hs; omega)
   simp [Zbs]
   omega
  ·have hnm:nm.length≤4096:=hn _ (List.mem_cons_self ..)
   by_cases hl:ls=[]
   ·subst hl
    simp [Zbs,h1]
    omega
   ·rw [Zif f nm ls h1 h2 hl]
    simp only [Qf] at hs
    have h3:=Zqy f ih ls h2 (fun s hs=>hn s (List.mem_cons_of_mem _ hs)) 40 seen (by omega)
    have h4:=Zlo f ls h2
    simp only [Qg,Qf,Qt]
    omega
theorem Zqz (w:World) (B b:Nat) (L:LookS) (ov:Value) (ps:Int) (tx:ByteArray) (h:IsLook w B b L ov) (hBb:B≤b) (hL:L.stk.length≤4096) (hw:L.want=3) :
  Calls Tryz.prog 178 #[.pointer (some ⟨b,0,none⟩),.agg #[.int .i64 40,.string tx,.int .i64 ps]] w fun e w' =>
   e = .returned (.tuple #[])∧∃ ov',Kept (Zdx b ov) w w'∧IsLook w' B b (Zaj L 40) ov':=by
 obtain ⟨hb,⟨c0,c1,c2,c3,c4,c5,c6,c7⟩,hf⟩:=h.facts
 have Hlook:=Zaa h
 obtain ⟨sa,scap,rfl⟩:=Zad h.opn
 clear h
 rw [hw] at c0
 have Hw:=Zaa hw
 have hbase:B≤w.heap.size:=Nat.le_of_lt (Nat.lt_of_le_of_lt hBb hb)
 have hopn:=Zaa Hlook.out.opn
 clear hw
 go_enter Tryz.func178,Tryz.ntmps178
 go_wp2_with (at_builtin; refine Zal _ rfl (.tmp 28) (.tmp 29) 25 rfl B 3 Tryz.infoInt Tryz.underlying25 rfl (by decide) _ L.stk.length (ints L.stk.reverse) rfl (hopn.out.alloc _) _ rfl (by simp) rfl (Ziv _) ?_ ?_ ?_)
 ·omega
 ·simp; omega
 intro v' w1 hap
 obtain ⟨va,vcap,rfl⟩:=Zad hap.owns
 have hk1:Kept (Zap (.slice sa L.stk.length scap)) w w1:=((Qx _ w).alloc _).trans hap.kept
 have hne:¬ Zap (.slice sa L.stk.length scap) b:=fun e=>Hlook.out.apart b e rfl
 have hblk1:w1.heap[b]?=some (.cells (Zay L (.slice sa L.stk.length scap)) 278 (0,0)):=(hk1.block b hb hne).trans Hlook.out.blk
 have d0:w1.cell? ⟨b,0,none⟩=some (.int .i64 L.want):=Zab hblk1 0 _ rfl
 have d3:w1.cell? ⟨b,3,none⟩=some (.slice sa L.stk.length scap):=Zab hblk1 3 _ rfl
 have df:∀ i,w1.frozen? ⟨b,i,none⟩=false:=fun i=>Zae hblk1 i
 have Hap:=Zaa hap
 have Hblk1:=Zaa hblk1
 have Hk1:=Zaa hk1
 clear hap hblk1 hk1 hne c0 c1 c2 c3 c4 c5 c6 c7 hf
 go_wp2
 go_end0
 have hv:∀ k,(Value.slice va (L.stk.length+1) vcap).ownBlock=some k→¬ only b k:=by
  rintro k hk (rfl:k=b)
  rcases Hap.out.where_ with h | ⟨g,h,hg⟩
  ·exact Hlook.out.apart k (by rw [← h]; exact hk) rfl
  ·rw [hk] at h
   simp at h
   subst h
   simp at hg
   omega
 refine ⟨rfl,.slice va (L.stk.length+1) vcap,?_,?_,?_⟩
 ·exact (Hk1.out.mono (fun _ _ e=>Or.inr e)).then (((Qx (only b) w1).put 3 _).put 0 _) (fun _ _ e=>Or.inl e)
 ·rw [Zai (Zai Hblk1.out 3 _) 0 _]
  simp [Zay,Zaj,Hw.out]
 ·have h4:(Zaj L 40).stk=0::L.stk:=by simp [Zaj,Hw.out]
  rw [h4]
  have h5:=(((Qx (only b) w1).put 3 (.slice va (L.stk.length+1) vcap)).put 0 (.int .i64 2)).owns Hap.out.owns hv
  simpa [ints] using h5
structure LInv (L:LookS) (i:Nat):Prop where
 want:L.want≤5
 term:L.want=2→L.stk≠[]
 size:L.size≤i
 heads:L.heads≤i
 goals:L.goals≤i
 len:L.stk.length≤i
 all:∀ n ∈ L.stk,n≤i
def Zat (L:LookS) (kd tn:Nat):LookS :=
 if L.want≤2 then Zau L kd tn else if L.want=5 then { L with err:=2 } else Zaj L kd
theorem LInv.mono {L:LookS} {i j:Nat} (h:LInv L i) (hij:i≤j):LInv L j :=
 ⟨h.want,h.term,Qq h.size hij,Qq h.heads hij,Qq h.goals hij,Qq h.len hij,fun n hn=>Qq (h.all n hn) hij⟩
theorem Ztb {L:LookS} {i:Nat} (h:LInv L i) (kd tn:Nat):LInv (Zau L kd tn) (i+1):=by
 unfold Zau
 have h1:=h.size
 have h2:=h.heads
 have h3:=h.goals
 have h4:=h.len
 split
 ·exact ⟨h.want,h.term,by simp; omega,by simp; omega,by simp; omega,by simp; omega,fun n hn=>Qq (h.all n hn) (Nat.le_succ i)⟩
 ·have hw:(if kd=1 then 3 else 4)≤5∧((if kd=1 then 3 else 4)≠2):=by split <;> simp
  have hall:∀ n ∈ L.stk,n≤i+1:=fun n hn=>Qq (h.all n hn) (Nat.le_succ i)
  refine ⟨hw.1,fun e=>absurd e hw.2,?_,?_,?_,?_,?_⟩
  all_goals
   unfold Zhr Zbm
   dsimp only
   split
   ·first | (simp; done) | (simp; omega) | exact hall
   ·split
    ·first | (simp; done) | (simp; omega) | exact hall
    ·cases hs:L.stk with
     | nil=>first | (simp; done) | (simp; omega) | (simp [hs]; done)
     | cons n r =>
      have hn:n≤i:=h.all n (by rw [hs]; simp)
      have hr:∀ x ∈ r,x≤i:=fun x hx=>h.all x (by rw [hs]; simp [hx])
      rw [hs] at h4
      simp only [Qf] at h4
      first
       | (simp; done)
       | (simp; omega)
       | (intro x hx; simp at hx; rcases hx with rfl | hx; omega; have:=hr x hx; omega)
theorem Zra {L:LookS} {i:Nat} (h:LInv L i) (kd:Nat):LInv (Zaj L kd) (i+1):=by
 have h1:=h.size
 have h2:=h.heads
 have h3:=h.goals
 have h4:=h.len
 have h5:=h.want
 have hall:∀ n ∈ L.stk,n≤i+1:=fun n hn=>Qq (h.all n hn) (Nat.le_succ i)
 unfold Zaj
 split
 ·exact ⟨by simp,fun _=>by simp,by simp; omega,by simp; omega,by simp; omega,by simp; omega,by intro n hn; simp at hn; rcases hn with rfl | hn; omega; exact hall n hn⟩
 ·split
  ·rename_i _ hc
   exact ⟨by simp,fun _=>hc.2,by simp; omega,by simp; omega,by simp; omega,by simp; omega,hall⟩
  ·split
   ·exact ⟨by simp,fun e=>by simp at e,by simp; omega,by simp; omega,by simp; omega,by simp; omega,fun n hn=>hall n (List.mem_of_mem_tail hn)⟩
   ·split
    ·exact ⟨h5,h.term,by simp; omega,by simp; omega,by simp; omega,by simp; omega,hall⟩
    ·split
     ·exact ⟨by simp,fun e=>by simp at e,by simp; omega,by simp; omega,by simp; omega,by simp; omega,hall⟩
     ·split
      ·exact ⟨by simp,fun e=>by simp at e,by simp; omega,by simp; omega,by simp,by simp; omega,hall⟩
      ·split
       ·exact ⟨by simp,fun e=>by simp at e,by simp; omega,by simp; omega,by simp; omega,by simp; omega,hall⟩
       ·split
        ·exact ⟨by simp,fun e=>by simp at e,by simp; omega,by simp; omega,by simp; omega,by simp; omega,hall⟩
        ·exact ⟨h5,h.term,by simp; omega,by simp; omega,by simp; omega,by simp; omega,hall⟩
theorem Zcc {L:LookS} {i:Nat} (h:LInv L i) (kd tn:Nat):LInv (Zat L kd tn) (i+1):=by
 unfold Zat
 split
 ·exact Ztb h kd tn
 ·split
  ·have h:=h.mono (Nat.le_succ i)
   exact ⟨h.want,h.term,h.size,h.heads,h.goals,h.len,h.all⟩
  ·exact Zra h kd
def Zcx:List Tok→LookS→Nat × Nat
 | [],_=>(0,0)
 | t::ts,L =>
  if t.kind=4∧(L.want=5∨L.want=0) then (0,0)
  else if (Zat L t.kind t.text.length).err≠0 then ((Zat L t.kind t.text.length).err,t.pos)
  else Zcx ts (Zat L t.kind t.text.length)
theorem Zdn (w:World) (B b:Nat) (L:LookS) (ov:Value) (kd:Nat) (ps:Int) (tx:ByteArray) (h:IsLook w B b L ov) (hBb:B≤b) (hi:LInv L 4000) (hw:L.want≤2) (ht:tx.size≤4096) :
  Calls Tryz.prog 177 #[.pointer (some ⟨b,0,none⟩),.agg #[.int .i64 kd,.string tx,.int .i64 ps]] w fun e w' =>
   e = .returned (.tuple #[])∧∃ ov',Kept (Zdx b ov) w w'∧IsLook w' B b (Zau L kd tx.size) ov':=by
 have hb:=Zac h.blk
 have own:∀ k,ov.ownBlock=some k→B≤k:=fun k hk=>(h.opn.lt k hk).1
 have hs:=hi.size
 have hh:=hi.heads
 have hg:=hi.goals
 have hl:=hi.len
 by_cases hk:kd≠1∧(kd≠2∨L.want≠2)
 ·refine (Zwn w B b L ov kd ps tx h hk).mono ?_
  rintro e w' ⟨rfl,h1,h2⟩
  exact ⟨rfl,ov,h1.mono (fun _ _ e=>Or.inl e),h2⟩
 ·by_cases h2:L.want=2
  ·obtain ⟨n,r,hst⟩:∃ n r,L.stk=n::r:=by
    cases hc:L.stk with
    | nil=>exact absurd hc (hi.term h2)
    | cons n r=>exact ⟨n,r,rfl⟩
   have hn:=hi.all n (by rw [hst]; simp)
   rw [hst] at hl
   simp only [Qf] at hl
   by_cases h1:kd=1
   ·subst h1
    refine (Zqu w B b L n r ov ps tx h hst (by omega) (by omega) (by omega) ht h2).mono ?_
    rintro e w' ⟨rfl,h1,h2⟩
    exact ⟨rfl,ov,h1,h2⟩
   ·obtain rfl:kd=2:=by omega
    refine (Zqv w B b L n r ov ps tx h hst (by omega) (by omega) (by omega) ht h2).mono ?_
    rintro e w' ⟨rfl,h1,h2⟩
    exact ⟨rfl,ov,h1,h2⟩
  ·obtain rfl:kd=1:=by omega
   by_cases h0:L.want=0
   ·refine (Zsw w B b L ov ps tx h (by omega) ht h0).mono ?_
    rintro e w' ⟨rfl,h1,h2⟩
    exact ⟨rfl,ov,h1.mono (fun _ _ e=>Or.inl e),h2⟩
   ·refine (Zsx w B b L ov ps tx h (by omega) ht (by omega)).mono ?_
    rintro e w' ⟨rfl,h1,h2⟩
    exact ⟨rfl,ov,h1.mono (fun _ _ e=>Or.inl e),h2⟩
theorem Zds (w:World) (B b:Nat) (L:LookS) (ov:Value) (kd:Nat) (ps:Int) (tx:ByteArray) (h:IsLook w B b L ov) (hBb:B≤b) (hi:LInv L 4000) :
  Calls Tryz.prog 178 #[.pointer (some ⟨b,0,none⟩),.agg #[.int .i64 kd,.string tx,.int .i64 ps]] w fun e w' =>
   e = .returned (.tuple #[])∧∃ ov',Kept (Zdx b ov) w w'∧IsLook w' B b (Zaj L kd) ov':=by
 have hl:L.stk.length≤4096:=by have:=hi.len; omega
 by_cases h1:kd=40
 ·subst h1
  by_cases h2:L.want=3
  ·exact Zqz w B b L ov ps tx h hBb hl h2
  ·exact Zlw w B b L ov ps tx h hBb hl h2
 ·by_cases h2:kd=41
  ·subst h2; exact Zpe w B b L ov ps tx h hBb hl
  ·by_cases h3:kd=44
   ·subst h3; exact Zpc w B b L ov ps tx h hBb hl
   ·by_cases h4:kd=46
    ·subst h4; exact Zsy w B b L ov ps tx h hBb hl
    ·by_cases h5:kd=3
     ·subst h5; exact Zpd w B b L ov ps tx h hBb hl
     ·exact Zpf w B b L ov kd ps tx h hBb hl ⟨h1,h2,h3,h4,h5⟩
end Go.Proofs.YtlmjilpjmgjjcaaGreatDoor
