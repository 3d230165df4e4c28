/-
  PROVED HERE: what the program's 'token.Next' and 'reader.textOf' answer (the conditions stand in each statement).
-/
import Derived.Test.YtlmjilpjmgjjcaaGreatDoorRows
import Derived.WalkKit
import Derived.WalkSpells
import Derived.WalkLawsBesides
import GoSem.Claim
import Derived.Lib.Strings
import Derived.RegionTactic
import Derived.ChangeAlike
import Derived.BigRegion
import Derived.Lib.ItoaNum
import Derived.BigQuiet
import Derived.Deep.QuietTactic
import Derived.Deep.LoopGhost
set_option linter.unusedSimpArgs false
set_option linter.unusedVariables false
set_option maxRecDepth 10000
set_option maxHeartbeats 4000000
namespace Go.Proofs.YtlmjilpjmgjjcaaGreatDoor
open Go.RowKit
open _root_.Go.Proofs.Tryz
open Go.Value (int slice string agg pointer tuple)
open Go.IntKind (i64)
open Go.Ending (returned)
abbrev Qa:=@List.getElem?_eq_some_iff
abbrev Qb:=@List.getElem?_eq_getElem
abbrev Qc:=@List.getElem?_append_left
abbrev Qd:=@List.getElem?_append_right
abbrev Qe:=@Nat.le_refl
abbrev Qf:=@List.length_cons
abbrev Qg:=@List.length_append
abbrev Qh:=@List.mem_of_getElem?
abbrev Qi:=@List.append_assoc
abbrev Qj:=@List.getElem?_map
abbrev Qk:=@List.mem_append
abbrev Ql:=@List.length_map
abbrev Qm:=@Nat.zero_le
abbrev Qn:=@List.length_singleton
abbrev Qo:=@Option.some.injEq
abbrev Qp:=@List.mem_cons
abbrev Qq:=@Nat.le_trans
abbrev Qr:=@List.map_append
abbrev Qs:=@List.append_nil
abbrev Qt:=@List.length_nil
abbrev Qu:=@beq_eq_false_iff_ne
abbrev Qv:=@List.length_reverse
abbrev Qw:=@List.reverse_cons
abbrev Qx:=@List.map_cons
abbrev Qy:=@List.cons_append
abbrev Qz:=@List.nil_append
abbrev Q0:=@List.mem_map
abbrev Q1:=@List.length_eq_one_iff
abbrev Q3:=@List.length_eq_zero_iff
abbrev Q4:=@List.flatten_cons
abbrev Q5:=@List.take_succ_cons
abbrev Q6:=@Bool.and_eq_true
abbrev Q7:=@decide_eq_true_eq
abbrev Q8:=@List.getElem_of_mem
abbrev Q9:=@List.mem_append_left
abbrev QA:=@List.mem_append_right
abbrev QB:=@Nat.lt_or_ge
abbrev QC:=@List.drop_eq_getElem_cons
abbrev QD:=@List.mem_cons_of_mem
abbrev QE:=@List.length_replicate
abbrev QF:=@List.getElem?_set_ne
abbrev QI:=@List.cons.injEq
abbrev QJ:=@List.foldl_cons
abbrev QK:=@List.map_map
abbrev QG:=@Or.inl
abbrev QO:=@Or.inr
abbrev QP:=@if_neg
abbrev QQ:=@if_pos
abbrev QR:=@bne_iff_ne
abbrev QS:=@List.eq_nil_of_length_eq_zero
abbrev QT:=@List.take_length
abbrev QU:=@List.take_add_one
abbrev QV:=@List.getElem?_eq_none
abbrev QW:=@List.drop_eq_nil_of_le
abbrev QX:=@List.map_nil
abbrev QY:=@List.flatten_nil
abbrev QZ:=@List.getD_eq_getElem?_getD
abbrev JA:=@List.getElem?_take_of_lt
abbrev JB:=@List.flatten_append
abbrev JC:=@List.setIfInBounds_toArray
abbrev JD:=@List.set_cons_succ
abbrev JE:=@List.map_congr_left
abbrev JF:=@beq_iff_eq
abbrev JG:=@List.set_cons_zero
abbrev JH:=@Option.map_eq_some_iff
abbrev JI:=@List.length_drop
abbrev JJ:=@Nat.zero_add
abbrev JK:=@List.mem_range
abbrev JL:=@List.getElem?_modify
abbrev JM:=@Nat.lt_of_lt_of_le
abbrev JN:=@Option.map_some
abbrev JO:=@Bool.or_eq_true
abbrev JP:=@List.mem_singleton
abbrev JQ:=@Bool.false_eq_true
abbrev JR:=@List.ext_getElem?
abbrev JS:=@List.take_of_length_le
abbrev JT:=@List.take_append_drop
abbrev JU:=@Nat.add_zero
abbrev JV:=@List.drop_drop
abbrev JW:=@Nat.le_of_lt
abbrev JX:=@List.idxOf_lt_length_of_mem
abbrev JY:=@Nat.le_succ_of_le
abbrev JZ:=@Array.getElem?_eq_some_iff
abbrev J0:=@List.mem_iff_getElem?
abbrev J8:=@List.getElem?_eq_none_iff
abbrev J9:=@Array.getElem?_setIfInBounds_self_of_lt
abbrev Ja:=@if_true
theorem Yo{p:Prop}(h:p:=by omega):p:=h
theorem Yd{p:Prop}(h:p:=by decide):p:=h
theorem Ys{p:Prop}(h:p:=by simp):p:=h
theorem Yp{p:Prop}(h:p:=by simp;omega):p:=h
structure Ad(S:Nat->Prop)(w w':World):Prop where
 os:w'.os=w.os
 tape:w'.tape=w.tape
 output:w'.output=w.output
 size:w.heap.size<=w'.heap.size
 block:∀k,k<w.heap.size->¬S k->w'.heap[k]?=w.heap[k]?
def Ak(v:Value):Nat->Prop:=fun k=>v.ownBlock=some k
def A4:Nat->Prop:=fun _=>False
theorem Ad.refl(S:Nat->Prop)(w:World):Ad S w w:=⟨rfl,rfl,rfl,Qe _,fun _ _ _=>rfl⟩
theorem Ad.then{S S':Nat->Prop}{a b c:World}(h:Ad S a b)(k:Ad S' b c)(e:∀i,i<a.heap.size->S' i->S i):Ad S a c:=
 ⟨k.os.trans h.os,k.tape.trans h.tape,k.output.trans h.output,Qq h.size k.size,
  fun i hi hn=>(k.block i (JM hi h.size) (fun d=>hn (e i hi d))).trans (h.block i hi hn)⟩
theorem Ad.trans{S:Nat->Prop}{a b c:World}(h:Ad S a b)(k:Ad S b c):Ad S a c:=h.then k (fun _ _ h=>h)
theorem Ad.mono{S S':Nat->Prop}{w w':World}(h:Ad S w w')(b:∀i,i<w.heap.size->S i->S' i):Ad S' w w':=
 ⟨h.os,h.tape,h.output,h.size,fun i hi hn=>h.block i hi (fun a=>hn (b i hi a))⟩
theorem Ad.drew{S:Nat->Prop}{a w:World}(h:Ad S a w):Ad S a w.drew:=⟨h.os,h.tape,h.output,h.size,h.block⟩
theorem Ad.alloc{S:Nat->Prop}{a w:World}(h:Ad S a w)(o:Obj):Ad S a (w.alloc o):=
 h.trans ⟨rfl,rfl,rfl,Ys,fun k b _=>Below.heap_alloc _ _ _ b⟩
theorem Ad.setCell{S:Nat->Prop}{a w:World}(h:Ad S a w){p:Addr}(b:p.block<a.heap.size->S p.block)(u:Value):Ad S a (w.setCell p u):=
 h.then (S':=fun k=>k=p.block) ⟨rfl,rfl,rfl,by simp[World.setCell],fun k _ hn=>Below.heap_setCell _ _ _ _ hn⟩ (fun i hi e=>by subst e;exact b hi)
theorem Ad.of_grown{w w':World}{row:Option Nat}(h:w.grownBy w' row):Ad (fun k=>row=some k) w w':=
 ⟨h.os,h.tape,h.output,h.size,fun k a hn=>h.block k a (fun e=>hn e.symm)⟩
theorem Ad.below{S:Nat->Prop}{w w':World}{B:Nat}(h:Ad S w w')(c:B<=w.heap.size)(b:∀k,S k->B<=k):Below B w w':=
 ⟨h.os,h.tape,h.output,h.size,fun k d=>h.block k Yo (fun a=>by have:=b k a;omega)⟩
theorem Ad.of_below{w w':World}{B:Nat}(h:Below B w w'):Ad (fun k=>B<=k) w w':=
 ⟨h.os,h.tape,h.output,h.size,fun k _ hn=>h.block k Yo⟩
theorem Ad.cell{S:Nat->Prop}{w w':World}(h:Ad S w w'){p:Addr}{v:Value}(a:w.cell? p=some v)(hn:¬S p.block):w'.cell? p=some v:=
 (World.cell?_of_block (w:=w) (h.block p.block (World.block_lt_of_cell? w p a) hn)).trans a
theorem Ad.owns{S:Nat->Prop}{w w':World}(h:Ad S w w'){base:Nat}{e:TypeId}{size:Nat}{v:Value}{n:Nat}{xs:List Value}(b:w.ownsRow base e size v n xs)
  (hn:∀k,v.ownBlock=some k->¬S k):w'.ownsRow base e size v n xs:=by
 refine⟨b.1,?_⟩;rcases b.2 with f|⟨g,c,d,rfl,hb,a,rest⟩
 ·exact .inl f
 ·refine .inr ⟨g,c,d,rfl,hb,?_,rest⟩;rw[h.block g (JZ.1 a).1 (hn g rfl)];exact a
theorem AI{w:World}{base a:Nat}{e:TypeId}{size:Nat}{v:Value}{n:Nat}{xs:List Value}(b:w.ownsRow base e size v n xs)(hb:a<=base):w.ownsRow a e size v n xs:=by
 refine⟨b.1,?_⟩;rcases b.2 with h|⟨g,c,d,rfl,f,rest⟩
 ·exact .inl h
 ·exact .inr ⟨g,c,d,rfl,Qq hb f,rest⟩
theorem Gl{P:Program}(w:World)(base:Nat)(t ty e:TypeId)(i:TypeInfo)(r:Value)(p:P.underlying t=some (.slice e))(hi:P.info? e=some i)(hz:i.zero=some r)
  (v:Value) (n:Nat) (xs:List Value) (o:w.ownsRow base e i.size v n xs)
  (a:Addr) (m c:Nat) (d:List Value) (hl:d.length=m*i.size) (D:0<m) (l:∀j u,d[j]?=some u->w.cell? (a.add j)=some u) (b:∀u∈d,u.oneCell'=true)
  (z:n+m<=maxLen) (x:(n+m)*i.bytes<=140737488355328) (q:Value) (w':World)
  (f:(Builtin.append_ #[t,t] ty #[v,.slice (some a) m c]).run P w= .ok q w'):q.ownBlock=v.ownBlock\/q.ownBlock=some w.heap.size:=by
 have I:n+m<=9223372036854775807:=by simp only[maxLen]at z;omega
 rcases o.2 with⟨rfl,rfl⟩|⟨g,k,s,rfl,F,C,H,G,A,J⟩
 ·have h:=run_append_nil (P:=P) w t ty e i r p hi hz a m c d hl l D Yo (by have hb:=x;simp only[JJ]at hb;omega);rw[h]at f;injection f with b h2;subst b;exact .inr rfl
 ·by_cases y:n+m<=k
  ·have B:n*i.size+d.length<=s.size:=by rw[hl,A,<-Nat.add_mul];exact Nat.mul_le_mul_right _ y
   have h:=run_append_room (P:=P) w t ty e i p hi g n k s C a m c d hl l b y B;rw[h]at f;injection f with b h2;subst b;exact .inl rfl
  ·have E:∀j u,xs[j]?=some u->w.cell? ((⟨g,0,none⟩:Addr).add j)=some u:=o.cells (g:=g) rfl;have h:=run_append_grow (P:=P) w t ty e i r p hi hz ⟨g,0,none⟩ n k xs o.1 E a m c d hl l Yo Yo (growslice_fits Yo x);rw[h]at f;injection f with b h2;subst b;exact .inr rfl
structure Ar(w:World)(base:Nat)(e:TypeId)(size:Nat)(v:Value)(n:Nat)(xs:List Value)(v':Value)(w':World):Prop where
 owns:w'.ownsRow base e size v' n xs
 kept:Ad (Ak v) w w'
 where_:v'.ownBlock=v.ownBlock\/∃g,v'.ownBlock=some g/\w.heap.size<=g
theorem E2{P:Program}(w:World)(t ty:TypeId)(base:Nat)(e:TypeId){d:Value}{size b:Nat}
  (A:(P.info? e).map (fun i=>(i.zero,i.size,i.bytes))=some (some d,size,b)) (s:P.underlying t=some (.slice e)) (E:d.cells.size=size) (C:0<size)
  (v:Value) (n:Nat) (xs:List Value) (B:w.ownsRow base e size v n xs)
  (a:Array Value) (hl:a.size=size) (f:∀u∈a.toList,u.oneCell'=true)
  (l:(n+1)*(b+1)<=140737488355328) (G:base<=w.heap.size):
  ∃c w',(Builtin.append_ #[t,t] ty #[v,.slice (some ⟨w.heap.size,0,none⟩) 1 1]).run P (w.alloc (.cells a e))= .ok c w'/\Ar w base e size v (n+1) (xs++a.toList) c w':=by
 obtain⟨i,hi,hz,r,m⟩:=info_parts A;have F:n+1<=140737488355328:=Qq (Nat.le_mul_of_pos_right (n+1) (Nat.succ_pos b)) l;have k:(n+1)*b<=140737488355328:=Qq (Nat.mul_le_mul_left _ (Nat.le_succ _)) l;have g:n+1<=maxLen:=by simp only[maxLen];omega
 have o:∀(j:Nat)(u:Value),a.toList[j]?=some u->(w.alloc (.cells a e)).cell? ((⟨w.heap.size,0,none⟩:Addr).add j)=some u:=by
  intro j u D;have z:(⟨w.heap.size,0,none⟩:Addr).add j=⟨w.heap.size,j,none⟩:=by unfold Addr.add;split<;>simp_all
  rw[z,cell_of_row _ w.heap.size j a e (0,0) (heap_alloc_new w _)];simpa using D
 have p:=B.alloc (.cells a e);obtain⟨c,w',q,x,y,_⟩:=run_append_own (P:=P) (w.alloc (.cells a e)) base t ty e i d size b s hi hz r m E C v n xs p
  ⟨w.heap.size,0,none⟩ 1 1 a.toList (by simp[hl]) o f g k Yp
 refine⟨c,w',q,x,?_,?_⟩
 ·have:=Ad.of_grown y;exact((Ad.refl (Ak v) w).alloc _).then this (fun i _ h=>h)
 ·subst r m;rcases Gl (P:=P) (w.alloc (.cells a e)) base t ty e i d s hi hz v n xs p ⟨w.heap.size,0,none⟩ 1 1 a.toList (by simp[hl]) Yo o f g k c w' q with h|h
  ·exact .inl h
  ·exact .inr ⟨_,h,Ys⟩
theorem LN{P:Program}{o:Oper}{a:Act}{d:Act->World->Prop}{j:Exit->Act->World->Prop}(w:World)(s x:Operand)(t:TypeId)
  (y:o.op= .call {callee:= .builtin .append,args:=#[s,x],argTypes:=#[t,t]})
  (base:Nat) (e:TypeId) {g:Value} {size f:Nat}
  (r:(P.info? e).map (fun i=>(i.zero,i.size,i.bytes))=some (some g,size,f)) (D:P.underlying t=some (.slice e)) (F:g.cells.size=size) (C:0<size)
  (v:Value) (n:Nat) (xs:List Value) (B:a.eval s=v) (z:w.ownsRow base e size v n xs)
  (b:Array Value) {N:Nat} (E:a.eval x= .slice (some ⟨N,0,none⟩) 1 1) (m:N=w.heap.size) (hl:b.size=size) (k:∀u∈b.toList,u.oneCell'=true)
  (q:(n+1)*(f+1)<=140737488355328) (p:base<=w.heap.size)
  (h:∀c w',Ar w base e size v (n+1) (xs++b.toList) c w'->d (a.put o.dst c) w'):o.wp P a (w.alloc (.cells b e)) d j:=by
 subst m;obtain⟨c,w',A,l⟩:=E2 (P:=P) w t o.type base e r D F C v n xs z b hl k q p;unfold Oper.wp execOp;simp only[y,resolve,invoke,builtin,Sem.run_bind,Sem.run_pure,Result.andThen_ok,List.map_toArray,Qx,QX,B,E,A];exact h c w' l
theorem Al{P:Program}{ops:Array Oper}{rest:List Oper}{o:Oper}{a:Act}{d:Exit->Act->World->Prop}(w:World)(r:o.guard=none)(s x:Operand)(t:TypeId)
  (z:o.op= .call {callee:= .builtin .append,args:=#[s,x],argTypes:=#[t,t]})
  (base:Nat) (e:TypeId) {g:Value} {size f:Nat}
  (y:(P.info? e).map (fun i=>(i.zero,i.size,i.bytes))=some (some g,size,f)) (D:P.underlying t=some (.slice e)) (F:g.cells.size=size) (C:0<size)
  (v:Value) (n:Nat) (xs:List Value) (B:a.eval s=v) (A:w.ownsRow base e size v n xs)
  (b:Array Value) {N:Nat} (E:a.eval x= .slice (some ⟨N,0,none⟩) 1 1) (m:N=w.heap.size) (hl:b.size=size) (j:∀u∈b.toList,u.oneCell'=true)
  (q:(n+1)*(f+1)<=140737488355328) (p:base<=w.heap.size)
  (h:∀c w',Ar w base e size v (n+1) (xs++b.toList) c w'->wpList P ops d rest (a.put o.dst c) w'):wpList P ops d (o::rest) a (w.alloc (.cells b e)):=
 wpList_plain r fun _ l=>LN w s x t z base e y D F C v n xs B A b E m hl j q p fun c w' k=>l _ _ (h c w' k)
abbrev Q2:=@World.ownsRow_nil
abbrev QH:=@Value.slice.injEq
abbrev QL:=@heap_alloc_new
abbrev Jb:=@bodyPost_ret
abbrev Jc:=@Below.refl
abbrev Jd:=@Below.heap_alloc
theorem Yk{p:Prop}(h:p:=by kernel_rfl):p:=h
theorem Ex{α:Type}(x:α):∃y,y=x:=⟨x,rfl⟩
theorem Mst{S:Nat->Prop}{a w:World}(h:Ad S a w:=by repeat'(first|with_reducible exact Ad.refl _ _|with_reducible apply Ad.drew|with_reducible apply Ad.drewN|with_reducible apply Ad.alloc|with_reducible refine Ad.setCell ?_ ?_ _|(intro _;simp only;omega))):Ad S a w:=h
abbrev Lv:=List Value
abbrev Av:=Array Value
abbrev Oa:=Option Addr
abbrev Np:=Nat->Prop
abbrev Nl:Value:=.slice none 0 0
abbrev Rq(a:Array Value):Ending:=.returned (.tuple a)
abbrev Pt(b:Nat):Value:=.pointer (some ⟨b,0,none⟩)
variable {w w' w1 w2 w0 wr:World}{k B b i p size cap M rb bW x:Nat}{v cv gv vv lv:Value}{xs ys vs:Lv}{X Y S:Np}{s:ByteArray}{t e:TypeId}{P:Program}
def Ey(c:UInt8)(s:ByteArray):Bool:=s.data.toList.contains c
def CT:ByteArray:=⟨#[97,98,99,100,101,102,103,104,105,106,107,108,109,110,111,112,113,114,115,116,117,118,119,120,121,122]⟩
def DC:ByteArray:=⟨#[65,66,67,68,69,70,71,72,73,74,75,76,77,78,79,80,81,82,83,84,85,86,87,88,89,90]⟩
def E4:ByteArray:=⟨#[40,41,44,46]⟩
def EC:ByteArray:=⟨#[97,98,99,100,101,102,103,104,105,106,107,108,109,110,111,112,113,114,115,116,117,118,119,120,121,122,65,66,67,68,69,70,71,72,73,74,75,76,77,78,79,80,81,82,83,84,85,86,87,88,89,90,48,49,50,51,52,53,54,55,56,57]⟩
theorem UP(s:ByteArray)(k:Nat)(h:k<s.size):s.data.toList.take (k+1)=s.data.toList.take k++[s[k]]:=by
 rw[List.take_succ_eq_append_getElem (by simpa using h)];rfl
theorem BX(s:ByteArray)(k:Nat)(h:k<s.size):s.data.toList.drop k=s[k]::s.data.toList.drop (k+1):=by
 rw[QC (by simpa using h)];rfl
theorem DU(s:ByteArray)(k:Nat)(h:¬k<s.size):s.data.toList.drop k=[]:=by
 apply QW;simp;omega
theorem TK{a b:UInt8}(h:(((a.toNat:Int))==(b.toNat:Int))=true):a=b:=by
 have:=eq_of_beq h;exact UInt8.toNat_inj.1 Yo
theorem Xn{a b:UInt8}(h:(((a.toNat:Int))==(b.toNat:Int))=false):a≠b:=by
 intro e;subst e;simp at h
theorem XZ{c:UInt8}{s:ByteArray}{k:Nat}(a:k<s.size)(h:(((s[k].toNat:Int))==(c.toNat:Int))=true):Ey c s=true:=by
 have:=TK h;unfold Ey;rw[List.contains_iff_mem,<-this];have:s[k]=s.data.toList[k]'(by simpa using a):=rfl;rw[this];exact List.getElem_mem _
theorem X8{c:UInt8}{s:ByteArray}{k:Nat}(a:k<s.size)(h:(((s[k].toNat:Int))==(c.toNat:Int))=false)(hn:(s.data.toList.take k).contains c=false):
  (s.data.toList.take (k+1)).contains c=false:=by
 have b:=Xn h;rw[UP s k a];simp only[List.contains_eq_mem,decide_eq_false_iff_not,Qk,JP,not_or]at hn⊢;exact⟨hn,fun e=>b e.symm⟩
theorem XV{c:UInt8}{s:ByteArray}{k:Nat}(a:¬k<s.size)(hn:(s.data.toList.take k).contains c=false):Ey c s=false:=by
 rw[JS Yp]at hn;exact hn
def AX:List UInt8->Nat
 |[]=>0
 |c::r=>if Ey c EC then AX r+1 else 0
theorem Ei(c:UInt8)(r:List UInt8)(h:Ey c EC=true):AX (c::r)=AX r+1:=by rw[AX,QQ h]
theorem Mn(c:UInt8)(r:List UInt8)(h:Ey c EC=false):AX (c::r)=0:=by rw[AX,QP (by simp[h])]
theorem Ip(l:List UInt8):AX l<=l.length:=by
 induction l with
 |nil=>exact Qe _
 |cons c r a=>unfold AX;split<;>simp<;>omega
theorem Dv{p:UInt8->Bool}(h:(List.range 256).all (fun n=>p (UInt8.ofNat n))=true)(c:UInt8):p c=true:=by
 rw[List.all_eq_true]at h;have:=h c.toNat (by rw[JK];exact c.toNat_lt);simpa using this
theorem Hb{c:UInt8}(h:Ey c CT=true):Ey c EC=true:=by
 have:=Dv (p:=fun c=> !Ey c CT||Ey c EC) (by decide+kernel) c;simpa[h]using this
theorem Hq{c:UInt8}(h:Ey c DC=true):Ey c EC=true:=by
 have:=Dv (p:=fun c=> !Ey c DC||Ey c EC) (by decide+kernel) c;simpa[h]using this
structure BV where
 kind:Nat
 text:List UInt8
 pos:Nat
def A5(c:UInt8)(r:List UInt8):Nat×Nat:=
 if Ey c CT then(1,AX r)
 else if Ey c DC then(2,AX r)
 else if Ey c E4 then(c.toNat,0)
 else if c=58/\r.head?=some 45 then(3,1)
 else(5,0)
def E7(c:UInt8):Bool:=c==32||c==10
theorem Nx(c:UInt8)(r:List UInt8):(A5 c r).2<=r.length:=by
 have:=Ip r;unfold A5;split
 ·exact this
 ·split
  ·exact this
  ·split
   ·exact Qm _
   ·split
    ·rename_i h
     cases r with
     |nil=>simp at h
     |cons d r=>simp
    ·exact Qm _
def Gh:Nat->List UInt8->Nat->List BV
 |0,_,_=>[]
 |_+1,[],_=>[]
 |f+1,c::r,p=>
  if E7 c then Gh f r (p+1)
  else⟨(A5 c r).1,(c::r).take ((A5 c r).2+1),p⟩::Gh f (r.drop (A5 c r).2) (p+(A5 c r).2+1)
theorem T1(f:Nat):∀(g:Nat)(l:List UInt8)(p:Nat),l.length<=f->l.length<=g->Gh f l p=Gh g l p:=by
 induction f with
 |zero=>
  intro g l p b a;have:l=[]:=QS Yo;subst this
  cases g<;>rfl
 |succ f d=>
  intro g l p b a
  cases l with
  |nil=>cases g<;>rfl
  |cons c r=>
   cases g with
   |zero=>simp at a
   |succ g=>
    simp only[Qf]at b a;have hd:(r.drop (A5 c r).2).length<=r.length:=Ys
    rw[Gh,Gh];split
    ·exact d g r _ Yo Yo
    ·rw[d g (r.drop (A5 c r).2) _ Yo Yo]
def CZ(l:List UInt8)(p:Nat):List BV:=Gh l.length l p
theorem V4(p:Nat):CZ [] p=[]:=rfl
theorem Lx(c:UInt8)(r:List UInt8)(p:Nat)(h:E7 c=true):CZ (c::r) p=CZ r (p+1):=by
 unfold CZ;rw[Qf,Gh,QQ h]
theorem MX(c:UInt8)(r:List UInt8)(p:Nat)(h:E7 c=false):
  CZ (c::r) p=⟨(A5 c r).1,(c::r).take ((A5 c r).2+1),p⟩::CZ (r.drop (A5 c r).2) (p+(A5 c r).2+1):=by
 unfold CZ;rw[Qf,Gh,QP (by simp[h])]
 congr 1
 exact T1 _ _ _ _ Ys (Qe _)
structure BJ where
 name:List UInt8
 num:Nat
 args:Nat
abbrev At:=List (List UInt8)
abbrev Ll:=List (List BJ)
abbrev Ly:=List BJ
abbrev Lu:=List UInt8
variable {l:Ly}{ls ts:Ll}{ρ:Nat->Nat}{σ:Nat->Ly}{a:Ll×At}{A:List Lu}
theorem FP{k:IntKind}{a b:Int}(h:a=b):Ending.returned (int k a)=returned (int k b):=by rw[h]
theorem DI{a b:Bool}(h:a=b):Ending.returned (.bool a)=returned (.bool b):=by rw[h]
theorem BO(c:UInt8)(s:ByteArray)(w:World)(d:s.size<=maxLen):
  Calls prog 175 #[int .u8 c.toNat,string s] w fun e w'=>e=returned (.bool (Ey c s))/\w'=w:=by
 unfold maxLen at d;go_enter func175,ntmps175;go_wp2
 go_loop [5] (fun i=>∃k:Nat,k<=s.size/\i=int i64 k/\(s.data.toList.take k).contains c=false) (fun i=>s.size-(intOf i).toNat)
 case atStart=>exact⟨0,Qm _,rfl,rfl⟩
 case round=>
  obtain⟨k,f,rfl,hn⟩:=hrel;have b:Hid ((s.data.toList.take k).contains c=false):=hn;clear hn
  by_cases a:k<s.size
  ·go_wp2
   ·go_ret;exact⟨DI (XZ a (by assumption)).symm,rfl⟩
   ·go_round
    case rel=>exact⟨k+1,Yo,by go_num,X8 a (by assumption) b.out⟩
    case measure=>simp[intOf];omega
  ·go_wp2;go_ret;exact⟨DI (XV a b.out).symm,rfl⟩
theorem Ri(s:ByteArray)(n:Nat)(w:World)(j:s.size<=maxLen)(hn:n<=s.size):
  Calls prog 176 #[string s,int i64 n] w fun e w'=>e=returned (int i64 ((n+AX (s.data.toList.drop n):Nat):Int))/\w'=w:=by
 unfold maxLen at j;go_enter func176,ntmps176;go_wp2
 go_loop [1] (fun i=>∃k:Nat,k<=s.size/\i=int i64 k/\n+AX (s.data.toList.drop n)=k+AX (s.data.toList.drop k)) (fun i=>s.size-(intOf i).toNat)
 case atStart=>exact⟨n,hn,rfl,rfl⟩
 case round=>
  obtain⟨k,l,rfl,hn⟩:=hrel;have b:Hid (n+AX (s.data.toList.drop n)=k+AX (s.data.toList.drop k)):=hn;clear hn
  by_cases g:k<s.size
  ·have hd:=BX s k g
   by_cases c:Ey s[k] EC=true
   ·have a:Hid (AX (s.data.toList.drop k)=AX (s.data.toList.drop (k+1))+1):=by
     show _=_;rw[hd];exact Ei _ _ c
    clear hd
    go_wp2_with (go_at_call 175;apply(BO _ EC _ Yd).mono;rintro e w' ⟨rfl,rfl⟩)
    go_round
    case rel=>exact⟨k+1,Yo,by go_num,by have d:=b.out;have f:=a.out;omega⟩
    case measure=>simp[intOf];omega
   ·have h:Ey s[k] EC=false:=by simpa using c
    have a:Hid (AX (s.data.toList.drop k)=0):=by
     show _=_;rw[hd];exact Mn _ _ h
    clear hd c
    go_wp2_with (go_at_call 175;apply(BO _ EC _ Yd).mono;rintro e w' ⟨rfl,rfl⟩)
    go_ret;exact⟨FP (by have d:=b.out;have f:=a.out;omega),rfl⟩
  ·have a:Hid (AX (s.data.toList.drop k)=0):=by
    show _=_;rw[DU s k g];rfl
   go_wp2;go_ret;exact⟨FP (by have d:=b.out;have f:=a.out;omega),rfl⟩
theorem Yg{p:Prop}(h:p:=by go_num):p:=h
theorem infoTok:(prog.info? 243).map (fun i=>(i.zero,i.size,i.bytes))=some (some (agg #[int i64 0,string ⟨#[]⟩,int i64 0]),3,32):=by kernel_rfl
theorem Ks{p:Prop}(h:p):Hid p:=h
def DE(t:BV):Lv:=[.int .i64 t.kind,.string ⟨t.text.toArray⟩,.int .i64 t.pos]
def AP(l:List BV):Lv:=l.flatMap DE
theorem FW(x b:Int)(y:ByteArray):∀u∈(#[Value.int .i64 x,string y,int i64 b]:Av).toList,u.oneCell'=true:=by
 intro u a;simp at a;rcases a with rfl|rfl|rfl<;>rfl
theorem Kw{c:UInt8}(h:E7 c=true):((c.toNat:Int)==32)=true\/(((c.toNat:Int)==32)=false/\((c.toNat:Int)==10)=true):=by
 have:=Dv (p:=fun c=> !E7 c||((c.toNat:Int)==32)||((c.toNat:Int)==10)) (by decide+kernel) c;rw[h]at this
 cases a:((c.toNat:Int)==32)<;>simp_all
theorem Nf{c:UInt8}(h:E7 c=false):((c.toNat:Int)==32)=false/\((c.toNat:Int)==10)=false:=by
 have:=Dv (p:=fun c=>E7 c||(!((c.toNat:Int)==32)&& !((c.toNat:Int)==10))) (by decide+kernel) c;rw[h]at this;simpa using this
theorem MH{c:UInt8}(h:Ey c E4=true):((c.toNat:Int)==0)=false:=by
 have:=Dv (p:=fun c=> !Ey c E4|| !((c.toNat:Int)==0)) (by decide+kernel) c;rw[h]at this;simpa using this
theorem XH{c:UInt8}(h:(s.data.toList.drop k).head?=some c):∃h:k<s.size,((s[k].toNat:Int)==(c.toNat:Int))=true:=by
 by_cases hl:k<s.size
 ·rw[BX s k hl]at h;simp at h;exact⟨hl,by rw[h];simp⟩
 ·rw[DU s k hl]at h;simp at h
theorem Wt{c:UInt8}(hl:k<s.size)(h:¬(s.data.toList.drop k).head?=some c):((s[k].toNat:Int)==(c.toNat:Int))=false:=by
 rw[BX s k hl]at h;simp at h;rw[Qu];intro e;exact h (UInt8.toNat_inj.1 Yo)
theorem EG{to kd:Nat}{done:List BV}{e:Value}{x:Lv}(q:k<s.size)(hd:s.data.toList.drop k=s[k]::s.data.toList.drop (k+1))(hb:E7 s[k]=false)
  (n:to=k+(A5 s[k] (s.data.toList.drop (k+1))).2+1) (l:kd=(A5 s[k] (s.data.toList.drop (k+1))).1) (p:done.length<=k)
  (d:done++CZ (s.data.toList.drop k) k=CZ s.data.toList 0) (c:Below w.heap.size w wr) (m:wr.ownsRow w.heap.size 243 3 v done.length (AP done))
  (b:Ar wr w.heap.size 243 3 v (done.length+1) x e w1) (o:x=AP done++[int i64 kd,string (s.extract k to),int i64 k]):
  ∃(j:Nat)(a:List BV),j<=s.size/\to=j/\a.length<=j/\a++CZ (s.data.toList.drop j) j=CZ s.data.toList 0/\Below w.heap.size w w1/\
   w1.ownsRow w.heap.size 243 3 e a.length (AP a):=by
 have r:=Nx s[k] (s.data.toList.drop (k+1));have t:(s.data.toList.drop (k+1)).length=s.size-(k+1):=Ys
 have g:s.extract k to=⟨((s[k]::s.data.toList.drop (k+1)).take ((A5 s[k] (s.data.toList.drop (k+1))).2+1)).toArray⟩:=by
  rw[<-hd];apply ByteArray.ext;apply Array.ext';rw[Lib.extract_data];have:to-k=(A5 s[k] (s.data.toList.drop (k+1))).2+1:=Yo
  rw[this]
 refine⟨to,done++[⟨kd,(s[k]::s.data.toList.drop (k+1)).take ((A5 s[k] (s.data.toList.drop (k+1))).2+1),k⟩],?_,rfl,?_,?_,?_,?_⟩
 ·omega
 ·simp;omega
 ·rw[hd,MX _ _ _ hb]at d;rw[<-d,Qi,JV];have f:k+1+(A5 s[k] (s.data.toList.drop (k+1))).2=to:=Yo
  rw[f,<-n,<-l];rfl
 ·exact c.trans ((b.kept.below c.size (fun i hi=>by
   rcases m.lt i hi with⟨h,_⟩;exact h)))
 ·have:=b.owns;rw[o,g]at this;simpa[AP,DE]using this
set_option maxRecDepth 100000 in
theorem RZ(s:ByteArray)(w:World)(Y:s.size<=4096):
    Calls prog 141 #[string s] w fun e w'=>∃v,e=returned v/\Below w.heap.size w w'/\
      w'.ownsRow w.heap.size 243 3 v ((CZ s.data.toList 0).length+1) (AP (CZ s.data.toList 0++[⟨4,[],s.size⟩])):=by
  have N:s.size<=maxLen:=by unfold maxLen;omega
  go_enter func141,ntmps141;go_wp2
  go_loopw [3,4] (fun v i wr=>∃(k:Nat)(done:List BV),k<=s.size/\i=int i64 k/\done.length<=k/\done++CZ (s.data.toList.drop k) k=CZ s.data.toList 0/\Below w.heap.size w wr/\
      wr.ownsRow w.heap.size 243 3 v done.length (AP done)) (fun _ i _=>s.size-(intOf i).toNat)
  case atStart=>exact⟨0,[],Qm _,rfl,Qe _,rfl,Jc _ _,Q2 _ _ _ _⟩
  case round=>
    obtain⟨k,done,W,rfl,B,L,d,O⟩:=hrel;have u:Hid (done++CZ (s.data.toList.drop k) k=CZ s.data.toList 0):=L;have f:Hid (wr.ownsRow w.heap.size 243 3 _ done.length (AP done)):=O;clear L O
    by_cases x:k<s.size
    · have hd:=BX s k x
      have t:Hid _:=hd;clear hd
      cases E:E7 s[k]
      case true=>
        have S:Hid (done++CZ (s.data.toList.drop (k+1)) (k+1)=CZ s.data.toList 0):=by
          have h:=u.out;rw[t.out,Lx _ _ _ E]at h;exact h
        rcases Kw E with I|⟨I,Q⟩
        all_goals
          go_wp2_with fail;apply(BO _ CT _ Yd).mono;rintro e w' ⟨rfl,rfl⟩;go_wp2_with fail;apply(BO _ DC _ Yd).mono;rintro e w' ⟨rfl,rfl⟩;go_wp2_with fail;apply(BO _ E4 _ Yd).mono;rintro e w' ⟨rfl,rfl⟩;go_wp2_with fail
          go_roundw
          case rel=>exact⟨k+1,done,Yo,Yg,Yo,S.out,d,f.out⟩
          case measure=>simp[intOf];omega
      case false=>
        obtain⟨I,Q⟩:=Nf E;have A:Hid (E7 s[k]=false):=E;clear E
        cases D:Ey s[k] CT
        case true=>
          have c:Hid (A5 s[k] (s.data.toList.drop (k+1))=(1,AX (s.data.toList.drop (k+1)))):=by show _=_;unfold A5;rw[QQ D]
          have C:Hid (AX (s.data.toList.drop k)=AX (s.data.toList.drop (k+1))+1):=by show _=_;rw[t.out];exact Ei _ _ (Hb (by assumption))
          have U:k+AX (s.data.toList.drop k)<=s.size:=by have:=Ip (s.data.toList.drop k);simp at this;omega
          have T:1<=AX (s.data.toList.drop k):=by have:=C.out;omega
          go_wp2_with fail;apply(BO _ CT _ Yd).mono;rintro e w' ⟨rfl,rfl⟩;go_wp2_with fail;apply(BO _ DC _ Yd).mono;rintro e w' ⟨rfl,rfl⟩;go_wp2_with fail;apply(BO _ E4 _ Yd).mono;rintro e w' ⟨rfl,rfl⟩;go_wp2_with fail;apply(Ri _ _ _ N Yo).mono;rintro e w' ⟨rfl,rfl⟩
          go_wp2_with (at_builtin;refine Al _ rfl (.tmp 66) (.tmp 74) 238 rfl w.heap.size 243 infoTok underlying238 rfl Yd _ done.length (AP done) rfl f.out _ rfl rfl rfl (FW _ _ _) ?_ d.size ?_)
          · omega
          intro z w1 a;have g:=Ks a;clear a;go_wp2
          go_roundw
          case rel=>
            obtain⟨j,l,m,n,o,p,q,r⟩:=EG x t.out A.out (by rw[c.out];have:=C.out;omega) (by simp[c.out]) B u.out d f.out g.out rfl;exact⟨j,l,m,by rw[<-n];go_num,o,p,q,r⟩
          case measure=>simp[intOf];omega
        case false=>
         cases F:Ey s[k] DC
         case true=>
          have c:Hid (A5 s[k] (s.data.toList.drop (k+1))=(2,AX (s.data.toList.drop (k+1)))):=by show _=_;unfold A5;rw[QP (by simp[D]),QQ F]
          have C:Hid (AX (s.data.toList.drop k)=AX (s.data.toList.drop (k+1))+1):=by show _=_;rw[t.out];exact Ei _ _ (Hq (by assumption))
          have U:k+AX (s.data.toList.drop k)<=s.size:=by have:=Ip (s.data.toList.drop k);simp at this;omega
          have T:1<=AX (s.data.toList.drop k):=by have:=C.out;omega
          go_wp2_with fail;apply(BO _ CT _ Yd).mono;rintro e w' ⟨rfl,rfl⟩;go_wp2_with fail;apply(BO _ DC _ Yd).mono;rintro e w' ⟨rfl,rfl⟩;go_wp2_with fail;apply(BO _ E4 _ Yd).mono;rintro e w' ⟨rfl,rfl⟩;go_wp2_with fail;apply(Ri _ _ _ N Yo).mono;rintro e w' ⟨rfl,rfl⟩
          go_wp2_with (at_builtin;refine Al _ rfl (.tmp 66) (.tmp 74) 238 rfl w.heap.size 243 infoTok underlying238 rfl Yd _ done.length (AP done) rfl f.out _ rfl rfl rfl (FW _ _ _) ?_ d.size ?_)
          · omega
          intro z w1 a;have g:=Ks a;clear a;go_wp2
          go_roundw
          case rel=>
            obtain⟨j,l,m,n,o,p,q,r⟩:=EG x t.out A.out (by rw[c.out];have:=C.out;omega) (by simp[c.out]) B u.out d f.out g.out rfl;exact⟨j,l,m,by rw[<-n];go_num,o,p,q,r⟩
          case measure=>simp[intOf];omega
         case false=>
          cases G:Ey s[k] E4
          case true=>
           have c:Hid (A5 s[k] (s.data.toList.drop (k+1))=(s[k].toNat,0)):=by show _=_;unfold A5;rw[QP (by simp[D]),QP (by simp[F]),QQ G]
           have X:((s[k].toNat:Int)==0)=false:=MH G;have V:(s[k].toNat:Int)<256:=by have:=s[k].toNat_lt;omega
           go_wp2_with fail;apply(BO _ CT _ Yd).mono;rintro e w' ⟨rfl,rfl⟩;go_wp2_with fail;apply(BO _ DC _ Yd).mono;rintro e w' ⟨rfl,rfl⟩;go_wp2_with fail;apply(BO _ E4 _ Yd).mono;rintro e w' ⟨rfl,rfl⟩
           go_wp2_with (at_builtin;refine Al _ rfl (.tmp 66) (.tmp 74) 238 rfl w.heap.size 243 infoTok underlying238 rfl Yd _ done.length (AP done) rfl f.out _ rfl rfl rfl (FW _ _ _) ?_ d.size ?_)
           · omega
           intro z w1 a;have g:=Ks a;clear a;go_wp2
           go_roundw
           case rel=>
             obtain⟨j,l,m,n,o,p,q,r⟩:=EG (to:=k+1) (kd:=s[k].toNat) x t.out A.out (by simp[c.out]) (by simp[c.out]) B u.out d f.out g.out (by first|rfl|simp[wrap64_byte]);exact⟨j,l,m,by rw[<-n];go_num,o,p,q,r⟩
           case measure=>simp[intOf];omega
          case false=>
           by_cases y:s[k]=58/\(s.data.toList.drop (k+1)).head?=some 45
           · have c:Hid (A5 s[k] (s.data.toList.drop (k+1))=(3,1)):=by show _=_;unfold A5;rw[QP (by simp[D]),QP (by simp[F]),QP (by simp[G]),QQ y]
             obtain⟨M,J⟩:=XH y.2;have R:((s[k+1].toNat:Int)==45)=true:=J;clear J;have K:((s[k].toNat:Int)==58)=true:=by rw[y.1];rfl
             clear y;go_wp2_with fail;apply(BO _ CT _ Yd).mono;rintro e w' ⟨rfl,rfl⟩;go_wp2_with fail;apply(BO _ DC _ Yd).mono;rintro e w' ⟨rfl,rfl⟩;go_wp2_with fail;apply(BO _ E4 _ Yd).mono;rintro e w' ⟨rfl,rfl⟩
             go_wp2_with (at_builtin;refine Al _ rfl (.tmp 66) (.tmp 74) 238 rfl w.heap.size 243 infoTok underlying238 rfl Yd _ done.length (AP done) rfl f.out _ rfl rfl rfl (FW _ _ _) ?_ d.size ?_)
             · omega
             intro z w1 a;have g:=Ks a;clear a;go_wp2
             go_roundw
             case rel=>
               obtain⟨j,l,m,n,o,p,q,r⟩:=EG x t.out A.out (by simp[c.out]) (by simp[c.out]) B u.out d f.out g.out rfl;exact⟨j,l,m,by rw[<-n];go_num,o,p,q,r⟩
             case measure=>simp[intOf];omega
           · have c:Hid (A5 s[k] (s.data.toList.drop (k+1))=(5,0)):=by show _=_;unfold A5;rw[QP (by simp[D]),QP (by simp[F]),QP (by simp[G]),QP y]
             cases K:((s[k].toNat:Int)==58)
             · clear y
               go_wp2_with fail;apply(BO _ CT _ Yd).mono;rintro e w' ⟨rfl,rfl⟩;go_wp2_with fail;apply(BO _ DC _ Yd).mono;rintro e w' ⟨rfl,rfl⟩;go_wp2_with fail;apply(BO _ E4 _ Yd).mono;rintro e w' ⟨rfl,rfl⟩
               go_wp2_with (at_builtin;refine Al _ rfl (.tmp 66) (.tmp 74) 238 rfl w.heap.size 243 infoTok underlying238 rfl Yd _ done.length (AP done) rfl f.out _ rfl rfl rfl (FW _ _ _) ?_ d.size ?_)
               · omega
               intro z w1 a;have g:=Ks a;clear a;go_wp2
               go_roundw
               case rel=>
                 obtain⟨j,l,m,n,o,p,q,r⟩:=EG x t.out A.out (by simp[c.out]) (by simp[c.out]) B u.out d f.out g.out rfl;exact⟨j,l,m,by rw[<-n];go_num,o,p,q,r⟩
               case measure=>simp[intOf];omega
             · have H:¬(s.data.toList.drop (k+1)).head?=some 45:=fun h=>y ⟨TK (b:=58) K,h⟩
               clear y
               by_cases M:k+1<s.size
               · have R:((s[k+1].toNat:Int)==45)=false:=Wt M H
                 clear H;go_wp2_with fail;apply(BO _ CT _ Yd).mono;rintro e w' ⟨rfl,rfl⟩;go_wp2_with fail;apply(BO _ DC _ Yd).mono;rintro e w' ⟨rfl,rfl⟩;go_wp2_with fail;apply(BO _ E4 _ Yd).mono;rintro e w' ⟨rfl,rfl⟩
                 go_wp2_with (at_builtin;refine Al _ rfl (.tmp 66) (.tmp 74) 238 rfl w.heap.size 243 infoTok underlying238 rfl Yd _ done.length (AP done) rfl f.out _ rfl rfl rfl (FW _ _ _) ?_ d.size ?_)
                 · omega
                 intro z w1 a;have g:=Ks a;clear a;go_wp2
                 go_roundw
                 case rel=>
                   obtain⟨j,l,m,n,o,p,q,r⟩:=EG x t.out A.out (by simp[c.out]) (by simp[c.out]) B u.out d f.out g.out rfl;exact⟨j,l,m,by rw[<-n];go_num,o,p,q,r⟩
                 case measure=>simp[intOf];omega
               · clear H
                 go_wp2_with fail;apply(BO _ CT _ Yd).mono;rintro e w' ⟨rfl,rfl⟩;go_wp2_with fail;apply(BO _ DC _ Yd).mono;rintro e w' ⟨rfl,rfl⟩;go_wp2_with fail;apply(BO _ E4 _ Yd).mono;rintro e w' ⟨rfl,rfl⟩
                 go_wp2_with (at_builtin;refine Al _ rfl (.tmp 66) (.tmp 74) 238 rfl w.heap.size 243 infoTok underlying238 rfl Yd _ done.length (AP done) rfl f.out _ rfl rfl rfl (FW _ _ _) ?_ d.size ?_)
                 · omega
                 intro z w1 a;have g:=Ks a;clear a;go_wp2
                 go_roundw
                 case rel=>
                   obtain⟨j,l,m,n,o,p,q,r⟩:=EG x t.out A.out (by simp[c.out]) (by simp[c.out]) B u.out d f.out g.out rfl;exact⟨j,l,m,by rw[<-n];go_num,o,p,q,r⟩
                 case measure=>simp[intOf];omega
    · have P:Hid (done=CZ s.data.toList 0):=by
        have h:=u.out;rw[DU s k x]at h;show done=_;simpa[V4]using h
      go_wp2_with (at_builtin;refine Al _ rfl (.tmp 77) (.tmp 81) 238 rfl w.heap.size 243 infoTok underlying238 rfl Yd _ done.length (AP done) rfl f.out _ rfl rfl rfl (FW _ _ _) ?_ d.size ?_)
      · omega
      intro z w1 a;have g:=Ks a;clear a;go_wp2;go_ret;have ha:=g.out;rw[P.out]at ha;refine⟨z,rfl,d.trans (ha.kept.below d.size (fun i hi=>(f.out.lt i hi).1)),?_⟩;simpa[AP,DE]using ha.owns
def YH(p:Prop):Prop:=p
theorem YH.o{p:Prop}(h:YH p):p:=h
theorem Yh{p:Prop}(h:p):YH p:=h
structure Bj where
 want:Nat
 query:Bool
 body:Bool
 stk:List Nat
 size:Nat
 goals:Nat
 heads:Nat
 err:Nat
def AL(L:Bj)(ov:Value):Av:=
 #[.int .i64 L.want,.bool L.query,.bool L.body,ov,.int .i64 L.size,.int .i64 L.goals,.int .i64 L.heads,.int .i64 L.err]
def AM(l:List Nat):Lv:=l.map fun(n:Nat)=>Value.int .i64 n
structure AZ(w:World)(B b:Nat)(L:Bj)(ov:Value):Prop where
 blk:w.heap[b]?=some (.cells (AL L ov) 278 (0,0))
 opn:w.ownsRow B 3 1 ov L.stk.length (AM L.stk.reverse)
theorem Aa{cs:Av}{T:TypeId}(h:w.heap[b]?=some (.cells cs T (0,0)))(i:Nat)(v:Value)(a:cs[i]?=some v):
  w.cell? ⟨b,i,none⟩=some v:=by simp[World.cell?,h,a]
theorem Ag{cs:Av}{T:TypeId}(h:w.heap[b]?=some (.cells cs T (0,0)))(i:Nat):w.frozen? ⟨b,i,none⟩=false:=by
 simp[World.frozen?,h]
theorem Ac{o:Obj}(h:w.heap[b]?=some o):b<w.heap.size:=(JZ.1 h).1
theorem Ae{cs:Av}{T:TypeId}(h:w.heap[b]?=some (.cells cs T (0,0)))(i:Nat)(v:Value):
  (w.setCell ⟨b,i,none⟩ v).heap[b]?=some (.cells (cs.setIfInBounds i v) T (0,0)):=by
 simp[World.setCell,Array.getElem?_modify,h]
theorem Ah{o:Obj}(h:w.heap[b]?=some o)(a:Obj):(w.alloc a).heap[b]?=some o:=by
 rw[Jd _ _ _ (Ac h)];exact h
theorem AZ.facts{L:Bj}{a:Value}(h:AZ w B b L a):
  b<w.heap.size/\(w.cell? ⟨b,0,none⟩=some (int i64 L.want)/\w.cell? ⟨b,1,none⟩=some (.bool L.query)/\w.cell? ⟨b,2,none⟩=some (.bool L.body)/\w.cell? ⟨b,3,none⟩=some a/\
   w.cell? ⟨b,4,none⟩=some (int i64 L.size)/\w.cell? ⟨b,5,none⟩=some (int i64 L.goals)/\w.cell? ⟨b,6,none⟩=some (int i64 L.heads)/\w.cell? ⟨b,7,none⟩=some (int i64 L.err))/\
  (∀i,w.frozen? ⟨b,i,none⟩=false):=
 ⟨Ac h.blk,⟨Aa h.blk 0 _ rfl,Aa h.blk 1 _ rfl,Aa h.blk 2 _ rfl,Aa h.blk 3 _ rfl,Aa h.blk 4 _ rfl,Aa h.blk 5 _ rfl,Aa h.blk 6 _ rfl,Aa h.blk 7 _ rfl⟩,
  fun i=>Ag h.blk i⟩
theorem AZ.apart{L:Bj}{d:Value}(h:AZ w B b L d):∀k,d.ownBlock=some k->¬k=b:=by
 rintro k a rfl;rcases h.opn.2 with⟨rfl,_⟩|⟨g,e,f,rfl,_,c,_⟩
 ·simp[Value.ownBlock]at a
 ·simp only[Value.ownBlock,Qo]at a;subst a;rw[h.blk]at c;simp at c
theorem AZ.later{L:Bj}{a:Value}(h:AZ w B b L a)(c:Ad S w w')(hb:¬S b)(d:∀k,a.ownBlock=some k->¬S k):AZ w' B b L a:=
 ⟨(c.block b (Ac h.blk) hb).trans h.blk,c.owns h.opn d⟩
def only(b:Nat):Nat->Prop:=fun k=>k=b
theorem Ad.put{a:World}(h:Ad (only b) a w)(i:Nat)(u:Value):Ad (only b) a (w.setCell ⟨b,i,none⟩ u):=h.setCell (p:=⟨b,i,none⟩) (fun _=>(rfl:b=b)) u
def FI(L:Bj)(n:Nat):Bj:={L with size:=L.size+1,err:=if 8<n\/30<L.size+1 then 3 else L.err}
theorem Ek(w:World)(B b:Nat)(L:Bj)(d:Value)(kd f:Int)(c:ByteArray)(h:AZ w B b L d)(A:L.size<=4096)(C:c.size<=4096):
  Calls prog 201 #[Pt b,agg #[int i64 kd,string c,int i64 f]] w fun e w'=>
   e=Rq #[]/\Ad (only b) w w'/\AZ w' B b (FI L c.size) d:=by
 obtain⟨hb,⟨p,q,r,s,t,u,v,y⟩,z⟩:=h.facts;have fin:∀(x:World)(e:Nat),x.heap[b]?=some (.cells (((AL L d).setIfInBounds 4 (int i64 (L.size+1:Nat))).setIfInBounds 7 (int i64 e)) 278 (0,0))->e=(FI L c.size).err->Ad (only b) w x->AZ x B b (FI L c.size) d:=by
  intro x e n m a;refine⟨?_,a.owns h.opn h.apart⟩;rw[n,m];rfl
 have i:=Yh fin;have g:=Yh h.blk;clear fin h
 by_cases j:8<c.size
 ·go_enter func201,ntmps201;go_wp2;go_end0;have a:Ad (only b) w (((w.setCell ⟨b,4,none⟩ (int i64 (L.size+1:Nat))).setCell ⟨b,7,none⟩ (int i64 (3:Nat))).alloc (.cells #[int i64 kd,string c,int i64 f] 243)):=
   (((Ad.refl _ w).put 4 _).put 7 _).alloc _
  exact⟨rfl,a,i.o _ 3 (Ah (Ae (Ae g.o 4 _) 7 _) _) (by simp[FI,j]) a⟩
 ·by_cases k:30<L.size+1
  ·have l:((30:Int)<(L.size:Int)+1):=Yo
   go_enter func201,ntmps201;go_wp2;go_end0;have a:Ad (only b) w (((w.setCell ⟨b,4,none⟩ (int i64 (L.size+1:Nat))).setCell ⟨b,7,none⟩ (int i64 (3:Nat))).alloc (.cells #[int i64 kd,string c,int i64 f] 243)):=
    (((Ad.refl _ w).put 4 _).put 7 _).alloc _
   exact⟨rfl,a,i.o _ 3 (Ah (Ae (Ae g.o 4 _) 7 _) _) (by simp[FI,j,k]) a⟩
  ·have l:¬((30:Int)<(L.size:Int)+1):=Yo
   go_enter func201,ntmps201;go_wp2;go_end0;have a:Ad (only b) w ((w.setCell ⟨b,4,none⟩ (int i64 (L.size+1:Nat))).alloc (.cells #[int i64 kd,string c,int i64 f] 243)):=
    ((Ad.refl _ w).put 4 _).alloc _
   exact⟨rfl,a,i.o _ L.err (Ah (Ae g.o 4 _) _) (by simp[FI,j];omega) a⟩
def AR(L:Bj):Bj:=
 if L.want=0 then{L with heads:=L.heads+1,body:=false,size:=0,err:=if 24<L.heads+1 then 3 else L.err}
 else if L.want=1 then{L with goals:=L.goals+1,size:=0,err:=if 6<L.goals+1 then 3 else L.err}
 else match L.stk with
  |[]=>L
  |n::r=>{L with stk:=(n+1)::r,err:=if 4<n+1 then 3 else L.err}
def AH(L:Bj)(kd tn:Nat):Bj:=
 if kd≠1/\(kd≠2\/L.want≠2)then{L with err:=2}else{FI (AR L) tn with want:=if kd=1 then 3 else 4}
theorem AY(w:World)(cs:Av)(T:TypeId)(i:Nat)(v:Value)(h:cs[i]?=some v):(w.alloc (.cells cs T)).cell? ⟨w.heap.size,i,none⟩=some v:=
 Aa (QL w _) i v h
theorem Ho{a:World}(i:Nat)(h:b<a.heap.size):¬only b (⟨a.heap.size,i,none⟩:Addr).block:=fun e=>by have:a.heap.size=b:=e;omega
theorem AZ.from{c:World}{L a:Bj}{d:Value}{cs:Av}(h:AZ w B b L d)(g:Ad (only b) w c)(e:c.heap[b]?=some (.cells cs 278 (0,0)))
  (f:cs=AL a d) (i:a.stk=L.stk):AZ c B b a d:=
 ⟨by rw[e,f],by rw[i];exact g.owns h.opn h.apart⟩
theorem Mkt{S:Nat->Prop}{a w:World}(h:Ad S a w:=by repeat(first|exact Ad.refl _ _|apply Ad.alloc|apply Ad.put|apply Ad.drew)):Ad S a w:=h
variable {L:Bj}
theorem Pi(w:World)(B b:Nat)(L:Bj)(j:Value)(E:Int)(n:ByteArray)(h:AZ w B b L j)(F:L.heads<=4096)(y:n.size<=4096)(m:L.want=0):
  Calls prog 177 #[Pt b,agg #[int i64 1,string n,int i64 E]] w fun e w'=>
   e=Rq #[]/\Ad (only b) w w'/\AZ w' B b (AH L 1 n.size) j:=by
 obtain⟨hb,⟨k,p,q,r,s,t,u,v⟩,x⟩:=h.facts;rw[m]at k;have a:=Yh m;have i:=Yh h;clear h m
 by_cases c:24<L.heads+1
 ·have C:(24:Int)<(L.heads:Int)+1:=Yo
  go_enter func177,ntmps177;go_wp2_with fail;refine(Ek _ B b (AR L) j _ _ _ ?_ ?_ y).mono ?_
  ·exact i.o.from ((((((Ad.refl (only b) w).put 6 _).put 2 _).put 4 _).put 7 _).alloc _) (Ah (Ae (Ae (Ae (Ae i.o.blk 6 _) 2 _) 4 _) 7 _) _) (by simp[AL,AR,a.o,c]) (by simp[AR,a.o,c])
  ·simp[AR,a.o,c]
  rintro e w1 ⟨rfl,f,d⟩;have D:w1.cell? ⟨w.heap.size,0,none⟩=some (int i64 1):=by
   have h:=f.cell (AY _ _ _ 0 _ rfl) (Ho _ (by simpa using hb));simpa using h
  have l:=Yh (((((((Ad.refl (only b) w).put 6 _).put 2 _).put 4 _).put 7 _).alloc _).trans f);have g:=Yh d;have z:=d.facts.2.1.1;have A:=d.facts.2.2;clear f d k p q r s t u v x;go_wp2;go_end0;exact⟨rfl,l.o.trans (((Ad.refl (only b) w1).put 0 _).put 0 _),g.o.from (((Ad.refl (only b) w1).put 0 _).put 0 _) (Ae (Ae g.o.blk 0 _) 0 _) (by simp[AL,AH,a.o,c]) (by simp[AH,a.o,c])⟩
 ·have C:¬(24:Int)<(L.heads:Int)+1:=Yo
  go_enter func177,ntmps177;go_wp2_with fail;refine(Ek _ B b (AR L) j _ _ _ ?_ ?_ y).mono ?_
  ·exact i.o.from (((((Ad.refl (only b) w).put 6 _).put 2 _).put 4 _).alloc _) (Ah (Ae (Ae (Ae i.o.blk 6 _) 2 _) 4 _) _) (by simp[AL,AR,a.o,c]) (by simp[AR,a.o,c])
  ·simp[AR,a.o,c]
  rintro e w1 ⟨rfl,f,d⟩;have D:w1.cell? ⟨w.heap.size,0,none⟩=some (int i64 1):=by
   have h:=f.cell (AY _ _ _ 0 _ rfl) (Ho _ (by simpa using hb));simpa using h
  have l:=Yh ((((((Ad.refl (only b) w).put 6 _).put 2 _).put 4 _).alloc _).trans f);have g:=Yh d;have z:=d.facts.2.1.1;have A:=d.facts.2.2;clear f d k p q r s t u v x;go_wp2;go_end0;exact⟨rfl,l.o.trans (((Ad.refl (only b) w1).put 0 _).put 0 _),g.o.from (((Ad.refl (only b) w1).put 0 _).put 0 _) (Ae (Ae g.o.blk 0 _) 0 _) (by simp[AL,AH,a.o,c]) (by simp[AH,a.o,c])⟩
theorem Rg(w:World)(B b:Nat)(L:Bj)(j:Value)(E:Int)(n:ByteArray)(h:AZ w B b L j)(F:L.goals<=4096)(y:n.size<=4096)(m:L.want=1):
  Calls prog 177 #[Pt b,agg #[int i64 1,string n,int i64 E]] w fun e w'=>
   e=Rq #[]/\Ad (only b) w w'/\AZ w' B b (AH L 1 n.size) j:=by
 obtain⟨hb,⟨k,p,q,r,s,t,u,v⟩,x⟩:=h.facts;rw[m]at k;have a:=Yh m;have i:=Yh h;clear h m
 by_cases c:6<L.goals+1
 ·have C:(6:Int)<(L.goals:Int)+1:=Yo
  go_enter func177,ntmps177;go_wp2_with fail;refine(Ek _ B b (AR L) j _ _ _ ?_ ?_ y).mono ?_
  ·exact i.o.from (((((Ad.refl (only b) w).put 5 _).put 4 _).put 7 _).alloc _) (Ah (Ae (Ae (Ae i.o.blk 5 _) 4 _) 7 _) _) (by simp[AL,AR,a.o,c]) (by simp[AR,a.o,c])
  ·simp[AR,a.o,c]
  rintro e w1 ⟨rfl,f,d⟩;have D:w1.cell? ⟨w.heap.size,0,none⟩=some (int i64 1):=by
   have h:=f.cell (AY _ _ _ 0 _ rfl) (Ho _ (by simpa using hb));simpa using h
  have l:=Yh ((((((Ad.refl (only b) w).put 5 _).put 4 _).put 7 _).alloc _).trans f);have g:=Yh d;have z:=d.facts.2.1.1;have A:=d.facts.2.2;clear f d k p q r s t u v x;go_wp2;go_end0;exact⟨rfl,l.o.trans (((Ad.refl (only b) w1).put 0 _).put 0 _),g.o.from (((Ad.refl (only b) w1).put 0 _).put 0 _) (Ae (Ae g.o.blk 0 _) 0 _) (by simp[AL,AH,a.o,c]) (by simp[AH,a.o,c])⟩
 ·have C:¬(6:Int)<(L.goals:Int)+1:=Yo
  go_enter func177,ntmps177;go_wp2_with fail;refine(Ek _ B b (AR L) j _ _ _ ?_ ?_ y).mono ?_
  ·exact i.o.from ((((Ad.refl (only b) w).put 5 _).put 4 _).alloc _) (Ah (Ae (Ae i.o.blk 5 _) 4 _) _) (by simp[AL,AR,a.o,c]) (by simp[AR,a.o,c])
  ·simp[AR,a.o,c]
  rintro e w1 ⟨rfl,f,d⟩;have D:w1.cell? ⟨w.heap.size,0,none⟩=some (int i64 1):=by
   have h:=f.cell (AY _ _ _ 0 _ rfl) (Ho _ (by simpa using hb));simpa using h
  have l:=Yh (((((Ad.refl (only b) w).put 5 _).put 4 _).alloc _).trans f);have g:=Yh d;have z:=d.facts.2.1.1;have A:=d.facts.2.2;clear f d k p q r s t u v x;go_wp2;go_end0;exact⟨rfl,l.o.trans (((Ad.refl (only b) w1).put 0 _).put 0 _),g.o.from (((Ad.refl (only b) w1).put 0 _).put 0 _) (Ae (Ae g.o.blk 0 _) 0 _) (by simp[AL,AH,a.o,c]) (by simp[AH,a.o,c])⟩
theorem Tm(w:World)(B b:Nat)(L:Bj)(f:Value)(kd:Nat)(j:Int)(g:ByteArray)(h:AZ w B b L f)(d:kd≠1/\(kd≠2\/L.want≠2)):
  Calls prog 177 #[Pt b,agg #[int i64 kd,string g,int i64 j]] w fun e w'=>
   e=Rq #[]/\Ad (only b) w w'/\AZ w' B b (AH L kd g.size) f:=by
 obtain⟨hb,⟨k,l,m,n,p,q,r,s⟩,x⟩:=h.facts;have a:=Yh d;have c:=Yh h;have t:((kd:Int)==1)=false:=by rw[Qu];omega
 have u:((kd:Int) !=1)=true:=by rw[QR];omega
 cases i:((kd:Int) !=2)
 ·have v:((L.want:Int) !=2)=true:=by
   rw[QR];have:(kd:Int)=2:=by simpa using i
   omega
  clear h d;go_enter func177,ntmps177;go_wp2;refine Jb (results_none rfl _ _ _) rfl ?_;exact⟨rfl,((Ad.refl (only b) w).put 7 _).alloc _,c.o.from (((Ad.refl (only b) w).put 7 _).alloc _) (Ah (Ae c.o.blk 7 _) _) (by unfold AH;rw[QQ a.o];simp[AL]) (by unfold AH;rw[QQ a.o])⟩
 ·clear h d;go_enter func177,ntmps177;go_wp2;refine Jb (results_none rfl _ _ _) rfl ?_;exact⟨rfl,((Ad.refl (only b) w).put 7 _).alloc _,c.o.from (((Ad.refl (only b) w).put 7 _).alloc _) (Ah (Ae c.o.blk 7 _) _) (by unfold AH;rw[QQ a.o];simp[AL]) (by unfold AH;rw[QQ a.o])⟩
def C1(b:Nat)(ov:Value):Nat->Prop:=fun k=>k=b\/ov.ownBlock=some k
theorem Mi{g n:Nat}(h:w.ownsRow B e 1 (slice (some ⟨g,0,none⟩) n cap) n xs)(i:Nat)(u:Value):
  (w.setCell ⟨g,i,none⟩ u).ownsRow B e 1 (slice (some ⟨g,0,none⟩) n cap) n (xs.set i u):=by
 refine⟨by simpa using h.1,?_⟩;rcases h.2 with⟨a,_⟩|⟨l,k,b,a,hb,d,hn,c,f,j⟩
 ·simp at a
 ·simp at a;obtain⟨rfl,rfl⟩:=a;refine .inr ⟨g,cap,b.setIfInBounds i u,rfl,hb,Ae d i u,hn,c,by simpa using f,?_⟩;rw[<-j];simp[List.take_set]
theorem An{n:Nat}(h:w.ownsRow B e size v n xs)(hn:0<n):
  ∃g a b,v=slice (some ⟨g,0,none⟩) n a/\B<=g/\w.heap[g]?=some (.cells b e (0,0))/\n<=a:=by
 rcases h.2 with⟨_,c⟩|⟨g,a,b,c,hb,d,hn,_⟩
 ·omega
 ·exact⟨g,a,b,c,hb,d,hn⟩
theorem Af{n g:Nat}(h:w.ownsRow B e size (slice (some ⟨g,0,none⟩) n cap) n xs)(j:Nat)(u:Value)(b:xs[j]?=some u):
  w.cell? ⟨g,j,none⟩=some u:=by
 have:=h.cells (g:=g) rfl j u b;have a:(⟨g,0,none⟩:Addr).add j=⟨g,j,none⟩:=by unfold Addr.add;split<;>simp_all
 rwa [a]at this
theorem AZ.bump{g n:Nat}{r:List Nat}(h:AZ w B b L (slice (some ⟨g,0,none⟩) (r.length+1) cap))(f:L.stk=n::r):
  AZ (w.setCell ⟨g,r.length,none⟩ (int i64 ((n:Int)+1))) B b {L with stk:=(n+1)::r} (slice (some ⟨g,0,none⟩) (r.length+1) cap):=by
 have d:¬g=b:=h.apart g rfl;refine⟨?_,?_⟩
 ·rw[Below.heap_setCell _ _ _ _ (fun e=>d e.symm)];exact h.blk
 ·have c:=h.opn;rw[f]at c;have a:=Mi c r.length (int i64 ((n:Int)+1));simp only[Qf];have e:(AM (n::r).reverse).set r.length (int i64 ((n:Int)+1))=AM ((n+1)::r).reverse:=by
   simp[AM]
  rw[e]at a;exact a
theorem D9(w:World)(cs:Av)(T:TypeId)(i:Nat)(v:Value)(h:cs[i]?=some v):(w.alloc (.cells cs T)).drew.cell? ⟨w.heap.size,i,none⟩=some v:=
 Aa (QL w _) i v h
theorem Oq(w:World)(B b:Nat)(L:Bj)(n:Nat)(r:List Nat)(z:Value)(S:Int)(A:ByteArray)(h:AZ w B b L z)(q:L.stk=n::r)(V:L.size<=4000)(hn:n<=4096)(Y:r.length<=4096)(M:A.size<=4096)(y:L.want=2):
  Calls prog 177 #[Pt b,agg #[int i64 1,string A,int i64 S]] w fun e w'=>
   e=Rq #[]/\Ad (C1 b z) w w'/\AZ w' B b (AH L 1 A.size) z:=by
 obtain⟨hb,⟨s,D,E,t,F,G,H,I⟩,K⟩:=h.facts;have l:=h.opn;rw[q]at l;obtain⟨g,u,T,rfl,U,v,R⟩:=An l Ys;have X:=Ac v;have W:¬g=b:=h.apart g rfl;have cg:w.cell? ⟨g,r.length,none⟩=some (int i64 n):=Af l r.length _ (by simp[AM]);have J:=Ag v r.length;rw[y]at s;simp only[Qf]at l R t h;have c:=Yh y;have a:=Yh q;have m:=Yh (h.bump q);have C:YH (Ad (C1 b (slice (some ⟨g,0,none⟩) (r.length+1) u)) w (w.setCell ⟨g,r.length,none⟩ (int i64 ((n:Int)+1)))):=(Ad.refl _ w).setCell (p:=⟨g,r.length,none⟩) (fun _=>QO rfl) _;clear h y q l v
 by_cases d:4<n+1
 ·have P:(4:Int)<(n:Int)+1:=Yo
  go_enter func177,ntmps177;go_wp2_with fail;go_region;go_wp2_with fail;refine(Ek _ B b (AR L) (slice (some ⟨g,0,none⟩) (r.length+1) u) _ _ _ ?_ ?_ M).mono ?_
  ·exact m.o.from ((((Ad.refl (only b) _).put 7 _).alloc _).drew) (Ah (Ae m.o.blk 7 _) _) (by simp[AL,AR,c.o,a.o,d]) (by simp[AR,c.o,a.o,d])
  ·simp[AR,c.o,a.o,d];omega
  rintro e w1 ⟨rfl,j,f⟩;have Q:w1.cell? ⟨w.heap.size,0,none⟩=some (int i64 1):=by
   have h:=j.cell (D9 _ _ _ 0 _ rfl) (Ho _ (by simpa using hb));simpa using h
  have x:=Yh (C.o.then (((((Ad.refl (only b) _).put 7 _).alloc _).drew).trans j) (fun i _ h=>QG h));have k:=Yh f;have N:=f.facts.2.1.1;have O:=f.facts.2.2;clear j f s D E t F G H I K cg J;go_wp2;go_end0;exact⟨rfl,x.o.then (((Ad.refl (only b) w1).put 0 _).put 0 _) (fun i _ h=>QG h),k.o.from (((Ad.refl (only b) w1).put 0 _).put 0 _) (Ae (Ae k.o.blk 0 _) 0 _) (by simp[AL,AH,c.o,a.o,d]) (by simp[AH,c.o,a.o,d])⟩
 ·have P:¬(4:Int)<(n:Int)+1:=Yo
  go_enter func177,ntmps177;go_wp2_with fail;go_region;go_wp2_with fail;refine(Ek _ B b (AR L) (slice (some ⟨g,0,none⟩) (r.length+1) u) _ _ _ ?_ ?_ M).mono ?_
  ·exact m.o.from (((Ad.refl (only b) _).alloc _).drew) (Ah m.o.blk _) (by simp[AL,AR,c.o,a.o,d]) (by simp[AR,c.o,a.o,d])
  ·simp[AR,c.o,a.o,d];omega
  rintro e w1 ⟨rfl,j,f⟩;have Q:w1.cell? ⟨w.heap.size,0,none⟩=some (int i64 1):=by
   have h:=j.cell (D9 _ _ _ 0 _ rfl) (Ho _ (by simpa using hb));simpa using h
  have x:=Yh (C.o.then ((((Ad.refl (only b) _).alloc _).drew).trans j) (fun i _ h=>QG h));have k:=Yh f;have N:=f.facts.2.1.1;have O:=f.facts.2.2;clear j f s D E t F G H I K cg J;go_wp2;go_end0;exact⟨rfl,x.o.then (((Ad.refl (only b) w1).put 0 _).put 0 _) (fun i _ h=>QG h),k.o.from (((Ad.refl (only b) w1).put 0 _).put 0 _) (Ae (Ae k.o.blk 0 _) 0 _) (by simp[AL,AH,c.o,a.o,d]) (by simp[AH,c.o,a.o,d])⟩
theorem N1(w:World)(B b:Nat)(L:Bj)(n:Nat)(r:List Nat)(z:Value)(S:Int)(A:ByteArray)(h:AZ w B b L z)(q:L.stk=n::r)(V:L.size<=4000)(hn:n<=4096)(Y:r.length<=4096)(M:A.size<=4096)(y:L.want=2):
  Calls prog 177 #[Pt b,agg #[int i64 2,string A,int i64 S]] w fun e w'=>
   e=Rq #[]/\Ad (C1 b z) w w'/\AZ w' B b (AH L 2 A.size) z:=by
 obtain⟨hb,⟨s,D,E,t,F,G,H,I⟩,K⟩:=h.facts;have l:=h.opn;rw[q]at l;obtain⟨g,u,T,rfl,U,v,R⟩:=An l Ys;have X:=Ac v;have W:¬g=b:=h.apart g rfl;have cg:w.cell? ⟨g,r.length,none⟩=some (int i64 n):=Af l r.length _ (by simp[AM]);have J:=Ag v r.length;rw[y]at s;simp only[Qf]at l R t h;have c:=Yh y;have a:=Yh q;have m:=Yh (h.bump q);have C:YH (Ad (C1 b (slice (some ⟨g,0,none⟩) (r.length+1) u)) w (w.setCell ⟨g,r.length,none⟩ (int i64 ((n:Int)+1)))):=(Ad.refl _ w).setCell (p:=⟨g,r.length,none⟩) (fun _=>QO rfl) _;clear h y q l v
 by_cases d:4<n+1
 ·have P:(4:Int)<(n:Int)+1:=Yo
  go_enter func177,ntmps177;go_wp2_with fail;go_region;go_wp2_with fail;refine(Ek _ B b (AR L) (slice (some ⟨g,0,none⟩) (r.length+1) u) _ _ _ ?_ ?_ M).mono ?_
  ·exact m.o.from ((((Ad.refl (only b) _).put 7 _).alloc _).drew) (Ah (Ae m.o.blk 7 _) _) (by simp[AL,AR,c.o,a.o,d]) (by simp[AR,c.o,a.o,d])
  ·simp[AR,c.o,a.o,d];omega
  rintro e w1 ⟨rfl,j,f⟩;have Q:w1.cell? ⟨w.heap.size,0,none⟩=some (int i64 2):=by
   have h:=j.cell (D9 _ _ _ 0 _ rfl) (Ho _ (by simpa using hb));simpa using h
  have x:=Yh (C.o.then (((((Ad.refl (only b) _).put 7 _).alloc _).drew).trans j) (fun i _ h=>QG h));have k:=Yh f;have N:=f.facts.2.1.1;have O:=f.facts.2.2;clear j f s D E t F G H I K cg J;go_wp2;go_end0;exact⟨rfl,x.o.then ((Ad.refl (only b) w1).put 0 _) (fun i _ h=>QG h),k.o.from ((Ad.refl (only b) w1).put 0 _) (Ae k.o.blk 0 _) (by simp[AL,AH,c.o,a.o,d]) (by simp[AH,c.o,a.o,d])⟩
 ·have P:¬(4:Int)<(n:Int)+1:=Yo
  go_enter func177,ntmps177;go_wp2_with fail;go_region;go_wp2_with fail;refine(Ek _ B b (AR L) (slice (some ⟨g,0,none⟩) (r.length+1) u) _ _ _ ?_ ?_ M).mono ?_
  ·exact m.o.from (((Ad.refl (only b) _).alloc _).drew) (Ah m.o.blk _) (by simp[AL,AR,c.o,a.o,d]) (by simp[AR,c.o,a.o,d])
  ·simp[AR,c.o,a.o,d];omega
  rintro e w1 ⟨rfl,j,f⟩;have Q:w1.cell? ⟨w.heap.size,0,none⟩=some (int i64 2):=by
   have h:=j.cell (D9 _ _ _ 0 _ rfl) (Ho _ (by simpa using hb));simpa using h
  have x:=Yh (C.o.then ((((Ad.refl (only b) _).alloc _).drew).trans j) (fun i _ h=>QG h));have k:=Yh f;have N:=f.facts.2.1.1;have O:=f.facts.2.2;clear j f s D E t F G H I K cg J;go_wp2;go_end0;exact⟨rfl,x.o.then ((Ad.refl (only b) w1).put 0 _) (fun i _ h=>QG h),k.o.from ((Ad.refl (only b) w1).put 0 _) (Ae k.o.blk 0 _) (by simp[AL,AH,c.o,a.o,d]) (by simp[AH,c.o,a.o,d])⟩
theorem infoInt:(prog.info? 3).map (fun i=>(i.zero,i.size,i.bytes))=some (some (int i64 0),1,8):=by kernel_rfl
def Am(L:Bj)(kd:Nat):Bj:=
 if kd=40/\L.want=3 then{L with stk:=0::L.stk,want:=2}
 else if kd=44/\L.stk≠[]then{L with want:=2}
 else if kd=41/\L.stk≠[]then{L with stk:=L.stk.tail,want:=4}
 else if L.stk≠[]then{L with err:=2}
 else if kd=44/\L.body=true then{L with want:=1}
 else if kd=3/\L.body=false then{L with body:=true,goals:=0,want:=1}
 else if kd=46/\L.query=true then{L with want:=5}
 else if kd=46 then{L with want:=0}
 else{L with err:=2}
theorem Ab{n:Nat}(h:w.ownsRow B e size v n xs):∃a b,v=slice a n b:=by
 rcases h.2 with⟨rfl,rfl⟩|⟨g,b,c,rfl,_⟩
 ·exact⟨none,0,rfl⟩
 ·exact⟨_,_,rfl⟩
theorem DT(x:Int):∀u∈(#[Value.int .i64 x]:Av).toList,u.oneCell'=true:=by
 intro u a;simp at a;subst a;rfl
theorem I6{g n:Nat}(h:w.ownsRow B e 1 (slice (some ⟨g,0,none⟩) (n+1) cap) (n+1) xs):
  w.ownsRow B e 1 (slice (some ⟨g,0,none⟩) n cap) n (xs.take n):=by
 refine⟨by have:=h.1;simp at this⊢;omega,?_⟩;rcases h.2 with⟨a,_⟩|⟨k,j,b,a,hb,d,hn,c,f,i⟩
 ·simp at a
 ·simp at a;obtain⟨rfl,rfl⟩:=a;refine .inr ⟨g,cap,b,rfl,hb,d,Yo,c,f,?_⟩;rw[<-i,List.take_take]
  congr 1
  omega
theorem AZ.below{a:World}{d:Bj}{c:Value}{cs:Av}(h:AZ w B b L c)(l:B<=b)(f:Ad (only b) w a)(g:a.heap[b]?=some (.cells cs 278 (0,0)))
  (i:cs=AL d c) (j:d.stk=L.stk):∃k,Ad (C1 b c) w a/\AZ a B b d k:=
 ⟨c,f.mono (fun _ _ e=>QG e),h.from f g i j⟩
theorem MA(w:World)(B b:Nat)(L:Bj)(m:Value)(p:Int)(r:ByteArray)(h:AZ w B b L m)(i:B<=b)(l:L.stk.length<=4096):
  Calls prog 178 #[Pt b,agg #[int i64 44,string r,int i64 p]] w fun e w'=>
   e=Rq #[]/\∃n,Ad (C1 b m) w w'/\AZ w' B b (Am L 44) n:=by
 obtain⟨hb,⟨s,t,j,k,u,v,x,y⟩,z⟩:=h.facts;have a:=Yh h;obtain⟨C,D,rfl⟩:=Ab h.opn;clear h
 cases d:L.stk with
 |nil=>
  simp only[d,Qt]at k a;have c:=Yh d;clear d
  cases f:L.body
  ·rw[f]at j;have g:=Yh f;clear f;go_enter func178,ntmps178;go_wp2;go_end0;exact⟨rfl,a.o.below i (((Ad.refl (only b) w).put 7 _).alloc _) (Ah (Ae a.o.blk 7 _) _) (by simp[AL,Am,c.o,g.o]) (by simp[Am,c.o,g.o])⟩
  ·rw[f]at j;have g:=Yh f;clear f;go_enter func178,ntmps178;go_wp2;go_end0;exact⟨rfl,a.o.below i (((Ad.refl (only b) w).put 0 _).alloc _) (Ah (Ae a.o.blk 0 _) _) (by simp[AL,Am,c.o,g.o]) (by simp[Am,c.o,g.o])⟩
 |cons E q=>
  have A:q.length+1<=4096:=by rw[d]at l;simpa using l
  simp only[d,Qf]at k a;have c:=Yh d;clear d;go_enter func178,ntmps178;go_wp2;go_end0;exact⟨rfl,a.o.below i (((Ad.refl (only b) w).put 0 _).alloc _) (Ah (Ae a.o.blk 0 _) _) (by simp[AL,Am,c.o]) (by simp[Am,c.o])⟩
theorem Mv(w:World)(B b:Nat)(L:Bj)(m:Value)(p:Int)(r:ByteArray)(h:AZ w B b L m)(i:B<=b)(l:L.stk.length<=4096):
  Calls prog 178 #[Pt b,agg #[int i64 3,string r,int i64 p]] w fun e w'=>
   e=Rq #[]/\∃n,Ad (C1 b m) w w'/\AZ w' B b (Am L 3) n:=by
 obtain⟨hb,⟨s,t,j,k,u,v,x,y⟩,z⟩:=h.facts;have a:=Yh h;obtain⟨C,D,rfl⟩:=Ab h.opn;clear h
 cases d:L.stk with
 |nil=>
  simp only[d,Qt]at k a;have c:=Yh d;clear d
  cases f:L.body
  ·rw[f]at j;have g:=Yh f;clear f;go_enter func178,ntmps178;go_wp2;go_end0;exact⟨rfl,a.o.below i (((((Ad.refl (only b) w).put 2 _).put 5 _).put 0 _).alloc _) (Ah (Ae (Ae (Ae a.o.blk 2 _) 5 _) 0 _) _) (by simp[AL,Am,c.o,g.o]) (by simp[Am,c.o,g.o])⟩
  ·rw[f]at j;have g:=Yh f;clear f;go_enter func178,ntmps178;go_wp2;go_end0;exact⟨rfl,a.o.below i (((Ad.refl (only b) w).put 7 _).alloc _) (Ah (Ae a.o.blk 7 _) _) (by simp[AL,Am,c.o,g.o]) (by simp[Am,c.o,g.o])⟩
 |cons E q=>
  have A:q.length+1<=4096:=by rw[d]at l;simpa using l
  simp only[d,Qf]at k a;have c:=Yh d;clear d;go_enter func178,ntmps178;go_wp2;go_end0;exact⟨rfl,a.o.below i (((Ad.refl (only b) w).put 7 _).alloc _) (Ah (Ae a.o.blk 7 _) _) (by simp[AL,Am,c.o]) (by simp[Am,c.o])⟩
theorem Pj(w:World)(B b:Nat)(L:Bj)(m:Value)(p:Int)(r:ByteArray)(h:AZ w B b L m)(i:B<=b)(l:L.stk.length<=4096):
  Calls prog 178 #[Pt b,agg #[int i64 46,string r,int i64 p]] w fun e w'=>
   e=Rq #[]/\∃n,Ad (C1 b m) w w'/\AZ w' B b (Am L 46) n:=by
 obtain⟨hb,⟨s,j,t,k,u,v,x,y⟩,z⟩:=h.facts;have a:=Yh h;obtain⟨C,D,rfl⟩:=Ab h.opn;clear h
 cases d:L.stk with
 |nil=>
  simp only[d,Qt]at k a;have c:=Yh d;clear d
  cases f:L.query
  ·rw[f]at j;have g:=Yh f;clear f;go_enter func178,ntmps178;go_wp2;go_end0;exact⟨rfl,a.o.below i (((Ad.refl (only b) w).put 0 _).alloc _) (Ah (Ae a.o.blk 0 _) _) (by simp[AL,Am,c.o,g.o]) (by simp[Am,c.o,g.o])⟩
  ·rw[f]at j;have g:=Yh f;clear f;go_enter func178,ntmps178;go_wp2;go_end0;exact⟨rfl,a.o.below i (((Ad.refl (only b) w).put 0 _).alloc _) (Ah (Ae a.o.blk 0 _) _) (by simp[AL,Am,c.o,g.o]) (by simp[Am,c.o,g.o])⟩
 |cons E q=>
  have A:q.length+1<=4096:=by rw[d]at l;simpa using l
  simp only[d,Qf]at k a;have c:=Yh d;clear d;go_enter func178,ntmps178;go_wp2;go_end0;exact⟨rfl,a.o.below i (((Ad.refl (only b) w).put 7 _).alloc _) (Ah (Ae a.o.blk 7 _) _) (by simp[AL,Am,c.o]) (by simp[Am,c.o])⟩
theorem KP(w:World)(B b:Nat)(L:Bj)(l:Value)(n:Int)(q:ByteArray)(h:AZ w B b L l)(i:B<=b)(j:L.stk.length<=4096)(k:L.want≠3):
  Calls prog 178 #[Pt b,agg #[int i64 40,string q,int i64 n]] w fun e w'=>
   e=Rq #[]/\∃m,Ad (C1 b l) w w'/\AZ w' B b (Am L 40) m:=by
 obtain⟨hb,⟨r,s,t,g,u,v,x,y⟩,z⟩:=h.facts;have c:=Yh h;obtain⟨D,E,rfl⟩:=Ab h.opn;clear h;have C:((L.want:Int)==3)=false:=by rw[Qu];omega
 have f:=Yh k;clear k
 cases a:L.stk with
 |nil=>
  simp only[a,Qt]at g c;have d:=Yh a;clear a;go_enter func178,ntmps178;go_wp2;go_end0;exact⟨rfl,c.o.below i (((Ad.refl (only b) w).put 7 _).alloc _) (Ah (Ae c.o.blk 7 _) _) (by simp[AL,Am,d.o,f.o]) (by simp[Am,d.o,f.o])⟩
 |cons F p=>
  have A:p.length+1<=4096:=by rw[a]at j;simpa using j
  simp only[a,Qf]at g c;have d:=Yh a;clear a;go_enter func178,ntmps178;go_wp2;go_end0;exact⟨rfl,c.o.below i (((Ad.refl (only b) w).put 7 _).alloc _) (Ah (Ae c.o.blk 7 _) _) (by simp[AL,Am,d.o,f.o]) (by simp[Am,d.o,f.o])⟩
theorem MK(w:World)(B b:Nat)(L:Bj)(p:Value)(A:Int)(D:ByteArray)(h:AZ w B b L p)(v:B<=b)(i:L.stk.length<=4096):
  Calls prog 178 #[Pt b,agg #[int i64 41,string D,int i64 A]] w fun e w'=>
   e=Rq #[]/\∃z,Ad (C1 b p) w w'/\AZ w' B b (Am L 41) z:=by
 obtain⟨hb,⟨E,F,G,g,H,I,J,K⟩,N⟩:=h.facts;have c:=Yh h;obtain⟨P,q,rfl⟩:=Ab h.opn;clear h
 cases f:L.stk with
 |nil=>
  simp only[f,Qt]at g c;have d:=Yh f;clear f;go_enter func178,ntmps178;go_wp2;go_end0;exact⟨rfl,c.o.below v (((Ad.refl (only b) w).put 7 _).alloc _) (Ah (Ae c.o.blk 7 _) _) (by simp[AL,Am,d.o]) (by simp[Am,d.o])⟩
 |cons C a=>
  have O:a.length+1<=4096:=by rw[f]at i;simpa using i
  simp only[f,Qf]at g c;have d:=Yh f;clear f;obtain⟨r,Q,R,l,M,x,j⟩:=An c.o.opn (by rw[d.o];simp);simp only[QH]at l;obtain⟨rfl,_,rfl⟩:=l;rw[d.o]at j;simp only[Qf]at j;clear x;go_enter func178,ntmps178;go_wp2;go_end0;have m:=c.o.opn;refine⟨rfl,slice (some ⟨r,0,none⟩) a.length q,?_,?_,?_⟩
  ·exact((((Ad.refl (only b) w).put 3 _).put 0 _).alloc _).mono (fun _ _ e=>QG e)
  ·rw[Ah (Ae (Ae c.o.blk 3 _) 0 _) _];simp[AL,Am,d.o]
  ·have s:w.ownsRow B 3 1 (slice (some ⟨r,0,none⟩) a.length q) a.length (AM a.reverse):=by
    rw[d.o]at m;have t:=I6 (n:=a.length) m;have e:(AM (C::a).reverse).take a.length=AM a.reverse:=by simp[AM]
    rwa [e]at t
   have u:(Am L 41).stk=a:=by simp[Am,d.o]
   rw[u];exact((((Ad.refl (only b) w).put 3 _).put 0 _).alloc _).owns s (fun k y=>c.o.apart k (by simpa[Value.ownBlock]using y))
theorem MC(w:World)(B b:Nat)(L:Bj)(l:Value)(kd:Nat)(n:Int)(q:ByteArray)(h:AZ w B b L l)(i:B<=b)(j:L.stk.length<=4096)(k:kd≠40/\kd≠41/\kd≠44/\kd≠46/\kd≠3):
  Calls prog 178 #[Pt b,agg #[int i64 kd,string q,int i64 n]] w fun e w'=>
   e=Rq #[]/\∃m,Ad (C1 b l) w w'/\AZ w' B b (Am L kd) m:=by
 obtain⟨hb,⟨r,s,t,g,u,v,x,y⟩,z⟩:=h.facts;have c:=Yh h;obtain⟨H,I,rfl⟩:=Ab h.opn;clear h;have C:((kd:Int)==40)=false:=by rw[Qu];omega
 have D:((kd:Int)==41)=false:=by rw[Qu];omega
 have E:((kd:Int)==44)=false:=by rw[Qu];omega
 have F:((kd:Int)==46)=false:=by rw[Qu];omega
 have G:((kd:Int)==3)=false:=by rw[Qu];omega
 have f:=Yh k;clear k
 cases a:L.stk with
 |nil=>
  simp only[a,Qt]at g c;have d:=Yh a;clear a;go_enter func178,ntmps178;go_wp2;go_end0;exact⟨rfl,c.o.below i (((Ad.refl (only b) w).put 7 _).alloc _) (Ah (Ae c.o.blk 7 _) _) (by simp[AL,Am,d.o,f.o]) (by simp[Am,d.o,f.o])⟩
 |cons J p=>
  have A:p.length+1<=4096:=by rw[a]at j;simpa using j
  simp only[a,Qf]at g c;have d:=Yh a;clear a;go_enter func178,ntmps178;go_wp2;go_end0;exact⟨rfl,c.o.below i (((Ad.refl (only b) w).put 7 _).alloc _) (Ah (Ae c.o.blk 7 _) _) (by simp[AL,Am,d.o,f.o]) (by simp[Am,d.o,f.o])⟩
theorem infoStr:(prog.info? 9).map (fun i=>(i.zero,i.size,i.bytes))=some (some (string ⟨#[]⟩),1,16):=by kernel_rfl
def Ba(l:List (Lu)):Lv:=l.map fun s=>Value.string ⟨s.toArray⟩
def A8(names:List (Lu))(s:Lu):List (Lu)×Nat:=
 if s∈names then(names,names.idxOf s)else(names++[s],names.length)
theorem OJ(s:ByteArray):∀u∈(#[Value.string s]:Av).toList,u.oneCell'=true:=by
 intro u a;simp at a;subst a;rfl
theorem IE{names:List (Lu)}{s:Lu}(d:k<names.length)(h:names[k]=s)(hn:s∉names.take k):A8 names s=(names,k):=by
 have a:s∈names:=by rw[<-h];exact List.getElem_mem _
 unfold A8;rw[QQ a]
 congr 1
 have c:names.idxOf s<=k:=by
  rcases QB k (names.idxOf s)with hl|hl
  ·have:=List.not_of_lt_findIdx (p:=(· ==s)) (xs:=names) hl;simp[h]at this
  ·exact hl
 rcases QB (names.idxOf s) k with hl|hl
 ·exfalso;apply hn;have b:names.idxOf s<names.length:=JX a;have:names[names.idxOf s]=s:=List.getElem_idxOf b;rw[<-this];rw[List.mem_take_iff_getElem];exact⟨names.idxOf s,Yo,rfl⟩
 ·omega
theorem WE{names:List (Lu)}{s:Lu}(a:k<names.length)(h:¬names[k]=s)(hn:s∉names.take k):s∉names.take (k+1):=by
 rw[List.take_succ_eq_append_getElem a];simp only[Qk,JP,not_or];exact⟨hn,fun e=>h e.symm⟩
theorem Ii{names:List (Lu)}{s:Lu}(a:¬k<names.length)(hn:s∉names.take k):A8 names s=(names++[s],names.length):=by
 rw[JS Yo]at hn;unfold A8;rw[QP hn]
theorem Sr(w:World)(B:Nat)(names:List (Lu))(s:Lu)(v:Value)(h:w.ownsRow B 9 1 v names.length (Ba names))(u:B<=w.heap.size)(hn:names.length<=4096)(H:s.length<=4096):
  Calls prog 179 #[v,string ⟨s.toArray⟩] w fun e w'=>∃d,e=Rq #[d,int i64 (A8 names s).2]/\Ar w B 9 1 v (A8 names s).1.length (Ba (A8 names s).1) d w':=by
 obtain⟨a,z,rfl⟩:=Ab h;have b:=Yh h;clear h;go_enter func179,ntmps179;go_wp2
 go_loop [6] (fun i=>∃k:Nat,k<=names.length/\i=int i64 k/\s∉names.take k) (fun i=>names.length-(intOf i).toNat)
 case atStart=>exact⟨0,Qm _,rfl,Ys⟩
 case round=>
  obtain⟨k,G,rfl,q⟩:=hrel;have f:=Yh q;clear q
  by_cases c:k<names.length
  ·obtain⟨g,A,C,p,D,x,F⟩:=An b.o Yo;simp only[QH]at p;obtain⟨rfl,_,rfl⟩:=p;obtain⟨nm,j⟩:=Ex (names[k]);have E:w.cell? ⟨g,k,none⟩=some (string ⟨nm.toArray⟩):=Af b.o k _ (by simp[Ba,c,j]);have m:=Yh j;clear x j;go_wp2
   ·have l:nm=s:=eq_of_beq (by assumption);go_ret2;have y:=IE c (m.o.symm.trans l) f.o;rw[y];exact⟨_,rfl,b.o,Ad.refl _ _,QG rfl⟩
   ·have l:nm≠s:=ne_of_beq_false (by assumption)
    go_round
    case rel=>exact⟨k+1,Yo,Yg,WE c (fun h=>l (m.o.trans h)) f.o⟩
    case measure=>simp[intOf];omega
  ·have t:=Yh (Ii c f.o)
   go_wp2_with (at_builtin;refine Al _ rfl (.tmp 24) (.tmp 26) 47 rfl B 9 infoStr underlying47 rfl Yd _ names.length (Ba names) rfl b.o _ rfl rfl rfl (OJ _) ?_ u ?_)
   ·omega
   intro d w1 n;have r:=Yh n;clear n;go_wp2;go_ret2;rw[t.o];refine⟨d,rfl,?_⟩;have:=r.o;simpa[Ba]using this
def Cy(p:List BV->At->Option (Ly×List BV×At)):Nat->List BV->At->Ll->Option (Ll×List BV×At)
 |0,_,_,_=>none
 |_+1,[],_,_=>none
 |g+1,t::ts,names,acc=>
  if t.kind=41 then some (acc,ts,names)
  else match p ts names with
   |none=>none
   |some r=>Cy p g r.2.1 r.2.2 (acc++[r.1])
def FF(p:List BV->At->Option (Ly×List BV×At))(t:BV):List BV->At->Option (Ly×List BV×At)
 |[],_=>none
 |u::us,names=>
  if u.kind≠40 then some ([⟨t.text,0,0⟩],u::us,names)
  else(Cy p (us.length+1) (u::us) names []).map fun r=>(⟨t.text,0,r.1.length⟩::r.1.flatten,r.2.1,r.2.2)
def Bo:Nat->List BV->At->Option (Ly×List BV×At)
 |0,_,_=>none
 |_+1,[],_=>none
 |f+1,t::ts,names=>
  if t.kind=2 then some ([⟨[],(A8 names t.text).2,0⟩],ts,(A8 names t.text).1)
  else FF (Bo f) t ts names
def So(ts rest:List BV)(names names':At):Prop:=∃n,0<n/\n<=ts.length/\rest=ts.drop n/\names'.length<=names.length+n
theorem I9(names:At)(s:Lu):(A8 names s).1.length<=names.length+1:=by
 unfold A8;split<;>simp
theorem NT{p:List BV->At->Option (Ly×List BV×At)}(e:∀ts names r,p ts names=some r->So ts r.2.1 names r.2.2):
  ∀(g:Nat)(ts:List BV)(names:At)(a:Ll) r,Cy p g ts names a=some r->So ts r.2.1 names r.2.2:=by
 intro g
 induction g with
 |zero=>intro ts names a r h;simp[Cy]at h
 |succ g i=>
  intro ts names a r h
  cases ts with
  |nil=>simp[Cy]at h
  |cons t ts=>
   rw[Cy]at h;split at h
   ·simp at h;subst h;exact⟨1,Yo,Ys,Ys,Ys⟩
   ·split at h
    ·simp at h
    ·rename_i q f;obtain⟨n,j,k,b,l⟩:=e _ _ _ f;obtain⟨m,o,d,c,s⟩:=i _ _ _ _ h;rw[b,JV]at c;rw[b,JI]at d;exact⟨n+m+1,Yo,by simp;omega,by rw[c];simp,Yo⟩
theorem Di:∀(f:Nat)(ts:List BV)(names:At) r,Bo f ts names=some r->So ts r.2.1 names r.2.2:=by
 intro f
 induction f with
 |zero=>intro ts names r h;simp[Bo]at h
 |succ f e=>
  intro ts names r h
  cases ts with
  |nil=>simp[Bo]at h
  |cons t ts=>
   rw[Bo]at h;split at h
   ·simp at h;subst h;exact⟨1,Yo,Ys,Ys,I9 _ _⟩
   ·cases ts with
    |nil=>simp[FF]at h
    |cons u i=>
     rw[FF]at h;split at h
     ·simp at h;subst h;exact⟨1,Yo,Ys,Ys,Ys⟩
     ·rw[JH]at h;obtain⟨q,d,rfl⟩:=h;obtain⟨n,g,a,b,c⟩:=NT e _ _ _ _ _ d;exact⟨n+1,Yo,by simp at a⊢;omega,by rw[b];simp,by simp at c⊢;omega⟩
def DP:Nat->World->Nat->Nat->Value->Value->Value->Ly->Prop
 |0,_,_,_,_,_,_,_=>False
 |f+1,w,lo,hi,a,b,c,l=>
  (∃n:Nat,a= .string ⟨#[]⟩/\b= .int .i64 n/\c= .slice none 0 0/\l=[⟨[],n,0⟩])\/
  (∃(nm:Lu)(ls:Ll)(xs:Lv),nm≠[]/\a= .string ⟨nm.toArray⟩/\b= .int .i64 0/\l=⟨nm,0,ls.length⟩::ls.flatten/\
   w.ownsRow lo 183 3 c ls.length xs/\(∀k,c.ownBlock=some k->k<hi)/\
   ∀(i:Nat)(l':Ly),ls[i]?=some l'->∃a' b' c',xs[i*3]?=some a'/\xs[i*3+1]?=some b'/\xs[i*3+2]?=some c'/\DP f w lo hi a' b' c' l')
def Cz(w:World)(k:Nat):Prop:=∃cur,w.heap[k]?=some (.cells cur 183 (0,0))
theorem Ay{n:Nat}(h:w.ownsRow B e size v n xs)(k:Nat)(b:v.ownBlock=some k):∃a,w.heap[k]?=some (.cells a e (0,0)):=by
 rcases h.2 with⟨rfl,_⟩|⟨g,d,a,rfl,_,c,_⟩
 ·simp[Value.ownBlock]at b
 ·simp only[Value.ownBlock,Qo]at b;subst b;exact⟨a,c⟩
theorem Ai{e':TypeId}{n:Nat}(h:w.ownsRow B e size v n xs)(c:e≠e'){k:Nat}{cs:Av}{fr:Nat×Nat}(a:w.heap[k]?=some (.cells cs e' fr)):¬Ak v k:=by
 intro d;obtain⟨f,b⟩:=Ay h k d;rw[b]at a;simp at a;exact c a.2.1
theorem Aj{n:Nat}(h:w.ownsRow B e size v n xs)(d:∀k,v.ownBlock=some k->w'.heap[k]?=w.heap[k]?):w'.ownsRow B e size v n xs:=by
 refine⟨h.1,?_⟩;rcases h.2 with hn|⟨g,a,b,rfl,hb,c,rest⟩
 ·exact .inl hn
 ·exact .inr ⟨g,a,b,rfl,hb,by rw[d g rfl];exact c,rest⟩
theorem DP.later:∀(f:Nat){w w':World}{lo hi:Nat}{a b c:Value}{l:Ly},DP f w lo hi a b c l->(∀k,lo<=k->k<hi->Cz w k->w'.heap[k]?=w.heap[k]?)->DP f w' lo hi a b c l:=by
 intro f
 induction f with
 |zero=>intro w w' lo hi a b c l h;exact h.elim
 |succ f z=>
  intro w w' lo hi a b c l h j;rcases h with h|⟨nm,ls,xs,t,u,v,x,d,g,y⟩
  ·exact QG h
  ·refine QO ⟨nm,ls,xs,t,u,v,x,Aj d (fun k e=>j k (d.lt k e).1 (g k e) (Ay d k e)),g,?_⟩;intro i A hl;obtain⟨m,n,o,p,q,r,s⟩:=y i A hl;exact⟨m,n,o,p,q,r,z s j⟩
theorem DP.wide:∀(f:Nat){w:World}{lo hi g d:Nat}{a b c:Value}{l:Ly},DP f w lo hi a b c l->g<=lo->hi<=d->DP f w g d a b c l:=by
 intro f
 induction f with
 |zero=>intro w lo hi g d a b c l h;exact h.elim
 |succ f C=>
  intro w lo hi g d a b c l h hl j;rcases h with h|⟨nm,ls,xs,t,u,v,x,y,z,A⟩
  ·exact QG h
  ·refine QO ⟨nm,ls,xs,t,u,v,x,AI y hl,fun k e=>JM (z k e) j,?_⟩;intro i D B;obtain⟨m,n,o,p,q,r,s⟩:=A i D B;exact⟨m,n,o,p,q,r,C s hl j⟩
theorem AA(a b:Lu):(⟨a.toArray⟩:ByteArray)++⟨b.toArray⟩=⟨(a++b).toArray⟩:=by
 apply ByteArray.ext;simp[ByteArray.data_append]
theorem DS{a b:ByteArray}(h:a=b):Ending.returned (string a)=returned (string b):=by rw[h]
theorem No(m:Nat)(h:m<10):(⟨#[48,49,50,51,52,53,54,55,56,57]⟩:ByteArray).extract m (m+1)=⟨[UInt8.ofNat (48+m)].toArray⟩:=by
 have:∀m,m<10->((⟨#[48,49,50,51,52,53,54,55,56,57]⟩:ByteArray).extract m (m+1)).data.toList=[UInt8.ofNat (48+m)]:=Yd
 apply ByteArray.ext;apply Array.ext';rw[this m h]
theorem RA(m:Nat)(h:m<26):DC.extract m (m+1)=⟨[UInt8.ofNat (65+m)].toArray⟩:=by
 have:∀m,m<26->(DC.extract m (m+1)).data.toList=[UInt8.ofNat (65+m)]:=by decide+kernel
 apply ByteArray.ext;apply Array.ext';rw[this m h]
theorem D8(n:Nat):(Lib.decDigits n).length<=n+1:=by
 induction n using Nat.strongRecOn with
 |ind n a=>
  rw[Lib.decDigits];split
  ·simp
  ·have:=a (n/10) Yo;simp only[Qg,Qf,Qt];omega
def KW(n:Nat):Prop:=∀w:World,Calls prog 117 #[.int .i64 n] w fun e w'=>e= .returned (.string ⟨(Lib.decDigits n).toArray⟩)/\w'=w
theorem RY(n:Nat)(hn:n<10):KW n:=by
 intro w;have a:=(show Hid _ from No (n%10) Yo);go_enter func117,ntmps117;go_wp2;go_ret;refine⟨DS (a.out.trans ?_),rfl⟩;rw[Lib.decDigits,dif_pos hn,Nat.mod_eq_of_lt hn]
theorem Sx(n:Nat)(hn:¬n<10)(hb:n<1000000000)(a:KW (n/10)):KW n:=by
 intro w;have b:=(show Hid _ from No (n%10) Yo);have c:=(show Hid _ from a);clear a;have d:=D8 (n/10);go_enter func117,ntmps117;go_wp2_with fail;apply(c.out _).mono;rintro e w' ⟨rfl,rfl⟩;go_wp2;go_ret;refine⟨DS ?_,rfl⟩;rw[b.out,AA]
 congr 2
 conv=>rhs;rw[Lib.decDigits,dif_neg hn]
theorem FQ(n:Nat)(hb:n<1000000000):KW n:=by
 induction n using Nat.strongRecOn with
 |ind n a=>
  by_cases hn:n<10
  ·exact RY n hn
  ·exact Sx n hn hb (a (n/10) Yo Yo)
def CJ(n:Nat):Lu:=if n<26 then[UInt8.ofNat (65+n)]else UInt8.ofNat (65+n%26)::Lib.decDigits (n/26)
theorem Me(n:Nat)(w:World)(hb:n<1000000000):
  Calls prog 145 #[int i64 n] w fun e w'=>e=returned (string ⟨(CJ n).toArray⟩)/\w'=w:=by
 have a:=(show Hid _ from RA (n%26) Yo)
 by_cases h:n<26
 ·go_enter func145,ntmps145;go_wp2;go_ret;refine⟨DS (a.out.trans ?_),rfl⟩;rw[CJ,QQ h,Nat.mod_eq_of_lt h]
 ·go_enter func145,ntmps145;go_wp2_with fail;apply(FQ (n/26) Yo _).mono;rintro e w' ⟨rfl,rfl⟩;have b:=D8 (n/26);go_wp2;go_ret;refine⟨DS ?_,rfl⟩;show DC.extract (n%26) (n%26+1)++_=_;rw[a.out,AA,CJ,QP h];rfl
def GT:Nat->Ly->Prop
 |0,_=>False
 |f+1,l=>(∃n:Nat,l=[⟨[],n,0⟩])\/∃(nm:Lu)(ls:Ll),nm≠[]/\l=⟨nm,0,ls.length⟩::ls.flatten/\∀l'∈ls,GT f l'
theorem DP.isT:∀(f:Nat){w:World}{lo hi:Nat}{a b c:Value}{l:Ly},DP f w lo hi a b c l->GT f l:=by
 intro f
 induction f with
 |zero=>intro w lo hi a b c l h;exact h.elim
 |succ f k=>
  intro w lo hi a b c l h;rcases h with⟨n,_,_,_,h⟩|⟨nm,ls,xs,d,_,_,e,_,_,j⟩
  ·exact QG ⟨n,h⟩
  ·refine QO ⟨nm,ls,d,e,fun q hl=> ?_⟩;obtain⟨i,hi,rfl⟩:=Q8 hl;obtain⟨m,o,p,_,_,_,g⟩:=j i _ (Qb hi);exact k g
def Gm(n:Nat)(seen:List Nat):Lu×List Nat:=if n∈seen then(CJ (seen.idxOf n),seen)else(CJ seen.length,seen++[n])
def MZ(p:Ly->List Nat->Lu×List Nat×Ly):Nat->UInt8->Ly->List Nat->Lu×List Nat×Ly
 |0,_,r,seen=>([],seen,r)
 |n+1,sep,r,seen=>(sep::((p r seen).1++(MZ p n 44 (p r seen).2.2 (p r seen).2.1).1),(MZ p n 44 (p r seen).2.2 (p r seen).2.1).2)
def AO:Nat->Ly->List Nat->Lu×List Nat×Ly
 |0,r,seen=>([],seen,r)
 |_+1,[],seen=>([],seen,[])
 |f+1,s::r,seen=>
  if s.name=[]then((Gm s.num seen).1,(Gm s.num seen).2,r)
  else if s.args=0 then(s.name,seen,r)
  else(s.name++(MZ (AO f) s.args 40 r seen).1++[41],(MZ (AO f) s.args 40 r seen).2)
def BD(f:Nat):UInt8->Ll->List Nat->Lu×List Nat
 |_,[],seen=>([],seen)
 |sep,l::ls,seen=>(sep::((AO f l seen).1++(BD f 44 ls (AO f l seen).2.1).1),(BD f 44 ls (AO f l seen).2.1).2)
theorem L4(f:Nat)(e:∀l,GT f l->∀rest seen,AO f (l++rest) seen=((AO f l seen).1,(AO f l seen).2.1,rest)):
  ∀(ls:Ll),(∀b∈ls,GT f b)->∀a rest seen,MZ (AO f) ls.length a (ls.flatten++rest) seen=((BD f a ls seen).1,(BD f a ls seen).2,rest):=by
 intro ls
 induction ls with
 |nil=>intro _ a rest seen;rfl
 |cons l ls g=>
  intro h a rest seen;have c:=e l (h l Ys) (ls.flatten++rest) seen;have d:=g (fun b hl=>h b (by simp[hl])) 44 rest (AO f l seen).2.1;simp only[Qf,Q4,Qi,MZ,BD];rw[c];simp only;rw[d]
theorem UG:∀(f:Nat)(l:Ly),GT f l->∀rest seen,AO f (l++rest) seen=((AO f l seen).1,(AO f l seen).2.1,rest):=by
 intro f
 induction f with
 |zero=>intro l h;exact h.elim
 |succ f g=>
  intro l h rest seen;rcases h with⟨n,rfl⟩|⟨nm,ls,c,rfl,d⟩
  ·simp[AO]
  ·have a:=L4 f g ls d 40;have e:=a rest seen;have b:=a [] seen;simp only[Qs]at b;simp only[Qy,AO,c,if_false]
   cases ls with
   |nil=>simp
   |cons l ls=>
    rw[QP Ys,QP Ys];rw[e,b]
theorem GF(f:Nat)(nm:Lu)(ls:Ll)(hn:nm≠[])(h:∀b∈ls,GT f b)(hl:ls≠[])(seen:List Nat):
  AO (f+1) (⟨nm,0,ls.length⟩::ls.flatten) seen=(nm++(BD f 40 ls seen).1++[41],(BD f 40 ls seen).2,[]):=by
 have a:=L4 f (UG f) ls h 40 [] seen;simp only[Qs]at a;simp only[AO,hn,if_false];rw[QP (by simp[hl]),a]
theorem Mj(n:Nat)(h:n<=4000):(CJ n).length<=200:=by
 unfold CJ;split
 ·simp
 ·have:=D8 (n/26);simp only[Qf];omega
theorem VN(n:Nat)(seen:List Nat)(h:seen.length<=3999):(Gm n seen).1.length<=200/\(Gm n seen).2.length<=seen.length+1:=by
 unfold Gm;split
 ·rename_i a;have:=JX a;exact⟨Mj _ Yo,Ys⟩
 ·exact⟨Mj _ Yo,Ys⟩
theorem Nw(f:Nat)(d:∀l,GT f l->(∀s∈l,s.name.length<=4096)->∀seen,seen.length+l.length<=4000->(AO f l seen).1.length+1<=4100*l.length/\(AO f l seen).2.1.length<=seen.length+l.length):
  ∀(ls:Ll),(∀c∈ls,GT f c)->(∀s∈ls.flatten,s.name.length<=4096)->∀b seen,seen.length+ls.flatten.length<=4000->(BD f b ls seen).1.length<=4100*ls.flatten.length/\(BD f b ls seen).2.length<=seen.length+ls.flatten.length:=by
 intro ls
 induction ls with
 |nil=>intro _ _ b seen _;simp[BD]
 |cons l ls e=>
  intro h hn b seen a;simp only[Q4,Qg]at a;have g:=d l (h l Ys) (fun s a=>hn s (by simp[a])) seen Yo;have i:=e (fun c hl=>h c (by simp[hl])) (fun s a=>hn s (by simp only[Q4,Qk];exact QO a)) 44 (AO f l seen).2.1 Yo;simp only[BD,Qf,Qg,Q4];omega
theorem TA:∀(f:Nat)(l:Ly),GT f l->0<l.length:=by
 intro f l h
 cases f with
 |zero=>exact h.elim
 |succ f=>rcases h with⟨n,rfl⟩|⟨nm,ls,a,rfl,b⟩<;>simp
theorem HB(f:Nat)(ls:Ll)(h:∀a∈ls,GT f a):ls.length<=ls.flatten.length:=by
 induction ls with
 |nil=>simp
 |cons l ls b=>
  have c:=TA f l (h l Ys);have d:=b (fun a hl=>h a (by simp[hl]));simp only[Q4,Qg,Qf];omega
theorem EK:∀(f:Nat)(l:Ly),GT f l->(∀s∈l,s.name.length<=4096)->∀seen,seen.length+l.length<=4000->(AO f l seen).1.length+1<=4100*l.length/\(AO f l seen).2.1.length<=seen.length+l.length:=by
 intro f
 induction f with
 |zero=>intro l h;exact h.elim
 |succ f d=>
  intro l h hn seen a;rcases h with⟨n,rfl⟩|⟨nm,ls,b,rfl,c⟩
  ·have:=VN n seen (by simp at a;omega);simp[AO];omega
  ·have g:nm.length<=4096:=hn _ (List.mem_cons_self ..)
   by_cases hl:ls=[]
   ·subst hl;simp[AO,b];omega
   ·rw[GF f nm ls b c hl];simp only[Qf]at a;have e:=Nw f d ls c (fun s a=>hn s (QD _ a)) 40 seen Yo;simp only[Qg,Qf,Qt];omega
theorem NO(w:World)(B b:Nat)(L:Bj)(u:Value)(P:Int)(Q:ByteArray)(h:AZ w B b L u)(I:B<=b)(U:L.stk.length<=4096)(m:L.want=3):
  Calls prog 178 #[Pt b,agg #[int i64 40,string Q,int i64 P]] w fun e w'=>
   e=Rq #[]/\∃O,Ad (C1 b u) w w'/\AZ w' B b (Am L 40) O:=by
 obtain⟨hb,⟨r,y,z,A,C,D,E,F⟩,J⟩:=h.facts;have c:=Yh h;obtain⟨f,j,rfl⟩:=Ab h.opn;clear h;rw[m]at r;have q:=Yh m;have V:B<=w.heap.size:=JW (Nat.lt_of_le_of_lt I hb);have M:=Yh c.o.opn;clear m;go_enter func178,ntmps178
 go_wp2_with (at_builtin;refine Al _ rfl (.tmp 28) (.tmp 29) 25 rfl B 3 infoInt underlying25 rfl Yd _ L.stk.length (AM L.stk.reverse) rfl (M.o.alloc _) _ rfl Ys rfl (DT _) ?_ ?_ ?_)
 ·omega
 ·simp;omega
 intro W w1 d;obtain⟨va,n,rfl⟩:=Ab d.owns;have l:Ad (Ak (slice f L.stk.length j)) w w1:=((Ad.refl _ w).alloc _).trans d.kept;have t:¬Ak (slice f L.stk.length j) b:=fun e=>c.o.apart b e rfl;have a:w1.heap[b]?=some (.cells (AL L (slice f L.stk.length j)) 278 (0,0)):=(l.block b hb t).trans c.o.blk;have R:w1.cell? ⟨b,0,none⟩=some (int i64 L.want):=Aa a 0 _ rfl;have S:w1.cell? ⟨b,3,none⟩=some (slice f L.stk.length j):=Aa a 3 _ rfl;have T:∀i,w1.frozen? ⟨b,i,none⟩=false:=fun i=>Ag a i;have p:=Yh d;have v:=Yh a;have x:=Yh l;clear d a l t r y z A C D E F J;go_wp2;go_end0;have N:∀k,(Value.slice va (L.stk.length+1) n).ownBlock=some k->¬only b k:=by
  rintro k s (rfl:k=b);rcases p.o.where_ with h|⟨g,h,K⟩
  ·exact c.o.apart k (by rw[<-h];exact s) rfl
  ·rw[s]at h;simp at h;subst h;simp at K;omega
 refine⟨rfl,slice va (L.stk.length+1) n,?_,?_,?_⟩
 ·exact(x.o.mono (fun _ _ e=>QO e)).then (((Ad.refl (only b) w1).put 3 _).put 0 _) (fun _ _ e=>QG e)
 ·rw[Ae (Ae v.o 3 _) 0 _];simp[AL,Am,q.o]
 ·have G:(Am L 40).stk=0::L.stk:=by simp[Am,q.o]
  rw[G];have H:=(((Ad.refl (only b) w1).put 3 (slice va (L.stk.length+1) n)).put 0 (int i64 2)).owns p.o.owns N;simpa[AM]using H
structure KK(L:Bj)(i:Nat):Prop where
 want:L.want<=5
 term:L.want=2->L.stk≠[]
 size:L.size<=i
 heads:L.heads<=i
 goals:L.goals<=i
 len:L.stk.length<=i
 all:∀n∈L.stk,n<=i
def Bi(L:Bj)(kd tn:Nat):Bj:=
 if L.want<=2 then AH L kd tn else if L.want=5 then{L with err:=2}else Am L kd
theorem KK.mono{j:Nat}(h:KK L i)(a:i<=j):KK L j:=
 ⟨h.want,h.term,Qq h.size a,Qq h.heads a,Qq h.goals a,Qq h.len a,fun n hn=>Qq (h.all n hn) a⟩
theorem O0(h:KK L i)(kd j:Nat):KK (AH L kd j) (i+1):=by
 unfold AH;have k:=h.size;have l:=h.heads;have m:=h.goals;have c:=h.len;split
 ·exact⟨h.want,h.term,by simp;omega,by simp;omega,by simp;omega,by simp;omega,fun n hn=>Qq (h.all n hn) (Nat.le_succ i)⟩
 ·have f:(if kd=1 then 3 else 4)<=5/\((if kd=1 then 3 else 4)≠2):=by split<;>simp
  have d:∀n∈L.stk,n<=i+1:=fun n hn=>Qq (h.all n hn) (Nat.le_succ i);refine⟨f.1,fun e=>absurd e f.2,?_,?_,?_,?_,?_⟩
  all_goals
   unfold FI AR
   dsimp only
   split
   ·first|(simp;done)|(simp;omega)|exact d
   ·split
    ·first|(simp;done)|(simp;omega)|exact d
    ·cases b:L.stk with
     |nil=>first|(simp;done)|(simp;omega)|(simp[b];done)
     |cons n r=>
      have hn:n<=i:=h.all n (by rw[b];simp);have g:∀x∈r,x<=i:=fun x a=>h.all x (by rw[b];simp[a]);rw[b]at c;simp only[Qf]at c
      first
       | (simp;done)
       | (simp;omega)
       | (intro x a;simp at a;rcases a with rfl|a;omega;have:=g x a;omega)
theorem Om(h:KK L i)(kd:Nat):KK (Am L kd) (i+1):=by
 have d:=h.size;have f:=h.heads;have g:=h.goals;have j:=h.len;have b:=h.want;have a:∀n∈L.stk,n<=i+1:=fun n hn=>Qq (h.all n hn) (Nat.le_succ i);unfold Am;split
 ·exact⟨Ys,fun _=>by simp,by simp;omega,by simp;omega,by simp;omega,by simp;omega,by intro n hn;simp at hn;rcases hn with rfl|hn;omega;exact a n hn⟩
 ·split
  ·rename_i _ c;exact⟨Ys,fun _=>c.2,by simp;omega,by simp;omega,by simp;omega,by simp;omega,a⟩
  ·split
   ·exact⟨Ys,fun e=>by simp at e,by simp;omega,by simp;omega,by simp;omega,by simp;omega,fun n hn=>a n (List.mem_of_mem_tail hn)⟩
   ·split
    ·exact⟨b,h.term,by simp;omega,by simp;omega,by simp;omega,by simp;omega,a⟩
    ·split
     ·exact⟨Ys,fun e=>by simp at e,by simp;omega,by simp;omega,by simp;omega,by simp;omega,a⟩
     ·split
      ·exact⟨Ys,fun e=>by simp at e,by simp;omega,by simp;omega,Ys,by simp;omega,a⟩
      ·split
       ·exact⟨Ys,fun e=>by simp at e,by simp;omega,by simp;omega,by simp;omega,by simp;omega,a⟩
       ·split
        ·exact⟨Ys,fun e=>by simp at e,by simp;omega,by simp;omega,by simp;omega,by simp;omega,a⟩
        ·exact⟨b,h.term,by simp;omega,by simp;omega,by simp;omega,by simp;omega,a⟩
theorem Ui(h:KK L i)(kd a:Nat):KK (Bi L kd a) (i+1):=by
 unfold Bi;split
 ·exact O0 h kd a
 ·split
  ·have h:=h.mono (Nat.le_succ i);exact⟨h.want,h.term,h.size,h.heads,h.goals,h.len,h.all⟩
  ·exact Om h kd
def Bb:List BV->Bj->Nat×Nat
 |[],_=>(0,0)
 |t::ts,L=>
  if t.kind=4/\(L.want=5\/L.want=0)then(0,0)
  else if(Bi L t.kind t.text.length).err≠0 then((Bi L t.kind t.text.length).err,t.pos)
  else Bb ts (Bi L t.kind t.text.length)
theorem Sm(w:World)(B b:Nat)(L:Bj)(c:Value)(kd:Nat)(g:Int)(f:ByteArray)(h:AZ w B b L c)(o:B<=b)(hi:KK L 4000)(t:L.want<=2)(j:f.size<=4096):
  Calls prog 177 #[Pt b,agg #[int i64 kd,string f,int i64 g]] w fun e w'=>
   e=Rq #[]/\∃m,Ad (C1 b c) w w'/\AZ w' B b (AH L kd f.size) m:=by
 have s:=hi.size;have q:=hi.heads;have p:=hi.goals;have hl:=hi.len
 by_cases l:kd≠1/\(kd≠2\/L.want≠2)
 ·apply(Tm w B b L c kd g f h l).mono;rintro e w' ⟨rfl,d,a⟩;exact⟨rfl,c,d.mono (fun _ _ e=>QG e),a⟩
 ·by_cases a:L.want=2
  ·obtain⟨n,r,i⟩:∃n r,L.stk=n::r:=by
    cases k:L.stk with
    |nil=>exact absurd k (hi.term a)
    |cons n r=>exact⟨n,r,rfl⟩
   have hn:=hi.all n (by rw[i];simp);rw[i]at hl;simp only[Qf]at hl
   by_cases d:kd=1
   ·subst d;apply(Oq w B b L n r c g f h i Yo Yo Yo j a).mono;rintro e w' ⟨rfl,d,a⟩;exact⟨rfl,c,d,a⟩
   ·obtain rfl:kd=2:=Yo
    apply(N1 w B b L n r c g f h i Yo Yo Yo j a).mono;rintro e w' ⟨rfl,d,a⟩;exact⟨rfl,c,d,a⟩
  ·obtain rfl:kd=1:=Yo
   by_cases h0:L.want=0
   ·apply(Pi w B b L c g f h Yo j h0).mono;rintro e w' ⟨rfl,d,a⟩;exact⟨rfl,c,d.mono (fun _ _ e=>QG e),a⟩
   ·apply(Rg w B b L c g f h Yo j Yo).mono;rintro e w' ⟨rfl,d,a⟩;exact⟨rfl,c,d.mono (fun _ _ e=>QG e),a⟩
theorem Pl(w:World)(B b:Nat)(L:Bj)(a:Value)(kd:Nat)(c:Int)(d:ByteArray)(h:AZ w B b L a)(f:B<=b)(hi:KK L 4000):
  Calls prog 178 #[Pt b,agg #[int i64 kd,string d,int i64 c]] w fun e w'=>
   e=Rq #[]/\∃m,Ad (C1 b a) w w'/\AZ w' B b (Am L kd) m:=by
 have hl:L.stk.length<=4096:=by have:=hi.len;omega
 by_cases i:kd=40
 ·subst i
  by_cases g:L.want=3
  ·exact NO w B b L a c d h f hl g
  ·exact KP w B b L a c d h f hl g
 ·by_cases g:kd=41
  ·subst g;exact MK w B b L a c d h f hl
  ·by_cases j:kd=44
   ·subst j;exact MA w B b L a c d h f hl
   ·by_cases k:kd=46
    ·subst k;exact Pj w B b L a c d h f hl
    ·by_cases l:kd=3
     ·subst l;exact Mv w B b L a c d h f hl
     ·exact MC w B b L a kd c d h f hl ⟨i,g,j,k,l⟩
def AD(query:Bool):Bj:=⟨if query then 1 else 0,query,query,[],0,0,0,0⟩
theorem IW(l:List BV)(k:Nat)(t:BV)(h:l[k]?=some t)(j:Nat)(c:j<3):(AP l)[k*3+j]?=(DE t)[j]?:=by
 induction l generalizing k with
 |nil=>simp at h
 |cons a l b=>
  cases k with
  |zero=>
   simp at h;subst h;show(DE a++AP l)[_]?=_;rw[Qc (by simp[DE];omega)];simp
  |succ k=>
   show(DE a++AP l)[_]?=_;rw[Qd (by simp[DE];omega)];rw[<-b k (by simpa using h)]
   congr 1
   simp[DE];omega
theorem RG(ts:List BV)(k:Nat)(t:BV)(L:Bj)(h:ts[k]?=some t):Bb (ts.drop k) L=
  if t.kind=4/\(L.want=5\/L.want=0)then(0,0)
  else if(Bi L t.kind t.text.length).err≠0 then((Bi L t.kind t.text.length).err,t.pos)
  else Bb (ts.drop (k+1)) (Bi L t.kind t.text.length):=by
 have a:k<ts.length:=(Qa.1 h).1;rw[QC a];have:ts[k]=t:=(Qa.1 h).2;rw[this];rfl
theorem KS{a b c d:Int}(h:a=c)(e:b=d):Ending.returned (tuple #[int i64 a,int i64 b])=Rq #[int i64 c,int i64 d]:=by rw[h,e]
theorem Uf{c:Value}(a:Below w.heap.size w wr)(hl:AZ wr w.heap.size w.heap.size L c)(o:Obj)(h:Ad (C1 w.heap.size c) (wr.alloc o) w1):Below w.heap.size w w1:=
 (a.alloc a.size o).trans (h.below (by have:=a.size;simp;omega) (fun k b=>by
  rcases b with rfl|b
  ·exact Qe _
  ·exact(hl.opn.lt k b).1))
theorem Ve{c:Value}(hl:AZ wr B b L c)(cs:Av)(T:TypeId)(h:Ad (C1 b c) (wr.alloc (.cells cs T)) w1)(i:Nat)(v:Value)(d:cs[i]?=some v):
  w1.cell? ⟨wr.heap.size,i,none⟩=some v:=
 h.cell (AY wr cs T i v d) (fun a=>by
  rcases a with a|a
  ·have:=Ac hl.blk;have a:wr.heap.size=b:=a;omega
  ·have:=(hl.opn.lt _ a).2;simp at this)
set_option maxHeartbeats 20000000 in
theorem Rx(m:Bool)(w:World)(U:Nat)(ts:List BV)(v:Value)(F:w.ownsRow U 243 3 v ts.length (AP ts))(hn:ts.length<=3900)(al:∀t∈ts,t.text.length<=4096):
  Calls prog 142 #[v,.bool m] w fun e w'=>
   e=Rq #[int i64 (Bb ts (AD m)).1,int i64 (Bb ts (AD m)).2]/\Below w.heap.size w w':=by
 obtain⟨ta,ay,rfl⟩:=Ab F;have J:=Yh F;obtain⟨S,C⟩:=Ex (AD m);have H:=Yh C;rw[<-C];clear F C
 cases m
 all_goals
  go_enter func142,ntmps142;go_wp2
  go_loopw [7] (fun i wr=>∃(k:Nat)(L:Bj)(y:Value),k<=ts.length/\i=int i64 k/\Below w.heap.size w wr/\AZ wr w.heap.size w.heap.size L y/\KK L k/\L.err=0/\
    Bb (ts.drop k) L=Bb ts S) (fun i _=>ts.length-(intOf i).toNat)
  case atStart=>
   obtain rfl:=H.o;exact⟨0,_,Nl,Qm _,rfl,(Jc _ _).alloc (Qe _) _,⟨QL w _,Q2 _ _ _ _⟩,⟨by simp[AD],fun e=>by simp[AD]at e,by simp[AD],by simp[AD],by simp[AD],by simp[AD],by simp[AD]⟩,rfl,rfl⟩
  case round=>
   obtain⟨k,L,y,aw,rfl,c,E,P,N,Q⟩:=hrel;have s:=Yh E;have r:=Yh P;have f:=Yh Q;obtain⟨hb,⟨u,Y,Z,aa,ab,ac,ad,K⟩,af⟩:=E.facts;rw[N]at K;clear E P N Q H
   by_cases aj:k<ts.length
   ·obtain⟨t,x⟩:∃t,ts[k]?=some t:=⟨_,Qb aj⟩;have R:t∈ts:=Qh x;have ak:ByteArray.size ⟨t.text.toArray⟩<=4096:=al t R;obtain⟨g,az,a0,b,ar,O,av⟩:=An J.o Yo;simp only[QH]at b;obtain⟨rfl,_,rfl⟩:=b;have ag:=Ac O;have z:∀j v,j<3->(DE t)[j]?=some v->wr.cell? ⟨g,k*3+j,none⟩=some v:=by
     intro j v ah am;exact(c.cell (p:=⟨g,k*3+j,none⟩) ag).trans (Af J.o (k*3+j) v (by rw[IW ts k t x j ah];exact am))
    have ao:wr.cell? ⟨g,k*3,none⟩=some (int i64 t.kind):=z 0 _ Yo rfl;have ap:=z 1 _ Yo rfl;have aq:=z 2 _ Yo rfl;have q:=Yh (RG ts k t L x);have T:L.want=5\/L.want=0\/L.want=1\/L.want=2\/L.want=3\/L.want=4:=by have:=r.o.want;omega
    clear z x R O
    by_cases d:t.kind=4/\(L.want=5\/L.want=0)
    ·have W:=Yh (q.o.trans (QQ d));have G:((t.kind:Int)==4)=true:=by rw[JF];omega
     rcases d.2 with a|a
     all_goals
      rw[a]at u;clear d a T;go_wp2;go_ret2;refine⟨KS ?_ ?_,c.alloc c.size _⟩
      all_goals
       rw[<-f.o,W.o];rfl
    ·have A:=Yh d;have ai:((t.kind:Int)==4)=true\/((t.kind:Int)==4)=false:=by cases(t.kind:Int)==4<;>simp
     rcases T with a|a|a|a|a|a<;>rcases ai with G|G
     all_goals try(exfalso;rw[JF]at G;omega)
     ·have I:YH ((Bi L t.kind t.text.length).err=2):=by show _=2;simp[Bi,a]
      rw[a]at u;clear a d;go_wp2_with fail;go_quiet (fail);go_wp2_with fail;go_ret2;refine⟨KS ?_ ?_,(((c.setCell (Qe _) _).alloc (by have:=c.size;simp;omega) _)).trans ⟨rfl,rfl,rfl,Qe _,fun _ _=>rfl⟩⟩
      all_goals rw[<-f.o,q.o,QP A.o,QQ (by rw[I.o];omega)]
      rw[I.o];rfl
     all_goals
      rw[a]at u;have B:=Yh a;clear a d;go_wp2_with fail
      first
       |refine(Sm _ w.heap.size w.heap.size L y t.kind _ ⟨t.text.toArray⟩ (s.o.later (S:=A4) ((Ad.refl _ _).alloc _) (fun h=>h) (fun _ _ h=>h)) (Qe _) (r.o.mono Yo) (by rw[B.o];omega) ak).mono ?_
       |refine(Pl _ w.heap.size w.heap.size L y t.kind _ ⟨t.text.toArray⟩ (s.o.later (S:=A4) ((Ad.refl _ _).alloc _) (fun h=>h) (fun _ _ h=>h)) (Qe _) (r.o.mono Yo)).mono ?_
      rintro e w1 ⟨rfl,an,D,l⟩;have M:=Uf c s.o _ D;have au:w1.cell? ⟨wr.heap.size,2,none⟩=some (int i64 t.pos):=Ve s.o _ _ D 2 _ rfl
      first
       |rw[show AH L t.kind (ByteArray.size ⟨t.text.toArray⟩)=Bi L t.kind t.text.length by simp[Bi,B.o,ByteArray.size]]at l
       |rw[show Am L t.kind=Bi L t.kind t.text.length by simp[Bi,B.o]]at l
      have X:=Yh l;have ae:=l.facts.2.1.2.2.2.2.2.2.2;clear D l u Y Z aa ab ac ad K af ao ap aq
      by_cases b:(Bi L t.kind t.text.length).err=0
      ·rw[b]at ae;have n:=Yh b;clear b;go_wp2_with fail
       go_roundw
       case rel=>
        refine⟨k+1,Bi L t.kind t.text.length,an,Yo,Yg,M,X.o,Ui r.o _ _,n.o,?_⟩;rw[<-f.o,q.o,QP A.o,QP (by simp[n.o])]
       case measure=>simp[intOf];omega
      ·have ax:(((Bi L t.kind t.text.length).err:Int) !=0)=true:=by rw[QR];omega
       have n:=Yh b;clear b;go_wp2_with fail;go_quiet (fail);go_wp2_with fail;go_ret2;refine⟨KS ?_ ?_,M.trans ⟨rfl,rfl,rfl,Qe _,fun _ _=>rfl⟩⟩
       all_goals rw[<-f.o,q.o,QP A.o,QQ n.o]
   ·have V:YH (Bb (ts.drop k) L=(0,0)):=by show _=_;rw[QW Yo];rfl
    go_wp2;go_ret2;refine⟨KS ?_ ?_,c⟩
    all_goals
     rw[<-f.o,V.o];rfl
theorem infoTerm:(prog.info? 183).map (fun i=>(i.zero,i.size,i.bytes))=some (some (agg #[string ⟨#[]⟩,int i64 0,Nl]),3,48):=by kernel_rfl
def O6(f:Nat):Prop:=∀(w:World)(ts:List BV)(k:Nat)(tv:Value)(Bt B:Nat)(names:At)(nv:Value)(r:Ly×List BV×At),
 Bo f (ts.drop k) names=some r->w.ownsRow Bt 243 3 tv ts.length (AP ts)->w.ownsRow B 9 1 nv names.length (Ba names)->B<=w.heap.size->
 ts.length<=1000->names.length+(ts.length-k)<=1000->(∀t∈ts,t.text.length<=4096)->(∀i t,ts[i]?=some t->i+1<ts.length->t.text≠[])->
 Calls prog 143 #[tv,.int .i64 k,nv] w fun e w'=>∃a b c nv' j,e= .returned (.tuple #[.agg #[a,b,c],.int .i64 (j:Nat),nv'])/\r.2.1=ts.drop j/\k<j/\j<=ts.length/\
  DP f w' w.heap.size w'.heap.size a b c r.1/\Ar w B 9 1 nv r.2.2.length (Ba r.2.2) nv' w'
theorem Ar.around{n:Nat}{a:Value}(h:Ar w B e size v n xs a w1)(h0:Ad (Ak v) w0 w)
  (l:∀k,v.ownBlock=some k->k<w0.heap.size) (b:Ad S w1 w2) (c:∀k,S k->w0.heap.size<=k) (d:∀k,a.ownBlock=some k->¬S k):Ar w0 B e size v n xs a w2:=
 ⟨b.owns h.owns d,(h0.then h.kept (fun _ _ e=>e)).then b (fun i hi j=>by have:=c i j;omega),by
  rcases h.where_ with h|⟨g,h,f⟩
  ·exact QG h
  ·exact QO ⟨g,h,Qq h0.size f⟩⟩
theorem GD{d:Nat}{ts:List BV}{tv:Value}{t:BV}(h:w.ownsRow d 243 3 tv ts.length (AP ts))(c:ts[k]?=some t):
  ∃g a,tv=slice (some ⟨g,0,none⟩) ts.length a/\g<w.heap.size/\w.cell? ⟨g,k*3,none⟩=some (int i64 t.kind)/\w.cell? ⟨g,k*3+1,none⟩=some (string ⟨t.text.toArray⟩)/\w.cell? ⟨g,k*3+2,none⟩=some (int i64 t.pos):=by
 have o:k<ts.length:=(Qa.1 c).1;obtain⟨g,a,l,rfl,m,e,n⟩:=An h Yo;have b:∀j v,j<3->(DE t)[j]?=some v->w.cell? ⟨g,k*3+j,none⟩=some v:=fun j v f i=>Af h (k*3+j) v (by rw[IW ts k t c j f];exact i);exact⟨g,a,rfl,Ac e,b 0 _ Yo rfl,b 1 _ Yo rfl,b 2 _ Yo rfl⟩
theorem Et{ts:List BV}{t:BV}{r:List BV}(h:ts.drop k=t::r):ts[k]?=some t/\ts.drop (k+1)=r/\k<ts.length:=by
 have a:k<ts.length:=by
  rcases QB k ts.length with hl|hl
  ·exact hl
  ·rw[QW hl]at h;cases h
 rw[QC a]at h;injection h with h1 h2;exact⟨by rw[Qb a,h1],h2,a⟩
theorem WB(f:Nat)(w:World)(ts:List BV)(k:Nat)(tv:Value)(C B:Nat)(names:At)(nv:Value)(t:BV)(r:List BV)
  (hd:ts.drop k=t::r) (E:t.kind=2) (z:w.ownsRow C 243 3 tv ts.length (AP ts)) (p:w.ownsRow B 9 1 nv names.length (Ba names)) (P:B<=w.heap.size)
  (hl:ts.length<=1000) (hn:names.length+(ts.length-k)<=1000) (H:∀t∈ts,t.text.length<=4096):
  Calls prog 143 #[tv,int i64 k,nv] w fun e w'=>∃a b c A j,e=Rq #[agg #[a,b,c],int i64 (j:Nat),A]/\r=ts.drop j/\k<j/\j<=ts.length/\
   DP (f+1) w' w.heap.size w'.heap.size a b c [⟨[],(A8 names t.text).2,0⟩]/\Ar w B 9 1 nv (A8 names t.text).1.length (Ba (A8 names t.text).1) A w':=by
 obtain⟨q,y,n⟩:=Et hd;obtain⟨g,S,rfl,x,J,Q,R⟩:=GD z q;have F:=H t (Qh q);rw[E]at J;have D:=Yh y;have m:=Yh p;obtain⟨na,I,rfl⟩:=Ab p;clear hd z p q y;go_enter func143,ntmps143;go_wp2_with fail;refine(Sr _ B names t.text _ (m.o.alloc _) Yp Yo F).mono ?_;rintro e w1 ⟨T,rfl,l⟩;obtain⟨va,K,rfl⟩:=Ab l.owns;have u:¬Ak (slice na names.length I) w.heap.size:=fun e=>by have:=(m.o.lt _ e).2;omega
 have d:=(l.kept.block w.heap.size Ys u).trans (QL w _);have L:w1.cell? ⟨w.heap.size,0,none⟩=some (string ⟨#[]⟩):=Aa d 0 _ rfl;have M:w1.cell? ⟨w.heap.size,1,none⟩=some (int i64 0):=Aa d 1 _ rfl;have N:w1.cell? ⟨w.heap.size,2,none⟩=some Nl:=Aa d 2 _ rfl;have O:=fun i=>Ag d i;have G:=Ac d;have s:=Yh l;clear l d;go_wp2;refine Jb (v:=tuple #[agg #[string ⟨#[]⟩,int i64 (A8 names t.text).2,Nl],int i64 ((k+1:Nat):Int),slice va (A8 names t.text).1.length K]) (by simp[results,results143,go_sem,L,M,N,O,G]) rfl ?_;refine⟨_,_,_,_,k+1,rfl,D.o.symm,Yo,Yo,QG ⟨_,rfl,rfl,rfl,rfl⟩,?_⟩;refine s.o.around ((Ad.refl _ w).alloc _) (fun k e=>(m.o.lt k e).2) ((((Ad.refl (only w.heap.size) w1).put 0 _).put 1 _).put 2 _) (fun k e=>Nat.le_of_eq (Eq.symm e)) ?_;rintro k n (rfl:k=w.heap.size);rcases s.o.where_ with h|⟨g,h,x⟩
 ·exact u (h.symm.trans n)
 ·rw[n]at h;simp at h x;omega
theorem Uq(f:Nat)(w:World)(ts:List BV)(k:Nat)(tv:Value)(x B:Nat)(names:At)(nv:Value)(t u:BV)(r:List BV)
  (hd:ts.drop k=t::u::r) (K:t.kind≠2) (L:u.kind≠40) (m:w.ownsRow x 243 3 tv ts.length (AP ts)) (d:w.ownsRow B 9 1 nv names.length (Ba names)) (F:B<=w.heap.size)
  (hl:ts.length<=1000) (A:t.text≠[]):
  Calls prog 143 #[tv,int i64 k,nv] w fun e w'=>∃a b c s j,e=Rq #[agg #[a,b,c],int i64 (j:Nat),s]/\u::r=ts.drop j/\k<j/\j<=ts.length/\
   DP (f+1) w' w.heap.size w'.heap.size a b c [⟨t.text,0,0⟩]/\Ar w B 9 1 nv names.length (Ba names) s w':=by
 obtain⟨p,l,I⟩:=Et hd;obtain⟨q,C,J⟩:=Et l;obtain⟨g,S,rfl,G,P,Q,R⟩:=GD m p;obtain⟨E,T,n,H,U,V,W⟩:=GD m q;simp only[QH,Qo,Addr.mk.injEq]at n;obtain⟨⟨rfl,_⟩,_,rfl⟩:=n;have M:((t.kind:Int)==2)=false:=by rw[Qu];omega
 have N:((u.kind:Int) !=40)=true:=by rw[QR];omega
 have z:=Yh l;have y:=Yh d;obtain⟨na,D,rfl⟩:=Ab d;clear hd m d p l q C;go_enter func143,ntmps143;go_wp2;refine Jb (v:=tuple #[agg #[string ⟨t.text.toArray⟩,int i64 0,Nl],int i64 ((k+1:Nat):Int),slice na names.length D]) (by simp[results,results143,go_sem]) rfl ?_;refine⟨_,_,_,_,k+1,rfl,z.o.symm,Yo,Yo,QO ⟨t.text,[],[],A,rfl,rfl,rfl,Q2 _ _ _ _,fun k e=>by simp[Value.ownBlock]at e,fun i O h=>by simp at h⟩,?_⟩;exact⟨(y.o.alloc _).alloc _,((Ad.refl _ w).alloc _).alloc _,QG rfl⟩
theorem DP.shape{f:Nat}{lo hi:Nat}{a b c:Value}(h:DP f w lo hi a b c l):∃s n ca cl cc,a=string s/\b=int i64 n/\c=slice ca cl cc:=by
 cases f with
 |zero=>exact h.elim
 |succ f=>
  rcases h with⟨n,rfl,rfl,rfl,_⟩|⟨nm,ls,xs,_,rfl,rfl,_,d,_⟩
  ·exact⟨_,_,_,_,_,rfl,rfl,rfl⟩
  ·obtain⟨a,e,rfl⟩:=Ab d;exact⟨_,_,_,_,_,rfl,rfl,rfl⟩
structure Fa(f:Nat)(w:World)(lo:Nat)(cv:Value)(acc:List (List BJ))(xs:List Value):Prop where
 owns:w.ownsRow lo 183 3 cv acc.length xs
 all:∀(i:Nat)(l':List BJ),acc[i]?=some l'->∃a b c l h,xs[i*3]?=some a/\xs[i*3+1]?=some b/\xs[i*3+2]?=some c/\lo<=l/\h<=w.heap.size/\
  (∀k,cv.ownBlock=some k->¬(l<=k/\k<h))/\DP f w l h a b c l'
theorem Fa.nil(f:Nat)(w:World)(lo:Nat):Fa f w lo Nl [] []:=⟨Q2 _ _ _ _,fun i a h=>by simp at h⟩
theorem Ar.trans{n j:Nat}{k l:Value}{m:Lv}(h:Ar w B e size v n xs k w1)(d:Ar w1 B e size k j m l w2):Ar w B e size v j m l w2:=
 ⟨d.owns,h.kept.then d.kept (fun i hi f=>by
   rcases h.where_ with a|⟨g,a,b⟩
   ·exact a.symm.trans f
   ·have:some g=some i:=a.symm.trans f;simp at this;omega),by
  rcases d.where_ with c|⟨g,c,b⟩
  ·rcases h.where_ with a|⟨g,a,b⟩
   ·exact QG (c.trans a)
   ·exact QO ⟨g,c.trans a,b⟩
  ·exact QO ⟨g,c,Qq h.kept.size b⟩⟩
theorem Gu{n:Int}{ca:Oa}{cl cc:Nat}:∀u∈(#[Value.string s,int i64 n,slice ca cl cc]:Av).toList,u.oneCell'=true:=by
 intro u a;simp at a;rcases a with rfl|rfl|rfl<;>rfl
theorem Fa.step{f:Nat}{w3:World}{N lo:Nat}{z Z cv':Value}{V W:Nat}{X Y:Lv}{b:Ll}{n:Int}{ca:Oa}{cl cc:Nat}{o:Obj}
  (a:Fa f wr lo cv b xs) (af:N<lo) (M:lo<=wr.heap.size) (O:wr.ownsRow B 9 1 z V X) (v:Ar wr B 9 1 z W Y Z w1)
  (P:DP f w1 wr.heap.size w1.heap.size (string s) (int i64 n) (slice ca cl cc) l) (ha:Ar (w1.alloc o) lo 183 3 cv (b.length+1) (xs++[string s,int i64 n,slice ca cl cc]) cv' w3) (u:Value):
  Fa f (w3.setCell ⟨N,2,none⟩ u) lo cv' (b++[l]) (xs++[string s,int i64 n,slice ca cl cc])/\Ad (fun k=>Ak cv k\/k=N) w1 (w3.setCell ⟨N,2,none⟩ u):=by
 have j:∀k,cv.ownBlock=some k->lo<=k/\k<wr.heap.size:=a.owns.lt;have R:Ad (Ak cv) w1 w3:=((Ad.refl _ w1).alloc o).then ha.kept (fun _ _ e=>e)
 have c:Ad (fun k=>Ak cv k\/k=N) w1 (w3.setCell ⟨N,2,none⟩ u):=Ad.setCell (S:=fun k=>Ak cv k\/k=N) (R.mono (fun _ _ e=>QG e)) (p:=⟨N,2,none⟩) (fun _=>QO rfl) u;have d:∀k,cv'.ownBlock=some k->(lo<=k/\k<wr.heap.size/\cv.ownBlock=some k)\/w1.heap.size<k:=by
  intro k a;rcases ha.where_ with h|⟨g,h,K⟩
  ·rw[a]at h;exact QG ⟨(j k h.symm).1,(j k h.symm).2,h.symm⟩
  ·rw[a]at h;simp at h K;exact QO Yo
 have r:xs.length=b.length*3:=a.owns.1;have ag:w1.heap.size<=(w3.setCell ⟨N,2,none⟩ u).heap.size:=c.size;have ah:=v.kept.size;refine⟨⟨?_,?_⟩,c⟩
 ·have:=((Ad.refl (only N) w3).put 2 u).owns ha.owns (fun k a e=>by
   have e:k=N:=e;rcases d k a with h|h<;>omega)
  simpa using this
 ·intro i T hl;rcases QB i b.length with hi|hi
  ·rw[Qc hi]at hl;obtain⟨A,C,D,U,I,aa,ab,ac,G,ae,t,H⟩:=a.all i T hl;refine⟨A,C,D,U,I,?_,?_,?_,G,Yo,?_,?_⟩
   ·rw[Qc Yo];exact aa
   ·rw[Qc Yo];exact ab
   ·rw[Qc Yo];exact ac
   ·intro k m x;rcases d k m with h|h
    ·exact t k h.2.2 x
    ·omega
   ·refine H.later (w:=wr) _ (fun k y q Q=> ?_);obtain⟨ad,J⟩:=Q;have E:w1.heap[k]?=wr.heap[k]?:=v.kept.block k Yo (Ai O Yd J);have F:=c.block k Yo (fun h=>by
     rcases h with h|h
     ·exact t k h ⟨y,q⟩
     ·omega)
    exact F.trans E
  ·have L:i=b.length:=by
    have:i<(b++[l]).length:=(Qa.1 hl).1;simp at this;omega
   subst L;simp at hl;subst hl;refine⟨string s,int i64 n,slice ca cl cc,wr.heap.size,w1.heap.size,?_,?_,?_,M,Yo,?_,?_⟩
   ·rw[Qd Yo,r];simp
   ·rw[Qd Yo,r];simp
   ·rw[Qd Yo,r];simp
   ·intro k m x;rcases d k m with h|h<;>omega
   ·refine P.later _ (fun k y q _=>c.block k q (fun h=> ?_));rcases h with h|h
    ·have:=(j k h).2;omega
    ·omega
theorem Ad.drewN{a:World}(h:Ad S a w)(n:Nat):Ad S a (w.drewN n):=⟨h.os,h.tape,h.output,h.size,h.block⟩
def KA(f:Nat):Prop:=∀(w:World)(lo hi:Nat)(a b c:Value)(l:Ly)(B:Nat)(seen:List Nat)(sv:Value),
 DP f w lo hi a b c l->w.ownsRow B 3 1 sv seen.length (AM seen)->B<=w.heap.size->(∀s∈l,s.name.length<=4096)->seen.length+l.length<=4000->
 Calls prog 107 #[.agg #[a,b,c],sv] w fun e w'=>∃sv',e= .returned (.tuple #[.string ⟨(AO f l seen).1.toArray⟩,sv'])/\Ar w B 3 1 sv (AO f l seen).2.1.length (AM (AO f l seen).2.1) sv' w'
theorem VL{seen:List Nat}{n:Nat}(d:k<seen.length)(h:seen[k]=n)(hn:n∉seen.take k):Gm n seen=(CJ k,seen):=by
 have a:n∈seen:=by rw[<-h];exact List.getElem_mem _
 unfold Gm;rw[QQ a]
 congr 2
 have c:seen.idxOf n<=k:=by
  rcases QB k (seen.idxOf n)with hl|hl
  ·have:=List.not_of_lt_findIdx (p:=(· ==n)) (xs:=seen) hl;simp[h]at this
  ·exact hl
 rcases QB (seen.idxOf n) k with hl|hl
 ·exfalso;apply hn;have b:seen.idxOf n<seen.length:=JX a;have:seen[seen.idxOf n]=n:=List.getElem_idxOf b;rw[<-this];rw[List.mem_take_iff_getElem];exact⟨seen.idxOf n,Yo,rfl⟩
 ·omega
theorem Up{seen:List Nat}{n:Nat}(a:¬k<seen.length)(hn:n∉seen.take k):Gm n seen=(CJ seen.length,seen++[n]):=by
 rw[JS Yo]at hn;unfold Gm;rw[QP hn]
theorem Xg{seen:List Nat}{n:Nat}(a:k<seen.length)(h:¬seen[k]=n)(hn:n∉seen.take k):n∉seen.take (k+1):=by
 rw[List.take_succ_eq_append_getElem a];simp only[Qk,JP,not_or];exact⟨hn,fun e=>h e.symm⟩
theorem O1(w:World)(n:Nat)(B:Nat)(seen:List Nat)(s:Value)(r:w.ownsRow B 3 1 s seen.length (AM seen))(I:B<=w.heap.size)(N:seen.length<=3999):
  Calls prog 107 #[agg #[string ⟨#[]⟩,int i64 n,Nl],s] w fun e w'=>∃A,e=Rq #[string ⟨(Gm n seen).1.toArray⟩,A]/\Ar w B 3 1 s (Gm n seen).2.length (AM (Gm n seen).2) A w':=by
 obtain⟨P,Q,rfl⟩:=Ab r;have u:=Yh r;clear r;go_enter func107,ntmps107;go_wp2
 go_loopw [6] (fun i wr=>∃k:Nat,k<=seen.length/\i=int i64 k/\n∉seen.take k/\Ad A4 w wr/\wr.heap[w.heap.size]?=some (.cells #[string ⟨#[]⟩,int i64 n,Nl] 183 (0,0))) (fun i _=>seen.length-(intOf i).toNat)
 case atStart=>exact⟨0,Qm _,rfl,Ys,(Ad.refl _ w).alloc _,QL w _⟩
 case round=>
  obtain⟨k,M,rfl,z,c,p⟩:=hrel;have j:=Yh z;have a:=Yh c;have D:=Yh p;have b:=Yh (c.owns u.o (fun _ _ h=>h));have b1:wr.cell? ⟨w.heap.size,1,none⟩=some (int i64 n):=Aa p 1 _ rfl;have O:=c.size;clear z c p
  by_cases d:k<seen.length
  ·obtain⟨g,G,H,x,J,E,L⟩:=An b.o Yo;simp only[QH]at x;obtain⟨rfl,_,rfl⟩:=x;obtain⟨m,q⟩:=Ex (seen[k]);have K:wr.cell? ⟨g,k,none⟩=some (int i64 m):=Af b.o k _ (by simp[AM,d,q]);have t:=Yh q;clear E q
   cases y:((m:Int)==(n:Int))
   ·have f:¬m=n:=by
     have:=Qu.1 y;omega
    go_wp2_with fail;go_quiet (fail);go_wp2_with fail
    go_roundw
    case rel=>exact⟨k+1,Yo,Yg,Xg d (fun h=>f (t.o.trans h)) j.o,⟨a.o.os,a.o.tape,a.o.output,a.o.size,a.o.block⟩,D.o⟩
    case measure=>simp[intOf];omega
   ·have f:m=n:=by
     have:=eq_of_beq y;omega
    have l:=Yh (VL d (t.o.symm.trans f) j.o);clear f;go_wp2_with fail;go_quiet (fail);go_wp2_with fail;apply(Me k _ Yo).mono;rintro e w' ⟨rfl,rfl⟩;go_wp2_with fail;go_ret2;rw[l.o];exact⟨_,rfl,⟨b.o,(a.o.drewN _).mono (fun _ _ h=>h.elim),QG rfl⟩⟩
  ·have l:=Yh (Up d j.o);go_wp2_with fail;apply(Me seen.length _ Yo).mono;rintro e w' ⟨rfl,rfl⟩
   go_wp2_with (at_builtin;refine Al _ rfl (.tmp 36) (.tmp 39) 25 rfl B 3 infoInt underlying25 rfl Yd _ seen.length (AM seen) rfl b.o _ rfl rfl rfl (DT _) ?_ ?_ ?_)
   ·omega
   ·omega
   intro F w1 v;have C:=Yh v;clear v;go_wp2;go_ret2;rw[l.o];refine⟨F,rfl,?_⟩;have h:=C.o.around (S:=A4) (a.o.mono (fun _ _ h=>h.elim)) (fun k e=>(u.o.lt k e).2) (Ad.refl _ _) (fun _ h=>h.elim) (fun _ _ h=>h);simpa[AM]using h
theorem Oo(w:World)(nm:Lu)(h:nm≠[])(c:Value)(B:Nat)(seen:List Nat)(b:Value)(lo:Nat)(xs:Lv)(d:w.ownsRow lo 183 3 c 0 xs)(a:w.ownsRow B 3 1 b seen.length (AM seen)):
  Calls prog 107 #[agg #[string ⟨nm.toArray⟩,int i64 0,c],b] w fun e w'=>∃f,e=Rq #[string ⟨nm.toArray⟩,f]/\Ar w B 3 1 b seen.length (AM seen) f w':=by
 obtain⟨k,l,rfl⟩:=Ab a;obtain⟨ca,i,rfl⟩:=Ab d;have g:=Yh a;clear a d;have j:nm.isEmpty=false:=by simpa using h
 go_enter func107,ntmps107;go_wp2;go_ret2;exact⟨_,rfl,⟨g.o.alloc _,(Ad.refl _ w).alloc _,QG rfl⟩⟩
theorem OF(f:Nat)(W:KA f)(w:World)(nm:Lu)(aw:nm≠[])(c:Value)(B:Nat)(seen:List Nat)(M:Value)(lo hi:Nat)(xs:Lv)(ls:Ll)(Z:ls≠[])
  (F:w.ownsRow lo 183 3 c ls.length xs) (v:∀(i:Nat)(a:Ly),ls[i]?=some a->∃n p q,xs[i*3]?=some n/\xs[i*3+1]?=some p/\xs[i*3+2]?=some q/\DP f w lo hi n p q a)
  (J:w.ownsRow B 3 1 M seen.length (AM seen)) (bc:B<=w.heap.size) (hn:nm.length<=4096) (ae:∀s∈ls.flatten,s.name.length<=4096) (ay:seen.length+ls.flatten.length<=3999):
  Calls prog 107 #[agg #[string ⟨nm.toArray⟩,int i64 0,c],M] w fun e w'=>∃N,e=Rq #[string ⟨(nm++(BD f 40 ls seen).1++[41]).toArray⟩,N]/\
   Ar w B 3 1 M (BD f 40 ls seen).2.length (AM (BD f 40 ls seen).2) N w':=by
 obtain⟨a1,a2,rfl⟩:=Ab J;obtain⟨g,D,ba,rfl,bh,au,bg⟩:=An F (by cases ls with|nil=>exact absurd rfl Z|cons _ _=>simp);have U:=Yh J;have Q:=Yh F;have an:=Yh v;have am:=Yh W;have be:nm.isEmpty=false:=by simpa using aw
 have bi:(((ls.length:Nat):Int)==0)=false:=by
  rw[Qu]
  cases ls with
  |nil=>exact absurd rfl Z
  |cons _ _=>simp;omega
 have S:YH (∀a∈ls,GT f a):=fun a hl=>by
  obtain⟨i,hi,rfl⟩:=Q8 hl;obtain⟨n,p,q,_,_,_,g⟩:=v i _ (Qb hi);exact g.isT f
 have bf:=HB f ls S.o;have ao:=Yh (Nw f (EK f) ls S.o ae 40 seen Yo);clear J F v W au;go_enter func107,ntmps107;go_wp2
 go_loopw [1,9,10] (fun a5 a6 i wr=>∃(k:Nat)(b:List Nat)(h:Lu),k<=ls.length/\i=int i64 k/\a6=string ⟨(nm++h).toArray⟩/\
   h++(BD f (if k=0 then 40 else 44) (ls.drop k) b).1=(BD f 40 ls seen).1/\(BD f (if k=0 then 40 else 44) (ls.drop k) b).2=(BD f 40 ls seen).2/\
   b.length+(ls.drop k).flatten.length<=3999/\Ar w B 3 1 (slice a1 seen.length a2) b.length (AM b) a5 wr/\
   wr.heap[w.heap.size]?=some (.cells #[string ⟨nm.toArray⟩,int i64 0,slice (some ⟨g,0,none⟩) ls.length D] 183 (0,0))) (fun _ _ i _=>ls.length-(intOf i).toNat)
 case atStart=>exact⟨0,seen,[],Qm _,rfl,Ys,Ys,Ys,by simpa using ay,⟨U.o.alloc _,(Ad.refl _ w).alloc _,QG rfl⟩,QL w _⟩
 case round=>
  obtain⟨k,b,h,v,rfl,rfl,H,ac,ad,r,E⟩:=hrel;obtain⟨a3,a4,rfl⟩:=Ab r.owns;have b2:wr.cell? ⟨w.heap.size,2,none⟩=some (slice (some ⟨g,0,none⟩) ls.length D):=Aa E 2 _ rfl;have bd:h.length<=50000000:=by
   have d:=congrArg List.length H;have j:=ao.o;simp only[Qg]at d;omega
  have l:=Yh r;have z:=Yh E;have A:=Yh H;have C:=Yh ac;have bk:=r.kept.size;clear r E H ac
  by_cases aa:k<ls.length
  ·obtain⟨a,x⟩:∃a,ls[k]?=some a:=⟨_,Qb aa⟩;have G:ls.drop k=a::ls.drop (k+1):=by
    rw[QC aa];rw[(Qa.1 x).2]
   obtain⟨n,p,q,ah,ai,aj,y⟩:=an.o k a x;obtain⟨a0,az,ap,ar,aq,rfl,rfl,rfl⟩:=y.shape;have I:∀(k:Nat),Cz w k->wr.heap[k]?=w.heap[k]?:=fun k K=>by
    obtain⟨bb,Y⟩:=K;exact l.o.kept.block k (Ac Y) (Ai U.o Yd Y)
   have u:wr.ownsRow lo 183 3 (slice (some ⟨g,0,none⟩) ls.length D) ls.length xs:=Aj Q.o (fun k e=>I k (Ay Q.o k e));have ab:DP f wr lo hi _ _ _ a:=y.later f (fun k _ _ K=>I k K);have a7:wr.cell? ⟨g,k*3,none⟩=some (string a0):=Af u _ _ ah;have a8:wr.cell? ⟨g,k*3+1,none⟩=some (int i64 az):=Af u _ _ ai;have a9:wr.cell? ⟨g,k*3+2,none⟩=some (slice ap ar aq):=Af u _ _ aj;have af:∀s∈a,s.name.length<=4096:=fun s ax=>ae s (List.mem_flatten.2 ⟨a,Qh x,ax⟩);have bj:b.length+a.length+(ls.drop (k+1)).flatten.length<=3999:=by
    rw[G]at ad;simp only[Q4,Qg]at ad;omega
   have ag:=EK f a (y.isT f) af b Yo;have bl:(AO f a b).1.length<=50000000:=Yo
   have ak:=Yh (am.o wr lo hi _ _ _ a B b _ ab l.o.owns Yo af Yo);have R:=Yh G;have V:=Yh ag;clear ah ai aj y I u ab G ag x;go_wp2_with fail;apply ak.o.mono;rintro e w1 ⟨N,rfl,t⟩;obtain⟨bm,bn,rfl⟩:=Ab t.owns;have O:=Yh t;have X:=(t.kept.block w.heap.size (Ac z.o) (Ai l.o.owns Yd z.o)).trans z.o;have P:=Yh X;clear t X a7 a8 a9 b2;have T:YH (∀L:UInt8,(⟨(nm++h).toArray⟩:ByteArray)++⟨[L].toArray⟩++⟨(AO f a b).1.toArray⟩=⟨(nm++(h++L::(AO f a b).1)).toArray⟩):=fun L=>by
    rw[AA,AA];simp
   by_cases h0:k=0
   ·have av:((k:Int)==0)=true:=by rw[JF];omega
    have m:YH ((h++40::(AO f a b).1)++(BD f 44 (ls.drop (k+1)) (AO f a b).2.1).1=(BD f 40 ls seen).1/\(BD f 44 (ls.drop (k+1)) (AO f a b).2.1).2=(BD f 40 ls seen).2):=by
     have d:=A.o;have j:=C.o;rw[R.o,QQ h0]at d j;simp only[BD]at d j;exact⟨by rw[<-d];simp,j⟩
    clear h0;go_wp2
    go_roundw
    case rel=>exact⟨k+1,(AO f a b).2.1,h++40::(AO f a b).1,Yo,Yg,by rw[<-T.o 40],by simpa using m.o.1,by simpa using m.o.2,by have:=V.o;omega,l.o.trans O.o,P.o⟩
    case measure=>simp[intOf];omega
   ·have av:((k:Int)==0)=false:=by rw[Qu];omega
    have m:YH ((h++44::(AO f a b).1)++(BD f 44 (ls.drop (k+1)) (AO f a b).2.1).1=(BD f 40 ls seen).1/\(BD f 44 (ls.drop (k+1)) (AO f a b).2.1).2=(BD f 40 ls seen).2):=by
     have d:=A.o;have j:=C.o;rw[R.o,QP h0]at d j;simp only[BD]at d j;exact⟨by rw[<-d];simp,j⟩
    go_wp2
    go_roundw
    case rel=>exact⟨k+1,(AO f a b).2.1,h++44::(AO f a b).1,Yo,Yg,by rw[<-T.o 44],by simpa using m.o.1,by simpa using m.o.2,by have:=V.o;omega,l.o.trans O.o,P.o⟩
    case measure=>simp[intOf];omega
  ·have al:YH ((BD f 40 ls seen)=(h,b)):=by
    have d:=A.o;have j:=C.o;rw[QW Yo]at d j;simp only[BD,Qs]at d j;show _=_;rw[d,j]
   go_wp2;go_ret2;rw[al.o];refine⟨_,?_,l.o⟩;show Ending.returned (tuple #[string ((⟨(nm++h).toArray⟩:ByteArray)++⟨[41].toArray⟩),slice a3 b.length a4])=_;rw[AA]
theorem FV:∀f,KA f:=by
 intro f
 induction f with
 |zero=>intro w lo hi a b c l B seen j h;exact h.elim
 |succ f u=>
  intro w lo hi a b c l B seen j h k q hn e;have A:=h.isT;rcases h with⟨n,rfl,rfl,rfl,rfl⟩|⟨nm,ls,xs,d,rfl,rfl,rfl,o,z,p⟩
  ·have m:AO (f+1) [⟨[],n,0⟩] seen=((Gm n seen).1,(Gm n seen).2,[]):=by simp[AO]
   rw[m];exact O1 w n B seen j k q (by simp at e;omega)
  ·by_cases hl:ls=[]
   ·subst hl;have m:AO (f+1) (⟨nm,0,([]:Ll).length⟩::([]:Ll).flatten) seen=(nm,seen,[]):=by simp[AO,d]
    rw[m];exact Oo w nm d c B seen j lo xs o k
   ·have t:∀r∈ls,GT f r:=fun r hl=>by
     obtain⟨i,hi,rfl⟩:=Q8 hl;obtain⟨v,x,y,_,_,_,g⟩:=p i _ (Qb hi);exact g.isT f
    rw[GF f nm ls d t hl];exact OF f u w nm d c B seen j lo hi xs ls hl o p k q (hn _ (List.mem_cons_self ..)) (fun s e=>hn s (QD _ e)) (by simp at e⊢;omega)
def BQ(f:Nat):Lu->Ll->List Nat->Lu
 |_,[],_=>[]
 |sep,l::ls,seen=>sep++(AO f l seen).1++BQ f [44,32] ls (AO f l seen).2.1
theorem FR(f:Nat):∀(ls:Ll),(∀c∈ls,GT f c)->(∀s∈ls.flatten,s.name.length<=4096)->∀b seen,b.length<=2->seen.length+ls.flatten.length<=4000->(BQ f b ls seen).length<=4101*ls.flatten.length:=by
 intro ls
 induction ls with
 |nil=>intro _ _ b seen _ _;simp[BQ]
 |cons l ls d=>
  intro h hn b seen j a;simp only[Q4,Qg]at a;have e:=EK f l (h l Ys) (fun s a=>hn s (by simp[a])) seen Yo;have g:=d (fun c hl=>h c (by simp[hl])) (fun s a=>hn s (by simp only[Q4,Qk];exact QO a)) [44,32] (AO f l seen).2.1 Ys Yo;have i:=TA f l (h l Ys);simp only[BQ,Qg,Q4];omega
theorem Fa.isT{f:Nat}{lo:Nat}(h:Fa f w lo cv ls xs):∀a∈ls,GT f a:=fun a hl=>by
 obtain⟨i,hi,rfl⟩:=Q8 hl;obtain⟨b,c,d,_,_,_,_,_,_,_,_,g⟩:=h.all i _ (Qb hi);exact g.isT f
theorem LQ(f:Nat)(w:World)(c:Value)(B:Nat)(seen:List Nat)(F:Value)(lo:Nat)(xs:Lv)(ls:Ll)(l:Fa f w lo c ls xs)
  (D:w.ownsRow B 3 1 F seen.length (AM seen)) (a5:B<=w.heap.size) (P:∀s∈ls.flatten,s.name.length<=4096) (am:seen.length+ls.flatten.length<=3999):
  Calls prog 108 #[c,F] w fun e w'=>e=returned (string ⟨(BQ f [] ls seen++[46]).toArray⟩)/\Ad (Ak F) w w':=by
 obtain⟨ar,au,rfl⟩:=Ab D;obtain⟨ca,af,rfl⟩:=Ab l.owns;have I:=Yh D;have n:=Yh l;have aa:=Yh (FV f);have a7:=HB f ls l.isT;have ab:=Yh (FR f ls l.isT P [] seen Ys Yo);clear D l;go_enter func108,ntmps108;go_wp2
 go_loopw [1,5,6] (fun av ax i wr=>∃(k:Nat)(b:List Nat)(h:Lu),k<=ls.length/\i=int i64 k/\ax=string ⟨h.toArray⟩/\
   h++(BQ f (if k=0 then[]else[44,32]) (ls.drop k) b)=BQ f [] ls seen/\
   b.length+(ls.drop k).flatten.length<=3999/\Ar w B 3 1 (slice ar seen.length au) b.length (AM b) av wr) (fun _ _ i _=>ls.length-(intOf i).toNat)
 case atStart=>exact⟨0,seen,[],Qm _,rfl,Ys,Ys,by simpa using am,⟨I.o,Ad.refl _ w,QG rfl⟩⟩
 case round=>
  obtain⟨k,b,h,l,rfl,rfl,A,O,p⟩:=hrel;obtain⟨bd,be,rfl⟩:=Ab p.owns;have a6:h.length<=50000000:=by
   have d:=congrArg List.length A;have a4:=ab.o;simp only[Qg]at d;omega
  have m:=Yh p;have x:=Yh A;have bb:=p.kept.size;clear p A
  by_cases M:k<ls.length
  ·obtain⟨a,r⟩:∃a,ls[k]?=some a:=⟨_,Qb M⟩;have z:ls.drop k=a::ls.drop (k+1):=by
    rw[QC M];rw[(Qa.1 r).2]
   obtain⟨g,a1,a2,L,a9,aj,a8⟩:=An n.o.owns Yo;simp only[QH]at L;obtain⟨rfl,_,rfl⟩:=L;obtain⟨ay,az,a0,S,d,T,U,V,ag,ah,ai,t⟩:=n.o.all k a r;obtain⟨ao,an,ac,ae,ad,rfl,rfl,rfl⟩:=t.shape;have C:∀(k:Nat),Cz w k->wr.heap[k]?=w.heap[k]?:=fun k E=>by
    obtain⟨a3,K⟩:=E;exact m.o.kept.block k (Ac K) (Ai I.o Yd K)
   have q:wr.ownsRow lo 183 3 (slice (some ⟨g,0,none⟩) ls.length af) ls.length xs:=Aj n.o.owns (fun k e=>C k (Ay n.o.owns k e));have N:DP f wr S d _ _ _ a:=t.later f (fun k _ _ E=>C k E);have W:wr.cell? ⟨g,k*3,none⟩=some (string ao):=Af q _ _ T;have X:wr.cell? ⟨g,k*3+1,none⟩=some (int i64 an):=Af q _ _ U;have Y:wr.cell? ⟨g,k*3+2,none⟩=some (slice ac ae ad):=Af q _ _ V;have Q:∀s∈a,s.name.length<=4096:=fun s al=>P s (List.mem_flatten.2 ⟨a,Qh r,al⟩);have ba:b.length+a.length+(ls.drop (k+1)).flatten.length<=3999:=by
    rw[z]at O;simp only[Q4,Qg]at O;omega
   have R:=EK f a (t.isT f) Q b Yo;have bc:(AO f a b).1.length<=50000000:=Yo
   have G:=Yh (aa.o wr S d _ _ _ a B b _ N m.o.owns Yo Q Yo);have H:=Yh z;have J:=Yh R;clear T U V t C q N z R r ag ah ai aj
   by_cases h0:k=0
   ·have ak:¬(0:Int)<(k:Int):=Yo
    have v:YH ((h++(AO f a b).1)++BQ f [44,32] (ls.drop (k+1)) (AO f a b).2.1=BQ f [] ls seen):=by
     have d:=x.o;rw[H.o,QQ h0]at d;simp only[BQ]at d;show _=_;rw[<-d];simp
    have y:=Yh (AA h (AO f a b).1);clear h0;go_wp2_with fail;apply G.o.mono;rintro e w1 ⟨aw,rfl,j⟩;obtain⟨ap,aq,rfl⟩:=Ab j.owns;have u:=Yh j;clear j W X Y;go_wp2
    go_roundw
    case rel=>exact⟨k+1,(AO f a b).2.1,h++(AO f a b).1,Yo,Yg,by rw[<-y.o],by simpa using v.o,by have:=J.o;omega,m.o.trans u.o⟩
    case measure=>simp[intOf];omega
   ·have ak:(0:Int)<(k:Int):=Yo
    have v:YH ((h++[44,32]++(AO f a b).1)++BQ f [44,32] (ls.drop (k+1)) (AO f a b).2.1=BQ f [] ls seen):=by
     have d:=x.o;rw[H.o,QP h0]at d;simp only[BQ]at d;show _=_;rw[<-d];simp
    have y:YH ((⟨h.toArray⟩:ByteArray)++⟨[44,32].toArray⟩++⟨(AO f a b).1.toArray⟩=⟨(h++[44,32]++(AO f a b).1).toArray⟩):=by
     show _=_;rw[AA,AA]
    go_wp2_with fail;apply G.o.mono;rintro e w1 ⟨aw,rfl,j⟩;obtain⟨ap,aq,rfl⟩:=Ab j.owns;have u:=Yh j;clear j W X Y;go_wp2
    go_roundw
    case rel=>exact⟨k+1,(AO f a b).2.1,h++[44,32]++(AO f a b).1,Yo,Yg,by rw[<-y.o],by simpa using v.o,by have:=J.o;omega,m.o.trans u.o⟩
    case measure=>simp[intOf];omega
  ·have Z:YH (BQ f [] ls seen=h):=by
    have d:=x.o;rw[QW Yo]at d;simp only[BQ,Qs]at d;exact d.symm
   go_wp2;go_ret;rw[Z.o];exact⟨DS (AA h [46]),m.o.kept⟩
theorem UQ(f:Nat)(aq:O6 f)(w:World)(ts:List BV)(k:Nat)(tv:Value)(Y B:Nat)(names:At)(nv:Value)(t u:BV)(r:List BV)(q:Ll×List BV×At)
  (hd:ts.drop k=t::u::r) (c5:t.kind≠2) (bq:u.kind=40) (az:Cy (Bo f) (r.length+1) (u::r) names []=some q) (V:w.ownsRow Y 243 3 tv ts.length (AP ts))
  (U:w.ownsRow B 9 1 nv names.length (Ba names)) (cq:B<=w.heap.size) (hl:ts.length<=1000) (hn:names.length+(ts.length-k)<=1000) (bx:∀t∈ts,t.text.length<=4096)
  (bs:t.text≠[]) (bw:∀i t,ts[i]?=some t->i+1<ts.length->t.text≠[]):
  Calls prog 143 #[tv,int i64 k,nv] w fun e w'=>∃a b c aj j,e=Rq #[agg #[a,b,c],int i64 (j:Nat),aj]/\q.2.1=ts.drop j/\k<j/\j<=ts.length/\
   DP (f+1) w' w.heap.size w'.heap.size a b c (⟨t.text,0,q.1.length⟩::q.1.flatten)/\Ar w B 9 1 nv q.2.2.length (Ba q.2.2) aj w':=by
 obtain⟨a1,ag,m⟩:=Et hd;obtain⟨a2,bv,c2⟩:=Et ag;obtain⟨g,a7,rfl,cv,b9,cb,cd⟩:=GD V a1;obtain⟨bm,ce,G,cw,a8,cf,cg⟩:=GD V a2;simp only[QH,Qo,Addr.mk.injEq]at G;obtain⟨⟨rfl,_⟩,_,rfl⟩:=G;have de:((t.kind:Int)==2)=false:=by rw[Qu];omega
 rw[bq]at a8;have bg:YH (Cy (Bo f) (r.length+1) (ts.drop (k+1)) names []=some q):=by show _=_;rw[ag];exact az
 have Z:=Yh U;have ap:=Yh V;have bf:=Yh aq;have bb:YH (∀o a6,Ar w B 9 1 nv names.length (Ba names) nv ((w.alloc o).alloc a6)):=fun o a6=>⟨(U.alloc _).alloc _,((Ad.refl _ w).alloc _).alloc _,QG rfl⟩;obtain⟨na,b8,rfl⟩:=Ab U;clear hd V U a1 ag a2 bv az aq cf cg;go_enter func143,ntmps143;go_wp2
 go_loopg [1,2] (r.length+1) (fun gk i nm wr=>∃(j:Nat)(y:At)(d:Ll)(ab:Value)(xs:Lv),i=int i64 (j:Nat)/\k<j/\j<=ts.length/\d.length<=j/\y.length+(ts.length-j)<=1000/\
   Cy (Bo f) gk (ts.drop j) y d=some q/\wr.heap[w.heap.size]?=some (.cells #[string ⟨#[]⟩,int i64 0,Nl] 183 (0,0))/\
   wr.heap[w.heap.size+1]?=some (.cells #[string ⟨t.text.toArray⟩,int i64 0,ab] 183 (0,0))/\Fa f wr (w.heap.size+2) ab d xs/\w.heap.size+2<=wr.heap.size/\
   Ar w B 9 1 (slice na names.length b8) y.length (Ba y) nm wr)
 case atStart=>
  exact⟨k+1,names,[],Nl,[],Yg,Yo,Yo,Ys,Yo,bg.o,Ah (QL w _) _,by simpa using QL (w.alloc _) _,Fa.nil _ _ _,Ys,bb.o _ _⟩
 case round=>
  obtain⟨j,y,d,ab,xs,rfl,c6,c1,cr,c8,l,z,A,H,db,C⟩:=hrel;have I:=C.owns;obtain⟨a4,a5,rfl⟩:=Ab I;have W:wr.ownsRow Y 243 3 (slice (some ⟨g,0,none⟩) ts.length a7) ts.length (AP ts):=C.kept.owns ap.o (fun k m=>by
   obtain⟨av,E⟩:=Ay ap.o k m;exact Ai Z.o Yd E)
  cases F:ts.drop j with
  |nil=>rw[F]at l;cases gk<;>simp[Cy]at l
  |cons x ak=>
   obtain⟨ai,K,dc⟩:=Et F;obtain⟨bm,ce,G,cx,ch,_,_⟩:=GD W ai;simp only[QH,Qo,Addr.mk.injEq]at G;obtain⟨⟨rfl,_⟩,_,rfl⟩:=G;obtain⟨p,s,rfl⟩:=Ab H.owns;have b5:wr.cell? ⟨w.heap.size+1,0,none⟩=some (string ⟨t.text.toArray⟩):=Aa A 0 _ rfl;have b6:wr.cell? ⟨w.heap.size+1,1,none⟩=some (int i64 0):=Aa A 1 _ rfl;have b7:wr.cell? ⟨w.heap.size+1,2,none⟩=some (slice p d.length s):=Aa A 2 _ rfl
   cases gk with
   |zero=>simp[Cy]at l
   |succ gk=>
    rw[F,Cy]at l
    by_cases ad:x.kind=41
    ·rw[QQ ad]at l;simp only[Qo]at l;have b2:wr.cell? ⟨w.heap.size,0,none⟩=some (string ⟨#[]⟩):=Aa z 0 _ rfl;have b3:wr.cell? ⟨w.heap.size,1,none⟩=some (int i64 0):=Aa z 1 _ rfl;have b4:wr.cell? ⟨w.heap.size,2,none⟩=some Nl:=Aa z 2 _ rfl;have cm:=fun i=>Ag z i;have bz:((x.kind:Int) !=41)=false:=by rw[ad];rfl
     have n:=Yh H;have M:=Yh C;have bi:=Yh K;have aa:=Yh l;have L:=Yh z;clear H C K l F ai z A I W;go_wp2;refine Jb (v:=tuple #[agg #[string ⟨t.text.toArray⟩,int i64 0,slice p d.length s],int i64 ((j+1:Nat):Int),slice a4 y.length a5]) (by simp[results,results143,go_sem,b2,b3,b4,cm]) rfl ?_;have T:=(((Ad.refl (only w.heap.size) wr).put 0 (string ⟨t.text.toArray⟩)).put 1 (int i64 0)).put 2 (slice p d.length s);have da:=T.size;rw[<-aa.o];refine⟨_,_,_,_,j+1,rfl,bi.o.symm,Yo,Yo,QO ⟨t.text,d,xs,bs,rfl,rfl,rfl,?_,?_,?_⟩,?_⟩
     ·refine AI (T.owns n.o.owns (fun k m e=> ?_)) Yo;have e:k=w.heap.size:=e;have:=(n.o.owns.lt k m).1;omega
     ·intro k m;have:=(n.o.owns.lt k m).2;omega
     ·intro i b0 br;obtain⟨bj,bk,bl,df,ac,ci,cj,ck,cn,co,cp,bo⟩:=n.o.all i b0 br;refine⟨bj,bk,bl,ci,cj,ck,(DP.later f bo (fun k c3 c4 _=>T.block k Yo (fun e=> ?_))).wide f Yo Yo⟩;have e:k=w.heap.size:=e;omega
     ·refine M.o.around (Ad.refl _ w) (fun k e=>(Z.o.lt k e).2) T (fun k e=>Nat.le_of_eq (Eq.symm e)) ?_;intro k m e;have e:k=w.heap.size:=e;subst e;exact Ai M.o.owns Yd L.o m
    ·rw[QP ad]at l
     cases J:Bo f ak y with
     |none=>rw[J]at l;simp at l
     |some X=>
      rw[J]at l;simp only at l;obtain⟨nb,cs,ct,ax,cu⟩:=Di f ak y X J;have ae:=bf.o wr ts (j+1) (slice (some ⟨g,0,none⟩) ts.length a7) Y B y (slice a4 y.length a5) X (by rw[K];exact J) W I Yo hl Yo bx bw;rw[show((j+1:Nat):Int)=(j:Int)+1 from by omega]at ae;have bz:((x.kind:Int) !=41)=true:=by rw[QR];omega
      have a9:=Yh ae;have n:=Yh H;have M:=Yh C;have aa:=Yh l;have L:=Yh z;have al:=Yh A;have P:=Yh I;have dd:ak.length=ts.length-(j+1):=by rw[<-K];simp
      have bd:=Yh ax;clear H C l F ai z A I W ae J K ax;go_wp2_with fail;apply a9.o.mono;rintro e w1 ⟨a,b,c,aj,a3,rfl,a0,cy,cz,ah,D⟩;obtain⟨dk,bn,ca,cl,cc,rfl,rfl,rfl⟩:=ah.shape;obtain⟨dg,dh,rfl⟩:=Ab D.owns;have Q:w1.heap[w.heap.size+1]?=some (.cells #[string ⟨t.text.toArray⟩,int i64 0,slice p d.length s] 183 (0,0)):=(D.kept.block _ Yo (Ai P.o Yd al.o)).trans al.o;have aw:=(D.kept.block _ Yo (Ai P.o Yd L.o)).trans L.o;have ay:w1.ownsRow (w.heap.size+2) 183 3 (slice p d.length s) d.length xs:=D.kept.owns n.o.owns (fun k m=>by
       obtain⟨av,E⟩:=Ay n.o.owns k m;exact Ai P.o Yd E)
      have b1:w1.cell? ⟨w.heap.size+1,2,none⟩=some (slice p d.length s):=Aa Q 2 _ rfl;have c7:w.heap.size+1<w1.heap.size:=Ac Q;have an:=Yh ay;have am:=Yh Q;have ba:=Yh aw;have bh:=Yh ah;have O:=Yh D;have ao:=Yh a0;clear ay Q aw ah D a0 b5 b6 b7 ch b9 cb cd a8
      go_wp2_with (at_builtin;refine Al _ rfl (.tmp 69) (.tmp 71) 146 rfl (w.heap.size+2) 183 infoTerm underlying146 rfl Yd _ d.length xs rfl (an.o.alloc _) _ rfl Ys rfl Gu ?_ ?_ ?_)
      ·omega
      ·simp;omega
      intro cv' w3 R;obtain⟨ar,au,rfl⟩:=Ab R.owns;have bt:¬Ak (slice p d.length s) (w.heap.size+1):=fun e=>by have:=(n.o.owns.lt _ e).1;omega
      have bu:¬Ak (slice p d.length s) w.heap.size:=fun e=>by have:=(n.o.owns.lt _ e).1;omega
      have S:w3.heap[w.heap.size+1]?=some (.cells #[string ⟨t.text.toArray⟩,int i64 0,slice p d.length s] 183 (0,0)):=(R.kept.block _ Yp bt).trans (Ah am.o _);have di:w3.cell? ⟨w.heap.size+1,2,none⟩=some (slice p d.length s):=Aa S 2 _ rfl;have dj:=fun i=>Ag S i;have be:=Yh S;have bc:=Yh R;clear S R b1;go_wp2
      go_roundg gk
      case measure=>omega
      case rel=>
       obtain⟨bp,af⟩:=n.o.step (N:=w.heap.size+1) Yo Yo P.o O.o bh.o bc.o (slice ar (d.length+1) au);have c9:=af.size;have c0:a3=j+1+nb:=by
        have ac:=congrArg List.length ao.o;rw[bd.o]at ac;simp only[JI]at ac;omega
       refine⟨a3,X.2.2,d++[X.1],slice ar (d.length+1) au,_,rfl,Yo,Yo,by simp;omega,Yo,by rw[<-ao.o];exact aa.o,?_,?_,bp,Yo,?_⟩
       ·refine(af.block _ Yo (fun h=> ?_)).trans ba.o;rcases h with h|h
        ·exact bu h
        ·omega
       ·exact Ae be.o 2 _
       ·refine(M.o.trans O.o).around (Ad.refl _ w) (fun k e=>(Z.o.lt k e).2) af (fun k h=> ?_) (fun k m h=> ?_)
        ·rcases h with h|h
         ·have:=(n.o.owns.lt k h).1;omega
         ·omega
        ·rcases h with h|h
         ·obtain⟨av,E⟩:=Ay an.o k h;exact Ai O.o.owns Yd E m
         ·subst h;exact Ai O.o.owns Yd am.o m
theorem PY:∀f,O6 f:=by
 intro f
 induction f with
 |zero=>intro w ts k tv b B names nv r h;simp[Bo]at h
 |succ f v=>
  intro w ts k tv b B names nv r h g e d hl hn l j
  cases hd:ts.drop k with
  |nil=>rw[hd]at h;simp[Bo]at h
  |cons t m=>
   rw[hd,Bo]at h
   by_cases a:t.kind=2
   ·rw[QQ a]at h;simp only[Qo]at h;subst h;exact WB f w ts k tv b B names nv t m hd a g e d hl hn l
   ·rw[QP a]at h
    cases m with
    |nil=>simp[FF]at h
    |cons u n=>
     obtain⟨s,p,x⟩:=Et hd;obtain⟨_,_,y⟩:=Et p;have i:=j k t s Yo;rw[FF]at h
     by_cases c:u.kind=40
     ·rw[QP (by simp[c])]at h;rw[JH]at h;obtain⟨q,o,rfl⟩:=h;exact UQ f v w ts k tv b B names nv t u n q hd a c o g e d hl hn l i j
     ·rw[QQ c]at h;simp only[Qo]at h;subst h;exact Uq f w ts k tv b B names nv t u n hd a c g e d hl i
theorem Fa.step0{f:Nat}{w3:World}{lo:Nat}{x V cv':Value}{R S:Nat}{T U:Lv}{a:Ll}{n:Int}{ca:Oa}{cl cc:Nat}{o:Obj}
  (b:Fa f wr lo cv a xs) (K:lo<=wr.heap.size) (L:wr.ownsRow B 9 1 x R T) (r:Ar wr B 9 1 x S U V w1)
  (M:DP f w1 wr.heap.size w1.heap.size (string s) (int i64 n) (slice ca cl cc) l) (ha:Ar (w1.alloc o) lo 183 3 cv (a.length+1) (xs++[string s,int i64 n,slice ca cl cc]) cv' w3):
  Fa f w3 lo cv' (a++[l]) (xs++[string s,int i64 n,slice ca cl cc])/\Ad (Ak cv) w1 w3:=by
 have d:∀k,cv.ownBlock=some k->lo<=k/\k<wr.heap.size:=b.owns.lt;have O:Ad (Ak cv) w1 w3:=((Ad.refl _ w1).alloc o).then ha.kept (fun _ _ e=>e)
 have c:=O;have t:∀k,cv'.ownBlock=some k->(lo<=k/\k<wr.heap.size/\cv.ownBlock=some k)\/w1.heap.size<k:=by
  intro k b;rcases ha.where_ with h|⟨g,h,I⟩
  ·rw[b]at h;exact QG ⟨(d k h.symm).1,(d k h.symm).2,h.symm⟩
  ·rw[b]at h;simp at h I;exact QO Yo
 have p:xs.length=a.length*3:=b.owns.1;have ab:w1.heap.size<=w3.heap.size:=c.size;have ac:=r.kept.size;refine⟨⟨?_,?_⟩,c⟩
 ·have:=ha.owns;simpa using this
 ·intro i P hl;rcases QB i a.length with hi|hi
  ·rw[Qc hi]at hl;obtain⟨y,z,A,Q,G,W,X,Y,E,aa,q,F⟩:=b.all i P hl;refine⟨y,z,A,Q,G,?_,?_,?_,E,Yo,?_,?_⟩
   ·rw[Qc Yo];exact W
   ·rw[Qc Yo];exact X
   ·rw[Qc Yo];exact Y
   ·intro k j u;rcases t k j with h|h
    ·exact q k h.2.2 u
    ·omega
   ·refine F.later (w:=wr) _ (fun k v m N=> ?_);obtain⟨Z,H⟩:=N;have C:w1.heap[k]?=wr.heap[k]?:=r.kept.block k Yo (Ai L Yd H);have D:=c.block k Yo (fun h=>q k h ⟨v,m⟩);exact D.trans C
  ·have J:i=a.length:=by
    have:i<(a++[l]).length:=(Qa.1 hl).1;simp at this;omega
   subst J;simp at hl;subst hl;refine⟨string s,int i64 n,slice ca cl cc,wr.heap.size,w1.heap.size,?_,?_,?_,K,Yo,?_,?_⟩
   ·rw[Qd Yo,p];simp
   ·rw[Qd Yo,p];simp
   ·rw[Qd Yo,p];simp
   ·intro k j u;rcases t k j with h|h<;>omega
   ·refine M.later _ (fun k v m _=>c.block k m (fun h=> ?_));have:=(d k h).2;omega
def BG(f:Nat):Nat->List BV->At->Ll->Option (Ll×List BV×At)
 |0,_,_,_=>none
 |g+1,ts,names,acc=>
  match Bo f ts names with
  |none=>none
  |some r=>
   match r.2.1 with
   |[]=>none
   |x::rest=>if x.kind=46 then some (acc++[r.1],rest,r.2.2)else BG f g rest r.2.2 (acc++[r.1])
theorem Nr(f P:Nat)(w:World)(ts:List BV)(k:Nat)(tv:Value)(u B:Nat)(names:At)(nv:Value)(q:Ll×List BV×At)
  (al:BG f P (ts.drop k) names []=some q) (V:w.ownsRow u 243 3 tv ts.length (AP ts)) (G:w.ownsRow B 9 1 nv names.length (Ba names)) (bh:B<=w.heap.size)
  (hl:ts.length<=1000) (hn:names.length+(ts.length-k)<=1000) (a8:∀t∈ts,t.text.length<=4096) (a7:∀i t,ts[i]?=some t->i+1<ts.length->t.text≠[]):
  Calls prog 144 #[tv,int i64 k,nv] w fun e w'=>∃I X j xs,e=Rq #[I,int i64 (j:Nat),X]/\q.2.1=ts.drop j/\k<j/\j<=ts.length/\
   Fa f w' w.heap.size I q.1 xs/\Ar w B 9 1 nv q.2.2.length (Ba q.2.2) X w':=by
 have aa:=Yh al;have Z:=Yh G;have ac:=Yh V;have ay:=Yh (PY f);have aw:YH (Ar w B 9 1 nv names.length (Ba names) nv w):=⟨G,Ad.refl _ w,QG rfl⟩;obtain⟨na,aq,rfl⟩:=Ab G;obtain⟨K,J,rfl⟩:=Ab V;clear V G al;go_enter func144,ntmps144;go_wp2
 go_loopg [1,2,9] P (fun gk i nm I wr=>∃(j:Nat)(p:At)(m:Ll)(xs:Lv),i=int i64 (j:Nat)/\k<=j/\j<=ts.length/\m.length<=j/\p.length+(ts.length-j)<=1000/\
   BG f gk (ts.drop j) p m=some q/\Fa f wr w.heap.size I m xs/\w.heap.size<=wr.heap.size/\
   Ar w B 9 1 (slice na names.length aq) p.length (Ba p) nm wr)
 case atStart=>
  rcases QB ts.length k with l|l
  ·exfalso;have h:=aa.o;rw[QW Yo]at h
   cases P<;>cases f<;>simp[BG,Bo]at h
  ·exact⟨k,names,[],[],rfl,Yo,Yo,Ys,Yo,aa.o,Fa.nil _ _ _,Yo,aw.o⟩
 case round=>
  obtain⟨j,p,m,xs,rfl,bq,bp,bi,br,r,S,bt,D⟩:=hrel;have H:=D.owns;obtain⟨a9,ba,rfl⟩:=Ab H;obtain⟨a3,a4,rfl⟩:=Ab S.owns;have W:wr.ownsRow u 243 3 (slice K ts.length J) ts.length (AP ts):=D.kept.owns ac.o (fun k l=>by
   obtain⟨C,n⟩:=Ay ac.o k l;exact Ai Z.o Yd n)
  cases gk with
  |zero=>simp[BG]at r
  |succ gk=>
   rw[BG]at r
   cases v:Bo f (ts.drop j) p with
   |none=>rw[v]at r;simp at r
   |some d=>
    rw[v]at r;simp only at r;obtain⟨nb,bj,a5,ai,bk⟩:=Di f _ p d v;simp only[JI]at a5;have au:=Yh (ay.o wr ts j (slice K ts.length J) u B p (slice a9 p.length ba) d v W H Yo hl Yo a8 a7);have A:=Yh S;have av:=Yh D;have a0:=Yh r;have O:=Yh H;have ae:=Yh W;have ax:=Yh ai;clear S D r H W v ai;go_wp2_with fail;apply au.o.mono;rintro e w1 ⟨a,b,c,X,z,rfl,U,bm,bo,T,s⟩;obtain⟨bx,bn,ca,cl,cc,rfl,rfl,rfl⟩:=T.shape;obtain⟨bb,bc,rfl⟩:=Ab s.owns;have aj:w1.ownsRow w.heap.size 183 3 (slice a3 m.length a4) m.length xs:=s.kept.owns A.o.owns (fun k l=>by
     obtain⟨C,n⟩:=Ay A.o.owns k l;exact Ai O.o Yd n)
    have am:w1.ownsRow u 243 3 (slice K ts.length J) ts.length (AP ts):=s.kept.owns ae.o (fun k l=>by
     obtain⟨C,n⟩:=Ay ae.o k l;exact Ai O.o Yd n)
    have bu:=s.kept.size;have F:z=j+nb:=by
     have ag:=congrArg List.length U;rw[ax.o]at ag;simp only[JI]at ag;omega
    have N:=Yh aj;have ad:=Yh am;have a1:=Yh T;have M:=Yh s;have a2:=Yh U;have az:=Yh F;clear aj T s U am F
    go_wp2_with (at_builtin;refine Al _ rfl (.tmp 21) (.tmp 23) 146 rfl w.heap.size 183 infoTerm underlying146 rfl Yd _ m.length xs rfl (N.o.alloc _) _ rfl Ys rfl Gu ?_ ?_ ?_)
    ·omega
    ·simp;omega
    intro cv' w3 R;obtain⟨be,bf,rfl⟩:=Ab R.owns;have y:=A.o.step0 Yo O.o M.o a1.o R;have ah:Ar w B 9 1 (slice na names.length aq) d.2.2.length (Ba d.2.2) (slice bb d.2.2.length bc) w3:=by
     refine(av.o.trans M.o).around (Ad.refl _ w) (fun k e=>(Z.o.lt k e).2) y.2 (fun k h=>(A.o.owns.lt k h).1) (fun k l h=> ?_);obtain⟨C,n⟩:=Ay N.o k h;exact Ai M.o.owns Yd n l
    have an:w3.ownsRow u 243 3 (slice K ts.length J) ts.length (AP ts):=y.2.owns ad.o (fun k l=>by
     obtain⟨C,n⟩:=Ay ad.o k l;exact Ai N.o Yd n)
    have g:=a0.o;rw[a2.o]at g;have bs:=y.2.size;have F:=az.o
    cases E:ts.drop z with
    |nil=>rw[E]at g;simp at g
    |cons x ar=>
     rw[E]at g;simp only at g;obtain⟨ao,ap,bv⟩:=Et E;obtain⟨bg,bz,ak,bl,bd,_,_⟩:=GD an ao;simp only[QH]at ak;obtain⟨rfl,_,rfl⟩:=ak;have ab:=Yh y;have Y:=Yh ah;have af:=Yh ap;have a6:d.2.2.length+(ts.length-(z+1))<=1000:=Yo
     clear R y ah an E ao ap F
     by_cases Q:x.kind=46
     ·have L:YH ((m++[d.1],ar,d.2.2)=q):=by rw[QQ Q]at g;show _=_;simpa using g
      clear g;rw[Q]at bd;go_wp2;go_ret3;rw[<-L.o];exact⟨_,_,z+1,_,Yg,af.o.symm,Yo,Yo,ab.o.1,Y.o⟩
     ·have L:YH (BG f gk ar d.2.2 (m++[d.1])=some q):=by rw[QP Q]at g;exact g
      have bw:((x.kind:Int)==46)=false:=by rw[Qu];omega
      clear g;go_wp2
      go_roundg gk
      case measure=>omega
      case rel=>exact⟨z+1,d.2.2,m++[d.1],_,Yg,Yo,Yo,by simp;omega,a6,by rw[af.o];exact L.o,ab.o.1,Yo,Y.o⟩
theorem Lo(f:Nat):∀(l:Lu)(p:Nat),(Gh f l p).length<=l.length/\∀t∈Gh f l p,t.text≠[]/\t.text.length<=l.length:=by
 induction f with
 |zero=>intro l p;exact⟨by simp[Gh],fun t a=>by simp[Gh]at a⟩
 |succ f b=>
  intro l p
  cases l with
  |nil=>exact⟨by simp[Gh],fun t a=>by simp[Gh]at a⟩
  |cons c r=>
   rw[Gh];split
   ·have h:=b r (p+1);exact⟨by simp;omega,fun t a=>⟨(h.2 t a).1,by have:=(h.2 t a).2;simp;omega⟩⟩
   ·have h:=b (r.drop (A5 c r).2) (p+(A5 c r).2+1);simp only[JI]at h;refine⟨by simp;omega,fun t a=> ?_⟩;simp only[Qp]at a;rcases a with rfl|a
    ·exact⟨Ys,by simp;omega⟩
    ·exact⟨(h.2 t a).1,by have:=(h.2 t a).2;simp;omega⟩
theorem VP(l:Lu)(p:Nat):(CZ l p).length<=l.length:=(Lo _ l p).1
theorem M5(l:Lu)(p:Nat):∀t∈CZ l p,t.text≠[]/\t.text.length<=l.length:=(Lo _ l p).2
def Ap(s:ByteArray):List BV:=CZ s.data.toList 0++[⟨4,[],s.size⟩]
theorem BM(s:ByteArray):(Ap s).length<=s.size+1:=by
 have:=VP s.data.toList 0;simp[Ap]at this⊢;exact this
theorem Cu(s:ByteArray):∀t∈Ap s,t.text.length<=s.size:=by
 intro t a;simp only[Ap,Qk,JP]at a;rcases a with a|rfl
 ·have:=(M5 _ _ t a).2;simpa using this
 ·simp
theorem GI(s:ByteArray):∀i t,(Ap s)[i]?=some t->i+1<(Ap s).length->t.text≠[]:=by
 intro i t a hi;simp only[Ap,Qg,Qn]at hi;rw[Ap,Qc Yo]at a;exact(M5 _ _ t (Qh a)).1
theorem G2(s:ByteArray)(w:World)(d:s.size<=800):
  Calls prog 141 #[string s] w fun e w'=>∃v,e=returned v/\Below w.heap.size w w'/\w'.ownsRow w.heap.size 243 3 v (Ap s).length (AP (Ap s)):=by
 apply(RZ s w Yo).mono;rintro e w' ⟨v,a,b,c⟩;refine⟨v,a,b,?_⟩;simpa[Ap]using c
theorem L7(w:World)(a:Nat)(s:ByteArray)(v:Value)(d:s.size<=800)(c:w.ownsRow a 243 3 v (Ap s).length (AP (Ap s))):
  Calls prog 142 #[v,.bool true] w fun e w'=>
   e=Rq #[int i64 (Bb (Ap s) (AD true)).1,int i64 (Bb (Ap s) (AD true)).2]/\Below w.heap.size w w':=
 Rx true w a _ v c (by have:=BM s;omega) (fun t b=>by have:=Cu s t b;omega)
theorem I2(w:World)(a:Nat)(s:ByteArray)(v:Value)(d:s.size<=800)(c:w.ownsRow a 243 3 v (Ap s).length (AP (Ap s))):
  Calls prog 142 #[v,.bool false] w fun e w'=>
   e=Rq #[int i64 (Bb (Ap s) (AD false)).1,int i64 (Bb (Ap s) (AD false)).2]/\Below w.heap.size w w':=
 Rx false w a _ v c (by have:=BM s;omega) (fun t b=>by have:=Cu s t b;omega)
theorem LU(h:Below B w w'){base:Nat}{e:TypeId}{size:Nat}{v:Value}{n:Nat}{xs:Lv}(a:w.ownsRow base e size v n xs)(b:w.heap.size<=B):w'.ownsRow base e size v n xs:=
 Aj a (fun k c=>h.block k (JM (a.lt k c).2 b))
theorem HQ(s:ByteArray)(w:World)(a:s.size<=maxLen)(b:120<s.size):
  Calls prog 110 #[string s] w fun e w'=>e=Rq #[agg #[Nl,Nl],int i64 1,int i64 0]/\Below w.heap.size w w':=by
 unfold maxLen at a;go_enter func110,ntmps110;go_wp2;exact Jb (v:=tuple #[agg #[Nl,Nl],int i64 1,int i64 0]) (by simp[results,results110,go_sem]) rfl ⟨rfl,(Jc _ _).alloc (Qe _) _⟩
theorem Im(s:ByteArray)(w:World)(q:s.size<=120)(m:(Bb (Ap s) (AD true)).1≠0):
  Calls prog 110 #[string s] w fun e w'=>e=Rq #[agg #[Nl,Nl],int i64 (Bb (Ap s) (AD true)).1,int i64 (Bb (Ap s) (AD true)).2]/\Below w.heap.size w w':=by
 have n:(((Bb (Ap s) (AD true)).1:Int) !=0)=true:=by rw[QR];omega
 go_enter func110,ntmps110;go_wp2_with fail;apply(G2 s _ Yo).mono;rintro e w1 ⟨v,rfl,d,f⟩;have h:=Yh f;have b:=Yh d;clear f d;go_wp2_with fail;apply(L7 w1 _ s v Yo h.o).mono;rintro e w2 ⟨rfl,c⟩;have r:w.heap.size+1<=w1.heap.size:=by have:=b.o.size;simpa using this
 have a:w2.heap[w.heap.size]?=some (.cells #[Nl,Nl] 148 (0,0)):=
  (c.block w.heap.size Yo).trans ((b.o.block w.heap.size Ys).trans (QL w _))
 have j:w2.cell? ⟨w.heap.size,0,none⟩=some Nl:=Aa a 0 _ rfl;have k:w2.cell? ⟨w.heap.size,1,none⟩=some Nl:=Aa a 1 _ rfl;have l:=fun i=>Ag a i;have g:=Yh c;clear a c;go_wp2;refine Jb (v:=tuple #[agg #[Nl,Nl],int i64 (Bb (Ap s) (AD true)).1,int i64 (Bb (Ap s) (AD true)).2]) (by simp[results,results110,go_sem,j,k,l]) rfl ⟨rfl,?_⟩;refine Below.setCell (Below.setCell ?_ (p:=⟨w.heap.size,0,none⟩) (Qe _) _) (p:=⟨w.heap.size,1,none⟩) (Qe _) _;exact(((Jc _ w).alloc (Qe _) _).trans (b.o.mono Ys)).trans (g.o.mono Yo)
theorem IY(s:ByteArray)(w:World)(q:Ll×List BV×At)(af:s.size<=120)(M:(Bb (Ap s) (AD true)).1=0)(N:BG 1000 1000 (Ap s) [] []=some q):
  Calls prog 110 #[string s] w fun e w'=>∃r nv lo xs,e=Rq #[agg #[r,nv],int i64 0,int i64 0]/\w.heap.size<lo/\lo<=w'.heap.size/\Fa 1000 w' lo r q.1 xs/\
   w'.ownsRow lo 9 1 nv q.2.2.length (Ba q.2.2)/\Below w.heap.size w w':=by
 have aa:(((Bb (Ap s) (AD true)).1:Int) !=0)=false:=by rw[M];rfl
 have Z:=BM s;go_enter func110,ntmps110;go_wp2_with fail;apply(G2 s _ Yo).mono;rintro e w1 ⟨v,rfl,x,y⟩;have u:=Yh y;have g:=Yh x;clear y x;go_wp2_with fail;apply(L7 w1 _ s v Yo u.o).mono;rintro e w2 ⟨rfl,b⟩;have ah:w.heap.size+1<=w1.heap.size:=by have:=g.o.size;simpa using this
 have ai:=b.size;have D:=Yh (LU b u.o (Qe _));have C:YH (w2.heap[w.heap.size]?=some (.cells #[Nl,Nl] 148 (0,0))):=
  (b.block w.heap.size Yo).trans ((g.o.block w.heap.size Ys).trans (QL w _))
 have B:=Yh b;clear b;go_wp2_with fail;refine(Nr 1000 1000 w2 (Ap s) 0 v _ w2.heap.size [] Nl q N D.o (Q2 _ _ _ _) (Qe _) Yo Yp (fun t P=>by have:=Cu s t P;omega) (GI s)).mono ?_;rintro e w3 ⟨r,nv,j,xs,rfl,O,ab,ac,n,a⟩;obtain⟨la,z,rfl⟩:=Ab n.owns;obtain⟨na,A,rfl⟩:=Ab a.owns;have aj:=a.kept.size;have c:=(a.kept.block w.heap.size Yo (fun h=>by simp[Ak,Value.ownBlock]at h)).trans C.o;have V:w3.cell? ⟨w.heap.size,0,none⟩=some Nl:=Aa c 0 _ rfl;have W:w3.cell? ⟨w.heap.size,1,none⟩=some Nl:=Aa c 1 _ rfl;have X:=fun i=>Ag c i;have l:=Yh n;have f:=Yh a;clear c n a O;go_wp2;refine Jb (v:=tuple #[agg #[slice la q.1.length z,slice na q.2.2.length A],int i64 0,int i64 0]) (by simp[results,results110,go_sem,V,W,X]) rfl ?_;have d:=((Ad.refl (only w.heap.size) w3).put 0 (slice la q.1.length z)).put 1 (slice na q.2.2.length A);have ag:=d.size;have L:Below w2.heap.size w2 w3:=f.o.kept.below (Qe _) (fun k h=>by simp[Ak,Value.ownBlock]at h);refine⟨_,_,w2.heap.size,xs,rfl,Yo,Yo,?_,?_,?_⟩
 ·refine⟨d.owns l.o.owns (fun k m e=> ?_),fun i Q hl=> ?_⟩
  ·have e:k=w.heap.size:=e;have:=(l.o.owns.lt k m).1;omega
  ·obtain⟨E,F,G,R,K,S,T,U,H,Y,I,J⟩:=l.o.all i Q hl;refine⟨E,F,G,R,K,S,T,U,H,Yo,I,DP.later 1000 J (fun k ad ae _=>d.block k Yo (fun e=> ?_))⟩;have e:k=w.heap.size:=e;omega
 ·refine d.owns f.o.owns (fun k m e=> ?_);have e:k=w.heap.size:=e;have:=(f.o.owns.lt k m).1;omega
 ·refine Below.setCell (Below.setCell ?_ (p:=⟨w.heap.size,0,none⟩) (Qe _) _) (p:=⟨w.heap.size,1,none⟩) (Qe _) _;exact((((Jc _ w).alloc (Qe _) _).trans (g.o.mono Ys)).trans (B.o.mono Yo)).trans (L.mono Yo)
def L3:ByteArray:=⟨#[48,49,50,51,52,53,54,55,56,57]⟩
theorem Sk(c:UInt8):Ey c CT=decide (97<=c.toNat/\c.toNat<=122):=by
 have:=Dv (p:=fun c=>Ey c CT==decide (97<=c.toNat/\c.toNat<=122)) (by decide+kernel) c;exact eq_of_beq this
theorem UN(c:UInt8):Ey c DC=decide (65<=c.toNat/\c.toNat<=90):=by
 have:=Dv (p:=fun c=>Ey c DC==decide (65<=c.toNat/\c.toNat<=90)) (by decide+kernel) c;exact eq_of_beq this
theorem S7(c:UInt8):Ey c L3=decide (48<=c.toNat/\c.toNat<=57):=by
 have:=Dv (p:=fun c=>Ey c L3==decide (48<=c.toNat/\c.toNat<=57)) (by decide+kernel) c;exact eq_of_beq this
theorem Um(c:UInt8):Ey c EC=(Ey c CT||Ey c DC||Ey c L3):=by
 have:=Dv (p:=fun c=>Ey c EC==(Ey c CT||Ey c DC||Ey c L3)) (by decide+kernel) c;exact eq_of_beq this
theorem Kz(c:UInt8)(w:World):Calls prog 194 #[int .u8 c.toNat] w fun e w'=>e=returned (.bool (E7 c))/\w'=w:=by
 cases hb:E7 c
 ·obtain⟨a,b⟩:=Nf hb;go_enter func194,ntmps194;go_wp2;go_ret;exact⟨rfl,rfl⟩
 ·rcases Kw hb with a|⟨a,b⟩
  all_goals
   go_enter func194,ntmps194;go_wp2;go_ret;exact⟨rfl,rfl⟩
theorem B1(c:UInt8)(w:World):Calls prog 195 #[int .u8 c.toNat] w fun e w'=>e=returned (.bool (Ey c CT))/\w'=w:=by
 rw[Sk]
 by_cases a:(97:Int)<=(c.toNat:Int)
 ·by_cases b:(c.toNat:Int)<=122
  all_goals
   go_enter func195,ntmps195;go_wp2;go_ret;exact⟨DI (by symm;simp;omega),rfl⟩
 ·go_enter func195,ntmps195;go_wp2;go_ret;exact⟨DI (by symm;simp;omega),rfl⟩
theorem Bx(c:UInt8)(w:World):Calls prog 196 #[int .u8 c.toNat] w fun e w'=>e=returned (.bool (Ey c DC))/\w'=w:=by
 rw[UN]
 by_cases a:(65:Int)<=(c.toNat:Int)
 ·by_cases b:(c.toNat:Int)<=90
  all_goals
   go_enter func196,ntmps196;go_wp2;go_ret;exact⟨DI (by symm;simp;omega),rfl⟩
 ·go_enter func196,ntmps196;go_wp2;go_ret;exact⟨DI (by symm;simp;omega),rfl⟩
theorem Hw(c:UInt8)(w:World):Calls prog 213 #[int .u8 c.toNat] w fun e w'=>e=returned (.bool (Ey c L3))/\w'=w:=by
 rw[S7]
 by_cases a:(48:Int)<=(c.toNat:Int)
 ·by_cases b:(c.toNat:Int)<=57
  all_goals
   go_enter func213,ntmps213;go_wp2;go_ret;exact⟨DI (by symm;simp;omega),rfl⟩
 ·go_enter func213,ntmps213;go_wp2;go_ret;exact⟨DI (by symm;simp;omega),rfl⟩
theorem Lr(c:UInt8)(w:World):Calls prog 209 #[int .u8 c.toNat] w fun e w'=>e=returned (.bool (Ey c EC))/\w'=w:=by
 rw[Um]
 cases a:Ey c CT
 ·cases b:Ey c DC
  ·go_enter func209,ntmps209
   go_wp2_with (first|(go_at_call 195;apply(B1 _ _).mono;rintro e w' ⟨rfl,rfl⟩)|(go_at_call 196;apply(Bx _ _).mono;rintro e w' ⟨rfl,rfl⟩)|(go_at_call 213;apply(Hw _ _).mono;rintro e w' ⟨rfl,rfl⟩))
   go_ret;exact⟨rfl,rfl⟩
  ·go_enter func209,ntmps209
   go_wp2_with (first|(go_at_call 195;apply(B1 _ _).mono;rintro e w' ⟨rfl,rfl⟩)|(go_at_call 196;apply(Bx _ _).mono;rintro e w' ⟨rfl,rfl⟩)|(go_at_call 213;apply(Hw _ _).mono;rintro e w' ⟨rfl,rfl⟩))
   go_ret;exact⟨rfl,rfl⟩
 ·go_enter func209,ntmps209
  go_wp2_with (first|(go_at_call 195;apply(B1 _ _).mono;rintro e w' ⟨rfl,rfl⟩)|(go_at_call 196;apply(Bx _ _).mono;rintro e w' ⟨rfl,rfl⟩)|(go_at_call 213;apply(Hw _ _).mono;rintro e w' ⟨rfl,rfl⟩))
  go_ret;exact⟨rfl,rfl⟩
def CG(s:ByteArray)(n:Nat):UInt8:=(s.data.toList[n]?).getD 0
theorem Jy(s:ByteArray)(n:Nat)(h:n<s.size):CG s n=s[n]:=by
 unfold CG;rw[Qb (by simpa using h)];rfl
theorem KJ(s:ByteArray)(n:Nat)(h:¬n<s.size):CG s n=0:=by
 unfold CG;rw[QV Yp];rfl
theorem G0(s:ByteArray)(n:Nat)(w:World)(b:s.size<=4096)(hn:n<=5000):Calls prog 163 #[string s,int i64 n] w fun e w'=>e=returned (int .u8 (CG s n).toNat)/\w'=w:=by
 by_cases h:n<s.size
 ·have a:=(show YH _ from Jy s n h);go_enter func163,ntmps163;go_wp2;go_ret;rw[a.o];exact⟨rfl,rfl⟩
 ·have a:=(show YH _ from KJ s n h);go_enter func163,ntmps163;go_wp2;go_ret;rw[a.o];exact⟨rfl,rfl⟩
def B4:Lu->Nat
 |[]=>0
 |c::r=>if E7 c then B4 r+1 else 0
theorem Uj(l:Lu):B4 l<=l.length:=by
 induction l with
 |nil=>exact Qe _
 |cons c r a=>unfold B4;split<;>simp<;>omega
theorem HJ(s:ByteArray)(n:Nat)(w:World)(h:s.size<=4096)(hn:n<=s.size):Calls prog 162 #[string s,int i64 n] w fun e w'=>e=returned (int i64 ((n+B4 (s.data.toList.drop n):Nat):Int))/\w'=w:=by
 go_enter func162,ntmps162;go_wp2
 go_loop [1] (fun i=>∃k:Nat,k<=s.size/\i=int i64 k/\n+B4 (s.data.toList.drop n)=k+B4 (s.data.toList.drop k)) (fun i=>s.size-(intOf i).toNat)
 case atStart=>exact⟨n,hn,rfl,rfl⟩
 case round=>
  obtain⟨k,g,rfl,hn⟩:=hrel;have b:=(show YH _ from hn);clear hn
  by_cases f:k<s.size
  ·have hd:=BX s k f
   cases hb:E7 s[k]
   ·have a:YH (B4 (s.data.toList.drop k)=0):=by show _=_;rw[hd,B4,QP (by simp[hb])]
    clear hd
    go_wp2_with (go_at_call 194;apply(Kz _ _).mono;rintro e w' ⟨rfl,rfl⟩)
    go_ret;exact⟨FP (by have c:=b.o;have d:=a.o;omega),rfl⟩
   ·have a:YH (B4 (s.data.toList.drop k)=B4 (s.data.toList.drop (k+1))+1):=by show _=_;rw[hd,B4,QQ hb]
    clear hd
    go_wp2_with (go_at_call 194;apply(Kz _ _).mono;rintro e w' ⟨rfl,rfl⟩)
    go_round
    case rel=>exact⟨k+1,Yo,Yg,by have c:=b.o;have d:=a.o;omega⟩
    case measure=>simp[intOf];omega
  ·have a:YH (B4 (s.data.toList.drop k)=0):=by show _=_;rw[DU s k f];rfl
   go_wp2;go_ret;exact⟨FP (by have c:=b.o;have d:=a.o;omega),rfl⟩
theorem Td:Ey 0 EC=false:=by decide+kernel
theorem Il(s:ByteArray)(n:Nat)(w:World)(d:s.size<=4096)(hn:n<=s.size):Calls prog 197 #[string s,int i64 n] w fun e w'=>e=returned (int i64 ((n+AX (s.data.toList.drop n):Nat):Int))/\w'=w:=by
 go_enter func197,ntmps197;go_wp2
 go_loop [1] (fun i=>∃k:Nat,k<=s.size/\i=int i64 k/\n+AX (s.data.toList.drop n)=k+AX (s.data.toList.drop k)) (fun i=>s.size-(intOf i).toNat)
 case atStart=>exact⟨n,hn,rfl,rfl⟩
 case round=>
  obtain⟨k,j,rfl,hn⟩:=hrel;have c:=(show YH _ from hn);clear hn
  cases hb:Ey (CG s k) EC
  ·have b:YH (AX (s.data.toList.drop k)=0):=by
    show _=_
    by_cases a:k<s.size
    ·rw[BX s k a];rw[Jy s k a]at hb;exact Mn _ _ hb
    ·rw[DU s k a];rfl
   go_wp2_with (first|(go_at_call 163;apply(G0 _ _ _ d Yo).mono;rintro e w' ⟨rfl,rfl⟩)|(go_at_call 209;apply(Lr _ _).mono;rintro e w' ⟨rfl,rfl⟩))
   go_ret;exact⟨FP (by have f:=c.o;have g:=b.o;omega),rfl⟩
  ·have a:k<s.size:=by
    rcases QB k s.size with h|h
    ·exact h
    ·rw[KJ s k Yo,Td]at hb;cases hb
   have b:YH (AX (s.data.toList.drop k)=AX (s.data.toList.drop (k+1))+1):=by
    show _=_;rw[BX s k a];rw[Jy s k a]at hb;exact Ei _ _ hb
   go_wp2_with (first|(go_at_call 163;apply(G0 _ _ _ d Yo).mono;rintro e w' ⟨rfl,rfl⟩)|(go_at_call 209;apply(Lr _ _).mono;rintro e w' ⟨rfl,rfl⟩))
   go_round
   case rel=>exact⟨k+1,Yo,Yg,by have f:=c.o;have g:=b.o;omega⟩
   case measure=>simp[intOf];omega
def Ca(c d:UInt8):Nat:=
 if Ey c CT then 1 else if Ey c DC then 2 else if c=40 then 3 else if c=41 then 4 else if c=44 then 5 else if c=46 then 6 else if c=58/\d=45 then 7 else 8
theorem H2{c k:UInt8}(h:c=k):((c.toNat:Int)==(k.toNat:Int))=true:=by subst h;simp
theorem Ft{c k:UInt8}(h:¬c=k):((c.toNat:Int)==(k.toNat:Int))=false:=by
 rw[Qu];intro e;exact h (UInt8.toNat_inj.1 Yo)
theorem Sv(c d:UInt8)(w:World):Calls prog 164 #[int .u8 c.toNat,int .u8 d.toNat] w fun e w'=>e=returned (int i64 (Ca c d))/\w'=w:=by
 cases j:Ey c CT
 case true=>
  have a:YH (Ca c d=1):=by show _=_;simp[Ca,j]
  go_enter func164,ntmps164
  go_wp2_with (first|(go_at_call 195;apply(B1 _ _).mono;rintro e w' ⟨rfl,rfl⟩)|(go_at_call 196;apply(Bx _ _).mono;rintro e w' ⟨rfl,rfl⟩))
  go_ret;rw[a.o];exact⟨rfl,rfl⟩
 case false=>
  cases k:Ey c DC
  case true=>
   have a:YH (Ca c d=2):=by show _=_;simp[Ca,j,k]
   go_enter func164,ntmps164
   go_wp2_with (first|(go_at_call 195;apply(B1 _ _).mono;rintro e w' ⟨rfl,rfl⟩)|(go_at_call 196;apply(Bx _ _).mono;rintro e w' ⟨rfl,rfl⟩))
   go_ret;rw[a.o];exact⟨rfl,rfl⟩
  case false=>
   by_cases b:c=40
   ·have a:YH (Ca c d=3):=by show _=_;unfold Ca;rw[QP (by rw[j];simp),QP (by rw[k];simp),QQ b]
    have n:((c.toNat:Int)==40)=true:=H2 b;clear b;go_enter func164,ntmps164
    go_wp2_with (first|(go_at_call 195;apply(B1 _ _).mono;rintro e w' ⟨rfl,rfl⟩)|(go_at_call 196;apply(Bx _ _).mono;rintro e w' ⟨rfl,rfl⟩))
    go_ret;rw[a.o];exact⟨rfl,rfl⟩
   ·have n:((c.toNat:Int)==40)=false:=Ft b
    by_cases f:c=41
    ·have a:YH (Ca c d=4):=by show _=_;unfold Ca;rw[QP (by rw[j];simp),QP (by rw[k];simp),QP b,QQ f]
     have p:((c.toNat:Int)==41)=true:=H2 f;clear b f;go_enter func164,ntmps164
     go_wp2_with (first|(go_at_call 195;apply(B1 _ _).mono;rintro e w' ⟨rfl,rfl⟩)|(go_at_call 196;apply(Bx _ _).mono;rintro e w' ⟨rfl,rfl⟩))
     go_ret;rw[a.o];exact⟨rfl,rfl⟩
    ·have p:((c.toNat:Int)==41)=false:=Ft f
     by_cases g:c=44
     ·have a:YH (Ca c d=5):=by show _=_;unfold Ca;rw[QP (by rw[j];simp),QP (by rw[k];simp),QP b,QP f,QQ g]
      have q:((c.toNat:Int)==44)=true:=H2 g;clear b f g;go_enter func164,ntmps164
      go_wp2_with (first|(go_at_call 195;apply(B1 _ _).mono;rintro e w' ⟨rfl,rfl⟩)|(go_at_call 196;apply(Bx _ _).mono;rintro e w' ⟨rfl,rfl⟩))
      go_ret;rw[a.o];exact⟨rfl,rfl⟩
     ·have q:((c.toNat:Int)==44)=false:=Ft g
      by_cases i:c=46
      ·have a:YH (Ca c d=6):=by show _=_;unfold Ca;rw[QP (by rw[j];simp),QP (by rw[k];simp),QP b,QP f,QP g,QQ i]
       have r:((c.toNat:Int)==46)=true:=H2 i;clear b f g i;go_enter func164,ntmps164
       go_wp2_with (first|(go_at_call 195;apply(B1 _ _).mono;rintro e w' ⟨rfl,rfl⟩)|(go_at_call 196;apply(Bx _ _).mono;rintro e w' ⟨rfl,rfl⟩))
       go_ret;rw[a.o];exact⟨rfl,rfl⟩
      ·have r:((c.toNat:Int)==46)=false:=Ft i
       by_cases l:c=58
       ·have s:((c.toNat:Int)==58)=true:=H2 l
        by_cases m:d=45
        ·have t:((d.toNat:Int)==45)=true:=H2 m;have a:YH (Ca c d=7):=by show _=_;unfold Ca;rw[QP (by rw[j];simp),QP (by rw[k];simp),QP b,QP f,QP g,QP i,QQ ⟨l,m⟩]
         clear b f g i l m;go_enter func164,ntmps164
         go_wp2_with (first|(go_at_call 195;apply(B1 _ _).mono;rintro e w' ⟨rfl,rfl⟩)|(go_at_call 196;apply(Bx _ _).mono;rintro e w' ⟨rfl,rfl⟩))
         go_ret;rw[a.o];exact⟨rfl,rfl⟩
        ·have t:((d.toNat:Int)==45)=false:=Ft m;have a:YH (Ca c d=8):=by show _=_;unfold Ca;rw[QP (by rw[j];simp),QP (by rw[k];simp),QP b,QP f,QP g,QP i,QP (fun h=>m h.2)]
         clear b f g i l m;go_enter func164,ntmps164
         go_wp2_with (first|(go_at_call 195;apply(B1 _ _).mono;rintro e w' ⟨rfl,rfl⟩)|(go_at_call 196;apply(Bx _ _).mono;rintro e w' ⟨rfl,rfl⟩))
         go_ret;rw[a.o];exact⟨rfl,rfl⟩
       ·have s:((c.toNat:Int)==58)=false:=Ft l;have a:YH (Ca c d=8):=by show _=_;unfold Ca;rw[QP (by rw[j];simp),QP (by rw[k];simp),QP b,QP f,QP g,QP i,QP (fun h=>l h.1)]
        clear b f g i l;go_enter func164,ntmps164
        go_wp2_with (first|(go_at_call 195;apply(B1 _ _).mono;rintro e w' ⟨rfl,rfl⟩)|(go_at_call 196;apply(Bx _ _).mono;rintro e w' ⟨rfl,rfl⟩))
        go_ret;rw[a.o];exact⟨rfl,rfl⟩
def I7(s:ByteArray)(p kd:Nat):Nat:=if kd=1\/kd=2 then p+AX (s.data.toList.drop p)else if kd=7 then p+2 else p+1
theorem Uy(s:ByteArray)(p kd:Nat)(w:World)(g:s.size<=4096)(f:p<=s.size):Calls prog 165 #[string s,int i64 p,int i64 kd] w fun e w'=>e=returned (int i64 (I7 s p kd))/\w'=w:=by
 by_cases b:kd=1
 ·subst b;have a:YH (I7 s p 1=p+AX (s.data.toList.drop p)):=by show _=_;simp[I7]
  go_enter func165,ntmps165
  go_wp2_with (go_at_call 197;apply(Il _ _ _ g f).mono;rintro e w' ⟨rfl,rfl⟩)
  go_ret;rw[a.o];exact⟨rfl,rfl⟩
 ·have i:((kd:Int)==1)=false:=by rw[Qu];omega
  by_cases c:kd=2
  ·subst c;have a:YH (I7 s p 2=p+AX (s.data.toList.drop p)):=by show _=_;simp[I7]
   clear b;go_enter func165,ntmps165
   go_wp2_with (go_at_call 197;apply(Il _ _ _ g f).mono;rintro e w' ⟨rfl,rfl⟩)
   go_ret;rw[a.o];exact⟨rfl,rfl⟩
  ·have j:((kd:Int)==2)=false:=by rw[Qu];omega
   by_cases d:kd=7
   ·have h:((kd:Int)==7)=true:=by rw[JF];omega
    have a:YH (I7 s p kd=p+2):=by show _=_;simp[I7,d]
    clear b c d;go_enter func165,ntmps165;go_wp2;go_ret;rw[a.o];exact⟨FP Yo,rfl⟩
   ·have h:((kd:Int)==7)=false:=by rw[Qu];omega
    have a:YH (I7 s p kd=p+1):=by show _=_;simp[I7,b,c,d]
    clear b c d;go_enter func165,ntmps165;go_wp2;go_ret;rw[a.o];exact⟨FP Yo,rfl⟩
def HC(s:ByteArray)(n:Nat):Nat×Nat×Nat:=
 if n+B4 (s.data.toList.drop n)<s.size then
  (Ca (CG s (n+B4 (s.data.toList.drop n))) (CG s (n+B4 (s.data.toList.drop n)+1)),n+B4 (s.data.toList.drop n),
   I7 s (n+B4 (s.data.toList.drop n)) (Ca (CG s (n+B4 (s.data.toList.drop n))) (CG s (n+B4 (s.data.toList.drop n)+1))))
 else(0,s.size,s.size)
theorem PE(s:ByteArray)(n:Nat)(w:World)(b:s.size<=4096)(hn:n<=s.size):Calls prog 130 #[string s,int i64 n] w fun e w'=>
  e=returned (agg #[int i64 (HC s n).1,int i64 (HC s n).2.1,int i64 (HC s n).2.2])/\Below w.heap.size w w':=by
 have d:=Uj (s.data.toList.drop n);simp only[JI,Array.length_toList]at d;have g:n+B4 (s.data.toList.drop n)<=s.size:=by
  have:s.data.size=s.size:=rfl;omega
 obtain⟨p,a⟩:=Ex (n+B4 (s.data.toList.drop n));have i:p<=s.size:=Yo
 have f:=(show YH _ from a)
 by_cases h:p<s.size
 ·have c:YH (HC s n=(Ca (CG s p) (CG s (p+1)),p,I7 s p (Ca (CG s p) (CG s (p+1))))):=by
   show _=_;unfold HC;rw[<-a,QQ h]
  clear a d g;go_enter func130,ntmps130;go_wp2_with fail;apply(HJ _ _ _ b hn).mono;rintro e w' ⟨rfl,rfl⟩;rw[<-f.o];go_wp2_with fail;apply(G0 _ _ _ b Yo).mono;rintro e w' ⟨rfl,rfl⟩;go_wp2_with fail;apply(G0 s (p+1) _ b Yo).mono;rintro e w' ⟨rfl,rfl⟩;go_wp2_with fail;apply(Sv _ _ _).mono;rintro e w' ⟨rfl,rfl⟩;go_wp2_with fail;apply(Uy _ _ _ _ b i).mono;rintro e w' ⟨rfl,rfl⟩;go_wp2;rw[c.o];exact Jb (v:=agg #[int i64 (Ca (CG s p) (CG s (p+1))),int i64 p,int i64 (I7 s p (Ca (CG s p) (CG s (p+1))))]) (by simp[results,results130,go_sem]) rfl ⟨rfl,(Jc _ _).alloc (Qe _) _⟩
 ·have c:YH (HC s n=(0,s.size,s.size)):=by
   show _=_;unfold HC;rw[<-a,QP h]
  clear a d g;go_enter func130,ntmps130;go_wp2_with fail;apply(HJ _ _ _ b hn).mono;rintro e w' ⟨rfl,rfl⟩;rw[<-f.o];go_wp2;rw[c.o];exact Jb (v:=agg #[int i64 0,int i64 s.size,int i64 s.size]) (by simp[results,results130,go_sem]) rfl ⟨rfl,(Jc _ _).alloc (Qe _) _⟩
end Go.Proofs.YtlmjilpjmgjjcaaGreatDoor
