/-
  PROVED HERE: plain facts on terms, substitutions and widest substitutions, found by carrying out one after the other or by joining cells; on terms that are the same but for what variables are called (no program, no memory; the conditions stand in each statement).
-/
import Derived.Test.YtlmjilpjmgjjcaaGreatDoorRows
import Derived.WalkKit
import Derived.WalkSpells
import Derived.WalkLawsBesides
import GoSem.Claim
import Derived.Lib.Strings
import Derived.RegionTactic
import Derived.ChangeAlike
import Derived.BigRegion
import Derived.Lib.ItoaNum
import Derived.BigQuiet
import Derived.Deep.QuietTactic
import Derived.Deep.LoopGhost
set_option linter.unusedSimpArgs false
set_option linter.unusedVariables false
set_option maxRecDepth 10000
set_option maxHeartbeats 4000000
namespace Go.Proofs.YtlmjilpjmgjjcaaGreatDoor
open Go.RowKit
open Tryz
abbrev Qa:=@List.getElem?_eq_some_iff
abbrev Qb:=@List.getElem?_eq_getElem
abbrev Qc:=@List.getElem?_append_left
abbrev Qd:=@List.getElem?_append_right
abbrev Qe:=@Nat.le_refl
abbrev Qf:=@List.length_cons
abbrev Qg:=@List.length_append
abbrev Qh:=@List.mem_of_getElem?
abbrev Qi:=@List.append_assoc
abbrev Qj:=@List.getElem?_map
abbrev Qk:=@List.mem_append
abbrev Ql:=@List.length_map
abbrev Qm:=@Nat.zero_le
abbrev Qn:=@List.length_singleton
abbrev Qo:=@Option.some.injEq
abbrev Qp:=@List.mem_cons
abbrev Qq:=@Nat.le_trans
abbrev Qr:=@List.map_append
abbrev Qs:=@List.append_nil
abbrev Qt:=@List.length_nil
abbrev Qu:=@beq_eq_false_iff_ne
abbrev Qv:=@List.length_reverse
abbrev Qw:=@List.reverse_cons
abbrev Qx:=@List.map_cons
abbrev Qy:=@List.cons_append
abbrev Qz:=@List.nil_append
abbrev Q0:=@List.mem_map
abbrev Q1:=@List.length_eq_one_iff
abbrev Q3:=@List.length_eq_zero_iff
abbrev Q4:=@List.flatten_cons
abbrev Q5:=@List.take_succ_cons
abbrev Q6:=@Bool.and_eq_true
abbrev Q7:=@decide_eq_true_eq
abbrev Q8:=@List.getElem_of_mem
abbrev Q9:=@List.mem_append_left
abbrev QA:=@List.mem_append_right
abbrev QB:=@Nat.lt_or_ge
abbrev QC:=@List.drop_eq_getElem_cons
abbrev QD:=@List.mem_cons_of_mem
abbrev QE:=@List.length_replicate
abbrev QF:=@List.getElem?_set_ne
abbrev QI:=@List.cons.injEq
abbrev QJ:=@List.foldl_cons
abbrev QK:=@List.map_map
theorem Yo{p:Prop}(h:p:=by omega):p:=h
theorem Yd{p:Prop}(h:p:=by decide):p:=h
theorem Ys{p:Prop}(h:p:=by simp):p:=h
theorem Yp{p:Prop}(h:p:=by simp;omega):p:=h
structure Ad(S:Nat->Prop)(w w':World):Prop where
 os:w'.os=w.os
 tape:w'.tape=w.tape
 output:w'.output=w.output
 size:w.heap.size<=w'.heap.size
 block:∀k,k<w.heap.size->¬S k->w'.heap[k]?=w.heap[k]?
def Ak(v:Value):Nat->Prop:=fun k=>v.ownBlock=some k
def A4:Nat->Prop:=fun _=>False
theorem Ad.refl(S:Nat->Prop)(w:World):Ad S w w:=⟨rfl,rfl,rfl,Qe _,fun _ _ _=>rfl⟩
theorem Ad.then{S S':Nat->Prop}{a b c:World}(h:Ad S a b)(k:Ad S' b c)(e:∀i,i<a.heap.size->S' i->S i):Ad S a c:=
 ⟨k.os.trans h.os,k.tape.trans h.tape,k.output.trans h.output,Qq h.size k.size,
  fun i hi hn=>(k.block i (Nat.lt_of_lt_of_le hi h.size) (fun d=>hn (e i hi d))).trans (h.block i hi hn)⟩
theorem Ad.trans{S:Nat->Prop}{a b c:World}(h:Ad S a b)(k:Ad S b c):Ad S a c:=h.then k (fun _ _ h=>h)
theorem Ad.mono{S S':Nat->Prop}{w w':World}(h:Ad S w w')(b:∀i,i<w.heap.size->S i->S' i):Ad S' w w':=
 ⟨h.os,h.tape,h.output,h.size,fun i hi hn=>h.block i hi (fun a=>hn (b i hi a))⟩
theorem Ad.drew{S:Nat->Prop}{a w:World}(h:Ad S a w):Ad S a w.drew:=⟨h.os,h.tape,h.output,h.size,h.block⟩
theorem Ad.alloc{S:Nat->Prop}{a w:World}(h:Ad S a w)(o:Obj):Ad S a (w.alloc o):=
 h.trans ⟨rfl,rfl,rfl,Ys,fun k b _=>Below.heap_alloc _ _ _ b⟩
theorem Ad.setCell{S:Nat->Prop}{a w:World}(h:Ad S a w){p:Addr}(b:p.block<a.heap.size->S p.block)(u:Value):Ad S a (w.setCell p u):=
 h.then (S':=fun k=>k=p.block) ⟨rfl,rfl,rfl,by simp[World.setCell],fun k _ hn=>Below.heap_setCell _ _ _ _ hn⟩ (fun i hi e=>by subst e;exact b hi)
theorem Ad.of_grown{w w':World}{row:Option Nat}(h:w.grownBy w' row):Ad (fun k=>row=some k) w w':=
 ⟨h.os,h.tape,h.output,h.size,fun k a hn=>h.block k a (fun e=>hn e.symm)⟩
theorem Ad.below{S:Nat->Prop}{w w':World}{B:Nat}(h:Ad S w w')(c:B<=w.heap.size)(b:∀k,S k->B<=k):Below B w w':=
 ⟨h.os,h.tape,h.output,h.size,fun k d=>h.block k Yo (fun a=>by have:=b k a;omega)⟩
theorem Ad.of_below{w w':World}{B:Nat}(h:Below B w w'):Ad (fun k=>B<=k) w w':=
 ⟨h.os,h.tape,h.output,h.size,fun k _ hn=>h.block k Yo⟩
theorem Ad.cell{S:Nat->Prop}{w w':World}(h:Ad S w w'){p:Addr}{v:Value}(a:w.cell? p=some v)(hn:¬S p.block):w'.cell? p=some v:=
 (World.cell?_of_block (w:=w) (h.block p.block (World.block_lt_of_cell? w p a) hn)).trans a
theorem Ad.owns{S:Nat->Prop}{w w':World}(h:Ad S w w'){base:Nat}{e:TypeId}{size:Nat}{v:Value}{n:Nat}{xs:List Value}(b:w.ownsRow base e size v n xs)
  (hn:∀k,v.ownBlock=some k->¬S k):w'.ownsRow base e size v n xs:=by
 refine⟨b.1,?_⟩;rcases b.2 with f|⟨g,c,d,rfl,hb,a,rest⟩
 ·exact .inl f
 ·refine .inr ⟨g,c,d,rfl,hb,?_,rest⟩;rw[h.block g (Array.getElem?_eq_some_iff.1 a).1 (hn g rfl)];exact a
theorem AI{w:World}{base a:Nat}{e:TypeId}{size:Nat}{v:Value}{n:Nat}{xs:List Value}(b:w.ownsRow base e size v n xs)(hb:a<=base):w.ownsRow a e size v n xs:=by
 refine⟨b.1,?_⟩;rcases b.2 with h|⟨g,c,d,rfl,f,rest⟩
 ·exact .inl h
 ·exact .inr ⟨g,c,d,rfl,Qq hb f,rest⟩
theorem Gt{P:Program}(w:World)(base:Nat)(t ty e:TypeId)(i:TypeInfo)(r:Value)(p:P.underlying t=some (.slice e))(hi:P.info? e=some i)(hz:i.zero=some r)
  (v:Value) (n:Nat) (xs:List Value) (o:w.ownsRow base e i.size v n xs)
  (a:Addr) (m c:Nat) (d:List Value) (hl:d.length=m*i.size) (D:0<m) (l:∀j u,d[j]?=some u->w.cell? (a.add j)=some u) (b:∀u∈d,u.oneCell'=true)
  (z:n+m<=maxLen) (x:(n+m)*i.bytes<=140737488355328) (q:Value) (w':World)
  (f:(Builtin.append_ #[t,t] ty #[v,.slice (some a) m c]).run P w= .ok q w'):q.ownBlock=v.ownBlock\/q.ownBlock=some w.heap.size:=by
 have I:n+m<=9223372036854775807:=by simp only[maxLen]at z;omega
 rcases o.2 with⟨rfl,rfl⟩|⟨g,k,s,rfl,F,C,H,G,A,J⟩
 ·have h:=run_append_nil (P:=P) w t ty e i r p hi hz a m c d hl l D Yo (by have hb:=x;simp only[Nat.zero_add]at hb;omega);rw[h]at f;injection f with b h2;subst b;exact .inr rfl
 ·by_cases y:n+m<=k
  ·have B:n*i.size+d.length<=s.size:=by rw[hl,A,<-Nat.add_mul];exact Nat.mul_le_mul_right _ y
   have h:=run_append_room (P:=P) w t ty e i p hi g n k s C a m c d hl l b y B;rw[h]at f;injection f with b h2;subst b;exact .inl rfl
  ·have E:∀j u,xs[j]?=some u->w.cell? ((⟨g,0,none⟩:Addr).add j)=some u:=o.cells (g:=g) rfl;have h:=run_append_grow (P:=P) w t ty e i r p hi hz ⟨g,0,none⟩ n k xs o.1 E a m c d hl l Yo Yo (growslice_fits Yo x);rw[h]at f;injection f with b h2;subst b;exact .inr rfl
structure Ar(w:World)(base:Nat)(e:TypeId)(size:Nat)(v:Value)(n:Nat)(xs:List Value)(v':Value)(w':World):Prop where
 owns:w'.ownsRow base e size v' n xs
 kept:Ad (Ak v) w w'
 where_:v'.ownBlock=v.ownBlock\/∃g,v'.ownBlock=some g/\w.heap.size<=g
theorem E2{P:Program}(w:World)(t ty:TypeId)(base:Nat)(e:TypeId){d:Value}{size b:Nat}
  (A:(P.info? e).map (fun i=>(i.zero,i.size,i.bytes))=some (some d,size,b)) (s:P.underlying t=some (.slice e)) (E:d.cells.size=size) (C:0<size)
  (v:Value) (n:Nat) (xs:List Value) (B:w.ownsRow base e size v n xs)
  (a:Array Value) (hl:a.size=size) (f:∀u∈a.toList,u.oneCell'=true)
  (l:(n+1)*(b+1)<=140737488355328) (G:base<=w.heap.size):
  ∃c w',(Builtin.append_ #[t,t] ty #[v,.slice (some ⟨w.heap.size,0,none⟩) 1 1]).run P (w.alloc (.cells a e))= .ok c w'/\Ar w base e size v (n+1) (xs++a.toList) c w':=by
 obtain⟨i,hi,hz,r,m⟩:=info_parts A;have F:n+1<=140737488355328:=Qq (Nat.le_mul_of_pos_right (n+1) (Nat.succ_pos b)) l;have k:(n+1)*b<=140737488355328:=Qq (Nat.mul_le_mul_left _ (Nat.le_succ _)) l;have g:n+1<=maxLen:=by simp only[maxLen];omega
 have o:∀(j:Nat)(u:Value),a.toList[j]?=some u->(w.alloc (.cells a e)).cell? ((⟨w.heap.size,0,none⟩:Addr).add j)=some u:=by
  intro j u D;have z:(⟨w.heap.size,0,none⟩:Addr).add j=⟨w.heap.size,j,none⟩:=by unfold Addr.add;split<;>simp_all
  rw[z,cell_of_row _ w.heap.size j a e (0,0) (heap_alloc_new w _)];simpa using D
 have p:=B.alloc (.cells a e);obtain⟨c,w',q,x,y,_⟩:=run_append_own (P:=P) (w.alloc (.cells a e)) base t ty e i d size b s hi hz r m E C v n xs p
  ⟨w.heap.size,0,none⟩ 1 1 a.toList (by simp[hl]) o f g k Yp
 refine⟨c,w',q,x,?_,?_⟩
 ·have:=Ad.of_grown y;exact((Ad.refl (Ak v) w).alloc _).then this (fun i _ h=>h)
 ·subst r m;rcases Gt (P:=P) (w.alloc (.cells a e)) base t ty e i d s hi hz v n xs p ⟨w.heap.size,0,none⟩ 1 1 a.toList (by simp[hl]) Yo o f g k c w' q with h|h
  ·exact .inl h
  ·exact .inr ⟨_,h,Ys⟩
theorem LV{P:Program}{o:Oper}{a:Act}{d:Act->World->Prop}{j:Exit->Act->World->Prop}(w:World)(s x:Operand)(t:TypeId)
  (y:o.op= .call {callee:= .builtin .append,args:=#[s,x],argTypes:=#[t,t]})
  (base:Nat) (e:TypeId) {g:Value} {size f:Nat}
  (r:(P.info? e).map (fun i=>(i.zero,i.size,i.bytes))=some (some g,size,f)) (D:P.underlying t=some (.slice e)) (F:g.cells.size=size) (C:0<size)
  (v:Value) (n:Nat) (xs:List Value) (B:a.eval s=v) (z:w.ownsRow base e size v n xs)
  (b:Array Value) {N:Nat} (E:a.eval x= .slice (some ⟨N,0,none⟩) 1 1) (m:N=w.heap.size) (hl:b.size=size) (k:∀u∈b.toList,u.oneCell'=true)
  (q:(n+1)*(f+1)<=140737488355328) (p:base<=w.heap.size)
  (h:∀c w',Ar w base e size v (n+1) (xs++b.toList) c w'->d (a.put o.dst c) w'):o.wp P a (w.alloc (.cells b e)) d j:=by
 subst m;obtain⟨c,w',A,l⟩:=E2 (P:=P) w t o.type base e r D F C v n xs z b hl k q p;unfold Oper.wp execOp;simp only[y,resolve,invoke,builtin,Sem.run_bind,Sem.run_pure,Result.andThen_ok,List.map_toArray,Qx,List.map_nil,B,E,A];exact h c w' l
theorem Am{P:Program}{ops:Array Oper}{rest:List Oper}{o:Oper}{a:Act}{d:Exit->Act->World->Prop}(w:World)(r:o.guard=none)(s x:Operand)(t:TypeId)
  (z:o.op= .call {callee:= .builtin .append,args:=#[s,x],argTypes:=#[t,t]})
  (base:Nat) (e:TypeId) {g:Value} {size f:Nat}
  (y:(P.info? e).map (fun i=>(i.zero,i.size,i.bytes))=some (some g,size,f)) (D:P.underlying t=some (.slice e)) (F:g.cells.size=size) (C:0<size)
  (v:Value) (n:Nat) (xs:List Value) (B:a.eval s=v) (A:w.ownsRow base e size v n xs)
  (b:Array Value) {N:Nat} (E:a.eval x= .slice (some ⟨N,0,none⟩) 1 1) (m:N=w.heap.size) (hl:b.size=size) (j:∀u∈b.toList,u.oneCell'=true)
  (q:(n+1)*(f+1)<=140737488355328) (p:base<=w.heap.size)
  (h:∀c w',Ar w base e size v (n+1) (xs++b.toList) c w'->wpList P ops d rest (a.put o.dst c) w'):wpList P ops d (o::rest) a (w.alloc (.cells b e)):=
 wpList_plain r fun _ l=>LV w s x t z base e y D F C v n xs B A b E m hl j q p fun c w' k=>l _ _ (h c w' k)
abbrev Q2:=@World.ownsRow_nil
abbrev QH:=@Value.slice.injEq
abbrev QL:=@heap_alloc_new
theorem Yk{p:Prop}(h:p:=by kernel_rfl):p:=h
theorem Ex{α:Type}(x:α):∃y,y=x:=⟨x,rfl⟩
theorem Mst{S:Nat->Prop}{a w:World}(h:Ad S a w:=by repeat'(first|with_reducible exact Ad.refl _ _|with_reducible apply Ad.drew|with_reducible apply Ad.drewN|with_reducible apply Ad.alloc|with_reducible refine Ad.setCell ?_ ?_ _|(intro _;simp only;omega))):Ad S a w:=h
abbrev Lv:=List Value
abbrev Av:=Array Value
abbrev Oa:=Option Addr
abbrev Np:=Nat->Prop
abbrev Nl:Value:=.slice none 0 0
abbrev Vi(k:Int):Value:=.int .i64 k
abbrev _root_.Go.World.hz(w:World):=w.heap.size
abbrev Rq(a:Array Value):Ending:=.returned (.tuple a)
abbrev Pt(b:Nat):Value:=.pointer (some ⟨b,0,none⟩)
variable{w w' w1 w2 w0 wr:World}{n k B b i p size cap M rb bW x:Nat}{v cv gv vv lv:Value}{xs ys vs:Lv}{X Y S:Np}{s:ByteArray}{t e:TypeId}{fr:Nat×Nat}{P:Program}
def EE(c:UInt8)(s:ByteArray):Bool:=s.data.toList.contains c
def CY:ByteArray:=⟨#[97,98,99,100,101,102,103,104,105,106,107,108,109,110,111,112,113,114,115,116,117,118,119,120,121,122]⟩
def DE:ByteArray:=⟨#[65,66,67,68,69,70,71,72,73,74,75,76,77,78,79,80,81,82,83,84,85,86,87,88,89,90]⟩
def EZ:ByteArray:=⟨#[40,41,44,46]⟩
def EI:ByteArray:=⟨#[97,98,99,100,101,102,103,104,105,106,107,108,109,110,111,112,113,114,115,116,117,118,119,120,121,122,65,66,67,68,69,70,71,72,73,74,75,76,77,78,79,80,81,82,83,84,85,86,87,88,89,90,48,49,50,51,52,53,54,55,56,57]⟩
theorem UA(s:ByteArray)(k:Nat)(h:k<s.size):s.data.toList.take (k+1)=s.data.toList.take k++[s[k]]:=by
 rw[List.take_succ_eq_append_getElem (by simpa using h)];rfl
theorem B0(s:ByteArray)(k:Nat)(h:k<s.size):s.data.toList.drop k=s[k]::s.data.toList.drop (k+1):=by
 rw[QC (by simpa using h)];rfl
theorem DX(s:ByteArray)(k:Nat)(h:¬k<s.size):s.data.toList.drop k=[]:=by
 apply List.drop_eq_nil_of_le;simp;omega
theorem Tp{a b:UInt8}(h:(((a.toNat:Int))==(b.toNat:Int))=true):a=b:=by
 have:=eq_of_beq h;exact UInt8.toNat_inj.1 Yo
theorem WH{a b:UInt8}(h:(((a.toNat:Int))==(b.toNat:Int))=false):a≠b:=by
 intro e;subst e;simp at h
theorem Xz{c:UInt8}{s:ByteArray}{k:Nat}(a:k<s.size)(h:(((s[k].toNat:Int))==(c.toNat:Int))=true):EE c s=true:=by
 have:=Tp h;unfold EE;rw[List.contains_iff_mem,<-this];have:s[k]=s.data.toList[k]'(by simpa using a):=rfl;rw[this];exact List.getElem_mem _
theorem XM{c:UInt8}{s:ByteArray}{k:Nat}(a:k<s.size)(h:(((s[k].toNat:Int))==(c.toNat:Int))=false)(hn:(s.data.toList.take k).contains c=false):
  (s.data.toList.take (k+1)).contains c=false:=by
 have b:=WH h;rw[UA s k a];simp only[List.contains_eq_mem,decide_eq_false_iff_not,Qk,List.mem_singleton,not_or]at hn⊢;exact⟨hn,fun e=>b e.symm⟩
theorem Xt{c:UInt8}{s:ByteArray}{k:Nat}(a:¬k<s.size)(hn:(s.data.toList.take k).contains c=false):EE c s=false:=by
 rw[List.take_of_length_le Yp]at hn;exact hn
def AY:List UInt8->Nat
 |[]=>0
 |c::r=>if EE c EI then AY r+1 else 0
theorem Er(c:UInt8)(r:List UInt8)(h:EE c EI=true):AY (c::r)=AY r+1:=by rw[AY,if_pos h]
theorem L5(c:UInt8)(r:List UInt8)(h:EE c EI=false):AY (c::r)=0:=by rw[AY,if_neg (by simp[h])]
theorem IK(l:List UInt8):AY l<=l.length:=by
 induction l with
 |nil=>exact Qe _
 |cons c r a=>unfold AY;split<;>simp<;>omega
theorem Dw{p:UInt8->Bool}(h:(List.range 256).all (fun n=>p (UInt8.ofNat n))=true)(c:UInt8):p c=true:=by
 rw[List.all_eq_true]at h;have:=h c.toNat (by rw[List.mem_range];exact c.toNat_lt);simpa using this
theorem He{c:UInt8}(h:EE c CY=true):EE c EI=true:=by
 have:=Dw (p:=fun c=> !inB c CY||EE c EI) (by decide+kernel) c;simpa[h]using this
theorem HB{c:UInt8}(h:EE c DE=true):EE c EI=true:=by
 have:=Dw (p:=fun c=> !inB c DE||EE c EI) (by decide+kernel) c;simpa[h]using this
structure BZ where
 kind:Nat
 text:List UInt8
 pos:Nat
def A5(c:UInt8)(r:List UInt8):Nat×Nat:=
 if EE c CY then(1,AY r)
 else if EE c DE then(2,AY r)
 else if EE c EZ then(c.toNat,0)
 else if c=58/\r.head?=some 45 then(3,1)
 else(5,0)
def EY(c:UInt8):Bool:=c==32||c==10
theorem ME(c:UInt8)(r:List UInt8):(A5 c r).2<=r.length:=by
 have:=IK r;unfold A5;split
 ·exact this
 ·split
  ·exact this
  ·split
   ·exact Qm _
   ·split
    ·rename_i h
     cases r with
     |nil=>simp at h
     |cons d r=>simp
    ·exact Qm _
def Gi:Nat->List UInt8->Nat->List BZ
 |0,_,_=>[]
 |_+1,[],_=>[]
 |f+1,c::r,p=>
  if EY c then Gi f r (p+1)
  else⟨(A5 c r).1,(c::r).take ((A5 c r).2+1),p⟩::Gi f (r.drop (A5 c r).2) (p+(A5 c r).2+1)
theorem Ut(f:Nat):∀(g:Nat)(l:List UInt8)(p:Nat),l.length<=f->l.length<=g->Gi f l p=Gi g l p:=by
 induction f with
 |zero=>
  intro g l p b a;have:l=[]:=List.eq_nil_of_length_eq_zero Yo;subst this
  cases g<;>rfl
 |succ f d=>
  intro g l p b a
  cases l with
  |nil=>cases g<;>rfl
  |cons c r=>
   cases g with
   |zero=>simp at a
   |succ g=>
    simp only[Qf]at b a;have hd:(r.drop (A5 c r).2).length<=r.length:=Ys
    rw[Gi,Gi];split
    ·exact d g r _ Yo Yo
    ·rw[d g (r.drop (A5 c r).2) _ Yo Yo]
def C4(l:List UInt8)(p:Nat):List BZ:=Gi l.length l p
theorem VU(p:Nat):C4 [] p=[]:=rfl
theorem Lr(c:UInt8)(r:List UInt8)(p:Nat)(h:EY c=true):C4 (c::r) p=C4 r (p+1):=by
 unfold C4;rw[Qf,Gi,if_pos h]
theorem MT(c:UInt8)(r:List UInt8)(p:Nat)(h:EY c=false):
  C4 (c::r) p=⟨(A5 c r).1,(c::r).take ((A5 c r).2+1),p⟩::C4 (r.drop (A5 c r).2) (p+(A5 c r).2+1):=by
 unfold C4;rw[Qf,Gi,if_neg (by simp[h])]
 congr 1
 exact Ut _ _ _ _ Ys (Qe _)
structure BL where
 name:List UInt8
 num:Nat
 args:Nat
abbrev At:=List (List UInt8)
abbrev Ll:=List (List BL)
abbrev Ly:=List BL
abbrev Lu:=List UInt8
variable{l:Ly}{ls ts:Ll}{ρ:Nat->Nat}{σ:Nat->Ly}{a:Ll×At}{A:List Lu}
theorem F6{k:IntKind}{a b:Int}(h:a=b):Ending.returned (.int k a)= .returned (.int k b):=by rw[h]
theorem DI{a b:Bool}(h:a=b):Ending.returned (.bool a)= .returned (.bool b):=by rw[h]
theorem BS(c:UInt8)(s:ByteArray)(w:World)(d:s.size<=maxLen):
  Calls prog 175 #[.int .u8 c.toNat,.string s] w fun e w'=>e= .returned (.bool (EE c s))/\w'=w:=by
 unfold maxLen at d;go_enter func175,g;go_wp2
 go_loop [5] (fun i=>∃k:Nat,k<=s.size/\i=Vi k/\(s.data.toList.take k).contains c=false) (fun i=>s.size-(intOf i).toNat)
 case atStart=>exact⟨0,Qm _,rfl,rfl⟩
 case round=>
  obtain⟨k,f,rfl,hn⟩:=hrel;have b:Hid ((s.data.toList.take k).contains c=false):=hn;clear hn
  by_cases a:k<s.size
  ·go_wp2
   ·go_ret;exact⟨DI (Xz a (by assumption)).symm,rfl⟩
   ·go_round
    case rel=>exact⟨k+1,Yo,by go_num,XM a (by assumption) b.out⟩
    case measure=>simp[intOf];omega
  ·go_wp2;go_ret;exact⟨DI (Xt a b.out).symm,rfl⟩
theorem P4(s:ByteArray)(n:Nat)(w:World)(h:s.size<=maxLen)(hn:n<=s.size):
  Calls prog 176 #[.string s,Vi n] w fun e w'=>e= .returned (Vi ((n+AY (s.data.toList.drop n):Nat):Int))/\w'=w:=by
 unfold maxLen at h;go_enter func176,l;go_wp2
 go_loop [1] (fun i=>∃k:Nat,k<=s.size/\i=Vi k/\n+AY (s.data.toList.drop n)=k+AY (s.data.toList.drop k)) (fun i=>s.size-(intOf i).toNat)
 case atStart=>exact⟨n,hn,rfl,rfl⟩
 case round=>
  obtain⟨k,j,rfl,hn⟩:=hrel;have a:Hid (n+AY (s.data.toList.drop n)=k+AY (s.data.toList.drop k)):=hn;clear hn
  by_cases f:k<s.size
  ·have hd:=B0 s k f
   by_cases b:EE s[k] EI=true
   ·have Hd:Hid (AY (s.data.toList.drop k)=AY (s.data.toList.drop (k+1))+1):=by
     show _=_;rw[hd];exact Er _ _ b
    clear hd
    go_wp2_with (go_at_call 175;apply(BS _ EI _ Yd).mono;rintro e w' ⟨rfl,rfl⟩)
    go_round
    case rel=>exact⟨k+1,Yo,by go_num,by have c:=a.out;have d:=Hd.out;omega⟩
    case measure=>simp[intOf];omega
   ·have g:EE s[k] EI=false:=by simpa using b
    have Hd:Hid (AY (s.data.toList.drop k)=0):=by
     show _=_;rw[hd];exact L5 _ _ g
    clear hd b
    go_wp2_with (go_at_call 175;apply(BS _ EI _ Yd).mono;rintro e w' ⟨rfl,rfl⟩)
    go_ret;exact⟨F6 (by have c:=a.out;have d:=Hd.out;omega),rfl⟩
  ·have Hd:Hid (AY (s.data.toList.drop k)=0):=by
    show _=_;rw[DX s k f];rfl
   go_wp2;go_ret;exact⟨F6 (by have c:=a.out;have d:=Hd.out;omega),rfl⟩
theorem infoTok:(prog.info? 243).map (fun i=>(i.zero,i.size,i.bytes))=some (some (.agg #[Vi 0,.string ⟨#[]⟩,Vi 0]),3,32):=by kernel_rfl
theorem JR{p:Prop}(h:p):Hid p:=h
def DH(t:BZ):Lv:=[.int .i64 t.kind,.string ⟨t.text.toArray⟩,.int .i64 t.pos]
def AP(l:List BZ):Lv:=l.flatMap DH
theorem F4(x b:Int)(y:ByteArray):∀u∈(#[Value.int .i64 x,.string y,Vi b]:Av).toList,u.oneCell'=true:=by
 intro u a;simp at a;rcases a with rfl|rfl|rfl<;>rfl
theorem J6{c:UInt8}(h:EY c=true):((c.toNat:Int)==32)=true\/(((c.toNat:Int)==32)=false/\((c.toNat:Int)==10)=true):=by
 have:=Dw (p:=fun c=> !blank c||((c.toNat:Int)==32)||((c.toNat:Int)==10)) (by decide+kernel) c;rw[h]at this
 cases a:((c.toNat:Int)==32)<;>simp_all
theorem ML{c:UInt8}(h:EY c=false):((c.toNat:Int)==32)=false/\((c.toNat:Int)==10)=false:=by
 have:=Dw (p:=fun c=>EY c||(!((c.toNat:Int)==32)&& !((c.toNat:Int)==10))) (by decide+kernel) c;rw[h]at this;simpa using this
theorem Mu{c:UInt8}(h:EE c EZ=true):((c.toNat:Int)==0)=false:=by
 have:=Dw (p:=fun c=> !inB c EZ|| !((c.toNat:Int)==0)) (by decide+kernel) c;rw[h]at this;simpa using this
theorem W7{c:UInt8}(h:(s.data.toList.drop k).head?=some c):∃h:k<s.size,((s[k].toNat:Int)==(c.toNat:Int))=true:=by
 by_cases hl:k<s.size
 ·rw[B0 s k hl]at h;simp at h;exact⟨hl,by rw[h];simp⟩
 ·rw[DX s k hl]at h;simp at h
theorem Vq{c:UInt8}(hl:k<s.size)(h:¬(s.data.toList.drop k).head?=some c):((s[k].toNat:Int)==(c.toNat:Int))=false:=by
 rw[B0 s k hl]at h;simp at h;rw[Qu];intro e;exact h (UInt8.toNat_inj.1 Yo)
theorem EM{to kd:Nat}{done:List BZ}{e:Value}{x:Lv}(q:k<s.size)(hd:s.data.toList.drop k=s[k]::s.data.toList.drop (k+1))(hb:EY s[k]=false)
  (n:to=k+(A5 s[k] (s.data.toList.drop (k+1))).2+1) (l:kd=(A5 s[k] (s.data.toList.drop (k+1))).1) (p:done.length<=k)
  (d:done++C4 (s.data.toList.drop k) k=C4 s.data.toList 0) (c:Below w.hz w wr) (m:wr.ownsRow w.hz 243 3 v done.length (AP done))
  (b:Ar wr w.hz 243 3 v (done.length+1) x e w1) (o:x=AP done++[Vi kd,.string (s.extract k to),Vi k]):
  ∃(j:Nat)(a:List BZ),j<=s.size/\to=j/\a.length<=j/\a++C4 (s.data.toList.drop j) j=C4 s.data.toList 0/\Below w.hz w w1/\
   w1.ownsRow w.hz 243 3 e a.length (AP a):=by
 have r:=ME s[k] (s.data.toList.drop (k+1));have t:(s.data.toList.drop (k+1)).length=s.size-(k+1):=Ys
 have g:s.extract k to=⟨((s[k]::s.data.toList.drop (k+1)).take ((A5 s[k] (s.data.toList.drop (k+1))).2+1)).toArray⟩:=by
  rw[<-hd];apply ByteArray.ext;apply Array.ext';rw[Lib.extract_data];have:to-k=(A5 s[k] (s.data.toList.drop (k+1))).2+1:=Yo
  rw[this]
 refine⟨to,done++[⟨kd,(s[k]::s.data.toList.drop (k+1)).take ((A5 s[k] (s.data.toList.drop (k+1))).2+1),k⟩],?_,rfl,?_,?_,?_,?_⟩
 ·omega
 ·simp;omega
 ·rw[hd,MT _ _ _ hb]at d;rw[<-d,Qi,List.drop_drop];have f:k+1+(A5 s[k] (s.data.toList.drop (k+1))).2=to:=Yo
  rw[f,<-n,<-l];rfl
 ·exact c.trans ((b.kept.below c.size (fun i hi=>by
   rcases m.lt i hi with⟨h,_⟩;exact h)))
 ·have:=b.owns;rw[o,g]at this;simpa[AP,DH]using this
set_option maxRecDepth 100000 in
theorem RF(s:ByteArray)(w:World)(X:s.size<=4096):
    Calls prog 141 #[.string s] w fun e w'=>∃v,e= .returned v/\Below w.hz w w'/\
      w'.ownsRow w.hz 243 3 v ((C4 s.data.toList 0).length+1) (AP (C4 s.data.toList 0++[⟨4,[],s.size⟩])):=by
  have M:s.size<=maxLen:=by unfold maxLen;omega
  go_enter func141,Y;go_wp2
  go_loopw [3,4] (fun v i wr=>∃(k:Nat)(done:List BZ),k<=s.size/\i=Vi k/\done.length<=k/\done++C4 (s.data.toList.drop k) k=C4 s.data.toList 0/\Below w.hz w wr/\
      wr.ownsRow w.hz 243 3 v done.length (AP done)) (fun _ i _=>s.size-(intOf i).toNat)
  case atStart=>exact⟨0,[],Qm _,rfl,Qe _,rfl,Below.refl _ _,Q2 _ _ _ _⟩
  case round=>
    obtain⟨k,done,V,rfl,A,K,d,N⟩:=hrel;have t:Hid (done++C4 (s.data.toList.drop k) k=C4 s.data.toList 0):=K;have f:Hid (wr.ownsRow w.hz 243 3 _ done.length (AP done)):=N;clear K N
    by_cases u:k<s.size
    · have hd:=B0 s k u
      have Hd:Hid _:=hd;clear hd
      cases D:EY s[k]
      case true=>
        have R:Hid (done++C4 (s.data.toList.drop (k+1)) (k+1)=C4 s.data.toList 0):=by
          have h:=t.out;rw[Hd.out,Lr _ _ _ D]at h;exact h
        rcases J6 D with H|⟨H,P⟩
        all_goals
          go_wp2_with fail;apply(BS _ CY _ Yd).mono;rintro e w' ⟨rfl,rfl⟩;go_wp2_with fail;apply(BS _ DE _ Yd).mono;rintro e w' ⟨rfl,rfl⟩;go_wp2_with fail;apply(BS _ EZ _ Yd).mono;rintro e w' ⟨rfl,rfl⟩;go_wp2_with fail
          go_roundw
          case rel=>exact⟨k+1,done,Yo,by go_num,Yo,R.out,d,f.out⟩
          case measure=>simp[intOf];omega
      case false=>
        obtain⟨H,P⟩:=ML D;have z:Hid (EY s[k]=false):=D;clear D
        cases C:EE s[k] CY
        case true=>
          have c:Hid (A5 s[k] (s.data.toList.drop (k+1))=(1,AY (s.data.toList.drop (k+1)))):=by show _=_;unfold A5;rw[if_pos C]
          have B:Hid (AY (s.data.toList.drop k)=AY (s.data.toList.drop (k+1))+1):=by show _=_;rw[Hd.out];exact Er _ _ (He (by assumption))
          have T:k+AY (s.data.toList.drop k)<=s.size:=by have:=IK (s.data.toList.drop k);simp at this;omega
          have S:1<=AY (s.data.toList.drop k):=by have:=B.out;omega
          go_wp2_with fail;apply(BS _ CY _ Yd).mono;rintro e w' ⟨rfl,rfl⟩;go_wp2_with fail;apply(BS _ DE _ Yd).mono;rintro e w' ⟨rfl,rfl⟩;go_wp2_with fail;apply(BS _ EZ _ Yd).mono;rintro e w' ⟨rfl,rfl⟩;go_wp2_with fail;apply(P4 _ _ _ M Yo).mono;rintro e w' ⟨rfl,rfl⟩
          go_wp2_with (at_builtin;refine Am _ rfl (.tmp 66) (.tmp 74) 238 rfl w.hz 243 infoTok underlying238 rfl Yd _ done.length (AP done) rfl f.out _ rfl rfl rfl (F4 _ _ _) ?_ d.size ?_)
          · omega
          intro y w1 a;have g:=JR a;clear a;go_wp2
          go_roundw
          case rel=>
            obtain⟨j,l,m,n,o,p,q,r⟩:=EM u Hd.out z.out (by rw[c.out];have:=B.out;omega) (by simp[c.out]) A t.out d f.out g.out rfl;exact⟨j,l,m,by rw[<-n];go_num,o,p,q,r⟩
          case measure=>simp[intOf];omega
        case false=>
         cases E:EE s[k] DE
         case true=>
          have c:Hid (A5 s[k] (s.data.toList.drop (k+1))=(2,AY (s.data.toList.drop (k+1)))):=by show _=_;unfold A5;rw[if_neg (by simp[C]),if_pos E]
          have B:Hid (AY (s.data.toList.drop k)=AY (s.data.toList.drop (k+1))+1):=by show _=_;rw[Hd.out];exact Er _ _ (HB (by assumption))
          have T:k+AY (s.data.toList.drop k)<=s.size:=by have:=IK (s.data.toList.drop k);simp at this;omega
          have S:1<=AY (s.data.toList.drop k):=by have:=B.out;omega
          go_wp2_with fail;apply(BS _ CY _ Yd).mono;rintro e w' ⟨rfl,rfl⟩;go_wp2_with fail;apply(BS _ DE _ Yd).mono;rintro e w' ⟨rfl,rfl⟩;go_wp2_with fail;apply(BS _ EZ _ Yd).mono;rintro e w' ⟨rfl,rfl⟩;go_wp2_with fail;apply(P4 _ _ _ M Yo).mono;rintro e w' ⟨rfl,rfl⟩
          go_wp2_with (at_builtin;refine Am _ rfl (.tmp 66) (.tmp 74) 238 rfl w.hz 243 infoTok underlying238 rfl Yd _ done.length (AP done) rfl f.out _ rfl rfl rfl (F4 _ _ _) ?_ d.size ?_)
          · omega
          intro y w1 a;have g:=JR a;clear a;go_wp2
          go_roundw
          case rel=>
            obtain⟨j,l,m,n,o,p,q,r⟩:=EM u Hd.out z.out (by rw[c.out];have:=B.out;omega) (by simp[c.out]) A t.out d f.out g.out rfl;exact⟨j,l,m,by rw[<-n];go_num,o,p,q,r⟩
          case measure=>simp[intOf];omega
         case false=>
          cases F:EE s[k] EZ
          case true=>
           have c:Hid (A5 s[k] (s.data.toList.drop (k+1))=(s[k].toNat,0)):=by show _=_;unfold A5;rw[if_neg (by simp[C]),if_neg (by simp[E]),if_pos F]
           have W:((s[k].toNat:Int)==0)=false:=Mu F;have U:(s[k].toNat:Int)<256:=by have:=s[k].toNat_lt;omega
           go_wp2_with fail;apply(BS _ CY _ Yd).mono;rintro e w' ⟨rfl,rfl⟩;go_wp2_with fail;apply(BS _ DE _ Yd).mono;rintro e w' ⟨rfl,rfl⟩;go_wp2_with fail;apply(BS _ EZ _ Yd).mono;rintro e w' ⟨rfl,rfl⟩
           go_wp2_with (at_builtin;refine Am _ rfl (.tmp 66) (.tmp 74) 238 rfl w.hz 243 infoTok underlying238 rfl Yd _ done.length (AP done) rfl f.out _ rfl rfl rfl (F4 _ _ _) ?_ d.size ?_)
           · omega
           intro y w1 a;have g:=JR a;clear a;go_wp2
           go_roundw
           case rel=>
             obtain⟨j,l,m,n,o,p,q,r⟩:=EM (to:=k+1) (kd:=s[k].toNat) u Hd.out z.out (by simp[c.out]) (by simp[c.out]) A t.out d f.out g.out (by first|rfl|simp[wrap64_byte]);exact⟨j,l,m,by rw[<-n];go_num,o,p,q,r⟩
           case measure=>simp[intOf];omega
          case false=>
           by_cases x:s[k]=58/\(s.data.toList.drop (k+1)).head?=some 45
           · have c:Hid (A5 s[k] (s.data.toList.drop (k+1))=(3,1)):=by show _=_;unfold A5;rw[if_neg (by simp[C]),if_neg (by simp[E]),if_neg (by simp[F]),if_pos x]
             obtain⟨L,I⟩:=W7 x.2;have Q:((s[k+1].toNat:Int)==45)=true:=I;clear I;have J:((s[k].toNat:Int)==58)=true:=by rw[x.1];rfl
             clear x;go_wp2_with fail;apply(BS _ CY _ Yd).mono;rintro e w' ⟨rfl,rfl⟩;go_wp2_with fail;apply(BS _ DE _ Yd).mono;rintro e w' ⟨rfl,rfl⟩;go_wp2_with fail;apply(BS _ EZ _ Yd).mono;rintro e w' ⟨rfl,rfl⟩
             go_wp2_with (at_builtin;refine Am _ rfl (.tmp 66) (.tmp 74) 238 rfl w.hz 243 infoTok underlying238 rfl Yd _ done.length (AP done) rfl f.out _ rfl rfl rfl (F4 _ _ _) ?_ d.size ?_)
             · omega
             intro y w1 a;have g:=JR a;clear a;go_wp2
             go_roundw
             case rel=>
               obtain⟨j,l,m,n,o,p,q,r⟩:=EM u Hd.out z.out (by simp[c.out]) (by simp[c.out]) A t.out d f.out g.out rfl;exact⟨j,l,m,by rw[<-n];go_num,o,p,q,r⟩
             case measure=>simp[intOf];omega
           · have c:Hid (A5 s[k] (s.data.toList.drop (k+1))=(5,0)):=by show _=_;unfold A5;rw[if_neg (by simp[C]),if_neg (by simp[E]),if_neg (by simp[F]),if_neg x]
             cases J:((s[k].toNat:Int)==58)
             · clear x
               go_wp2_with fail;apply(BS _ CY _ Yd).mono;rintro e w' ⟨rfl,rfl⟩;go_wp2_with fail;apply(BS _ DE _ Yd).mono;rintro e w' ⟨rfl,rfl⟩;go_wp2_with fail;apply(BS _ EZ _ Yd).mono;rintro e w' ⟨rfl,rfl⟩
               go_wp2_with (at_builtin;refine Am _ rfl (.tmp 66) (.tmp 74) 238 rfl w.hz 243 infoTok underlying238 rfl Yd _ done.length (AP done) rfl f.out _ rfl rfl rfl (F4 _ _ _) ?_ d.size ?_)
               · omega
               intro y w1 a;have g:=JR a;clear a;go_wp2
               go_roundw
               case rel=>
                 obtain⟨j,l,m,n,o,p,q,r⟩:=EM u Hd.out z.out (by simp[c.out]) (by simp[c.out]) A t.out d f.out g.out rfl;exact⟨j,l,m,by rw[<-n];go_num,o,p,q,r⟩
               case measure=>simp[intOf];omega
             · have G:¬(s.data.toList.drop (k+1)).head?=some 45:=fun h=>x ⟨Tp (b:=58) J,h⟩
               clear x
               by_cases L:k+1<s.size
               · have Q:((s[k+1].toNat:Int)==45)=false:=Vq L G
                 clear G;go_wp2_with fail;apply(BS _ CY _ Yd).mono;rintro e w' ⟨rfl,rfl⟩;go_wp2_with fail;apply(BS _ DE _ Yd).mono;rintro e w' ⟨rfl,rfl⟩;go_wp2_with fail;apply(BS _ EZ _ Yd).mono;rintro e w' ⟨rfl,rfl⟩
                 go_wp2_with (at_builtin;refine Am _ rfl (.tmp 66) (.tmp 74) 238 rfl w.hz 243 infoTok underlying238 rfl Yd _ done.length (AP done) rfl f.out _ rfl rfl rfl (F4 _ _ _) ?_ d.size ?_)
                 · omega
                 intro y w1 a;have g:=JR a;clear a;go_wp2
                 go_roundw
                 case rel=>
                   obtain⟨j,l,m,n,o,p,q,r⟩:=EM u Hd.out z.out (by simp[c.out]) (by simp[c.out]) A t.out d f.out g.out rfl;exact⟨j,l,m,by rw[<-n];go_num,o,p,q,r⟩
                 case measure=>simp[intOf];omega
               · clear G
                 go_wp2_with fail;apply(BS _ CY _ Yd).mono;rintro e w' ⟨rfl,rfl⟩;go_wp2_with fail;apply(BS _ DE _ Yd).mono;rintro e w' ⟨rfl,rfl⟩;go_wp2_with fail;apply(BS _ EZ _ Yd).mono;rintro e w' ⟨rfl,rfl⟩
                 go_wp2_with (at_builtin;refine Am _ rfl (.tmp 66) (.tmp 74) 238 rfl w.hz 243 infoTok underlying238 rfl Yd _ done.length (AP done) rfl f.out _ rfl rfl rfl (F4 _ _ _) ?_ d.size ?_)
                 · omega
                 intro y w1 a;have g:=JR a;clear a;go_wp2
                 go_roundw
                 case rel=>
                   obtain⟨j,l,m,n,o,p,q,r⟩:=EM u Hd.out z.out (by simp[c.out]) (by simp[c.out]) A t.out d f.out g.out rfl;exact⟨j,l,m,by rw[<-n];go_num,o,p,q,r⟩
                 case measure=>simp[intOf];omega
    · have O:Hid (done=C4 s.data.toList 0):=by
        have h:=t.out;rw[DX s k u]at h;show done=_;simpa[VU]using h
      go_wp2_with (at_builtin;refine Am _ rfl (.tmp 77) (.tmp 81) 238 rfl w.hz 243 infoTok underlying238 rfl Yd _ done.length (AP done) rfl f.out _ rfl rfl rfl (F4 _ _ _) ?_ d.size ?_)
      · omega
      intro y w1 a;have g:=JR a;clear a;go_wp2;go_ret;have ha:=g.out;rw[O.out]at ha;refine⟨y,rfl,d.trans (ha.kept.below d.size (fun i hi=>(f.out.lt i hi).1)),?_⟩;simpa[AP,DH]using ha.owns
theorem Yg{p:Prop}(h:p:=by go_num):p:=h
def Hd(p:Prop):Prop:=p
theorem Hd.o{p:Prop}(h:Hd p):p:=h
theorem hd{p:Prop}(h:p):Hd p:=h
structure Bj where
 want:Nat
 query:Bool
 body:Bool
 stk:List Nat
 size:Nat
 goals:Nat
 heads:Nat
 err:Nat
def AL(L:Bj)(ov:Value):Av:=
 #[.int .i64 L.want,.bool L.query,.bool L.body,ov,.int .i64 L.size,.int .i64 L.goals,.int .i64 L.heads,.int .i64 L.err]
def AM(l:List Nat):Lv:=l.map fun(n:Nat)=>Value.int .i64 n
structure A0(w:World)(B b:Nat)(L:Bj)(ov:Value):Prop where
 blk:w.heap[b]?=some (.cells (AL L ov) 278 (0,0))
 opn:w.ownsRow B 3 1 ov L.stk.length (AM L.stk.reverse)
theorem Aa{cs:Av}{T:TypeId}(h:w.heap[b]?=some (.cells cs T (0,0)))(i:Nat)(v:Value)(a:cs[i]?=some v):
  w.cell? ⟨b,i,none⟩=some v:=by simp[World.cell?,h,a]
theorem Ae{cs:Av}{T:TypeId}(h:w.heap[b]?=some (.cells cs T (0,0)))(i:Nat):w.frozen? ⟨b,i,none⟩=false:=by
 simp[World.frozen?,h]
theorem Ab{o:Obj}(h:w.heap[b]?=some o):b<w.hz:=(Array.getElem?_eq_some_iff.1 h).1
theorem Af{cs:Av}{T:TypeId}(h:w.heap[b]?=some (.cells cs T (0,0)))(i:Nat)(v:Value):
  (w.setCell ⟨b,i,none⟩ v).heap[b]?=some (.cells (cs.setIfInBounds i v) T (0,0)):=by
 simp[World.setCell,Array.getElem?_modify,h]
theorem Ah{o:Obj}(h:w.heap[b]?=some o)(a:Obj):(w.alloc a).heap[b]?=some o:=by
 rw[Below.heap_alloc _ _ _ (Ab h)];exact h
theorem A0.facts{L:Bj}{a:Value}(h:A0 w B b L a):
  b<w.hz/\(w.cell? ⟨b,0,none⟩=some (Vi L.want)/\w.cell? ⟨b,1,none⟩=some (.bool L.query)/\w.cell? ⟨b,2,none⟩=some (.bool L.body)/\w.cell? ⟨b,3,none⟩=some a/\
   w.cell? ⟨b,4,none⟩=some (Vi L.size)/\w.cell? ⟨b,5,none⟩=some (Vi L.goals)/\w.cell? ⟨b,6,none⟩=some (Vi L.heads)/\w.cell? ⟨b,7,none⟩=some (Vi L.err))/\
  (∀i,w.frozen? ⟨b,i,none⟩=false):=
 ⟨Ab h.blk,⟨Aa h.blk 0 _ rfl,Aa h.blk 1 _ rfl,Aa h.blk 2 _ rfl,Aa h.blk 3 _ rfl,Aa h.blk 4 _ rfl,Aa h.blk 5 _ rfl,Aa h.blk 6 _ rfl,Aa h.blk 7 _ rfl⟩,
  fun i=>Ae h.blk i⟩
theorem A0.apart{L:Bj}{d:Value}(h:A0 w B b L d):∀k,d.ownBlock=some k->¬k=b:=by
 rintro k a rfl;rcases h.opn.2 with⟨rfl,_⟩|⟨g,e,f,rfl,_,c,_⟩
 ·simp[Value.ownBlock]at a
 ·simp only[Value.ownBlock,Qo]at a;subst a;rw[h.blk]at c;simp at c
theorem A0.later{L:Bj}{a:Value}(h:A0 w B b L a)(c:Ad S w w')(hb:¬S b)(d:∀k,a.ownBlock=some k->¬S k):A0 w' B b L a:=
 ⟨(c.block b (Ab h.blk) hb).trans h.blk,c.owns h.opn d⟩
def only(b:Nat):Nat->Prop:=fun k=>k=b
theorem Ad.put{a:World}(h:Ad (only b) a w)(i:Nat)(u:Value):Ad (only b) a (w.setCell ⟨b,i,none⟩ u):=h.setCell (p:=⟨b,i,none⟩) (fun _=>(rfl:b=b)) u
def FI(L:Bj)(n:Nat):Bj:={L with size:=L.size+1,err:=if 8<n\/30<L.size+1 then 3 else L.err}
theorem Em(w:World)(B b:Nat)(L:Bj)(d:Value)(kd f:Int)(c:ByteArray)(h:A0 w B b L d)(A:L.size<=4096)(C:c.size<=4096):
  Calls prog 201 #[Pt b,.agg #[Vi kd,.string c,Vi f]] w fun e w'=>
   e=Rq #[]/\Ad (only b) w w'/\A0 w' B b (FI L c.size) d:=by
 obtain⟨hb,⟨p,q,r,s,t,u,v,y⟩,z⟩:=h.facts;have fin:∀(x:World)(e:Nat),x.heap[b]?=some (.cells (((AL L d).setIfInBounds 4 (Vi (L.size+1:Nat))).setIfInBounds 7 (Vi e)) 278 (0,0))->e=(FI L c.size).err->Ad (only b) w x->A0 x B b (FI L c.size) d:=by
  intro x e n m a;refine⟨?_,a.owns h.opn h.apart⟩;rw[n,m];rfl
 have i:=hd fin;have g:=hd h.blk;clear fin h
 by_cases j:8<c.size
 ·go_enter func201,ntmps201;go_wp2;go_end0;have a:Ad (only b) w (((w.setCell ⟨b,4,none⟩ (Vi (L.size+1:Nat))).setCell ⟨b,7,none⟩ (Vi (3:Nat))).alloc (.cells #[Vi kd,.string c,Vi f] 243)):=
   (((Ad.refl _ w).put 4 _).put 7 _).alloc _
  exact⟨rfl,a,i.o _ 3 (Ah (Af (Af g.o 4 _) 7 _) _) (by simp[FI,j]) a⟩
 ·by_cases k:30<L.size+1
  ·have l:((30:Int)<(L.size:Int)+1):=Yo
   go_enter func201,ntmps201;go_wp2;go_end0;have a:Ad (only b) w (((w.setCell ⟨b,4,none⟩ (Vi (L.size+1:Nat))).setCell ⟨b,7,none⟩ (Vi (3:Nat))).alloc (.cells #[Vi kd,.string c,Vi f] 243)):=
    (((Ad.refl _ w).put 4 _).put 7 _).alloc _
   exact⟨rfl,a,i.o _ 3 (Ah (Af (Af g.o 4 _) 7 _) _) (by simp[FI,j,k]) a⟩
  ·have l:¬((30:Int)<(L.size:Int)+1):=Yo
   go_enter func201,ntmps201;go_wp2;go_end0;have a:Ad (only b) w ((w.setCell ⟨b,4,none⟩ (Vi (L.size+1:Nat))).alloc (.cells #[Vi kd,.string c,Vi f] 243)):=
    ((Ad.refl _ w).put 4 _).alloc _
   exact⟨rfl,a,i.o _ L.err (Ah (Af g.o 4 _) _) (by simp[FI,j];omega) a⟩
def AS(L:Bj):Bj:=
 if L.want=0 then{L with heads:=L.heads+1,body:=false,size:=0,err:=if 24<L.heads+1 then 3 else L.err}
 else if L.want=1 then{L with goals:=L.goals+1,size:=0,err:=if 6<L.goals+1 then 3 else L.err}
 else match L.stk with
  |[]=>L
  |n::r=>{L with stk:=(n+1)::r,err:=if 4<n+1 then 3 else L.err}
def AH(L:Bj)(kd tn:Nat):Bj:=
 if kd≠1/\(kd≠2\/L.want≠2)then{L with err:=2}else{FI (AS L) tn with want:=if kd=1 then 3 else 4}
theorem AZ(w:World)(cs:Av)(T:TypeId)(i:Nat)(v:Value)(h:cs[i]?=some v):(w.alloc (.cells cs T)).cell? ⟨w.hz,i,none⟩=some v:=
 Aa (QL w _) i v h
theorem H0{a:World}(i:Nat)(h:b<a.hz):¬only b (⟨a.hz,i,none⟩:Addr).block:=fun e=>by have:a.hz=b:=e;omega
theorem A0.from{c:World}{L a:Bj}{d:Value}{cs:Av}(h:A0 w B b L d)(g:Ad (only b) w c)(e:c.heap[b]?=some (.cells cs 278 (0,0)))
  (f:cs=AL a d) (i:a.stk=L.stk):A0 c B b a d:=
 ⟨by rw[e,f],by rw[i];exact g.owns h.opn h.apart⟩
theorem Mkt{S:Nat->Prop}{a w:World}(h:Ad S a w:=by repeat(first|exact Ad.refl _ _|apply Ad.alloc|apply Ad.put|apply Ad.drew)):Ad S a w:=h
variable{L:Bj}
theorem O6(w:World)(B b:Nat)(L:Bj)(j:Value)(E:Int)(n:ByteArray)(h:A0 w B b L j)(F:L.heads<=4096)(y:n.size<=4096)(m:L.want=0):
  Calls prog 177 #[Pt b,.agg #[Vi 1,.string n,Vi E]] w fun e w'=>
   e=Rq #[]/\Ad (only b) w w'/\A0 w' B b (AH L 1 n.size) j:=by
 obtain⟨hb,⟨k,p,q,r,s,t,u,v⟩,x⟩:=h.facts;rw[m]at k;have a:=hd m;have i:=hd h;clear h m
 by_cases c:24<L.heads+1
 ·have C:(24:Int)<(L.heads:Int)+1:=Yo
  go_enter func177,ntmps177;go_wp2_with fail;refine(Em _ B b (AS L) j _ _ _ ?_ ?_ y).mono ?_
  ·exact i.o.from ((((((Ad.refl (only b) w).put 6 _).put 2 _).put 4 _).put 7 _).alloc _) (Ah (Af (Af (Af (Af i.o.blk 6 _) 2 _) 4 _) 7 _) _) (by simp[AL,AS,a.o,c]) (by simp[AS,a.o,c])
  ·simp[AS,a.o,c]
  rintro e w1 ⟨rfl,f,d⟩;have D:w1.cell? ⟨w.hz,0,none⟩=some (Vi 1):=by
   have h:=f.cell (AZ _ _ _ 0 _ rfl) (H0 _ (by simpa using hb));simpa using h
  have l:=hd (((((((Ad.refl (only b) w).put 6 _).put 2 _).put 4 _).put 7 _).alloc _).trans f);have g:=hd d;have z:=d.facts.2.1.1;have A:=d.facts.2.2;clear f d k p q r s t u v x;go_wp2;go_end0;exact⟨rfl,l.o.trans (((Ad.refl (only b) w1).put 0 _).put 0 _),g.o.from (((Ad.refl (only b) w1).put 0 _).put 0 _) (Af (Af g.o.blk 0 _) 0 _) (by simp[AL,AH,a.o,c]) (by simp[AH,a.o,c])⟩
 ·have C:¬(24:Int)<(L.heads:Int)+1:=Yo
  go_enter func177,ntmps177;go_wp2_with fail;refine(Em _ B b (AS L) j _ _ _ ?_ ?_ y).mono ?_
  ·exact i.o.from (((((Ad.refl (only b) w).put 6 _).put 2 _).put 4 _).alloc _) (Ah (Af (Af (Af i.o.blk 6 _) 2 _) 4 _) _) (by simp[AL,AS,a.o,c]) (by simp[AS,a.o,c])
  ·simp[AS,a.o,c]
  rintro e w1 ⟨rfl,f,d⟩;have D:w1.cell? ⟨w.hz,0,none⟩=some (Vi 1):=by
   have h:=f.cell (AZ _ _ _ 0 _ rfl) (H0 _ (by simpa using hb));simpa using h
  have l:=hd ((((((Ad.refl (only b) w).put 6 _).put 2 _).put 4 _).alloc _).trans f);have g:=hd d;have z:=d.facts.2.1.1;have A:=d.facts.2.2;clear f d k p q r s t u v x;go_wp2;go_end0;exact⟨rfl,l.o.trans (((Ad.refl (only b) w1).put 0 _).put 0 _),g.o.from (((Ad.refl (only b) w1).put 0 _).put 0 _) (Af (Af g.o.blk 0 _) 0 _) (by simp[AL,AH,a.o,c]) (by simp[AH,a.o,c])⟩
theorem OS(w:World)(B b:Nat)(L:Bj)(j:Value)(E:Int)(n:ByteArray)(h:A0 w B b L j)(F:L.goals<=4096)(y:n.size<=4096)(m:L.want=1):
  Calls prog 177 #[Pt b,.agg #[Vi 1,.string n,Vi E]] w fun e w'=>
   e=Rq #[]/\Ad (only b) w w'/\A0 w' B b (AH L 1 n.size) j:=by
 obtain⟨hb,⟨k,p,q,r,s,t,u,v⟩,x⟩:=h.facts;rw[m]at k;have a:=hd m;have i:=hd h;clear h m
 by_cases c:6<L.goals+1
 ·have C:(6:Int)<(L.goals:Int)+1:=Yo
  go_enter func177,ntmps177;go_wp2_with fail;refine(Em _ B b (AS L) j _ _ _ ?_ ?_ y).mono ?_
  ·exact i.o.from (((((Ad.refl (only b) w).put 5 _).put 4 _).put 7 _).alloc _) (Ah (Af (Af (Af i.o.blk 5 _) 4 _) 7 _) _) (by simp[AL,AS,a.o,c]) (by simp[AS,a.o,c])
  ·simp[AS,a.o,c]
  rintro e w1 ⟨rfl,f,d⟩;have D:w1.cell? ⟨w.hz,0,none⟩=some (Vi 1):=by
   have h:=f.cell (AZ _ _ _ 0 _ rfl) (H0 _ (by simpa using hb));simpa using h
  have l:=hd ((((((Ad.refl (only b) w).put 5 _).put 4 _).put 7 _).alloc _).trans f);have g:=hd d;have z:=d.facts.2.1.1;have A:=d.facts.2.2;clear f d k p q r s t u v x;go_wp2;go_end0;exact⟨rfl,l.o.trans (((Ad.refl (only b) w1).put 0 _).put 0 _),g.o.from (((Ad.refl (only b) w1).put 0 _).put 0 _) (Af (Af g.o.blk 0 _) 0 _) (by simp[AL,AH,a.o,c]) (by simp[AH,a.o,c])⟩
 ·have C:¬(6:Int)<(L.goals:Int)+1:=Yo
  go_enter func177,ntmps177;go_wp2_with fail;refine(Em _ B b (AS L) j _ _ _ ?_ ?_ y).mono ?_
  ·exact i.o.from ((((Ad.refl (only b) w).put 5 _).put 4 _).alloc _) (Ah (Af (Af i.o.blk 5 _) 4 _) _) (by simp[AL,AS,a.o,c]) (by simp[AS,a.o,c])
  ·simp[AS,a.o,c]
  rintro e w1 ⟨rfl,f,d⟩;have D:w1.cell? ⟨w.hz,0,none⟩=some (Vi 1):=by
   have h:=f.cell (AZ _ _ _ 0 _ rfl) (H0 _ (by simpa using hb));simpa using h
  have l:=hd (((((Ad.refl (only b) w).put 5 _).put 4 _).alloc _).trans f);have g:=hd d;have z:=d.facts.2.1.1;have A:=d.facts.2.2;clear f d k p q r s t u v x;go_wp2;go_end0;exact⟨rfl,l.o.trans (((Ad.refl (only b) w1).put 0 _).put 0 _),g.o.from (((Ad.refl (only b) w1).put 0 _).put 0 _) (Af (Af g.o.blk 0 _) 0 _) (by simp[AL,AH,a.o,c]) (by simp[AH,a.o,c])⟩
theorem RW(w:World)(B b:Nat)(L:Bj)(f:Value)(kd:Nat)(j:Int)(g:ByteArray)(h:A0 w B b L f)(d:kd≠1/\(kd≠2\/L.want≠2)):
  Calls prog 177 #[Pt b,.agg #[Vi kd,.string g,Vi j]] w fun e w'=>
   e=Rq #[]/\Ad (only b) w w'/\A0 w' B b (AH L kd g.size) f:=by
 obtain⟨hb,⟨k,l,m,n,p,q,r,s⟩,x⟩:=h.facts;have a:=hd d;have c:=hd h;have t:((kd:Int)==1)=false:=by rw[Qu];omega
 have u:((kd:Int) !=1)=true:=by rw[bne_iff_ne];omega
 cases i:((kd:Int) !=2)
 ·have v:((L.want:Int) !=2)=true:=by
   rw[bne_iff_ne];have:(kd:Int)=2:=by simpa using i
   omega
  clear h d;go_enter func177,ntmps177;go_wp2;refine bodyPost_ret (results_none rfl _ _ _) rfl ?_;exact⟨rfl,((Ad.refl (only b) w).put 7 _).alloc _,c.o.from (((Ad.refl (only b) w).put 7 _).alloc _) (Ah (Af c.o.blk 7 _) _) (by unfold AH;rw[if_pos a.o];simp[AL]) (by unfold AH;rw[if_pos a.o])⟩
 ·clear h d;go_enter func177,ntmps177;go_wp2;refine bodyPost_ret (results_none rfl _ _ _) rfl ?_;exact⟨rfl,((Ad.refl (only b) w).put 7 _).alloc _,c.o.from (((Ad.refl (only b) w).put 7 _).alloc _) (Ah (Af c.o.blk 7 _) _) (by unfold AH;rw[if_pos a.o];simp[AL]) (by unfold AH;rw[if_pos a.o])⟩
def C8(b:Nat)(ov:Value):Nat->Prop:=fun k=>k=b\/ov.ownBlock=some k
theorem K4{g:Nat}(h:w.ownsRow B e 1 (.slice (some ⟨g,0,none⟩) n cap) n xs)(i:Nat)(u:Value):
  (w.setCell ⟨g,i,none⟩ u).ownsRow B e 1 (.slice (some ⟨g,0,none⟩) n cap) n (xs.set i u):=by
 refine⟨by simpa using h.1,?_⟩;rcases h.2 with⟨a,_⟩|⟨l,k,b,a,hb,d,hn,c,f,j⟩
 ·simp at a
 ·simp at a;obtain⟨rfl,rfl⟩:=a;refine .inr ⟨g,cap,b.setIfInBounds i u,rfl,hb,Af d i u,hn,c,by simpa using f,?_⟩;rw[<-j];simp[List.take_set]
theorem An(h:w.ownsRow B e size v n xs)(hn:0<n):
  ∃g a b,v= .slice (some ⟨g,0,none⟩) n a/\B<=g/\w.heap[g]?=some (.cells b e (0,0))/\n<=a:=by
 rcases h.2 with⟨_,c⟩|⟨g,a,b,c,hb,d,hn,_⟩
 ·omega
 ·exact⟨g,a,b,c,hb,d,hn⟩
theorem Ag{g:Nat}(h:w.ownsRow B e size (.slice (some ⟨g,0,none⟩) n cap) n xs)(j:Nat)(u:Value)(b:xs[j]?=some u):
  w.cell? ⟨g,j,none⟩=some u:=by
 have:=h.cells (g:=g) rfl j u b;have a:(⟨g,0,none⟩:Addr).add j=⟨g,j,none⟩:=by unfold Addr.add;split<;>simp_all
 rwa [a]at this
theorem A0.bump{g:Nat}{r:List Nat}(h:A0 w B b L (.slice (some ⟨g,0,none⟩) (r.length+1) cap))(f:L.stk=n::r):
  A0 (w.setCell ⟨g,r.length,none⟩ (Vi ((n:Int)+1))) B b {L with stk:=(n+1)::r} (.slice (some ⟨g,0,none⟩) (r.length+1) cap):=by
 have d:¬g=b:=h.apart g rfl;refine⟨?_,?_⟩
 ·rw[Below.heap_setCell _ _ _ _ (fun e=>d e.symm)];exact h.blk
 ·have c:=h.opn;rw[f]at c;have a:=K4 c r.length (Vi ((n:Int)+1));simp only[Qf];have e:(AM (n::r).reverse).set r.length (Vi ((n:Int)+1))=AM ((n+1)::r).reverse:=by
   simp[AM]
  rw[e]at a;exact a
theorem Ed(w:World)(cs:Av)(T:TypeId)(i:Nat)(v:Value)(h:cs[i]?=some v):(w.alloc (.cells cs T)).drew.cell? ⟨w.hz,i,none⟩=some v:=
 Aa (QL w _) i v h
theorem Ou(w:World)(B b:Nat)(L:Bj)(n:Nat)(r:List Nat)(z:Value)(S:Int)(A:ByteArray)(h:A0 w B b L z)(q:L.stk=n::r)(V:L.size<=4000)(hn:n<=4096)(Y:r.length<=4096)(M:A.size<=4096)(y:L.want=2):
  Calls prog 177 #[Pt b,.agg #[Vi 1,.string A,Vi S]] w fun e w'=>
   e=Rq #[]/\Ad (C8 b z) w w'/\A0 w' B b (AH L 1 A.size) z:=by
 obtain⟨hb,⟨s,D,E,t,F,G,H,I⟩,K⟩:=h.facts;have l:=h.opn;rw[q]at l;obtain⟨g,u,T,rfl,U,v,R⟩:=An l Ys;have X:=Ab v;have W:¬g=b:=h.apart g rfl;have cg:w.cell? ⟨g,r.length,none⟩=some (Vi n):=Ag l r.length _ (by simp[AM]);have J:=Ae v r.length;rw[y]at s;simp only[Qf]at l R t h;have c:=hd y;have a:=hd q;have m:=hd (h.bump q);have C:Hd (Ad (C8 b (.slice (some ⟨g,0,none⟩) (r.length+1) u)) w (w.setCell ⟨g,r.length,none⟩ (Vi ((n:Int)+1)))):=(Ad.refl _ w).setCell (p:=⟨g,r.length,none⟩) (fun _=>Or.inr rfl) _;clear h y q l v
 by_cases d:4<n+1
 ·have P:(4:Int)<(n:Int)+1:=Yo
  go_enter func177,ntmps177;go_wp2_with fail;go_region;go_wp2_with fail;refine(Em _ B b (AS L) (.slice (some ⟨g,0,none⟩) (r.length+1) u) _ _ _ ?_ ?_ M).mono ?_
  ·exact m.o.from ((((Ad.refl (only b) _).put 7 _).alloc _).drew) (Ah (Af m.o.blk 7 _) _) (by simp[AL,AS,c.o,a.o,d]) (by simp[AS,c.o,a.o,d])
  ·simp[AS,c.o,a.o,d];omega
  rintro e w1 ⟨rfl,j,f⟩;have Q:w1.cell? ⟨w.hz,0,none⟩=some (Vi 1):=by
   have h:=j.cell (Ed _ _ _ 0 _ rfl) (H0 _ (by simpa using hb));simpa using h
  have x:=hd (C.o.then (((((Ad.refl (only b) _).put 7 _).alloc _).drew).trans j) (fun i _ h=>Or.inl h));have k:=hd f;have N:=f.facts.2.1.1;have O:=f.facts.2.2;clear j f s D E t F G H I K cg J;go_wp2;go_end0;exact⟨rfl,x.o.then (((Ad.refl (only b) w1).put 0 _).put 0 _) (fun i _ h=>Or.inl h),k.o.from (((Ad.refl (only b) w1).put 0 _).put 0 _) (Af (Af k.o.blk 0 _) 0 _) (by simp[AL,AH,c.o,a.o,d]) (by simp[AH,c.o,a.o,d])⟩
 ·have P:¬(4:Int)<(n:Int)+1:=Yo
  go_enter func177,ntmps177;go_wp2_with fail;go_region;go_wp2_with fail;refine(Em _ B b (AS L) (.slice (some ⟨g,0,none⟩) (r.length+1) u) _ _ _ ?_ ?_ M).mono ?_
  ·exact m.o.from (((Ad.refl (only b) _).alloc _).drew) (Ah m.o.blk _) (by simp[AL,AS,c.o,a.o,d]) (by simp[AS,c.o,a.o,d])
  ·simp[AS,c.o,a.o,d];omega
  rintro e w1 ⟨rfl,j,f⟩;have Q:w1.cell? ⟨w.hz,0,none⟩=some (Vi 1):=by
   have h:=j.cell (Ed _ _ _ 0 _ rfl) (H0 _ (by simpa using hb));simpa using h
  have x:=hd (C.o.then ((((Ad.refl (only b) _).alloc _).drew).trans j) (fun i _ h=>Or.inl h));have k:=hd f;have N:=f.facts.2.1.1;have O:=f.facts.2.2;clear j f s D E t F G H I K cg J;go_wp2;go_end0;exact⟨rfl,x.o.then (((Ad.refl (only b) w1).put 0 _).put 0 _) (fun i _ h=>Or.inl h),k.o.from (((Ad.refl (only b) w1).put 0 _).put 0 _) (Af (Af k.o.blk 0 _) 0 _) (by simp[AL,AH,c.o,a.o,d]) (by simp[AH,c.o,a.o,d])⟩
theorem Nh(w:World)(B b:Nat)(L:Bj)(n:Nat)(r:List Nat)(z:Value)(S:Int)(A:ByteArray)(h:A0 w B b L z)(q:L.stk=n::r)(V:L.size<=4000)(hn:n<=4096)(Y:r.length<=4096)(M:A.size<=4096)(y:L.want=2):
  Calls prog 177 #[Pt b,.agg #[Vi 2,.string A,Vi S]] w fun e w'=>
   e=Rq #[]/\Ad (C8 b z) w w'/\A0 w' B b (AH L 2 A.size) z:=by
 obtain⟨hb,⟨s,D,E,t,F,G,H,I⟩,K⟩:=h.facts;have l:=h.opn;rw[q]at l;obtain⟨g,u,T,rfl,U,v,R⟩:=An l Ys;have X:=Ab v;have W:¬g=b:=h.apart g rfl;have cg:w.cell? ⟨g,r.length,none⟩=some (Vi n):=Ag l r.length _ (by simp[AM]);have J:=Ae v r.length;rw[y]at s;simp only[Qf]at l R t h;have c:=hd y;have a:=hd q;have m:=hd (h.bump q);have C:Hd (Ad (C8 b (.slice (some ⟨g,0,none⟩) (r.length+1) u)) w (w.setCell ⟨g,r.length,none⟩ (Vi ((n:Int)+1)))):=(Ad.refl _ w).setCell (p:=⟨g,r.length,none⟩) (fun _=>Or.inr rfl) _;clear h y q l v
 by_cases d:4<n+1
 ·have P:(4:Int)<(n:Int)+1:=Yo
  go_enter func177,ntmps177;go_wp2_with fail;go_region;go_wp2_with fail;refine(Em _ B b (AS L) (.slice (some ⟨g,0,none⟩) (r.length+1) u) _ _ _ ?_ ?_ M).mono ?_
  ·exact m.o.from ((((Ad.refl (only b) _).put 7 _).alloc _).drew) (Ah (Af m.o.blk 7 _) _) (by simp[AL,AS,c.o,a.o,d]) (by simp[AS,c.o,a.o,d])
  ·simp[AS,c.o,a.o,d];omega
  rintro e w1 ⟨rfl,j,f⟩;have Q:w1.cell? ⟨w.hz,0,none⟩=some (Vi 2):=by
   have h:=j.cell (Ed _ _ _ 0 _ rfl) (H0 _ (by simpa using hb));simpa using h
  have x:=hd (C.o.then (((((Ad.refl (only b) _).put 7 _).alloc _).drew).trans j) (fun i _ h=>Or.inl h));have k:=hd f;have N:=f.facts.2.1.1;have O:=f.facts.2.2;clear j f s D E t F G H I K cg J;go_wp2;go_end0;exact⟨rfl,x.o.then ((Ad.refl (only b) w1).put 0 _) (fun i _ h=>Or.inl h),k.o.from ((Ad.refl (only b) w1).put 0 _) (Af k.o.blk 0 _) (by simp[AL,AH,c.o,a.o,d]) (by simp[AH,c.o,a.o,d])⟩
 ·have P:¬(4:Int)<(n:Int)+1:=Yo
  go_enter func177,ntmps177;go_wp2_with fail;go_region;go_wp2_with fail;refine(Em _ B b (AS L) (.slice (some ⟨g,0,none⟩) (r.length+1) u) _ _ _ ?_ ?_ M).mono ?_
  ·exact m.o.from (((Ad.refl (only b) _).alloc _).drew) (Ah m.o.blk _) (by simp[AL,AS,c.o,a.o,d]) (by simp[AS,c.o,a.o,d])
  ·simp[AS,c.o,a.o,d];omega
  rintro e w1 ⟨rfl,j,f⟩;have Q:w1.cell? ⟨w.hz,0,none⟩=some (Vi 2):=by
   have h:=j.cell (Ed _ _ _ 0 _ rfl) (H0 _ (by simpa using hb));simpa using h
  have x:=hd (C.o.then ((((Ad.refl (only b) _).alloc _).drew).trans j) (fun i _ h=>Or.inl h));have k:=hd f;have N:=f.facts.2.1.1;have O:=f.facts.2.2;clear j f s D E t F G H I K cg J;go_wp2;go_end0;exact⟨rfl,x.o.then ((Ad.refl (only b) w1).put 0 _) (fun i _ h=>Or.inl h),k.o.from ((Ad.refl (only b) w1).put 0 _) (Af k.o.blk 0 _) (by simp[AL,AH,c.o,a.o,d]) (by simp[AH,c.o,a.o,d])⟩
theorem infoInt:(prog.info? 3).map (fun i=>(i.zero,i.size,i.bytes))=some (some (Vi 0),1,8):=by kernel_rfl
def Al(L:Bj)(kd:Nat):Bj:=
 if kd=40/\L.want=3 then{L with stk:=0::L.stk,want:=2}
 else if kd=44/\L.stk≠[]then{L with want:=2}
 else if kd=41/\L.stk≠[]then{L with stk:=L.stk.tail,want:=4}
 else if L.stk≠[]then{L with err:=2}
 else if kd=44/\L.body=true then{L with want:=1}
 else if kd=3/\L.body=false then{L with body:=true,goals:=0,want:=1}
 else if kd=46/\L.query=true then{L with want:=5}
 else if kd=46 then{L with want:=0}
 else{L with err:=2}
theorem Ac(h:w.ownsRow B e size v n xs):∃a b,v= .slice a n b:=by
 rcases h.2 with⟨rfl,rfl⟩|⟨g,b,c,rfl,_⟩
 ·exact⟨none,0,rfl⟩
 ·exact⟨_,_,rfl⟩
theorem DT(x:Int):∀u∈(#[Value.int .i64 x]:Av).toList,u.oneCell'=true:=by
 intro u a;simp at a;subst a;rfl
theorem IW{g:Nat}(h:w.ownsRow B e 1 (.slice (some ⟨g,0,none⟩) (n+1) cap) (n+1) xs):
  w.ownsRow B e 1 (.slice (some ⟨g,0,none⟩) n cap) n (xs.take n):=by
 refine⟨by have:=h.1;simp at this⊢;omega,?_⟩;rcases h.2 with⟨a,_⟩|⟨k,j,b,a,hb,d,hn,c,f,i⟩
 ·simp at a
 ·simp at a;obtain⟨rfl,rfl⟩:=a;refine .inr ⟨g,cap,b,rfl,hb,d,Yo,c,f,?_⟩;rw[<-i,List.take_take]
  congr 1
  omega
theorem A0.below{a:World}{d:Bj}{c:Value}{cs:Av}(h:A0 w B b L c)(l:B<=b)(f:Ad (only b) w a)(g:a.heap[b]?=some (.cells cs 278 (0,0)))
  (i:cs=AL d c) (j:d.stk=L.stk):∃k,Ad (C8 b c) w a/\A0 a B b d k:=
 ⟨c,f.mono (fun _ _ e=>Or.inl e),h.from f g i j⟩
theorem L9(w:World)(B b:Nat)(L:Bj)(n:Value)(q:Int)(s:ByteArray)(h:A0 w B b L n)(i:B<=b)(l:L.stk.length<=4096):
  Calls prog 178 #[Pt b,.agg #[Vi 44,.string s,Vi q]] w fun e w'=>
   e=Rq #[]/\∃p,Ad (C8 b n) w w'/\A0 w' B b (Al L 44) p:=by
 obtain⟨hb,⟨t,u,j,k,v,x,y,z⟩,C⟩:=h.facts;have a:=hd h;obtain⟨E,F,rfl⟩:=Ac h.opn;clear h
 cases d:L.stk with
 |nil=>
  simp only[d,Qt]at k a;have c:=hd d;clear d
  cases f:L.body
  ·rw[f]at j;have g:=hd f;clear f;go_enter func178,m;go_wp2;go_end0;exact⟨rfl,a.o.below i (((Ad.refl (only b) w).put 7 _).alloc _) (Ah (Af a.o.blk 7 _) _) (by simp[AL,Al,c.o,g.o]) (by simp[Al,c.o,g.o])⟩
  ·rw[f]at j;have g:=hd f;clear f;go_enter func178,m;go_wp2;go_end0;exact⟨rfl,a.o.below i (((Ad.refl (only b) w).put 0 _).alloc _) (Ah (Af a.o.blk 0 _) _) (by simp[AL,Al,c.o,g.o]) (by simp[Al,c.o,g.o])⟩
 |A G r=>
  have D:r.length+1<=4096:=by rw[d]at l;simpa using l
  simp only[d,Qf]at k a;have c:=hd d;clear d;go_enter func178,m;go_wp2;go_end0;exact⟨rfl,a.o.below i (((Ad.refl (only b) w).put 0 _).alloc _) (Ah (Af a.o.blk 0 _) _) (by simp[AL,Al,c.o]) (by simp[Al,c.o])⟩
theorem Ms(w:World)(B b:Nat)(L:Bj)(n:Value)(q:Int)(s:ByteArray)(h:A0 w B b L n)(i:B<=b)(l:L.stk.length<=4096):
  Calls prog 178 #[Pt b,.agg #[Vi 3,.string s,Vi q]] w fun e w'=>
   e=Rq #[]/\∃p,Ad (C8 b n) w w'/\A0 w' B b (Al L 3) p:=by
 obtain⟨hb,⟨t,u,j,k,v,x,y,z⟩,C⟩:=h.facts;have a:=hd h;obtain⟨E,F,rfl⟩:=Ac h.opn;clear h
 cases d:L.stk with
 |nil=>
  simp only[d,Qt]at k a;have c:=hd d;clear d
  cases f:L.body
  ·rw[f]at j;have g:=hd f;clear f;go_enter func178,m;go_wp2;go_end0;exact⟨rfl,a.o.below i (((((Ad.refl (only b) w).put 2 _).put 5 _).put 0 _).alloc _) (Ah (Af (Af (Af a.o.blk 2 _) 5 _) 0 _) _) (by simp[AL,Al,c.o,g.o]) (by simp[Al,c.o,g.o])⟩
  ·rw[f]at j;have g:=hd f;clear f;go_enter func178,m;go_wp2;go_end0;exact⟨rfl,a.o.below i (((Ad.refl (only b) w).put 7 _).alloc _) (Ah (Af a.o.blk 7 _) _) (by simp[AL,Al,c.o,g.o]) (by simp[Al,c.o,g.o])⟩
 |A G r=>
  have D:r.length+1<=4096:=by rw[d]at l;simpa using l
  simp only[d,Qf]at k a;have c:=hd d;clear d;go_enter func178,m;go_wp2;go_end0;exact⟨rfl,a.o.below i (((Ad.refl (only b) w).put 7 _).alloc _) (Ah (Af a.o.blk 7 _) _) (by simp[AL,Al,c.o]) (by simp[Al,c.o])⟩
theorem QM(w:World)(B b:Nat)(L:Bj)(n:Value)(q:Int)(s:ByteArray)(h:A0 w B b L n)(i:B<=b)(l:L.stk.length<=4096):
  Calls prog 178 #[Pt b,.agg #[Vi 46,.string s,Vi q]] w fun e w'=>
   e=Rq #[]/\∃p,Ad (C8 b n) w w'/\A0 w' B b (Al L 46) p:=by
 obtain⟨hb,⟨t,j,u,k,v,x,y,z⟩,C⟩:=h.facts;have a:=hd h;obtain⟨E,F,rfl⟩:=Ac h.opn;clear h
 cases d:L.stk with
 |nil=>
  simp only[d,Qt]at k a;have c:=hd d;clear d
  cases f:L.query
  ·rw[f]at j;have g:=hd f;clear f;go_enter func178,m;go_wp2;go_end0;exact⟨rfl,a.o.below i (((Ad.refl (only b) w).put 0 _).alloc _) (Ah (Af a.o.blk 0 _) _) (by simp[AL,Al,c.o,g.o]) (by simp[Al,c.o,g.o])⟩
  ·rw[f]at j;have g:=hd f;clear f;go_enter func178,m;go_wp2;go_end0;exact⟨rfl,a.o.below i (((Ad.refl (only b) w).put 0 _).alloc _) (Ah (Af a.o.blk 0 _) _) (by simp[AL,Al,c.o,g.o]) (by simp[Al,c.o,g.o])⟩
 |A G r=>
  have D:r.length+1<=4096:=by rw[d]at l;simpa using l
  simp only[d,Qf]at k a;have c:=hd d;clear d;go_enter func178,m;go_wp2;go_end0;exact⟨rfl,a.o.below i (((Ad.refl (only b) w).put 7 _).alloc _) (Ah (Af a.o.blk 7 _) _) (by simp[AL,Al,c.o]) (by simp[Al,c.o])⟩
theorem Kq(w:World)(B b:Nat)(L:Bj)(l:Value)(p:Int)(r:ByteArray)(h:A0 w B b L l)(i:B<=b)(j:L.stk.length<=4096)(k:L.want≠3):
  Calls prog 178 #[Pt b,.agg #[Vi 40,.string r,Vi p]] w fun e w'=>
   e=Rq #[]/\∃n,Ad (C8 b l) w w'/\A0 w' B b (Al L 40) n:=by
 obtain⟨hb,⟨s,t,u,g,v,x,y,z⟩,C⟩:=h.facts;have c:=hd h;obtain⟨F,G,rfl⟩:=Ac h.opn;clear h;have E:((L.want:Int)==3)=false:=by rw[Qu];omega
 have f:=hd k;clear k
 cases a:L.stk with
 |nil=>
  simp only[a,Qt]at g c;have d:=hd a;clear a;go_enter func178,m;go_wp2;go_end0;exact⟨rfl,c.o.below i (((Ad.refl (only b) w).put 7 _).alloc _) (Ah (Af c.o.blk 7 _) _) (by simp[AL,Al,d.o,f.o]) (by simp[Al,d.o,f.o])⟩
 |A H q=>
  have D:q.length+1<=4096:=by rw[a]at j;simpa using j
  simp only[a,Qf]at g c;have d:=hd a;clear a;go_enter func178,m;go_wp2;go_end0;exact⟨rfl,c.o.below i (((Ad.refl (only b) w).put 7 _).alloc _) (Ah (Af c.o.blk 7 _) _) (by simp[AL,Al,d.o,f.o]) (by simp[Al,d.o,f.o])⟩
theorem Mp(w:World)(B b:Nat)(L:Bj)(p:Value)(C:Int)(E:ByteArray)(h:A0 w B b L p)(v:B<=b)(i:L.stk.length<=4096):
  Calls prog 178 #[Pt b,.agg #[Vi 41,.string E,Vi C]] w fun e w'=>
   e=Rq #[]/\∃A,Ad (C8 b p) w w'/\A0 w' B b (Al L 41) A:=by
 obtain⟨hb,⟨F,G,H,g,I,J,K,M⟩,P⟩:=h.facts;have c:=hd h;obtain⟨R,q,rfl⟩:=Ac h.opn;clear h
 cases f:L.stk with
 |nil=>
  simp only[f,Qt]at g c;have d:=hd f;clear f;go_enter func178,z;go_wp2;go_end0;exact⟨rfl,c.o.below v (((Ad.refl (only b) w).put 7 _).alloc _) (Ah (Af c.o.blk 7 _) _) (by simp[AL,Al,d.o]) (by simp[Al,d.o])⟩
 |N D a=>
  have Q:a.length+1<=4096:=by rw[f]at i;simpa using i
  simp only[f,Qf]at g c;have d:=hd f;clear f;obtain⟨r,S,T,l,O,x,j⟩:=An c.o.opn (by rw[d.o];simp);simp only[QH]at l;obtain⟨rfl,_,rfl⟩:=l;rw[d.o]at j;simp only[Qf]at j;clear x;go_enter func178,z;go_wp2;go_end0;have m:=c.o.opn;refine⟨rfl,.slice (some ⟨r,0,none⟩) a.length q,?_,?_,?_⟩
  ·exact((((Ad.refl (only b) w).put 3 _).put 0 _).alloc _).mono (fun _ _ e=>Or.inl e)
  ·rw[Ah (Af (Af c.o.blk 3 _) 0 _) _];simp[AL,Al,d.o]
  ·have s:w.ownsRow B 3 1 (.slice (some ⟨r,0,none⟩) a.length q) a.length (AM a.reverse):=by
    rw[d.o]at m;have t:=IW (n:=a.length) m;have e:(AM (D::a).reverse).take a.length=AM a.reverse:=by simp[AM]
    rwa [e]at t
   have u:(Al L 41).stk=a:=by simp[Al,d.o]
   rw[u];exact((((Ad.refl (only b) w).put 3 _).put 0 _).alloc _).owns s (fun k y=>c.o.apart k (by simpa[Value.ownBlock]using y))
theorem Mo(w:World)(B b:Nat)(L:Bj)(l:Value)(kd:Nat)(p:Int)(r:ByteArray)(h:A0 w B b L l)(i:B<=b)(j:L.stk.length<=4096)(k:kd≠40/\kd≠41/\kd≠44/\kd≠46/\kd≠3):
  Calls prog 178 #[Pt b,.agg #[Vi kd,.string r,Vi p]] w fun e w'=>
   e=Rq #[]/\∃n,Ad (C8 b l) w w'/\A0 w' B b (Al L kd) n:=by
 obtain⟨hb,⟨s,t,u,g,v,x,y,z⟩,C⟩:=h.facts;have c:=hd h;obtain⟨J,K,rfl⟩:=Ac h.opn;clear h;have E:((kd:Int)==40)=false:=by rw[Qu];omega
 have F:((kd:Int)==41)=false:=by rw[Qu];omega
 have G:((kd:Int)==44)=false:=by rw[Qu];omega
 have H:((kd:Int)==46)=false:=by rw[Qu];omega
 have I:((kd:Int)==3)=false:=by rw[Qu];omega
 have f:=hd k;clear k
 cases a:L.stk with
 |nil=>
  simp only[a,Qt]at g c;have d:=hd a;clear a;go_enter func178,m;go_wp2;go_end0;exact⟨rfl,c.o.below i (((Ad.refl (only b) w).put 7 _).alloc _) (Ah (Af c.o.blk 7 _) _) (by simp[AL,Al,d.o,f.o]) (by simp[Al,d.o,f.o])⟩
 |A M q=>
  have D:q.length+1<=4096:=by rw[a]at j;simpa using j
  simp only[a,Qf]at g c;have d:=hd a;clear a;go_enter func178,m;go_wp2;go_end0;exact⟨rfl,c.o.below i (((Ad.refl (only b) w).put 7 _).alloc _) (Ah (Af c.o.blk 7 _) _) (by simp[AL,Al,d.o,f.o]) (by simp[Al,d.o,f.o])⟩
theorem infoStr:(prog.info? 9).map (fun i=>(i.zero,i.size,i.bytes))=some (some (.string ⟨#[]⟩),1,16):=by kernel_rfl
def Ba(l:List (Lu)):Lv:=l.map fun s=>Value.string ⟨s.toArray⟩
def A8(names:List (Lu))(s:Lu):List (Lu)×Nat:=
 if s∈names then(names,names.idxOf s)else(names++[s],names.length)
theorem NC(s:ByteArray):∀u∈(#[Value.string s]:Av).toList,u.oneCell'=true:=by
 intro u a;simp at a;subst a;rfl
theorem I3{names:List (Lu)}{s:Lu}(d:k<names.length)(h:names[k]=s)(hn:s∉names.take k):A8 names s=(names,k):=by
 have a:s∈names:=by rw[<-h];exact List.getElem_mem _
 unfold A8;rw[if_pos a]
 congr 1
 have c:names.idxOf s<=k:=by
  rcases QB k (names.idxOf s)with hl|hl
  ·have:=List.not_of_lt_findIdx (p:=(· ==s)) (xs:=names) hl;simp[h]at this
  ·exact hl
 rcases QB (names.idxOf s) k with hl|hl
 ·exfalso;apply hn;have b:names.idxOf s<names.length:=List.idxOf_lt_length_of_mem a;have:names[names.idxOf s]=s:=List.getElem_idxOf b;rw[<-this];rw[List.mem_take_iff_getElem];exact⟨names.idxOf s,Yo,rfl⟩
 ·omega
theorem U3{names:List (Lu)}{s:Lu}(a:k<names.length)(h:¬names[k]=s)(hn:s∉names.take k):s∉names.take (k+1):=by
 rw[List.take_succ_eq_append_getElem a];simp only[Qk,List.mem_singleton,not_or];exact⟨hn,fun e=>h e.symm⟩
theorem In{names:List (Lu)}{s:Lu}(a:¬k<names.length)(hn:s∉names.take k):A8 names s=(names++[s],names.length):=by
 rw[List.take_of_length_le Yo]at hn;unfold A8;rw[if_neg hn]
theorem RU(w:World)(B:Nat)(names:List (Lu))(s:Lu)(v:Value)(h:w.ownsRow B 9 1 v names.length (Ba names))(u:B<=w.hz)(hn:names.length<=4096)(H:s.length<=4096):
  Calls prog 179 #[v,.string ⟨s.toArray⟩] w fun e w'=>∃d,e=Rq #[d,Vi (A8 names s).2]/\Ar w B 9 1 v (A8 names s).1.length (Ba (A8 names s).1) d w':=by
 obtain⟨a,z,rfl⟩:=Ac h;have b:=hd h;clear h;go_enter func179,I;go_wp2
 go_loop [6] (fun i=>∃k:Nat,k<=names.length/\i=Vi k/\s∉names.take k) (fun i=>names.length-(intOf i).toNat)
 case atStart=>exact⟨0,Qm _,rfl,Ys⟩
 case round=>
  obtain⟨k,G,rfl,q⟩:=hrel;have f:=hd q;clear q
  by_cases c:k<names.length
  ·obtain⟨g,A,C,p,D,x,F⟩:=An b.o Yo;simp only[QH]at p;obtain⟨rfl,_,rfl⟩:=p;obtain⟨nm,j⟩:=Ex (names[k]);have E:w.cell? ⟨g,k,none⟩=some (.string ⟨nm.toArray⟩):=Ag b.o k _ (by simp[Ba,c,j]);have m:=hd j;clear x j;go_wp2
   ·have l:nm=s:=eq_of_beq (by assumption);go_ret2;have y:=I3 c (m.o.symm.trans l) f.o;rw[y];exact⟨_,rfl,b.o,Ad.refl _ _,Or.inl rfl⟩
   ·have l:nm≠s:=ne_of_beq_false (by assumption)
    go_round
    case rel=>exact⟨k+1,Yo,Yg,U3 c (fun h=>l (m.o.trans h)) f.o⟩
    case measure=>simp[intOf];omega
  ·have t:=hd (In c f.o)
   go_wp2_with (at_builtin;refine Am _ rfl (.tmp 24) (.tmp 26) 47 rfl B 9 infoStr underlying47 rfl Yd _ names.length (Ba names) rfl b.o _ rfl rfl rfl (NC _) ?_ u ?_)
   ·omega
   intro d w1 n;have r:=hd n;clear n;go_wp2;go_ret2;rw[t.o];refine⟨d,rfl,?_⟩;have:=r.o;simpa[Ba]using this
def CE(p:List BZ->At->Option (Ly×List BZ×At)):Nat->List BZ->At->Ll->Option (Ll×List BZ×At)
 |0,_,_,_=>none
 |_+1,[],_,_=>none
 |g+1,t::ts,names,acc=>
  if t.kind=41 then some (acc,ts,names)
  else match p ts names with
   |none=>none
   |some r=>CE p g r.2.1 r.2.2 (acc++[r.1])
def FN(p:List BZ->At->Option (Ly×List BZ×At))(t:BZ):List BZ->At->Option (Ly×List BZ×At)
 |[],_=>none
 |u::us,names=>
  if u.kind≠40 then some ([⟨t.text,0,0⟩],u::us,names)
  else(CE p (us.length+1) (u::us) names []).map fun r=>(⟨t.text,0,r.1.length⟩::r.1.flatten,r.2.1,r.2.2)
def Bq:Nat->List BZ->At->Option (Ly×List BZ×At)
 |0,_,_=>none
 |_+1,[],_=>none
 |f+1,t::ts,names=>
  if t.kind=2 then some ([⟨[],(A8 names t.text).2,0⟩],ts,(A8 names t.text).1)
  else FN (Bq f) t ts names
def Rs(ts rest:List BZ)(names names':At):Prop:=∃n,0<n/\n<=ts.length/\rest=ts.drop n/\names'.length<=names.length+n
theorem IY(names:At)(s:Lu):(A8 names s).1.length<=names.length+1:=by
 unfold A8;split<;>simp
theorem OC{p:List BZ->At->Option (Ly×List BZ×At)}(e:∀ts names r,p ts names=some r->Rs ts r.2.1 names r.2.2):
  ∀(g:Nat)(ts:List BZ)(names:At)(a:Ll) r,CE p g ts names a=some r->Rs ts r.2.1 names r.2.2:=by
 intro g
 induction g with
 |zero=>intro ts names a r h;simp[CE]at h
 |succ g i=>
  intro ts names a r h
  cases ts with
  |nil=>simp[CE]at h
  |cons t ts=>
   rw[CE]at h;split at h
   ·simp at h;subst h;exact⟨1,Yo,Ys,Ys,Ys⟩
   ·split at h
    ·simp at h
    ·rename_i q f;obtain⟨n,j,k,b,l⟩:=e _ _ _ f;obtain⟨m,o,d,c,s⟩:=i _ _ _ _ h;rw[b,List.drop_drop]at c;rw[b,List.length_drop]at d;exact⟨n+m+1,Yo,by simp;omega,by rw[c];simp,Yo⟩
theorem Dk:∀(f:Nat)(ts:List BZ)(names:At) r,Bq f ts names=some r->Rs ts r.2.1 names r.2.2:=by
 intro f
 induction f with
 |zero=>intro ts names r h;simp[Bq]at h
 |succ f e=>
  intro ts names r h
  cases ts with
  |nil=>simp[Bq]at h
  |cons t ts=>
   rw[Bq]at h;split at h
   ·simp at h;subst h;exact⟨1,Yo,Ys,Ys,IY _ _⟩
   ·cases ts with
    |nil=>simp[FN]at h
    |cons u i=>
     rw[FN]at h;split at h
     ·simp at h;subst h;exact⟨1,Yo,Ys,Ys,Ys⟩
     ·rw[Option.map_eq_some_iff]at h;obtain⟨q,d,rfl⟩:=h;obtain⟨n,g,a,b,c⟩:=OC e _ _ _ _ _ d;exact⟨n+1,Yo,by simp at a⊢;omega,by rw[b];simp,by simp at c⊢;omega⟩
def DO:Nat->World->Nat->Nat->Value->Value->Value->Ly->Prop
 |0,_,_,_,_,_,_,_=>False
 |f+1,w,lo,hi,a,b,c,l=>
  (∃n:Nat,a= .string ⟨#[]⟩/\b= .int .i64 n/\c= .slice none 0 0/\l=[⟨[],n,0⟩])\/
  (∃(nm:Lu)(ls:Ll)(xs:Lv),nm≠[]/\a= .string ⟨nm.toArray⟩/\b= .int .i64 0/\l=⟨nm,0,ls.length⟩::ls.flatten/\
   w.ownsRow lo 183 3 c ls.length xs/\(∀k,c.ownBlock=some k->k<hi)/\
   ∀(i:Nat)(l':Ly),ls[i]?=some l'->∃a' b' c',xs[i*3]?=some a'/\xs[i*3+1]?=some b'/\xs[i*3+2]?=some c'/\DO f w lo hi a' b' c' l')
def CG(w:World)(k:Nat):Prop:=∃cur,w.heap[k]?=some (.cells cur 183 (0,0))
theorem Ay(h:w.ownsRow B e size v n xs)(k:Nat)(b:v.ownBlock=some k):∃a,w.heap[k]?=some (.cells a e (0,0)):=by
 rcases h.2 with⟨rfl,_⟩|⟨g,d,a,rfl,_,c,_⟩
 ·simp[Value.ownBlock]at b
 ·simp only[Value.ownBlock,Qo]at b;subst b;exact⟨a,c⟩
theorem Ai{e':TypeId}(h:w.ownsRow B e size v n xs)(c:e≠e'){cs:Av}(a:w.heap[k]?=some (.cells cs e' fr)):¬Ak v k:=by
 intro d;obtain⟨f,b⟩:=Ay h k d;rw[b]at a;simp at a;exact c a.2.1
theorem Aj(h:w.ownsRow B e size v n xs)(d:∀k,v.ownBlock=some k->w'.heap[k]?=w.heap[k]?):w'.ownsRow B e size v n xs:=by
 refine⟨h.1,?_⟩;rcases h.2 with hn|⟨g,a,b,rfl,hb,c,rest⟩
 ·exact .inl hn
 ·exact .inr ⟨g,a,b,rfl,hb,by rw[d g rfl];exact c,rest⟩
theorem DO.later:∀(f:Nat){w w':World}{lo hi:Nat}{a b c:Value}{l:Ly},DO f w lo hi a b c l->(∀k,lo<=k->k<hi->CG w k->w'.heap[k]?=w.heap[k]?)->DO f w' lo hi a b c l:=by
 intro f
 induction f with
 |zero=>intro w w' lo hi a b c l h;exact h.elim
 |succ f z=>
  intro w w' lo hi a b c l h j;rcases h with h|⟨nm,ls,xs,t,u,v,x,d,g,y⟩
  ·exact Or.inl h
  ·refine Or.inr ⟨nm,ls,xs,t,u,v,x,Aj d (fun k e=>j k (d.lt k e).1 (g k e) (Ay d k e)),g,?_⟩;intro i A hl;obtain⟨m,n,o,p,q,r,s⟩:=y i A hl;exact⟨m,n,o,p,q,r,z s j⟩
theorem DO.wide:∀(f:Nat){w:World}{lo hi g d:Nat}{a b c:Value}{l:Ly},DO f w lo hi a b c l->g<=lo->hi<=d->DO f w g d a b c l:=by
 intro f
 induction f with
 |zero=>intro w lo hi g d a b c l h;exact h.elim
 |succ f C=>
  intro w lo hi g d a b c l h hl j;rcases h with h|⟨nm,ls,xs,t,u,v,x,y,z,A⟩
  ·exact Or.inl h
  ·refine Or.inr ⟨nm,ls,xs,t,u,v,x,AI y hl,fun k e=>Nat.lt_of_lt_of_le (z k e) j,?_⟩;intro i D B;obtain⟨m,n,o,p,q,r,s⟩:=A i D B;exact⟨m,n,o,p,q,r,C s hl j⟩
theorem Az(a b:Lu):(⟨a.toArray⟩:ByteArray)++⟨b.toArray⟩=⟨(a++b).toArray⟩:=by
 apply ByteArray.ext;simp[ByteArray.data_append]
theorem DW{a b:ByteArray}(h:a=b):Ending.returned (.string a)= .returned (.string b):=by rw[h]
theorem M9(m:Nat)(h:m<10):(⟨#[48,49,50,51,52,53,54,55,56,57]⟩:ByteArray).extract m (m+1)=⟨[UInt8.ofNat (48+m)].toArray⟩:=by
 have:∀m,m<10->((⟨#[48,49,50,51,52,53,54,55,56,57]⟩:ByteArray).extract m (m+1)).data.toList=[UInt8.ofNat (48+m)]:=Yd
 apply ByteArray.ext;apply Array.ext';rw[this m h]
theorem Sn(m:Nat)(h:m<26):DE.extract m (m+1)=⟨[UInt8.ofNat (65+m)].toArray⟩:=by
 have:∀m,m<26->(DE.extract m (m+1)).data.toList=[UInt8.ofNat (65+m)]:=by decide+kernel
 apply ByteArray.ext;apply Array.ext';rw[this m h]
theorem Ec(n:Nat):(Lib.decDigits n).length<=n+1:=by
 induction n using Nat.strongRecOn with
 |ind n a=>
  rw[Lib.decDigits];split
  ·simp
  ·have:=a (n/10) Yo;simp only[Qg,Qf,Qt];omega
def KC(n:Nat):Prop:=∀w:World,Calls prog 117 #[.int .i64 n] w fun e w'=>e= .returned (.string ⟨(Lib.decDigits n).toArray⟩)/\w'=w
theorem Ro(n:Nat)(hn:n<10):KC n:=by
 intro w;have Hd:=(show Hid _ from M9 (n%10) Yo);go_enter func117,ntmps117;go_wp2;go_ret;refine⟨DW (Hd.out.trans ?_),rfl⟩;rw[Lib.decDigits,dif_pos hn,Nat.mod_eq_of_lt hn]
theorem QZ(n:Nat)(hn:¬n<10)(hb:n<1000000000)(a:KC (n/10)):KC n:=by
 intro w;have Hd:=(show Hid _ from M9 (n%10) Yo);have b:=(show Hid _ from a);clear a;have c:=Ec (n/10);go_enter func117,d;go_wp2_with fail;apply(b.out _).mono;rintro e w' ⟨rfl,rfl⟩;go_wp2;go_ret;refine⟨DW ?_,rfl⟩;rw[Hd.out,Az]
 congr 2
 conv=>rhs;rw[Lib.decDigits,dif_neg hn]
theorem F3(n:Nat)(hb:n<1000000000):KC n:=by
 induction n using Nat.strongRecOn with
 |ind n a=>
  by_cases hn:n<10
  ·exact Ro n hn
  ·exact QZ n hn hb (a (n/10) Yo Yo)
def CS(n:Nat):Lu:=if n<26 then[UInt8.ofNat (65+n)]else UInt8.ofNat (65+n%26)::Lib.decDigits (n/26)
theorem KS(n:Nat)(w:World)(hb:n<1000000000):
  Calls prog 145 #[Vi n] w fun e w'=>e= .returned (.string ⟨(CS n).toArray⟩)/\w'=w:=by
 have Hd:=(show Hid _ from Sn (n%26) Yo)
 by_cases h:n<26
 ·go_enter func145,ntmps145;go_wp2;go_ret;refine⟨DW (Hd.out.trans ?_),rfl⟩;rw[CS,if_pos h,Nat.mod_eq_of_lt h]
 ·go_enter func145,ntmps145;go_wp2_with fail;apply(F3 (n/26) Yo _).mono;rintro e w' ⟨rfl,rfl⟩;have a:=Ec (n/26);go_wp2;go_ret;refine⟨DW ?_,rfl⟩;show DE.extract (n%26) (n%26+1)++_=_;rw[Hd.out,Az,CS,if_neg h];rfl
def GL:Nat->Ly->Prop
 |0,_=>False
 |f+1,l=>(∃n:Nat,l=[⟨[],n,0⟩])\/∃(nm:Lu)(ls:Ll),nm≠[]/\l=⟨nm,0,ls.length⟩::ls.flatten/\∀l'∈ls,GL f l'
theorem DO.isT:∀(f:Nat){w:World}{lo hi:Nat}{a b c:Value}{l:Ly},DO f w lo hi a b c l->GL f l:=by
 intro f
 induction f with
 |zero=>intro w lo hi a b c l h;exact h.elim
 |succ f k=>
  intro w lo hi a b c l h;rcases h with⟨n,_,_,_,h⟩|⟨nm,ls,xs,d,_,_,e,_,_,j⟩
  ·exact Or.inl ⟨n,h⟩
  ·refine Or.inr ⟨nm,ls,d,e,fun q hl=> ?_⟩;obtain⟨i,hi,rfl⟩:=Q8 hl;obtain⟨m,o,p,_,_,_,g⟩:=j i _ (Qb hi);exact k g
def Gj(n:Nat)(seen:List Nat):Lu×List Nat:=if n∈seen then(CS (seen.idxOf n),seen)else(CS seen.length,seen++[n])
def MK(p:Ly->List Nat->Lu×List Nat×Ly):Nat->UInt8->Ly->List Nat->Lu×List Nat×Ly
 |0,_,r,seen=>([],seen,r)
 |n+1,sep,r,seen=>(sep::((p r seen).1++(MK p n 44 (p r seen).2.2 (p r seen).2.1).1),(MK p n 44 (p r seen).2.2 (p r seen).2.1).2)
def AO:Nat->Ly->List Nat->Lu×List Nat×Ly
 |0,r,seen=>([],seen,r)
 |_+1,[],seen=>([],seen,[])
 |f+1,s::r,seen=>
  if s.name=[]then((Gj s.num seen).1,(Gj s.num seen).2,r)
  else if s.args=0 then(s.name,seen,r)
  else(s.name++(MK (AO f) s.args 40 r seen).1++[41],(MK (AO f) s.args 40 r seen).2)
def BH(f:Nat):UInt8->Ll->List Nat->Lu×List Nat
 |_,[],seen=>([],seen)
 |sep,l::ls,seen=>(sep::((AO f l seen).1++(BH f 44 ls (AO f l seen).2.1).1),(BH f 44 ls (AO f l seen).2.1).2)
theorem Lx(f:Nat)(e:∀l,GL f l->∀rest seen,AO f (l++rest) seen=((AO f l seen).1,(AO f l seen).2.1,rest)):
  ∀(ls:Ll),(∀b∈ls,GL f b)->∀a rest seen,MK (AO f) ls.length a (ls.flatten++rest) seen=((BH f a ls seen).1,(BH f a ls seen).2,rest):=by
 intro ls
 induction ls with
 |nil=>intro _ a rest seen;rfl
 |cons l ls g=>
  intro h a rest seen;have c:=e l (h l Ys) (ls.flatten++rest) seen;have d:=g (fun b hl=>h b (by simp[hl])) 44 rest (AO f l seen).2.1;simp only[Qf,Q4,Qi,MK,BH];rw[c];simp only;rw[d]
theorem TL:∀(f:Nat)(l:Ly),GL f l->∀rest seen,AO f (l++rest) seen=((AO f l seen).1,(AO f l seen).2.1,rest):=by
 intro f
 induction f with
 |zero=>intro l h;exact h.elim
 |succ f g=>
  intro l h rest seen;rcases h with⟨n,rfl⟩|⟨nm,ls,c,rfl,d⟩
  ·simp[AO]
  ·have a:=Lx f g ls d 40;have e:=a rest seen;have b:=a [] seen;simp only[Qs]at b;simp only[Qy,AO,c,if_false]
   cases ls with
   |nil=>simp
   |cons l ls=>
    rw[if_neg Ys,if_neg Ys];rw[e,b]
theorem GO(f:Nat)(nm:Lu)(ls:Ll)(hn:nm≠[])(h:∀b∈ls,GL f b)(hl:ls≠[])(seen:List Nat):
  AO (f+1) (⟨nm,0,ls.length⟩::ls.flatten) seen=(nm++(BH f 40 ls seen).1++[41],(BH f 40 ls seen).2,[]):=by
 have a:=Lx f (TL f) ls h 40 [] seen;simp only[Qs]at a;simp only[AO,hn,if_false];rw[if_neg (by simp[hl]),a]
theorem LP(n:Nat)(h:n<=4000):(CS n).length<=200:=by
 unfold CS;split
 ·simp
 ·have:=Ec (n/26);simp only[Qf];omega
theorem VY(n:Nat)(seen:List Nat)(h:seen.length<=3999):(Gj n seen).1.length<=200/\(Gj n seen).2.length<=seen.length+1:=by
 unfold Gj;split
 ·rename_i a;have:=List.idxOf_lt_length_of_mem a;exact⟨LP _ Yo,Ys⟩
 ·exact⟨LP _ Yo,Ys⟩
theorem MG(f:Nat)(d:∀l,GL f l->(∀s∈l,s.name.length<=4096)->∀seen,seen.length+l.length<=4000->(AO f l seen).1.length+1<=4100*l.length/\(AO f l seen).2.1.length<=seen.length+l.length):
  ∀(ls:Ll),(∀c∈ls,GL f c)->(∀s∈ls.flatten,s.name.length<=4096)->∀b seen,seen.length+ls.flatten.length<=4000->(BH f b ls seen).1.length<=4100*ls.flatten.length/\(BH f b ls seen).2.length<=seen.length+ls.flatten.length:=by
 intro ls
 induction ls with
 |nil=>intro _ _ b seen _;simp[BH]
 |cons l ls e=>
  intro h hn b seen a;simp only[Q4,Qg]at a;have g:=d l (h l Ys) (fun s a=>hn s (by simp[a])) seen Yo;have i:=e (fun c hl=>h c (by simp[hl])) (fun s a=>hn s (by simp only[Q4,Qk];exact Or.inr a)) 44 (AO f l seen).2.1 Yo;simp only[BH,Qf,Qg,Q4];omega
theorem Nz:∀(f:Nat)(l:Ly),GL f l->0<l.length:=by
 intro f l h
 cases f with
 |zero=>exact h.elim
 |succ f=>rcases h with⟨n,rfl⟩|⟨nm,ls,a,rfl,b⟩<;>simp
theorem GI(f:Nat)(ls:Ll)(h:∀a∈ls,GL f a):ls.length<=ls.flatten.length:=by
 induction ls with
 |nil=>simp
 |cons l ls b=>
  have c:=Nz f l (h l Ys);have d:=b (fun a hl=>h a (by simp[hl]));simp only[Q4,Qg,Qf];omega
theorem EP:∀(f:Nat)(l:Ly),GL f l->(∀s∈l,s.name.length<=4096)->∀seen,seen.length+l.length<=4000->(AO f l seen).1.length+1<=4100*l.length/\(AO f l seen).2.1.length<=seen.length+l.length:=by
 intro f
 induction f with
 |zero=>intro l h;exact h.elim
 |succ f d=>
  intro l h hn seen a;rcases h with⟨n,rfl⟩|⟨nm,ls,c,rfl,b⟩
  ·have:=VY n seen (by simp at a;omega);simp[AO];omega
  ·have i:nm.length<=4096:=hn _ (List.mem_cons_self ..)
   by_cases hl:ls=[]
   ·subst hl;simp[AO,c];omega
   ·rw[GO f nm ls c b hl];simp only[Qf]at a;have e:=MG f d ls b (fun s a=>hn s (QD _ a)) 40 seen Yo;have g:=GI f ls b;simp only[Qg,Qf,Qt];omega
theorem Ot(w:World)(B b:Nat)(L:Bj)(u:Value)(P:Int)(Q:ByteArray)(h:A0 w B b L u)(I:B<=b)(U:L.stk.length<=4096)(m:L.want=3):
  Calls prog 178 #[Pt b,.agg #[Vi 40,.string Q,Vi P]] w fun e w'=>
   e=Rq #[]/\∃O,Ad (C8 b u) w w'/\A0 w' B b (Al L 40) O:=by
 obtain⟨hb,⟨r,y,z,A,C,D,E,F⟩,J⟩:=h.facts;have c:=hd h;obtain⟨f,j,rfl⟩:=Ac h.opn;clear h;rw[m]at r;have q:=hd m;have V:B<=w.hz:=Nat.le_of_lt (Nat.lt_of_le_of_lt I hb);have M:=hd c.o.opn;clear m;go_enter func178,ntmps178
 go_wp2_with (at_builtin;refine Am _ rfl (.tmp 28) (.tmp 29) 25 rfl B 3 infoInt underlying25 rfl Yd _ L.stk.length (AM L.stk.reverse) rfl (M.o.alloc _) _ rfl Ys rfl (DT _) ?_ ?_ ?_)
 ·omega
 ·simp;omega
 intro W w1 d;obtain⟨va,n,rfl⟩:=Ac d.owns;have l:Ad (Ak (.slice f L.stk.length j)) w w1:=((Ad.refl _ w).alloc _).trans d.kept;have t:¬Ak (.slice f L.stk.length j) b:=fun e=>c.o.apart b e rfl;have a:w1.heap[b]?=some (.cells (AL L (.slice f L.stk.length j)) 278 (0,0)):=(l.block b hb t).trans c.o.blk;have R:w1.cell? ⟨b,0,none⟩=some (Vi L.want):=Aa a 0 _ rfl;have S:w1.cell? ⟨b,3,none⟩=some (.slice f L.stk.length j):=Aa a 3 _ rfl;have T:∀i,w1.frozen? ⟨b,i,none⟩=false:=fun i=>Ae a i;have p:=hd d;have v:=hd a;have x:=hd l;clear d a l t r y z A C D E F J;go_wp2;go_end0;have N:∀k,(Value.slice va (L.stk.length+1) n).ownBlock=some k->¬only b k:=by
  rintro k s (rfl:k=b);rcases p.o.where_ with h|⟨g,h,K⟩
  ·exact c.o.apart k (by rw[<-h];exact s) rfl
  ·rw[s]at h;simp at h;subst h;simp at K;omega
 refine⟨rfl,.slice va (L.stk.length+1) n,?_,?_,?_⟩
 ·exact(x.o.mono (fun _ _ e=>Or.inr e)).then (((Ad.refl (only b) w1).put 3 _).put 0 _) (fun _ _ e=>Or.inl e)
 ·rw[Af (Af v.o 3 _) 0 _];simp[AL,Al,q.o]
 ·have G:(Al L 40).stk=0::L.stk:=by simp[Al,q.o]
  rw[G];have H:=(((Ad.refl (only b) w1).put 3 (.slice va (L.stk.length+1) n)).put 0 (Vi 2)).owns p.o.owns N;simpa[AM]using H
structure Ks(L:Bj)(i:Nat):Prop where
 want:L.want<=5
 term:L.want=2->L.stk≠[]
 size:L.size<=i
 heads:L.heads<=i
 goals:L.goals<=i
 len:L.stk.length<=i
 all:∀n∈L.stk,n<=i
def Bk(L:Bj)(kd tn:Nat):Bj:=
 if L.want<=2 then AH L kd tn else if L.want=5 then{L with err:=2}else Al L kd
theorem Ks.mono{j:Nat}(h:Ks L i)(a:i<=j):Ks L j:=
 ⟨h.want,h.term,Qq h.size a,Qq h.heads a,Qq h.goals a,Qq h.len a,fun n hn=>Qq (h.all n hn) a⟩
theorem PE(h:Ks L i)(kd j:Nat):Ks (AH L kd j) (i+1):=by
 unfold AH;have k:=h.size;have l:=h.heads;have m:=h.goals;have c:=h.len;split
 ·exact⟨h.want,h.term,by simp;omega,by simp;omega,by simp;omega,by simp;omega,fun n hn=>Qq (h.all n hn) (Nat.le_succ i)⟩
 ·have f:(if kd=1 then 3 else 4)<=5/\((if kd=1 then 3 else 4)≠2):=by split<;>simp
  have d:∀n∈L.stk,n<=i+1:=fun n hn=>Qq (h.all n hn) (Nat.le_succ i);refine⟨f.1,fun e=>absurd e f.2,?_,?_,?_,?_,?_⟩
  all_goals
   unfold FI AS
   dsimp only
   split
   ·first|(simp;done)|(simp;omega)|exact d
   ·split
    ·first|(simp;done)|(simp;omega)|exact d
    ·cases b:L.stk with
     |nil=>first|(simp;done)|(simp;omega)|(simp[b];done)
     |cons n r=>
      have hn:n<=i:=h.all n (by rw[b];simp);have g:∀x∈r,x<=i:=fun x a=>h.all x (by rw[b];simp[a]);rw[b]at c;simp only[Qf]at c
      first
       | (simp;done)
       | (simp;omega)
       | (intro x a;simp at a;rcases a with rfl|a;omega;have:=g x a;omega)
theorem Oz(h:Ks L i)(kd:Nat):Ks (Al L kd) (i+1):=by
 have d:=h.size;have f:=h.heads;have g:=h.goals;have j:=h.len;have b:=h.want;have a:∀n∈L.stk,n<=i+1:=fun n hn=>Qq (h.all n hn) (Nat.le_succ i);unfold Al;split
 ·exact⟨Ys,fun _=>by simp,by simp;omega,by simp;omega,by simp;omega,by simp;omega,by intro n hn;simp at hn;rcases hn with rfl|hn;omega;exact a n hn⟩
 ·split
  ·rename_i _ c;exact⟨Ys,fun _=>c.2,by simp;omega,by simp;omega,by simp;omega,by simp;omega,a⟩
  ·split
   ·exact⟨Ys,fun e=>by simp at e,by simp;omega,by simp;omega,by simp;omega,by simp;omega,fun n hn=>a n (List.mem_of_mem_tail hn)⟩
   ·split
    ·exact⟨b,h.term,by simp;omega,by simp;omega,by simp;omega,by simp;omega,a⟩
    ·split
     ·exact⟨Ys,fun e=>by simp at e,by simp;omega,by simp;omega,by simp;omega,by simp;omega,a⟩
     ·split
      ·exact⟨Ys,fun e=>by simp at e,by simp;omega,by simp;omega,Ys,by simp;omega,a⟩
      ·split
       ·exact⟨Ys,fun e=>by simp at e,by simp;omega,by simp;omega,by simp;omega,by simp;omega,a⟩
       ·split
        ·exact⟨Ys,fun e=>by simp at e,by simp;omega,by simp;omega,by simp;omega,by simp;omega,a⟩
        ·exact⟨b,h.term,by simp;omega,by simp;omega,by simp;omega,by simp;omega,a⟩
theorem Ur(h:Ks L i)(kd a:Nat):Ks (Bk L kd a) (i+1):=by
 unfold Bk;split
 ·exact PE h kd a
 ·split
  ·have h:=h.mono (Nat.le_succ i);exact⟨h.want,h.term,h.size,h.heads,h.goals,h.len,h.all⟩
  ·exact Oz h kd
def Bb:List BZ->Bj->Nat×Nat
 |[],_=>(0,0)
 |t::ts,L=>
  if t.kind=4/\(L.want=5\/L.want=0)then(0,0)
  else if(Bk L t.kind t.text.length).err≠0 then((Bk L t.kind t.text.length).err,t.pos)
  else Bb ts (Bk L t.kind t.text.length)
theorem S1(w:World)(B b:Nat)(L:Bj)(c:Value)(kd:Nat)(g:Int)(f:ByteArray)(h:A0 w B b L c)(p:B<=b)(hi:Ks L 4000)(u:L.want<=2)(j:f.size<=4096):
  Calls prog 177 #[Pt b,.agg #[Vi kd,.string f,Vi g]] w fun e w'=>
   e=Rq #[]/\∃o,Ad (C8 b c) w w'/\A0 w' B b (AH L kd f.size) o:=by
 have hb:=Ab h.blk;have own:∀k,c.ownBlock=some k->B<=k:=fun k l=>(h.opn.lt k l).1;have t:=hi.size;have s:=hi.heads;have q:=hi.goals;have hl:=hi.len
 by_cases l:kd≠1/\(kd≠2\/L.want≠2)
 ·apply(RW w B b L c kd g f h l).mono;rintro e w' ⟨rfl,d,a⟩;exact⟨rfl,c,d.mono (fun _ _ e=>Or.inl e),a⟩
 ·by_cases a:L.want=2
  ·obtain⟨n,r,i⟩:∃n r,L.stk=n::r:=by
    cases m:L.stk with
    |nil=>exact absurd m (hi.term a)
    |cons n r=>exact⟨n,r,rfl⟩
   have hn:=hi.all n (by rw[i];simp);rw[i]at hl;simp only[Qf]at hl
   by_cases d:kd=1
   ·subst d;apply(Ou w B b L n r c g f h i Yo Yo Yo j a).mono;rintro e w' ⟨rfl,d,a⟩;exact⟨rfl,c,d,a⟩
   ·obtain rfl:kd=2:=Yo
    apply(Nh w B b L n r c g f h i Yo Yo Yo j a).mono;rintro e w' ⟨rfl,d,a⟩;exact⟨rfl,c,d,a⟩
  ·obtain rfl:kd=1:=Yo
   by_cases h0:L.want=0
   ·apply(O6 w B b L c g f h Yo j h0).mono;rintro e w' ⟨rfl,d,a⟩;exact⟨rfl,c,d.mono (fun _ _ e=>Or.inl e),a⟩
   ·apply(OS w B b L c g f h Yo j Yo).mono;rintro e w' ⟨rfl,d,a⟩;exact⟨rfl,c,d.mono (fun _ _ e=>Or.inl e),a⟩
theorem PK(w:World)(B b:Nat)(L:Bj)(a:Value)(kd:Nat)(c:Int)(d:ByteArray)(h:A0 w B b L a)(f:B<=b)(hi:Ks L 4000):
  Calls prog 178 #[Pt b,.agg #[Vi kd,.string d,Vi c]] w fun e w'=>
   e=Rq #[]/\∃m,Ad (C8 b a) w w'/\A0 w' B b (Al L kd) m:=by
 have hl:L.stk.length<=4096:=by have:=hi.len;omega
 by_cases i:kd=40
 ·subst i
  by_cases g:L.want=3
  ·exact Ot w B b L a c d h f hl g
  ·exact Kq w B b L a c d h f hl g
 ·by_cases g:kd=41
  ·subst g;exact Mp w B b L a c d h f hl
  ·by_cases j:kd=44
   ·subst j;exact L9 w B b L a c d h f hl
   ·by_cases k:kd=46
    ·subst k;exact QM w B b L a c d h f hl
    ·by_cases l:kd=3
     ·subst l;exact Ms w B b L a c d h f hl
     ·exact Mo w B b L a kd c d h f hl ⟨i,g,j,k,l⟩
def AD(query:Bool):Bj:=⟨if query then 1 else 0,query,query,[],0,0,0,0⟩
theorem I2(l:List BZ)(k:Nat)(t:BZ)(h:l[k]?=some t)(j:Nat)(c:j<3):(AP l)[k*3+j]?=(DH t)[j]?:=by
 induction l generalizing k with
 |nil=>simp at h
 |cons a l b=>
  cases k with
  |zero=>
   simp at h;subst h;show(DH a++AP l)[_]?=_;rw[Qc (by simp[DH];omega)];simp
  |succ k=>
   show(DH a++AP l)[_]?=_;rw[Qd (by simp[DH];omega)];rw[<-b k (by simpa using h)]
   congr 1
   simp[DH];omega
theorem Rn(ts:List BZ)(k:Nat)(t:BZ)(L:Bj)(h:ts[k]?=some t):Bb (ts.drop k) L=
  if t.kind=4/\(L.want=5\/L.want=0)then(0,0)
  else if(Bk L t.kind t.text.length).err≠0 then((Bk L t.kind t.text.length).err,t.pos)
  else Bb (ts.drop (k+1)) (Bk L t.kind t.text.length):=by
 have a:k<ts.length:=(Qa.1 h).1;rw[QC a];have:ts[k]=t:=(Qa.1 h).2;rw[this];rfl
theorem KB{a b c d:Int}(h:a=c)(e:b=d):Ending.returned (.tuple #[Vi a,Vi b])=Rq #[Vi c,Vi d]:=by rw[h,e]
theorem TQ{c:Value}(a:Below w.hz w wr)(hl:A0 wr w.hz w.hz L c)(o:Obj)(h:Ad (C8 w.hz c) (wr.alloc o) w1):Below w.hz w w1:=
 (a.alloc a.size o).trans (h.below (by have:=a.size;simp;omega) (fun k b=>by
  rcases b with rfl|b
  ·exact Qe _
  ·exact(hl.opn.lt k b).1))
theorem VC{c:Value}(hl:A0 wr B b L c)(cs:Av)(T:TypeId)(h:Ad (C8 b c) (wr.alloc (.cells cs T)) w1)(i:Nat)(v:Value)(d:cs[i]?=some v):
  w1.cell? ⟨wr.hz,i,none⟩=some v:=
 h.cell (AZ wr cs T i v d) (fun a=>by
  rcases a with a|a
  ·have:=Ab hl.blk;have a:wr.hz=b:=a;omega
  ·have:=(hl.opn.lt _ a).2;simp at this)
set_option maxHeartbeats 20000000 in
theorem OP(m:Bool)(w:World)(U:Nat)(ts:List BZ)(v:Value)(G:w.ownsRow U 243 3 v ts.length (AP ts))(hn:ts.length<=3900)(al:∀t∈ts,t.text.length<=4096):
  Calls prog 142 #[v,.bool m] w fun e w'=>
   e=Rq #[Vi (Bb ts (AD m)).1,Vi (Bb ts (AD m)).2]/\Below w.hz w w':=by
 obtain⟨ta,a2,rfl⟩:=Ac G;have K:=hd G;obtain⟨S,C⟩:=Ex (AD m);have I:=hd C;rw[<-C];clear G C
 cases m
 all_goals
  go_enter func142,a1;go_wp2
  go_loopw [7] (fun i wr=>∃(k:Nat)(L:Bj)(y:Value),k<=ts.length/\i=Vi k/\Below w.hz w wr/\A0 wr w.hz w.hz L y/\Ks L k/\L.err=0/\
    Bb (ts.drop k) L=Bb ts S) (fun i _=>ts.length-(intOf i).toNat)
  case atStart=>
   obtain rfl:=I.o;exact⟨0,_,Nl,Qm _,rfl,(Below.refl _ _).alloc (Qe _) _,⟨QL w _,Q2 _ _ _ _⟩,⟨by simp[AD],fun e=>by simp[AD]at e,by simp[AD],by simp[AD],by simp[AD],by simp[AD],by simp[AD]⟩,rfl,rfl⟩
  case round=>
   obtain⟨k,L,y,az,rfl,c,F,P,D,Q⟩:=hrel;have s:=hd F;have r:=hd P;have ar:=hd D;have l:=hd Q;obtain⟨hb,⟨u,Y,Z,aa,ab,ac,ad,M⟩,af⟩:=F.facts;rw[D]at M;clear F P D Q I
   by_cases aj:k<ts.length
   ·obtain⟨t,x⟩:∃t,ts[k]?=some t:=⟨_,Qb aj⟩;have R:t∈ts:=Qh x;have ak:ByteArray.size ⟨t.text.toArray⟩<=4096:=al t R;obtain⟨g,a3,a4,b,av,O,ay⟩:=An K.o Yo;simp only[QH]at b;obtain⟨rfl,_,rfl⟩:=b;have ag:=Ab O;have z:∀j v,j<3->(DH t)[j]?=some v->wr.cell? ⟨g,k*3+j,none⟩=some v:=by
     intro j v ah am;exact(c.cell (p:=⟨g,k*3+j,none⟩) ag).trans (Ag K.o (k*3+j) v (by rw[I2 ts k t x j ah];exact am))
    have ao:wr.cell? ⟨g,k*3,none⟩=some (Vi t.kind):=z 0 _ Yo rfl;have ap:=z 1 _ Yo rfl;have aq:=z 2 _ Yo rfl;have q:=hd (Rn ts k t L x);have T:L.want=5\/L.want=0\/L.want=1\/L.want=2\/L.want=3\/L.want=4:=by have:=r.o.want;omega
    clear z x R O
    by_cases f:t.kind=4/\(L.want=5\/L.want=0)
    ·have W:=hd (q.o.trans (if_pos f));have H:((t.kind:Int)==4)=true:=by rw[beq_iff_eq];omega
     rcases f.2 with a|a
     all_goals
      rw[a]at u;clear f a T;go_wp2;go_ret2;refine⟨KB ?_ ?_,c.alloc c.size _⟩
      all_goals
       rw[<-l.o,W.o];rfl
    ·have A:=hd f;have ai:((t.kind:Int)==4)=true\/((t.kind:Int)==4)=false:=by cases(t.kind:Int)==4<;>simp
     rcases T with a|a|a|a|a|a<;>rcases ai with H|H
     all_goals try(exfalso;rw[beq_iff_eq]at H;omega)
     ·have J:Hd ((Bk L t.kind t.text.length).err=2):=by show _=2;simp[Bk,a]
      rw[a]at u;clear a f;go_wp2_with fail;go_quiet (fail);go_wp2_with fail;go_ret2;refine⟨KB ?_ ?_,(((c.setCell (Qe _) _).alloc (by have:=c.size;simp;omega) _)).trans ⟨rfl,rfl,rfl,Qe _,fun _ _=>rfl⟩⟩
      all_goals rw[<-l.o,q.o,if_neg A.o,if_pos (by rw[J.o];omega)]
      rw[J.o];rfl
     all_goals
      rw[a]at u;have B:=hd a;clear a f;go_wp2_with fail
      first
       |refine(S1 _ w.hz w.hz L y t.kind _ ⟨t.text.toArray⟩ (s.o.later (S:=A4) ((Ad.refl _ _).alloc _) (fun h=>h) (fun _ _ h=>h)) (Qe _) (r.o.mono Yo) (by rw[B.o];omega) ak).mono ?_
       |refine(PK _ w.hz w.hz L y t.kind _ ⟨t.text.toArray⟩ (s.o.later (S:=A4) ((Ad.refl _ _).alloc _) (fun h=>h) (fun _ _ h=>h)) (Qe _) (r.o.mono Yo)).mono ?_
      rintro e w1 ⟨rfl,an,E,d⟩;have N:=TQ c s.o _ E;have ax:w1.cell? ⟨wr.hz,2,none⟩=some (Vi t.pos):=VC s.o _ _ E 2 _ rfl
      first
       |rw[show AH L t.kind (ByteArray.size ⟨t.text.toArray⟩)=Bk L t.kind t.text.length by simp[Bk,B.o,ByteArray.size]]at d
       |rw[show Al L t.kind=Bk L t.kind t.text.length by simp[Bk,B.o]]at d
      have X:=hd d;have ae:=d.facts.2.1.2.2.2.2.2.2.2;have aw:=d.facts.1;have au:=d.facts.2.2;clear E d u Y Z aa ab ac ad M af ao ap aq
      by_cases b:(Bk L t.kind t.text.length).err=0
      ·rw[b]at ae;have n:=hd b;clear b;go_wp2_with fail
       go_roundw
       case rel=>
        refine⟨k+1,Bk L t.kind t.text.length,an,Yo,Yg,N,X.o,Ur r.o _ _,n.o,?_⟩;rw[<-l.o,q.o,if_neg A.o,if_neg (by simp[n.o])]
       case measure=>simp[intOf];omega
      ·have a0:(((Bk L t.kind t.text.length).err:Int) !=0)=true:=by rw[bne_iff_ne];omega
       have n:=hd b;clear b;go_wp2_with fail;go_quiet (fail);go_wp2_with fail;go_ret2;refine⟨KB ?_ ?_,N.trans ⟨rfl,rfl,rfl,Qe _,fun _ _=>rfl⟩⟩
       all_goals rw[<-l.o,q.o,if_neg A.o,if_pos n.o]
   ·have V:Hd (Bb (ts.drop k) L=(0,0)):=by show _=_;rw[List.drop_eq_nil_of_le Yo];rfl
    go_wp2;go_ret2;refine⟨KB ?_ ?_,c⟩
    all_goals
     rw[<-l.o,V.o];rfl
theorem infoTerm:(prog.info? 183).map (fun i=>(i.zero,i.size,i.bytes))=some (some (.agg #[.string ⟨#[]⟩,Vi 0,Nl]),3,48):=by kernel_rfl
def Pr(f:Nat):Prop:=∀(w:World)(ts:List BZ)(k:Nat)(tv:Value)(Bt B:Nat)(names:At)(nv:Value)(r:Ly×List BZ×At),
 Bq f (ts.drop k) names=some r->w.ownsRow Bt 243 3 tv ts.length (AP ts)->w.ownsRow B 9 1 nv names.length (Ba names)->B<=w.heap.size->
 ts.length<=1000->names.length+(ts.length-k)<=1000->(∀t∈ts,t.text.length<=4096)->(∀i t,ts[i]?=some t->i+1<ts.length->t.text≠[])->
 Calls prog 143 #[tv,.int .i64 k,nv] w fun e w'=>∃a b c nv' j,e= .returned (.tuple #[.agg #[a,b,c],.int .i64 (j:Nat),nv'])/\r.2.1=ts.drop j/\k<j/\j<=ts.length/\
  DO f w' w.heap.size w'.heap.size a b c r.1/\Ar w B 9 1 nv r.2.2.length (Ba r.2.2) nv' w'
theorem Ar.around{a:Value}(h:Ar w B e size v n xs a w1)(h0:Ad (Ak v) w0 w)
  (l:∀k,v.ownBlock=some k->k<w0.hz) (b:Ad S w1 w2) (c:∀k,S k->w0.hz<=k) (d:∀k,a.ownBlock=some k->¬S k):Ar w0 B e size v n xs a w2:=
 ⟨b.owns h.owns d,(h0.then h.kept (fun _ _ e=>e)).then b (fun i hi j=>by have:=c i j;omega),by
  rcases h.where_ with h|⟨g,h,f⟩
  ·exact Or.inl h
  ·exact Or.inr ⟨g,h,Qq h0.size f⟩⟩
theorem GV{d:Nat}{ts:List BZ}{tv:Value}{t:BZ}(h:w.ownsRow d 243 3 tv ts.length (AP ts))(c:ts[k]?=some t):
  ∃g a,tv= .slice (some ⟨g,0,none⟩) ts.length a/\g<w.hz/\w.cell? ⟨g,k*3,none⟩=some (Vi t.kind)/\w.cell? ⟨g,k*3+1,none⟩=some (.string ⟨t.text.toArray⟩)/\w.cell? ⟨g,k*3+2,none⟩=some (Vi t.pos):=by
 have o:k<ts.length:=(Qa.1 c).1;obtain⟨g,a,l,rfl,m,e,n⟩:=An h Yo;have b:∀j v,j<3->(DH t)[j]?=some v->w.cell? ⟨g,k*3+j,none⟩=some v:=fun j v f i=>Ag h (k*3+j) v (by rw[I2 ts k t c j f];exact i);exact⟨g,a,rfl,Ab e,b 0 _ Yo rfl,b 1 _ Yo rfl,b 2 _ Yo rfl⟩
theorem ED{ts:List BZ}{t:BZ}{r:List BZ}(h:ts.drop k=t::r):ts[k]?=some t/\ts.drop (k+1)=r/\k<ts.length:=by
 have a:k<ts.length:=by
  rcases QB k ts.length with hl|hl
  ·exact hl
  ·rw[List.drop_eq_nil_of_le hl]at h;cases h
 rw[QC a]at h;injection h with h1 h2;exact⟨by rw[Qb a,h1],h2,a⟩
theorem Wb(f:Nat)(w:World)(ts:List BZ)(k:Nat)(tv:Value)(C B:Nat)(names:At)(nv:Value)(t:BZ)(r:List BZ)
  (hd:ts.drop k=t::r) (E:t.kind=2) (s:w.ownsRow C 243 3 tv ts.length (AP ts)) (p:w.ownsRow B 9 1 nv names.length (Ba names)) (R:B<=w.hz)
  (hl:ts.length<=1000) (hn:names.length+(ts.length-k)<=1000) (H:∀t∈ts,t.text.length<=4096):
  Calls prog 143 #[tv,Vi k,nv] w fun e w'=>∃a b c A j,e=Rq #[.agg #[a,b,c],Vi (j:Nat),A]/\r=ts.drop j/\k<j/\j<=ts.length/\
   DO (f+1) w' w.hz w'.hz a b c [⟨[],(A8 names t.text).2,0⟩]/\Ar w B 9 1 nv (A8 names t.text).1.length (Ba (A8 names t.text).1) A w':=by
 obtain⟨q,z,n⟩:=ED hd;obtain⟨g,U,rfl,y,J,S,T⟩:=GV s q;have F:=H t (Qh q);rw[E]at J;have D:=hd z;have m:=hd p;have Q:=hd s;obtain⟨na,I,rfl⟩:=Ac p;clear hd s p q z;go_enter func143,ntmps143;go_wp2_with fail;refine(RU _ B names t.text _ (m.o.alloc _) Yp Yo F).mono ?_;rintro e w1 ⟨V,rfl,l⟩;obtain⟨va,K,rfl⟩:=Ac l.owns;have x:¬Ak (.slice na names.length I) w.hz:=fun e=>by have:=(m.o.lt _ e).2;omega
 have d:=(l.kept.block w.hz Ys x).trans (QL w _);have L:w1.cell? ⟨w.hz,0,none⟩=some (.string ⟨#[]⟩):=Aa d 0 _ rfl;have M:w1.cell? ⟨w.hz,1,none⟩=some (Vi 0):=Aa d 1 _ rfl;have N:w1.cell? ⟨w.hz,2,none⟩=some Nl:=Aa d 2 _ rfl;have O:=fun i=>Ae d i;have G:=Ab d;have u:=hd l;have P:=hd d;clear l d;go_wp2;refine bodyPost_ret (v:= .tuple #[.agg #[.string ⟨#[]⟩,Vi (A8 names t.text).2,Nl],Vi ((k+1:Nat):Int),.slice va (A8 names t.text).1.length K]) (by simp[results,results143,go_sem,L,M,N,O,G]) rfl ?_;refine⟨_,_,_,_,k+1,rfl,D.o.symm,Yo,Yo,Or.inl ⟨_,rfl,rfl,rfl,rfl⟩,?_⟩;refine u.o.around ((Ad.refl _ w).alloc _) (fun k e=>(m.o.lt k e).2) ((((Ad.refl (only w.hz) w1).put 0 _).put 1 _).put 2 _) (fun k e=>Nat.le_of_eq (Eq.symm e)) ?_;rintro k n (rfl:k=w.hz);rcases u.o.where_ with h|⟨g,h,y⟩
 ·exact x (h.symm.trans n)
 ·rw[n]at h;simp at h y;omega
theorem TK(f:Nat)(w:World)(ts:List BZ)(k:Nat)(tv:Value)(x B:Nat)(names:At)(nv:Value)(t u:BZ)(r:List BZ)
  (hd:ts.drop k=t::u::r) (K:t.kind≠2) (L:u.kind≠40) (m:w.ownsRow x 243 3 tv ts.length (AP ts)) (d:w.ownsRow B 9 1 nv names.length (Ba names)) (F:B<=w.hz)
  (hl:ts.length<=1000) (A:t.text≠[]):
  Calls prog 143 #[tv,Vi k,nv] w fun e w'=>∃a b c s j,e=Rq #[.agg #[a,b,c],Vi (j:Nat),s]/\u::r=ts.drop j/\k<j/\j<=ts.length/\
   DO (f+1) w' w.hz w'.hz a b c [⟨t.text,0,0⟩]/\Ar w B 9 1 nv names.length (Ba names) s w':=by
 obtain⟨p,l,I⟩:=ED hd;obtain⟨q,C,J⟩:=ED l;obtain⟨g,S,rfl,G,P,Q,R⟩:=GV m p;obtain⟨E,T,n,H,U,V,W⟩:=GV m q;simp only[QH,Qo,Addr.mk.injEq]at n;obtain⟨⟨rfl,_⟩,_,rfl⟩:=n;have M:((t.kind:Int)==2)=false:=by rw[Qu];omega
 have N:((u.kind:Int) !=40)=true:=by rw[bne_iff_ne];omega
 have z:=hd l;have y:=hd d;obtain⟨na,D,rfl⟩:=Ac d;clear hd m d p l q C;go_enter func143,ntmps143;go_wp2;refine bodyPost_ret (v:= .tuple #[.agg #[.string ⟨t.text.toArray⟩,Vi 0,Nl],Vi ((k+1:Nat):Int),.slice na names.length D]) (by simp[results,results143,go_sem]) rfl ?_;refine⟨_,_,_,_,k+1,rfl,z.o.symm,Yo,Yo,Or.inr ⟨t.text,[],[],A,rfl,rfl,rfl,Q2 _ _ _ _,fun k e=>by simp[Value.ownBlock]at e,fun i O h=>by simp at h⟩,?_⟩;exact⟨(y.o.alloc _).alloc _,((Ad.refl _ w).alloc _).alloc _,Or.inl rfl⟩
theorem DO.shape{f:Nat}{lo hi:Nat}{a b c:Value}(h:DO f w lo hi a b c l):∃s n ca cl cc,a= .string s/\b=Vi n/\c= .slice ca cl cc:=by
 cases f with
 |zero=>exact h.elim
 |succ f=>
  rcases h with⟨n,rfl,rfl,rfl,_⟩|⟨nm,ls,xs,_,rfl,rfl,_,d,_⟩
  ·exact⟨_,_,_,_,_,rfl,rfl,rfl⟩
  ·obtain⟨a,e,rfl⟩:=Ac d;exact⟨_,_,_,_,_,rfl,rfl,rfl⟩
structure Fg(f:Nat)(w:World)(lo:Nat)(cv:Value)(acc:List (List BL))(xs:List Value):Prop where
 owns:w.ownsRow lo 183 3 cv acc.length xs
 all:∀(i:Nat)(l':List BL),acc[i]?=some l'->∃a b c l h,xs[i*3]?=some a/\xs[i*3+1]?=some b/\xs[i*3+2]?=some c/\lo<=l/\h<=w.heap.size/\
  (∀k,cv.ownBlock=some k->¬(l<=k/\k<h))/\DO f w l h a b c l'
theorem Fg.nil(f:Nat)(w:World)(lo:Nat):Fg f w lo Nl [] []:=⟨Q2 _ _ _ _,fun i a h=>by simp at h⟩
theorem Ar.trans{j:Nat}{k l:Value}{m:Lv}(h:Ar w B e size v n xs k w1)(d:Ar w1 B e size k j m l w2):Ar w B e size v j m l w2:=
 ⟨d.owns,h.kept.then d.kept (fun i hi f=>by
   rcases h.where_ with a|⟨g,a,b⟩
   ·exact a.symm.trans f
   ·have:some g=some i:=a.symm.trans f;simp at this;omega),by
  rcases d.where_ with c|⟨g,c,b⟩
  ·rcases h.where_ with a|⟨g,a,b⟩
   ·exact Or.inl (c.trans a)
   ·exact Or.inr ⟨g,c.trans a,b⟩
  ·exact Or.inr ⟨g,c,Qq h.kept.size b⟩⟩
theorem Gw{n:Int}{ca:Oa}{cl cc:Nat}:∀u∈(#[Value.string s,Vi n,.slice ca cl cc]:Av).toList,u.oneCell'=true:=by
 intro u a;simp at a;rcases a with rfl|rfl|rfl<;>rfl
theorem Fg.step{f:Nat}{w3:World}{N lo:Nat}{z Z cv':Value}{V W:Nat}{X Y:Lv}{b:Ll}{n:Int}{ca:Oa}{cl cc:Nat}{o:Obj}
  (a:Fg f wr lo cv b xs) (af:N<lo) (M:lo<=wr.hz) (O:wr.ownsRow B 9 1 z V X) (v:Ar wr B 9 1 z W Y Z w1)
  (P:DO f w1 wr.hz w1.hz (.string s) (Vi n) (.slice ca cl cc) l) (ha:Ar (w1.alloc o) lo 183 3 cv (b.length+1) (xs++[.string s,Vi n,.slice ca cl cc]) cv' w3) (u:Value):
  Fg f (w3.setCell ⟨N,2,none⟩ u) lo cv' (b++[l]) (xs++[.string s,Vi n,.slice ca cl cc])/\Ad (fun k=>Ak cv k\/k=N) w1 (w3.setCell ⟨N,2,none⟩ u):=by
 have j:∀k,cv.ownBlock=some k->lo<=k/\k<wr.hz:=a.owns.lt;have R:Ad (Ak cv) w1 w3:=((Ad.refl _ w1).alloc o).then ha.kept (fun _ _ e=>e)
 have c:Ad (fun k=>Ak cv k\/k=N) w1 (w3.setCell ⟨N,2,none⟩ u):=Ad.setCell (S:=fun k=>Ak cv k\/k=N) (R.mono (fun _ _ e=>Or.inl e)) (p:=⟨N,2,none⟩) (fun _=>Or.inr rfl) u;have d:∀k,cv'.ownBlock=some k->(lo<=k/\k<wr.hz/\cv.ownBlock=some k)\/w1.hz<k:=by
  intro k a;rcases ha.where_ with h|⟨g,h,K⟩
  ·rw[a]at h;exact Or.inl ⟨(j k h.symm).1,(j k h.symm).2,h.symm⟩
  ·rw[a]at h;simp at h K;exact Or.inr Yo
 have r:xs.length=b.length*3:=a.owns.1;have ag:w1.hz<=(w3.setCell ⟨N,2,none⟩ u).hz:=c.size;have ah:=v.kept.size;refine⟨⟨?_,?_⟩,c⟩
 ·have:=((Ad.refl (only N) w3).put 2 u).owns ha.owns (fun k a e=>by
   have e:k=N:=e;rcases d k a with h|h<;>omega)
  simpa using this
 ·intro i T hl;rcases QB i b.length with hi|hi
  ·rw[Qc hi]at hl;obtain⟨A,C,D,U,I,aa,ab,ac,G,ae,t,H⟩:=a.all i T hl;refine⟨A,C,D,U,I,?_,?_,?_,G,Yo,?_,?_⟩
   ·rw[Qc Yo];exact aa
   ·rw[Qc Yo];exact ab
   ·rw[Qc Yo];exact ac
   ·intro k m x;rcases d k m with h|h
    ·exact t k h.2.2 x
    ·omega
   ·refine H.later (w:=wr) _ (fun k y q Q=> ?_);obtain⟨ad,J⟩:=Q;have E:w1.heap[k]?=wr.heap[k]?:=v.kept.block k Yo (Ai O Yd J);have F:=c.block k Yo (fun h=>by
     rcases h with h|h
     ·exact t k h ⟨y,q⟩
     ·omega)
    exact F.trans E
  ·have L:i=b.length:=by
    have:i<(b++[l]).length:=(Qa.1 hl).1;simp at this;omega
   subst L;simp at hl;subst hl;refine⟨.string s,Vi n,.slice ca cl cc,wr.hz,w1.hz,?_,?_,?_,M,Yo,?_,?_⟩
   ·rw[Qd Yo,r];simp
   ·rw[Qd Yo,r];simp
   ·rw[Qd Yo,r];simp
   ·intro k m x;rcases d k m with h|h<;>omega
   ·refine P.later _ (fun k y q _=>c.block k q (fun h=> ?_));rcases h with h|h
    ·have:=(j k h).2;omega
    ·omega
theorem Ad.drewN{a:World}(h:Ad S a w)(n:Nat):Ad S a (w.drewN n):=⟨h.os,h.tape,h.output,h.size,h.block⟩
def JT(f:Nat):Prop:=∀(w:World)(lo hi:Nat)(a b c:Value)(l:Ly)(B:Nat)(seen:List Nat)(sv:Value),
 DO f w lo hi a b c l->w.ownsRow B 3 1 sv seen.length (AM seen)->B<=w.heap.size->(∀s∈l,s.name.length<=4096)->seen.length+l.length<=4000->
 Calls prog 107 #[.agg #[a,b,c],sv] w fun e w'=>∃sv',e= .returned (.tuple #[.string ⟨(AO f l seen).1.toArray⟩,sv'])/\Ar w B 3 1 sv (AO f l seen).2.1.length (AM (AO f l seen).2.1) sv' w'
theorem Wk{seen:List Nat}(d:k<seen.length)(h:seen[k]=n)(hn:n∉seen.take k):Gj n seen=(CS k,seen):=by
 have a:n∈seen:=by rw[<-h];exact List.getElem_mem _
 unfold Gj;rw[if_pos a]
 congr 2
 have c:seen.idxOf n<=k:=by
  rcases QB k (seen.idxOf n)with hl|hl
  ·have:=List.not_of_lt_findIdx (p:=(· ==n)) (xs:=seen) hl;simp[h]at this
  ·exact hl
 rcases QB (seen.idxOf n) k with hl|hl
 ·exfalso;apply hn;have b:seen.idxOf n<seen.length:=List.idxOf_lt_length_of_mem a;have:seen[seen.idxOf n]=n:=List.getElem_idxOf b;rw[<-this];rw[List.mem_take_iff_getElem];exact⟨seen.idxOf n,Yo,rfl⟩
 ·omega
theorem TP{seen:List Nat}(a:¬k<seen.length)(hn:n∉seen.take k):Gj n seen=(CS seen.length,seen++[n]):=by
 rw[List.take_of_length_le Yo]at hn;unfold Gj;rw[if_neg hn]
theorem Xb{seen:List Nat}(a:k<seen.length)(h:¬seen[k]=n)(hn:n∉seen.take k):n∉seen.take (k+1):=by
 rw[List.take_succ_eq_append_getElem a];simp only[Qk,List.mem_singleton,not_or];exact⟨hn,fun e=>h e.symm⟩
theorem O9(w:World)(n:Nat)(B:Nat)(seen:List Nat)(s:Value)(r:w.ownsRow B 3 1 s seen.length (AM seen))(I:B<=w.hz)(N:seen.length<=3999):
  Calls prog 107 #[.agg #[.string ⟨#[]⟩,Vi n,Nl],s] w fun e w'=>∃A,e=Rq #[.string ⟨(Gj n seen).1.toArray⟩,A]/\Ar w B 3 1 s (Gj n seen).2.length (AM (Gj n seen).2) A w':=by
 obtain⟨Q,R,rfl⟩:=Ac r;have u:=hd r;clear r;go_enter func107,P;go_wp2
 go_loopw [6] (fun i wr=>∃k:Nat,k<=seen.length/\i=Vi k/\n∉seen.take k/\Ad A4 w wr/\wr.heap[w.hz]?=some (.cells #[.string ⟨#[]⟩,Vi n,Nl] 183 (0,0))) (fun i _=>seen.length-(intOf i).toNat)
 case atStart=>exact⟨0,Qm _,rfl,Ys,(Ad.refl _ w).alloc _,QL w _⟩
 case round=>
  obtain⟨k,M,rfl,z,c,p⟩:=hrel;have j:=hd z;have a:=hd c;have D:=hd p;have b:=hd (c.owns u.o (fun _ _ h=>h));have b1:wr.cell? ⟨w.hz,1,none⟩=some (Vi n):=Aa p 1 _ rfl;have O:=c.size;clear z c p
  by_cases d:k<seen.length
  ·obtain⟨g,G,H,x,J,E,L⟩:=An b.o Yo;simp only[QH]at x;obtain⟨rfl,_,rfl⟩:=x;obtain⟨m,q⟩:=Ex (seen[k]);have K:wr.cell? ⟨g,k,none⟩=some (Vi m):=Ag b.o k _ (by simp[AM,d,q]);have t:=hd q;clear E q
   cases y:((m:Int)==(n:Int))
   ·have f:¬m=n:=by
     have:=Qu.1 y;omega
    go_wp2_with fail;go_quiet (fail);go_wp2_with fail
    go_roundw
    case rel=>exact⟨k+1,Yo,Yg,Xb d (fun h=>f (t.o.trans h)) j.o,⟨a.o.os,a.o.tape,a.o.output,a.o.size,a.o.block⟩,D.o⟩
    case measure=>simp[intOf];omega
   ·have f:m=n:=by
     have:=eq_of_beq y;omega
    have l:=hd (Wk d (t.o.symm.trans f) j.o);clear f;go_wp2_with fail;go_quiet (fail);go_wp2_with fail;apply(KS k _ Yo).mono;rintro e w' ⟨rfl,rfl⟩;go_wp2_with fail;go_ret2;rw[l.o];exact⟨_,rfl,⟨b.o,(a.o.drewN _).mono (fun _ _ h=>h.elim),Or.inl rfl⟩⟩
  ·have l:=hd (TP d j.o);go_wp2_with fail;apply(KS seen.length _ Yo).mono;rintro e w' ⟨rfl,rfl⟩
   go_wp2_with (at_builtin;refine Am _ rfl (.tmp 36) (.tmp 39) 25 rfl B 3 infoInt underlying25 rfl Yd _ seen.length (AM seen) rfl b.o _ rfl rfl rfl (DT _) ?_ ?_ ?_)
   ·omega
   ·omega
   intro F w1 v;have C:=hd v;clear v;go_wp2;go_ret2;rw[l.o];refine⟨F,rfl,?_⟩;have h:=C.o.around (S:=A4) (a.o.mono (fun _ _ h=>h.elim)) (fun k e=>(u.o.lt k e).2) (Ad.refl _ _) (fun _ h=>h.elim) (fun _ _ h=>h);simpa[AM]using h
theorem Od(w:World)(nm:Lu)(h:nm≠[])(c:Value)(B:Nat)(seen:List Nat)(b:Value)(lo:Nat)(xs:Lv)(d:w.ownsRow lo 183 3 c 0 xs)(a:w.ownsRow B 3 1 b seen.length (AM seen)):
  Calls prog 107 #[.agg #[.string ⟨nm.toArray⟩,Vi 0,c],b] w fun e w'=>∃f,e=Rq #[.string ⟨nm.toArray⟩,f]/\Ar w B 3 1 b seen.length (AM seen) f w':=by
 obtain⟨k,l,rfl⟩:=Ac a;obtain⟨ca,i,rfl⟩:=Ac d;have g:=hd a;clear a d;have j:nm.isEmpty=false:=by simpa using h
 go_enter func107,ntmps107;go_wp2;go_ret2;exact⟨_,rfl,⟨g.o.alloc _,(Ad.refl _ w).alloc _,Or.inl rfl⟩⟩
theorem Nr(f:Nat)(W:JT f)(w:World)(nm:Lu)(ax:nm≠[])(c:Value)(B:Nat)(seen:List Nat)(M:Value)(lo hi:Nat)(xs:Lv)(ls:Ll)(Z:ls≠[])
  (F:w.ownsRow lo 183 3 c ls.length xs) (x:∀(i:Nat)(a:Ly),ls[i]?=some a->∃n p q,xs[i*3]?=some n/\xs[i*3+1]?=some p/\xs[i*3+2]?=some q/\DO f w lo hi n p q a)
  (J:w.ownsRow B 3 1 M seen.length (AM seen)) (be:B<=w.hz) (hn:nm.length<=4096) (ae:∀s∈ls.flatten,s.name.length<=4096) (az:seen.length+ls.flatten.length<=3999):
  Calls prog 107 #[.agg #[.string ⟨nm.toArray⟩,Vi 0,c],M] w fun e w'=>∃N,e=Rq #[.string ⟨(nm++(BH f 40 ls seen).1++[41]).toArray⟩,N]/\
   Ar w B 3 1 M (BH f 40 ls seen).2.length (AM (BH f 40 ls seen).2) N w':=by
 obtain⟨a2,a3,rfl⟩:=Ac J;obtain⟨g,E,bc,rfl,bj,av,bi⟩:=An F (by cases ls with|nil=>exact absurd rfl Z|cons _ _=>simp);have U:=hd J;have Q:=hd F;have an:=hd x;have am:=hd W;have bg:nm.isEmpty=false:=by simpa using ax
 have bk:(((ls.length:Nat):Int)==0)=false:=by
  rw[Qu]
  cases ls with
  |nil=>exact absurd rfl Z
  |cons _ _=>simp;omega
 have S:Hd (∀a∈ls,GL f a):=fun a hl=>by
  obtain⟨i,hi,rfl⟩:=Q8 hl;obtain⟨n,p,q,_,_,_,g⟩:=x i _ (Qb hi);exact g.isT f
 have bh:=GI f ls S.o;have ao:=hd (MG f (EP f) ls S.o ae 40 seen Yo);clear J F x W av;go_enter func107,bo;go_wp2
 go_loopw [1,9,10] (fun a6 a7 i wr=>∃(k:Nat)(b:List Nat)(h:Lu),k<=ls.length/\i=Vi k/\a7= .string ⟨(nm++h).toArray⟩/\
   h++(BH f (if k=0 then 40 else 44) (ls.drop k) b).1=(BH f 40 ls seen).1/\(BH f (if k=0 then 40 else 44) (ls.drop k) b).2=(BH f 40 ls seen).2/\
   b.length+(ls.drop k).flatten.length<=3999/\Ar w B 3 1 (.slice a2 seen.length a3) b.length (AM b) a6 wr/\
   wr.heap[w.hz]?=some (.cells #[.string ⟨nm.toArray⟩,Vi 0,.slice (some ⟨g,0,none⟩) ls.length E] 183 (0,0))) (fun _ _ i _=>ls.length-(intOf i).toNat)
 case atStart=>exact⟨0,seen,[],Qm _,rfl,Ys,Ys,Ys,by simpa using az,⟨U.o.alloc _,(Ad.refl _ w).alloc _,Or.inl rfl⟩,QL w _⟩
 case round=>
  obtain⟨k,b,h,x,rfl,rfl,H,ac,ad,r,u⟩:=hrel;obtain⟨a4,a5,rfl⟩:=Ac r.owns;have ap:wr.cell? ⟨w.hz,0,none⟩=some (.string ⟨nm.toArray⟩):=Aa u 0 _ rfl;have b2:wr.cell? ⟨w.hz,2,none⟩=some (.slice (some ⟨g,0,none⟩) ls.length E):=Aa u 2 _ rfl;have bf:h.length<=50000000:=by
   have d:=congrArg List.length H;have j:=ao.o;simp only[Qg]at d;omega
  have l:=hd r;have A:=hd u;have C:=hd H;have D:=hd ac;have bm:=r.kept.size;clear r u H ac
  by_cases aa:k<ls.length
  ·obtain⟨a,y⟩:∃a,ls[k]?=some a:=⟨_,Qb aa⟩;have G:ls.drop k=a::ls.drop (k+1):=by
    rw[QC aa];rw[(Qa.1 y).2]
   obtain⟨n,p,q,ah,ai,aj,z⟩:=an.o k a y;obtain⟨a1,a0,aq,au,ar,rfl,rfl,rfl⟩:=z.shape;have I:∀(k:Nat),CG w k->wr.heap[k]?=w.heap[k]?:=fun k K=>by
    obtain⟨bd,Y⟩:=K;exact l.o.kept.block k (Ab Y) (Ai U.o Yd Y)
   have v:wr.ownsRow lo 183 3 (.slice (some ⟨g,0,none⟩) ls.length E) ls.length xs:=Aj Q.o (fun k e=>I k (Ay Q.o k e));have ab:DO f wr lo hi _ _ _ a:=z.later f (fun k _ _ K=>I k K);have a8:wr.cell? ⟨g,k*3,none⟩=some (.string a1):=Ag v _ _ ah;have a9:wr.cell? ⟨g,k*3+1,none⟩=some (Vi a0):=Ag v _ _ ai;have ba:wr.cell? ⟨g,k*3+2,none⟩=some (.slice aq au ar):=Ag v _ _ aj;have af:∀s∈a,s.name.length<=4096:=fun s ay=>ae s (List.mem_flatten.2 ⟨a,Qh y,ay⟩);have bl:b.length+a.length+(ls.drop (k+1)).flatten.length<=3999:=by
    rw[G]at ad;simp only[Q4,Qg]at ad;omega
   have ag:=EP f a (z.isT f) af b Yo;have bn:(AO f a b).1.length<=50000000:=Yo
   have ak:=hd (am.o wr lo hi _ _ _ a B b _ ab l.o.owns Yo af Yo);have R:=hd G;have V:=hd ag;clear ah ai aj z I v ab G ag y;go_wp2_with fail;apply ak.o.mono;rintro e w1 ⟨N,rfl,t⟩;obtain⟨bp,bq,rfl⟩:=Ac t.owns;have O:=hd t;have X:=(t.kept.block w.hz (Ab A.o) (Ai l.o.owns Yd A.o)).trans A.o;have P:=hd X;clear t X a8 a9 ba ap b2;have T:Hd (∀L:UInt8,(⟨(nm++h).toArray⟩:ByteArray)++⟨[L].toArray⟩++⟨(AO f a b).1.toArray⟩=⟨(nm++(h++L::(AO f a b).1)).toArray⟩):=fun L=>by
    rw[Az,Az];simp
   by_cases h0:k=0
   ·have aw:((k:Int)==0)=true:=by rw[beq_iff_eq];omega
    have m:Hd ((h++40::(AO f a b).1)++(BH f 44 (ls.drop (k+1)) (AO f a b).2.1).1=(BH f 40 ls seen).1/\(BH f 44 (ls.drop (k+1)) (AO f a b).2.1).2=(BH f 40 ls seen).2):=by
     have d:=C.o;have j:=D.o;rw[R.o,if_pos h0]at d j;simp only[BH]at d j;exact⟨by rw[<-d];simp,j⟩
    have bb:=hd h0;clear h0;go_wp2
    go_roundw
    case rel=>exact⟨k+1,(AO f a b).2.1,h++40::(AO f a b).1,Yo,Yg,by rw[<-T.o 40],by simpa using m.o.1,by simpa using m.o.2,by have:=V.o;omega,l.o.trans O.o,P.o⟩
    case measure=>simp[intOf];omega
   ·have aw:((k:Int)==0)=false:=by rw[Qu];omega
    have m:Hd ((h++44::(AO f a b).1)++(BH f 44 (ls.drop (k+1)) (AO f a b).2.1).1=(BH f 40 ls seen).1/\(BH f 44 (ls.drop (k+1)) (AO f a b).2.1).2=(BH f 40 ls seen).2):=by
     have d:=C.o;have j:=D.o;rw[R.o,if_neg h0]at d j;simp only[BH]at d j;exact⟨by rw[<-d];simp,j⟩
    go_wp2
    go_roundw
    case rel=>exact⟨k+1,(AO f a b).2.1,h++44::(AO f a b).1,Yo,Yg,by rw[<-T.o 44],by simpa using m.o.1,by simpa using m.o.2,by have:=V.o;omega,l.o.trans O.o,P.o⟩
    case measure=>simp[intOf];omega
  ·have al:Hd ((BH f 40 ls seen)=(h,b)):=by
    have d:=C.o;have j:=D.o;rw[List.drop_eq_nil_of_le Yo]at d j;simp only[BH,Qs]at d j;show _=_;rw[d,j]
   go_wp2;go_ret2;rw[al.o];refine⟨_,?_,l.o⟩;show Ending.returned (.tuple #[.string ((⟨(nm++h).toArray⟩:ByteArray)++⟨[41].toArray⟩),.slice a4 b.length a5])=_;rw[Az]
theorem F0:∀f,JT f:=by
 intro f
 induction f with
 |zero=>intro w lo hi a b c l B seen j h;exact h.elim
 |succ f u=>
  intro w lo hi a b c l B seen j h k q hn e;have A:=h.isT;rcases h with⟨n,rfl,rfl,rfl,rfl⟩|⟨nm,ls,xs,d,rfl,rfl,rfl,o,z,p⟩
  ·have m:AO (f+1) [⟨[],n,0⟩] seen=((Gj n seen).1,(Gj n seen).2,[]):=by simp[AO]
   rw[m];exact O9 w n B seen j k q (by simp at e;omega)
  ·by_cases hl:ls=[]
   ·subst hl;have m:AO (f+1) (⟨nm,0,([]:Ll).length⟩::([]:Ll).flatten) seen=(nm,seen,[]):=by simp[AO,d]
    rw[m];exact Od w nm d c B seen j lo xs o k
   ·have t:∀r∈ls,GL f r:=fun r hl=>by
     obtain⟨i,hi,rfl⟩:=Q8 hl;obtain⟨v,x,y,_,_,_,g⟩:=p i _ (Qb hi);exact g.isT f
    rw[GO f nm ls d t hl];exact Nr f u w nm d c B seen j lo hi xs ls hl o p k q (hn _ (List.mem_cons_self ..)) (fun s e=>hn s (QD _ e)) (by simp at e⊢;omega)
def BU(f:Nat):Lu->Ll->List Nat->Lu
 |_,[],_=>[]
 |sep,l::ls,seen=>sep++(AO f l seen).1++BU f [44,32] ls (AO f l seen).2.1
theorem FT(f:Nat):∀(ls:Ll),(∀c∈ls,GL f c)->(∀s∈ls.flatten,s.name.length<=4096)->∀b seen,b.length<=2->seen.length+ls.flatten.length<=4000->(BU f b ls seen).length<=4101*ls.flatten.length:=by
 intro ls
 induction ls with
 |nil=>intro _ _ b seen _ _;simp[BU]
 |cons l ls d=>
  intro h hn b seen j a;simp only[Q4,Qg]at a;have e:=EP f l (h l Ys) (fun s a=>hn s (by simp[a])) seen Yo;have g:=d (fun c hl=>h c (by simp[hl])) (fun s a=>hn s (by simp only[Q4,Qk];exact Or.inr a)) [44,32] (AO f l seen).2.1 Ys Yo;have i:=Nz f l (h l Ys);simp only[BU,Qg,Q4];omega
theorem Fg.isT{f:Nat}{lo:Nat}(h:Fg f w lo cv ls xs):∀a∈ls,GL f a:=fun a hl=>by
 obtain⟨i,hi,rfl⟩:=Q8 hl;obtain⟨b,c,d,_,_,_,_,_,_,_,_,g⟩:=h.all i _ (Qb hi);exact g.isT f
theorem LO(f:Nat)(w:World)(c:Value)(B:Nat)(seen:List Nat)(F:Value)(lo:Nat)(xs:Lv)(ls:Ll)(l:Fg f w lo c ls xs)
  (D:w.ownsRow B 3 1 F seen.length (AM seen)) (a6:B<=w.hz) (P:∀s∈ls.flatten,s.name.length<=4096) (am:seen.length+ls.flatten.length<=3999):
  Calls prog 108 #[c,F] w fun e w'=>e= .returned (.string ⟨(BU f [] ls seen++[46]).toArray⟩)/\Ad (Ak F) w w':=by
 obtain⟨ar,au,rfl⟩:=Ac D;obtain⟨ca,af,rfl⟩:=Ac l.owns;have I:=hd D;have n:=hd l;have aa:=hd (F0 f);have a8:=GI f ls l.isT;have ab:=hd (FT f ls l.isT P [] seen Ys Yo);clear D l;go_enter func108,be;go_wp2
 go_loopw [1,5,6] (fun av ax i wr=>∃(k:Nat)(b:List Nat)(h:Lu),k<=ls.length/\i=Vi k/\ax= .string ⟨h.toArray⟩/\
   h++(BU f (if k=0 then[]else[44,32]) (ls.drop k) b)=BU f [] ls seen/\
   b.length+(ls.drop k).flatten.length<=3999/\Ar w B 3 1 (.slice ar seen.length au) b.length (AM b) av wr) (fun _ _ i _=>ls.length-(intOf i).toNat)
 case atStart=>exact⟨0,seen,[],Qm _,rfl,Ys,Ys,by simpa using am,⟨I.o,Ad.refl _ w,Or.inl rfl⟩⟩
 case round=>
  obtain⟨k,b,h,l,rfl,rfl,A,O,p⟩:=hrel;obtain⟨bf,bg,rfl⟩:=Ac p.owns;have a7:h.length<=50000000:=by
   have d:=congrArg List.length A;have a5:=ab.o;simp only[Qg]at d;omega
  have m:=hd p;have x:=hd A;have bc:=p.kept.size;clear p A
  by_cases M:k<ls.length
  ·obtain⟨a,r⟩:∃a,ls[k]?=some a:=⟨_,Qb M⟩;have z:ls.drop k=a::ls.drop (k+1):=by
    rw[QC M];rw[(Qa.1 r).2]
   obtain⟨g,a2,a3,L,ba,aj,a9⟩:=An n.o.owns Yo;simp only[QH]at L;obtain⟨rfl,_,rfl⟩:=L;obtain⟨az,a0,a1,S,d,T,U,V,ag,ah,ai,t⟩:=n.o.all k a r;obtain⟨ao,an,ac,ae,ad,rfl,rfl,rfl⟩:=t.shape;have C:∀(k:Nat),CG w k->wr.heap[k]?=w.heap[k]?:=fun k E=>by
    obtain⟨a4,K⟩:=E;exact m.o.kept.block k (Ab K) (Ai I.o Yd K)
   have q:wr.ownsRow lo 183 3 (.slice (some ⟨g,0,none⟩) ls.length af) ls.length xs:=Aj n.o.owns (fun k e=>C k (Ay n.o.owns k e));have N:DO f wr S d _ _ _ a:=t.later f (fun k _ _ E=>C k E);have W:wr.cell? ⟨g,k*3,none⟩=some (.string ao):=Ag q _ _ T;have X:wr.cell? ⟨g,k*3+1,none⟩=some (Vi an):=Ag q _ _ U;have Y:wr.cell? ⟨g,k*3+2,none⟩=some (.slice ac ae ad):=Ag q _ _ V;have Q:∀s∈a,s.name.length<=4096:=fun s al=>P s (List.mem_flatten.2 ⟨a,Qh r,al⟩);have bb:b.length+a.length+(ls.drop (k+1)).flatten.length<=3999:=by
    rw[z]at O;simp only[Q4,Qg]at O;omega
   have R:=EP f a (t.isT f) Q b Yo;have bd:(AO f a b).1.length<=50000000:=Yo
   have G:=hd (aa.o wr S d _ _ _ a B b _ N m.o.owns Yo Q Yo);have H:=hd z;have J:=hd R;clear T U V t C q N z R r ag ah ai aj
   by_cases h0:k=0
   ·have ak:¬(0:Int)<(k:Int):=Yo
    have v:Hd ((h++(AO f a b).1)++BU f [44,32] (ls.drop (k+1)) (AO f a b).2.1=BU f [] ls seen):=by
     have d:=x.o;rw[H.o,if_pos h0]at d;simp only[BU]at d;show _=_;rw[<-d];simp
    have y:=hd (Az h (AO f a b).1);have ay:=hd h0;clear h0;go_wp2_with fail;apply G.o.mono;rintro e w1 ⟨aw,rfl,j⟩;obtain⟨ap,aq,rfl⟩:=Ac j.owns;have u:=hd j;clear j W X Y;go_wp2
    go_roundw
    case rel=>exact⟨k+1,(AO f a b).2.1,h++(AO f a b).1,Yo,Yg,by rw[<-y.o],by simpa using v.o,by have:=J.o;omega,m.o.trans u.o⟩
    case measure=>simp[intOf];omega
   ·have ak:(0:Int)<(k:Int):=Yo
    have v:Hd ((h++[44,32]++(AO f a b).1)++BU f [44,32] (ls.drop (k+1)) (AO f a b).2.1=BU f [] ls seen):=by
     have d:=x.o;rw[H.o,if_neg h0]at d;simp only[BU]at d;show _=_;rw[<-d];simp
    have y:Hd ((⟨h.toArray⟩:ByteArray)++⟨[44,32].toArray⟩++⟨(AO f a b).1.toArray⟩=⟨(h++[44,32]++(AO f a b).1).toArray⟩):=by
     show _=_;rw[Az,Az]
    go_wp2_with fail;apply G.o.mono;rintro e w1 ⟨aw,rfl,j⟩;obtain⟨ap,aq,rfl⟩:=Ac j.owns;have u:=hd j;clear j W X Y;go_wp2
    go_roundw
    case rel=>exact⟨k+1,(AO f a b).2.1,h++[44,32]++(AO f a b).1,Yo,Yg,by rw[<-y.o],by simpa using v.o,by have:=J.o;omega,m.o.trans u.o⟩
    case measure=>simp[intOf];omega
  ·have Z:Hd (BU f [] ls seen=h):=by
    have d:=x.o;rw[List.drop_eq_nil_of_le Yo]at d;simp only[BU,Qs]at d;exact d.symm
   go_wp2;go_ret;rw[Z.o];exact⟨DW (Az h [46]),m.o.kept⟩
theorem T2(f:Nat)(aq:Pr f)(w:World)(ts:List BZ)(k:Nat)(tv:Value)(Y B:Nat)(names:At)(nv:Value)(t u:BZ)(r:List BZ)(q:Ll×List BZ×At)
  (hd:ts.drop k=t::u::r) (c5:t.kind≠2) (bq:u.kind=40) (az:CE (Bq f) (r.length+1) (u::r) names []=some q) (V:w.ownsRow Y 243 3 tv ts.length (AP ts))
  (U:w.ownsRow B 9 1 nv names.length (Ba names)) (cq:B<=w.hz) (hl:ts.length<=1000) (hn:names.length+(ts.length-k)<=1000) (bx:∀t∈ts,t.text.length<=4096)
  (bs:t.text≠[]) (bw:∀i t,ts[i]?=some t->i+1<ts.length->t.text≠[]):
  Calls prog 143 #[tv,Vi k,nv] w fun e w'=>∃a b c aj j,e=Rq #[.agg #[a,b,c],Vi (j:Nat),aj]/\q.2.1=ts.drop j/\k<j/\j<=ts.length/\
   DO (f+1) w' w.hz w'.hz a b c (⟨t.text,0,q.1.length⟩::q.1.flatten)/\Ar w B 9 1 nv q.2.2.length (Ba q.2.2) aj w':=by
 obtain⟨a1,ag,m⟩:=ED hd;obtain⟨a2,bv,c2⟩:=ED ag;obtain⟨g,a7,rfl,cv,b9,cb,cd⟩:=GV V a1;obtain⟨bm,ce,G,cw,a8,cf,cg⟩:=GV V a2;simp only[QH,Qo,Addr.mk.injEq]at G;obtain⟨⟨rfl,_⟩,_,rfl⟩:=G;have df:((t.kind:Int)==2)=false:=by rw[Qu];omega
 rw[bq]at a8;have bg:Hd (CE (Bq f) (r.length+1) (ts.drop (k+1)) names []=some q):=by show _=_;rw[ag];exact az
 have Z:=hd U;have ap:=hd V;have bf:=hd aq;have bb:Hd (∀o a6,Ar w B 9 1 nv names.length (Ba names) nv ((w.alloc o).alloc a6)):=fun o a6=>⟨(U.alloc _).alloc _,((Ad.refl _ w).alloc _).alloc _,Or.inl rfl⟩;obtain⟨na,b8,rfl⟩:=Ac U;clear hd V U a1 ag a2 bv az aq cf cg;go_enter func143,dh;go_wp2
 go_loopg [1,2] (r.length+1) (fun gk i nm wr=>∃(j:Nat)(y:At)(d:Ll)(ab:Value)(xs:Lv),i=Vi (j:Nat)/\k<j/\j<=ts.length/\d.length<=j/\y.length+(ts.length-j)<=1000/\
   CE (Bq f) gk (ts.drop j) y d=some q/\wr.heap[w.hz]?=some (.cells #[.string ⟨#[]⟩,Vi 0,Nl] 183 (0,0))/\
   wr.heap[w.hz+1]?=some (.cells #[.string ⟨t.text.toArray⟩,Vi 0,ab] 183 (0,0))/\Fg f wr (w.hz+2) ab d xs/\w.hz+2<=wr.hz/\
   Ar w B 9 1 (.slice na names.length b8) y.length (Ba y) nm wr)
 case atStart=>
  exact⟨k+1,names,[],Nl,[],Yg,Yo,Yo,Ys,Yo,bg.o,Ah (QL w _) _,by simpa using QL (w.alloc _) _,Fg.nil _ _ _,Ys,bb.o _ _⟩
 case round=>
  obtain⟨j,y,d,ab,xs,rfl,c6,c1,cr,c8,l,z,C,H,db,D⟩:=hrel;have I:=D.owns;obtain⟨a4,a5,rfl⟩:=Ac I;have W:wr.ownsRow Y 243 3 (.slice (some ⟨g,0,none⟩) ts.length a7) ts.length (AP ts):=D.kept.owns ap.o (fun k m=>by
   obtain⟨av,E⟩:=Ay ap.o k m;exact Ai Z.o Yd E)
  cases F:ts.drop j with
  |nil=>rw[F]at l;cases gk<;>simp[CE]at l
  |cons x ak=>
   obtain⟨ai,K,dd⟩:=ED F;obtain⟨bm,ce,G,cx,ch,_,_⟩:=GV W ai;simp only[QH,Qo,Addr.mk.injEq]at G;obtain⟨⟨rfl,_⟩,_,rfl⟩:=G;obtain⟨p,s,rfl⟩:=Ac H.owns;have b5:wr.cell? ⟨w.hz+1,0,none⟩=some (.string ⟨t.text.toArray⟩):=Aa C 0 _ rfl;have b6:wr.cell? ⟨w.hz+1,1,none⟩=some (Vi 0):=Aa C 1 _ rfl;have b7:wr.cell? ⟨w.hz+1,2,none⟩=some (.slice p d.length s):=Aa C 2 _ rfl
   cases gk with
   |zero=>simp[CE]at l
   |succ gk=>
    rw[F,CE]at l
    by_cases ad:x.kind=41
    ·rw[if_pos ad]at l;simp only[Qo]at l;have b2:wr.cell? ⟨w.hz,0,none⟩=some (.string ⟨#[]⟩):=Aa z 0 _ rfl;have b3:wr.cell? ⟨w.hz,1,none⟩=some (Vi 0):=Aa z 1 _ rfl;have b4:wr.cell? ⟨w.hz,2,none⟩=some Nl:=Aa z 2 _ rfl;have cm:=fun i=>Ae z i;have bz:((x.kind:Int) !=41)=false:=by rw[ad];rfl
     have n:=hd H;have M:=hd D;have bi:=hd K;have aa:=hd l;have L:=hd z;clear H D K l F ai z C I W;go_wp2;refine bodyPost_ret (v:= .tuple #[.agg #[.string ⟨t.text.toArray⟩,Vi 0,.slice p d.length s],Vi ((j+1:Nat):Int),.slice a4 y.length a5]) (by simp[results,results143,go_sem,b2,b3,b4,cm]) rfl ?_;have T:=(((Ad.refl (only w.hz) wr).put 0 (.string ⟨t.text.toArray⟩)).put 1 (Vi 0)).put 2 (.slice p d.length s);have da:=T.size;rw[<-aa.o];refine⟨_,_,_,_,j+1,rfl,bi.o.symm,Yo,Yo,Or.inr ⟨t.text,d,xs,bs,rfl,rfl,rfl,?_,?_,?_⟩,?_⟩
     ·refine AI (T.owns n.o.owns (fun k m e=> ?_)) Yo;have e:k=w.hz:=e;have:=(n.o.owns.lt k m).1;omega
     ·intro k m;have:=(n.o.owns.lt k m).2;omega
     ·intro i b0 br;obtain⟨bj,bk,bl,dg,ac,ci,cj,ck,cn,co,cp,bo⟩:=n.o.all i b0 br;refine⟨bj,bk,bl,ci,cj,ck,(DO.later f bo (fun k c3 c4 _=>T.block k Yo (fun e=> ?_))).wide f Yo Yo⟩;have e:k=w.hz:=e;omega
     ·refine M.o.around (Ad.refl _ w) (fun k e=>(Z.o.lt k e).2) T (fun k e=>Nat.le_of_eq (Eq.symm e)) ?_;intro k m e;have e:k=w.hz:=e;subst e;exact Ai M.o.owns Yd L.o m
    ·rw[if_neg ad]at l
     cases J:Bq f ak y with
     |none=>rw[J]at l;simp at l
     |some X=>
      rw[J]at l;simp only at l;obtain⟨nb,cs,ct,ax,cu⟩:=Dk f ak y X J;have ae:=bf.o wr ts (j+1) (.slice (some ⟨g,0,none⟩) ts.length a7) Y B y (.slice a4 y.length a5) X (by rw[K];exact J) W I Yo hl Yo bx bw;rw[show((j+1:Nat):Int)=(j:Int)+1 from by omega]at ae;have bz:((x.kind:Int) !=41)=true:=by rw[bne_iff_ne];omega
      have a9:=hd ae;have n:=hd H;have M:=hd D;have aa:=hd l;have L:=hd z;have al:=hd C;have P:=hd I;have de:ak.length=ts.length-(j+1):=by rw[<-K];simp
      have bd:=hd ax;clear H D l F ai z C I W ae J K ax;go_wp2_with fail;apply a9.o.mono;rintro e w1 ⟨a,b,c,aj,a3,rfl,a0,cy,cz,ah,A⟩;obtain⟨dm,bn,ca,cl,cc,rfl,rfl,rfl⟩:=ah.shape;obtain⟨di,dj,rfl⟩:=Ac A.owns;have Q:w1.heap[w.hz+1]?=some (.cells #[.string ⟨t.text.toArray⟩,Vi 0,.slice p d.length s] 183 (0,0)):=(A.kept.block _ Yo (Ai P.o Yd al.o)).trans al.o;have aw:=(A.kept.block _ Yo (Ai P.o Yd L.o)).trans L.o;have ay:w1.ownsRow (w.hz+2) 183 3 (.slice p d.length s) d.length xs:=A.kept.owns n.o.owns (fun k m=>by
       obtain⟨av,E⟩:=Ay n.o.owns k m;exact Ai P.o Yd E)
      have b1:w1.cell? ⟨w.hz+1,2,none⟩=some (.slice p d.length s):=Aa Q 2 _ rfl;have dc:=A.kept.size;have c7:w.hz+1<w1.hz:=Ab Q;have an:=hd ay;have am:=hd Q;have ba:=hd aw;have bh:=hd ah;have O:=hd A;have ao:=hd a0;clear ay Q aw ah A a0 b5 b6 b7 ch b9 cb cd a8
      go_wp2_with (at_builtin;refine Am _ rfl (.tmp 69) (.tmp 71) 146 rfl (w.hz+2) 183 infoTerm underlying146 rfl Yd _ d.length xs rfl (an.o.alloc _) _ rfl Ys rfl Gw ?_ ?_ ?_)
      ·omega
      ·simp;omega
      intro cv' w3 R;obtain⟨ar,au,rfl⟩:=Ac R.owns;have bt:¬Ak (.slice p d.length s) (w.hz+1):=fun e=>by have:=(n.o.owns.lt _ e).1;omega
      have bu:¬Ak (.slice p d.length s) w.hz:=fun e=>by have:=(n.o.owns.lt _ e).1;omega
      have S:w3.heap[w.hz+1]?=some (.cells #[.string ⟨t.text.toArray⟩,Vi 0,.slice p d.length s] 183 (0,0)):=(R.kept.block _ Yp bt).trans (Ah am.o _);have dk:w3.cell? ⟨w.hz+1,2,none⟩=some (.slice p d.length s):=Aa S 2 _ rfl;have dl:=fun i=>Ae S i;have be:=hd S;have bc:=hd R;clear S R b1;go_wp2
      go_roundg gk
      case measure=>omega
      case rel=>
       obtain⟨bp,af⟩:=n.o.step (N:=w.hz+1) Yo Yo P.o O.o bh.o bc.o (.slice ar (d.length+1) au);have c9:=af.size;have c0:a3=j+1+nb:=by
        have ac:=congrArg List.length ao.o;rw[bd.o]at ac;simp only[List.length_drop]at ac;omega
       refine⟨a3,X.2.2,d++[X.1],.slice ar (d.length+1) au,_,rfl,Yo,Yo,by simp;omega,Yo,by rw[<-ao.o];exact aa.o,?_,?_,bp,Yo,?_⟩
       ·refine(af.block _ Yo (fun h=> ?_)).trans ba.o;rcases h with h|h
        ·exact bu h
        ·omega
       ·exact Af be.o 2 _
       ·refine(M.o.trans O.o).around (Ad.refl _ w) (fun k e=>(Z.o.lt k e).2) af (fun k h=> ?_) (fun k m h=> ?_)
        ·rcases h with h|h
         ·have:=(n.o.owns.lt k h).1;omega
         ·omega
        ·rcases h with h|h
         ·obtain⟨av,E⟩:=Ay an.o k h;exact Ai O.o.owns Yd E m
         ·subst h;exact Ai O.o.owns Yd am.o m
theorem Ps:∀f,Pr f:=by
 intro f
 induction f with
 |zero=>intro w ts k tv b B names nv r h;simp[Bq]at h
 |succ f v=>
  intro w ts k tv b B names nv r h g e d hl hn l j
  cases hd:ts.drop k with
  |nil=>rw[hd]at h;simp[Bq]at h
  |cons t m=>
   rw[hd,Bq]at h
   by_cases a:t.kind=2
   ·rw[if_pos a]at h;simp only[Qo]at h;subst h;exact Wb f w ts k tv b B names nv t m hd a g e d hl hn l
   ·rw[if_neg a]at h
    cases m with
    |nil=>simp[FN]at h
    |cons u n=>
     obtain⟨s,p,x⟩:=ED hd;obtain⟨_,_,y⟩:=ED p;have i:=j k t s Yo;rw[FN]at h
     by_cases c:u.kind=40
     ·rw[if_neg (by simp[c])]at h;rw[Option.map_eq_some_iff]at h;obtain⟨q,o,rfl⟩:=h;exact T2 f v w ts k tv b B names nv t u n q hd a c o g e d hl hn l i j
     ·rw[if_pos c]at h;simp only[Qo]at h;subst h;exact TK f w ts k tv b B names nv t u n hd a c g e d hl i
theorem Fg.step0{f:Nat}{w3:World}{lo:Nat}{x V cv':Value}{R S:Nat}{T U:Lv}{a:Ll}{n:Int}{ca:Oa}{cl cc:Nat}{o:Obj}
  (b:Fg f wr lo cv a xs) (K:lo<=wr.hz) (L:wr.ownsRow B 9 1 x R T) (r:Ar wr B 9 1 x S U V w1)
  (M:DO f w1 wr.hz w1.hz (.string s) (Vi n) (.slice ca cl cc) l) (ha:Ar (w1.alloc o) lo 183 3 cv (a.length+1) (xs++[.string s,Vi n,.slice ca cl cc]) cv' w3):
  Fg f w3 lo cv' (a++[l]) (xs++[.string s,Vi n,.slice ca cl cc])/\Ad (Ak cv) w1 w3:=by
 have d:∀k,cv.ownBlock=some k->lo<=k/\k<wr.hz:=b.owns.lt;have O:Ad (Ak cv) w1 w3:=((Ad.refl _ w1).alloc o).then ha.kept (fun _ _ e=>e)
 have c:=O;have t:∀k,cv'.ownBlock=some k->(lo<=k/\k<wr.hz/\cv.ownBlock=some k)\/w1.hz<k:=by
  intro k b;rcases ha.where_ with h|⟨g,h,I⟩
  ·rw[b]at h;exact Or.inl ⟨(d k h.symm).1,(d k h.symm).2,h.symm⟩
  ·rw[b]at h;simp at h I;exact Or.inr Yo
 have p:xs.length=a.length*3:=b.owns.1;have ab:w1.hz<=w3.hz:=c.size;have ac:=r.kept.size;refine⟨⟨?_,?_⟩,c⟩
 ·have:=ha.owns;simpa using this
 ·intro i P hl;rcases QB i a.length with hi|hi
  ·rw[Qc hi]at hl;obtain⟨y,z,A,Q,G,W,X,Y,E,aa,q,F⟩:=b.all i P hl;refine⟨y,z,A,Q,G,?_,?_,?_,E,Yo,?_,?_⟩
   ·rw[Qc Yo];exact W
   ·rw[Qc Yo];exact X
   ·rw[Qc Yo];exact Y
   ·intro k j u;rcases t k j with h|h
    ·exact q k h.2.2 u
    ·omega
   ·refine F.later (w:=wr) _ (fun k v m N=> ?_);obtain⟨Z,H⟩:=N;have C:w1.heap[k]?=wr.heap[k]?:=r.kept.block k Yo (Ai L Yd H);have D:=c.block k Yo (fun h=>q k h ⟨v,m⟩);exact D.trans C
  ·have J:i=a.length:=by
    have:i<(a++[l]).length:=(Qa.1 hl).1;simp at this;omega
   subst J;simp at hl;subst hl;refine⟨.string s,Vi n,.slice ca cl cc,wr.hz,w1.hz,?_,?_,?_,K,Yo,?_,?_⟩
   ·rw[Qd Yo,p];simp
   ·rw[Qd Yo,p];simp
   ·rw[Qd Yo,p];simp
   ·intro k j u;rcases t k j with h|h<;>omega
   ·refine M.later _ (fun k v m _=>c.block k m (fun h=> ?_));have:=(d k h).2;omega
def BI(f:Nat):Nat->List BZ->At->Ll->Option (Ll×List BZ×At)
 |0,_,_,_=>none
 |g+1,ts,names,acc=>
  match Bq f ts names with
  |none=>none
  |some r=>
   match r.2.1 with
   |[]=>none
   |x::rest=>if x.kind=46 then some (acc++[r.1],rest,r.2.2)else BI f g rest r.2.2 (acc++[r.1])
theorem Mx(f P:Nat)(w:World)(ts:List BZ)(k:Nat)(tv:Value)(u B:Nat)(names:At)(nv:Value)(q:Ll×List BZ×At)
  (al:BI f P (ts.drop k) names []=some q) (V:w.ownsRow u 243 3 tv ts.length (AP ts)) (G:w.ownsRow B 9 1 nv names.length (Ba names)) (bh:B<=w.hz)
  (hl:ts.length<=1000) (hn:names.length+(ts.length-k)<=1000) (a8:∀t∈ts,t.text.length<=4096) (a7:∀i t,ts[i]?=some t->i+1<ts.length->t.text≠[]):
  Calls prog 144 #[tv,Vi k,nv] w fun e w'=>∃I X j xs,e=Rq #[I,Vi (j:Nat),X]/\q.2.1=ts.drop j/\k<j/\j<=ts.length/\
   Fg f w' w.hz I q.1 xs/\Ar w B 9 1 nv q.2.2.length (Ba q.2.2) X w':=by
 have aa:=hd al;have Z:=hd G;have ac:=hd V;have ay:=hd (Ps f);have aw:Hd (Ar w B 9 1 nv names.length (Ba names) nv w):=⟨G,Ad.refl _ w,Or.inl rfl⟩;obtain⟨na,aq,rfl⟩:=Ac G;obtain⟨K,J,rfl⟩:=Ac V;clear V G al;go_enter func144,bx;go_wp2
 go_loopg [1,2,9] P (fun gk i nm I wr=>∃(j:Nat)(p:At)(m:Ll)(xs:Lv),i=Vi (j:Nat)/\k<=j/\j<=ts.length/\m.length<=j/\p.length+(ts.length-j)<=1000/\
   BI f gk (ts.drop j) p m=some q/\Fg f wr w.hz I m xs/\w.hz<=wr.hz/\
   Ar w B 9 1 (.slice na names.length aq) p.length (Ba p) nm wr)
 case atStart=>
  rcases QB ts.length k with l|l
  ·exfalso;have h:=aa.o;rw[List.drop_eq_nil_of_le Yo]at h
   cases P<;>cases f<;>simp[BI,Bq]at h
  ·exact⟨k,names,[],[],rfl,Yo,Yo,Ys,Yo,aa.o,Fg.nil _ _ _,Yo,aw.o⟩
 case round=>
  obtain⟨j,p,m,xs,rfl,bq,bp,bi,br,r,S,bt,D⟩:=hrel;have H:=D.owns;obtain⟨a9,ba,rfl⟩:=Ac H;obtain⟨a3,a4,rfl⟩:=Ac S.owns;have W:wr.ownsRow u 243 3 (.slice K ts.length J) ts.length (AP ts):=D.kept.owns ac.o (fun k l=>by
   obtain⟨C,n⟩:=Ay ac.o k l;exact Ai Z.o Yd n)
  cases gk with
  |zero=>simp[BI]at r
  |succ gk=>
   rw[BI]at r
   cases v:Bq f (ts.drop j) p with
   |none=>rw[v]at r;simp at r
   |some d=>
    rw[v]at r;simp only at r;obtain⟨nb,bj,a5,ai,bk⟩:=Dk f _ p d v;simp only[List.length_drop]at a5;have au:=hd (ay.o wr ts j (.slice K ts.length J) u B p (.slice a9 p.length ba) d v W H Yo hl Yo a8 a7);have A:=hd S;have av:=hd D;have a0:=hd r;have O:=hd H;have ae:=hd W;have ax:=hd ai;clear S D r H W v ai;go_wp2_with fail;apply au.o.mono;rintro e w1 ⟨a,b,c,X,z,rfl,U,bm,bo,T,s⟩;obtain⟨bz,bn,ca,cl,cc,rfl,rfl,rfl⟩:=T.shape;obtain⟨bb,bc,rfl⟩:=Ac s.owns;have aj:w1.ownsRow w.hz 183 3 (.slice a3 m.length a4) m.length xs:=s.kept.owns A.o.owns (fun k l=>by
     obtain⟨C,n⟩:=Ay A.o.owns k l;exact Ai O.o Yd n)
    have am:w1.ownsRow u 243 3 (.slice K ts.length J) ts.length (AP ts):=s.kept.owns ae.o (fun k l=>by
     obtain⟨C,n⟩:=Ay ae.o k l;exact Ai O.o Yd n)
    have bu:=s.kept.size;have F:z=j+nb:=by
     have ag:=congrArg List.length U;rw[ax.o]at ag;simp only[List.length_drop]at ag;omega
    have N:=hd aj;have ad:=hd am;have a1:=hd T;have M:=hd s;have a2:=hd U;have az:=hd F;clear aj T s U am F
    go_wp2_with (at_builtin;refine Am _ rfl (.tmp 21) (.tmp 23) 146 rfl w.hz 183 infoTerm underlying146 rfl Yd _ m.length xs rfl (N.o.alloc _) _ rfl Ys rfl Gw ?_ ?_ ?_)
    ·omega
    ·simp;omega
    intro cv' w3 R;obtain⟨be,bf,rfl⟩:=Ac R.owns;have y:=A.o.step0 Yo O.o M.o a1.o R;have ah:Ar w B 9 1 (.slice na names.length aq) d.2.2.length (Ba d.2.2) (.slice bb d.2.2.length bc) w3:=by
     refine(av.o.trans M.o).around (Ad.refl _ w) (fun k e=>(Z.o.lt k e).2) y.2 (fun k h=>(A.o.owns.lt k h).1) (fun k l h=> ?_);obtain⟨C,n⟩:=Ay N.o k h;exact Ai M.o.owns Yd n l
    have an:w3.ownsRow u 243 3 (.slice K ts.length J) ts.length (AP ts):=y.2.owns ad.o (fun k l=>by
     obtain⟨C,n⟩:=Ay ad.o k l;exact Ai N.o Yd n)
    have g:=a0.o;rw[a2.o]at g;have bs:=y.2.size;have F:=az.o
    cases E:ts.drop z with
    |nil=>rw[E]at g;simp at g
    |cons x ar=>
     rw[E]at g;simp only at g;obtain⟨ao,ap,bv⟩:=ED E;obtain⟨bg,b0,ak,bl,bd,_,_⟩:=GV an ao;simp only[QH]at ak;obtain⟨rfl,_,rfl⟩:=ak;have ab:=hd y;have Y:=hd ah;have af:=hd ap;have a6:d.2.2.length+(ts.length-(z+1))<=1000:=Yo
     clear R y ah an E ao ap F
     by_cases Q:x.kind=46
     ·have L:Hd ((m++[d.1],ar,d.2.2)=q):=by rw[if_pos Q]at g;show _=_;simpa using g
      clear g;rw[Q]at bd;go_wp2;go_ret3;rw[<-L.o];exact⟨_,_,z+1,_,Yg,af.o.symm,Yo,Yo,ab.o.1,Y.o⟩
     ·have L:Hd (BI f gk ar d.2.2 (m++[d.1])=some q):=by rw[if_neg Q]at g;exact g
      have bw:((x.kind:Int)==46)=false:=by rw[Qu];omega
      clear g;go_wp2
      go_roundg gk
      case measure=>omega
      case rel=>exact⟨z+1,d.2.2,m++[d.1],_,Yg,Yo,Yo,by simp;omega,a6,by rw[af.o];exact L.o,ab.o.1,Yo,Y.o⟩
theorem Lm(f:Nat):∀(l:Lu)(p:Nat),(Gi f l p).length<=l.length/\∀t∈Gi f l p,t.text≠[]/\t.text.length<=l.length:=by
 induction f with
 |zero=>intro l p;exact⟨by simp[Gi],fun t a=>by simp[Gi]at a⟩
 |succ f b=>
  intro l p
  cases l with
  |nil=>exact⟨by simp[Gi],fun t a=>by simp[Gi]at a⟩
  |cons c r=>
   rw[Gi];split
   ·have h:=b r (p+1);exact⟨by simp;omega,fun t a=>⟨(h.2 t a).1,by have:=(h.2 t a).2;simp;omega⟩⟩
   ·have h:=b (r.drop (A5 c r).2) (p+(A5 c r).2+1);simp only[List.length_drop]at h;refine⟨by simp;omega,fun t a=> ?_⟩;simp only[Qp]at a;rcases a with rfl|a
    ·exact⟨Ys,by simp;omega⟩
    ·exact⟨(h.2 t a).1,by have:=(h.2 t a).2;simp;omega⟩
theorem VE(l:Lu)(p:Nat):(C4 l p).length<=l.length:=(Lm _ l p).1
theorem Nb(l:Lu)(p:Nat):∀t∈C4 l p,t.text≠[]/\t.text.length<=l.length:=(Lm _ l p).2
def Ap(s:ByteArray):List BZ:=C4 s.data.toList 0++[⟨4,[],s.size⟩]
theorem BP(s:ByteArray):(Ap s).length<=s.size+1:=by
 have:=VE s.data.toList 0;simp[Ap]at this⊢;exact this
theorem Cz(s:ByteArray):∀t∈Ap s,t.text.length<=s.size:=by
 intro t a;simp only[Ap,Qk,List.mem_singleton]at a;rcases a with a|rfl
 ·have:=(Nb _ _ t a).2;simpa using this
 ·simp
theorem G9(s:ByteArray):∀i t,(Ap s)[i]?=some t->i+1<(Ap s).length->t.text≠[]:=by
 intro i t a hi;simp only[Ap,Qg,Qn]at hi;rw[Ap,Qc Yo]at a;exact(Nb _ _ t (Qh a)).1
theorem GK(s:ByteArray)(w:World)(d:s.size<=800):
  Calls prog 141 #[.string s] w fun e w'=>∃v,e= .returned v/\Below w.hz w w'/\w'.ownsRow w.hz 243 3 v (Ap s).length (AP (Ap s)):=by
 apply(RF s w Yo).mono;rintro e w' ⟨v,a,b,c⟩;refine⟨v,a,b,?_⟩;simpa[Ap]using c
theorem KX(w:World)(a:Nat)(s:ByteArray)(v:Value)(d:s.size<=800)(c:w.ownsRow a 243 3 v (Ap s).length (AP (Ap s))):
  Calls prog 142 #[v,.bool true] w fun e w'=>
   e=Rq #[Vi (Bb (Ap s) (AD true)).1,Vi (Bb (Ap s) (AD true)).2]/\Below w.hz w w':=
 OP true w a _ v c (by have:=BP s;omega) (fun t b=>by have:=Cz s t b;omega)
theorem Jd(w:World)(a:Nat)(s:ByteArray)(v:Value)(d:s.size<=800)(c:w.ownsRow a 243 3 v (Ap s).length (AP (Ap s))):
  Calls prog 142 #[v,.bool false] w fun e w'=>
   e=Rq #[Vi (Bb (Ap s) (AD false)).1,Vi (Bb (Ap s) (AD false)).2]/\Below w.hz w w':=
 OP false w a _ v c (by have:=BP s;omega) (fun t b=>by have:=Cz s t b;omega)
theorem LN(h:Below B w w'){base:Nat}(a:w.ownsRow base e size v n xs)(b:w.hz<=B):w'.ownsRow base e size v n xs:=
 Aj a (fun k c=>h.block k (Nat.lt_of_lt_of_le (a.lt k c).2 b))
theorem HP(s:ByteArray)(w:World)(a:s.size<=maxLen)(b:120<s.size):
  Calls prog 110 #[.string s] w fun e w'=>e=Rq #[.agg #[Nl,Nl],Vi 1,Vi 0]/\Below w.hz w w':=by
 unfold maxLen at a;go_enter func110,ntmps110;go_wp2;exact bodyPost_ret (v:= .tuple #[.agg #[Nl,Nl],Vi 1,Vi 0]) (by simp[results,results110,go_sem]) rfl ⟨rfl,(Below.refl _ _).alloc (Qe _) _⟩
theorem Ix(s:ByteArray)(w:World)(q:s.size<=120)(m:(Bb (Ap s) (AD true)).1≠0):
  Calls prog 110 #[.string s] w fun e w'=>e=Rq #[.agg #[Nl,Nl],Vi (Bb (Ap s) (AD true)).1,Vi (Bb (Ap s) (AD true)).2]/\Below w.hz w w':=by
 have n:(((Bb (Ap s) (AD true)).1:Int) !=0)=true:=by rw[bne_iff_ne];omega
 go_enter func110,ntmps110;go_wp2_with fail;apply(GK s _ Yo).mono;rintro e w1 ⟨v,rfl,d,f⟩;have h:=hd f;have c:=hd d;clear f d;go_wp2_with fail;apply(KX w1 _ s v Yo h.o).mono;rintro e w2 ⟨rfl,a⟩;have r:w.hz+1<=w1.hz:=by have:=c.o.size;simpa using this
 have t:=a.size;have b:w2.heap[w.hz]?=some (.cells #[Nl,Nl] 148 (0,0)):=
  (a.block w.hz Yo).trans ((c.o.block w.hz Ys).trans (QL w _))
 have j:w2.cell? ⟨w.hz,0,none⟩=some Nl:=Aa b 0 _ rfl;have k:w2.cell? ⟨w.hz,1,none⟩=some Nl:=Aa b 1 _ rfl;have l:=fun i=>Ae b i;have g:=hd a;clear b a;go_wp2;refine bodyPost_ret (v:= .tuple #[.agg #[Nl,Nl],Vi (Bb (Ap s) (AD true)).1,Vi (Bb (Ap s) (AD true)).2]) (by simp[results,results110,go_sem,j,k,l]) rfl ⟨rfl,?_⟩;refine Below.setCell (Below.setCell ?_ (p:=⟨w.hz,0,none⟩) (Qe _) _) (p:=⟨w.hz,1,none⟩) (Qe _) _;exact(((Below.refl _ w).alloc (Qe _) _).trans (c.o.mono Ys)).trans (g.o.mono Yo)
theorem IN(s:ByteArray)(w:World)(q:Ll×List BZ×At)(af:s.size<=120)(M:(Bb (Ap s) (AD true)).1=0)(N:BI 1000 1000 (Ap s) [] []=some q):
  Calls prog 110 #[.string s] w fun e w'=>∃r nv lo xs,e=Rq #[.agg #[r,nv],Vi 0,Vi 0]/\w.hz<lo/\lo<=w'.hz/\Fg 1000 w' lo r q.1 xs/\
   w'.ownsRow lo 9 1 nv q.2.2.length (Ba q.2.2)/\Below w.hz w w':=by
 have aa:(((Bb (Ap s) (AD true)).1:Int) !=0)=false:=by rw[M];rfl
 have Z:=BP s;go_enter func110,ntmps110;go_wp2_with fail;apply(GK s _ Yo).mono;rintro e w1 ⟨v,rfl,x,y⟩;have u:=hd y;have g:=hd x;clear y x;go_wp2_with fail;apply(KX w1 _ s v Yo u.o).mono;rintro e w2 ⟨rfl,b⟩;have ah:w.hz+1<=w1.hz:=by have:=g.o.size;simpa using this
 have ai:=b.size;have D:=hd (LN b u.o (Qe _));have C:Hd (w2.heap[w.hz]?=some (.cells #[Nl,Nl] 148 (0,0))):=
  (b.block w.hz Yo).trans ((g.o.block w.hz Ys).trans (QL w _))
 have B:=hd b;clear b;go_wp2_with fail;refine(Mx 1000 1000 w2 (Ap s) 0 v _ w2.hz [] Nl q N D.o (Q2 _ _ _ _) (Qe _) Yo Yp (fun t P=>by have:=Cz s t P;omega) (G9 s)).mono ?_;rintro e w3 ⟨r,nv,j,xs,rfl,O,ab,ac,n,a⟩;obtain⟨la,z,rfl⟩:=Ac n.owns;obtain⟨na,A,rfl⟩:=Ac a.owns;have aj:=a.kept.size;have c:=(a.kept.block w.hz Yo (fun h=>by simp[Ak,Value.ownBlock]at h)).trans C.o;have V:w3.cell? ⟨w.hz,0,none⟩=some Nl:=Aa c 0 _ rfl;have W:w3.cell? ⟨w.hz,1,none⟩=some Nl:=Aa c 1 _ rfl;have X:=fun i=>Ae c i;have l:=hd n;have f:=hd a;clear c n a O;go_wp2;refine bodyPost_ret (v:= .tuple #[.agg #[.slice la q.1.length z,.slice na q.2.2.length A],Vi 0,Vi 0]) (by simp[results,results110,go_sem,V,W,X]) rfl ?_;have d:=((Ad.refl (only w.hz) w3).put 0 (.slice la q.1.length z)).put 1 (.slice na q.2.2.length A);have ag:=d.size;have L:Below w2.hz w2 w3:=f.o.kept.below (Qe _) (fun k h=>by simp[Ak,Value.ownBlock]at h);refine⟨_,_,w2.hz,xs,rfl,Yo,Yo,?_,?_,?_⟩
 ·refine⟨d.owns l.o.owns (fun k m e=> ?_),fun i Q hl=> ?_⟩
  ·have e:k=w.hz:=e;have:=(l.o.owns.lt k m).1;omega
  ·obtain⟨E,F,G,R,K,S,T,U,H,Y,I,J⟩:=l.o.all i Q hl;refine⟨E,F,G,R,K,S,T,U,H,Yo,I,DO.later 1000 J (fun k ad ae _=>d.block k Yo (fun e=> ?_))⟩;have e:k=w.hz:=e;omega
 ·refine d.owns f.o.owns (fun k m e=> ?_);have e:k=w.hz:=e;have:=(f.o.owns.lt k m).1;omega
 ·refine Below.setCell (Below.setCell ?_ (p:=⟨w.hz,0,none⟩) (Qe _) _) (p:=⟨w.hz,1,none⟩) (Qe _) _;exact((((Below.refl _ w).alloc (Qe _) _).trans (g.o.mono Ys)).trans (B.o.mono Yo)).trans (L.mono Yo)
def LL:ByteArray:=⟨#[48,49,50,51,52,53,54,55,56,57]⟩
theorem Sz(c:UInt8):EE c CY=decide (97<=c.toNat/\c.toNat<=122):=by
 have:=Dw (p:=fun c=>EE c CY==decide (97<=c.toNat/\c.toNat<=122)) (by decide+kernel) c;exact eq_of_beq this
theorem Us(c:UInt8):EE c DE=decide (65<=c.toNat/\c.toNat<=90):=by
 have:=Dw (p:=fun c=>EE c DE==decide (65<=c.toNat/\c.toNat<=90)) (by decide+kernel) c;exact eq_of_beq this
theorem Rd(c:UInt8):EE c LL=decide (48<=c.toNat/\c.toNat<=57):=by
 have:=Dw (p:=fun c=>EE c LL==decide (48<=c.toNat/\c.toNat<=57)) (by decide+kernel) c;exact eq_of_beq this
theorem TI(c:UInt8):EE c EI=(EE c CY||EE c DE||EE c LL):=by
 have:=Dw (p:=fun c=>EE c EI==(EE c CY||EE c DE||EE c LL)) (by decide+kernel) c;exact eq_of_beq this
theorem Ki(c:UInt8)(w:World):Calls prog 194 #[.int .u8 c.toNat] w fun e w'=>e= .returned (.bool (EY c))/\w'=w:=by
 cases hb:EY c
 ·obtain⟨a,b⟩:=ML hb;go_enter func194,ntmps194;go_wp2;go_ret;exact⟨rfl,rfl⟩
 ·rcases J6 hb with a|⟨a,b⟩
  all_goals
   go_enter func194,ntmps194;go_wp2;go_ret;exact⟨rfl,rfl⟩
theorem B5(c:UInt8)(w:World):Calls prog 195 #[.int .u8 c.toNat] w fun e w'=>e= .returned (.bool (EE c CY))/\w'=w:=by
 rw[Sz]
 by_cases a:(97:Int)<=(c.toNat:Int)
 ·by_cases b:(c.toNat:Int)<=122
  all_goals
   go_enter func195,ntmps195;go_wp2;go_ret;exact⟨DI (by symm;simp;omega),rfl⟩
 ·go_enter func195,ntmps195;go_wp2;go_ret;exact⟨DI (by symm;simp;omega),rfl⟩
theorem BA(c:UInt8)(w:World):Calls prog 196 #[.int .u8 c.toNat] w fun e w'=>e= .returned (.bool (EE c DE))/\w'=w:=by
 rw[Us]
 by_cases a:(65:Int)<=(c.toNat:Int)
 ·by_cases b:(c.toNat:Int)<=90
  all_goals
   go_enter func196,ntmps196;go_wp2;go_ret;exact⟨DI (by symm;simp;omega),rfl⟩
 ·go_enter func196,ntmps196;go_wp2;go_ret;exact⟨DI (by symm;simp;omega),rfl⟩
theorem H2(c:UInt8)(w:World):Calls prog 213 #[.int .u8 c.toNat] w fun e w'=>e= .returned (.bool (EE c LL))/\w'=w:=by
 rw[Rd]
 by_cases a:(48:Int)<=(c.toNat:Int)
 ·by_cases b:(c.toNat:Int)<=57
  all_goals
   go_enter func213,ntmps213;go_wp2;go_ret;exact⟨DI (by symm;simp;omega),rfl⟩
 ·go_enter func213,ntmps213;go_wp2;go_ret;exact⟨DI (by symm;simp;omega),rfl⟩
theorem KZ(c:UInt8)(w:World):Calls prog 209 #[.int .u8 c.toNat] w fun e w'=>e= .returned (.bool (EE c EI))/\w'=w:=by
 rw[TI]
 cases a:EE c CY
 ·cases b:EE c DE
  ·go_enter func209,ntmps209
   go_wp2_with (first|(go_at_call 195;apply(B5 _ _).mono;rintro e w' ⟨rfl,rfl⟩)|(go_at_call 196;apply(BA _ _).mono;rintro e w' ⟨rfl,rfl⟩)|(go_at_call 213;apply(H2 _ _).mono;rintro e w' ⟨rfl,rfl⟩))
   go_ret;exact⟨rfl,rfl⟩
  ·go_enter func209,ntmps209
   go_wp2_with (first|(go_at_call 195;apply(B5 _ _).mono;rintro e w' ⟨rfl,rfl⟩)|(go_at_call 196;apply(BA _ _).mono;rintro e w' ⟨rfl,rfl⟩)|(go_at_call 213;apply(H2 _ _).mono;rintro e w' ⟨rfl,rfl⟩))
   go_ret;exact⟨rfl,rfl⟩
 ·go_enter func209,ntmps209
  go_wp2_with (first|(go_at_call 195;apply(B5 _ _).mono;rintro e w' ⟨rfl,rfl⟩)|(go_at_call 196;apply(BA _ _).mono;rintro e w' ⟨rfl,rfl⟩)|(go_at_call 213;apply(H2 _ _).mono;rintro e w' ⟨rfl,rfl⟩))
  go_ret;exact⟨rfl,rfl⟩
def CN(s:ByteArray)(n:Nat):UInt8:=(s.data.toList[n]?).getD 0
theorem JO(s:ByteArray)(n:Nat)(h:n<s.size):CN s n=s[n]:=by
 unfold CN;rw[Qb (by simpa using h)];rfl
theorem Kj(s:ByteArray)(n:Nat)(h:¬n<s.size):CN s n=0:=by
 unfold CN;rw[List.getElem?_eq_none Yp];rfl
theorem GZ(s:ByteArray)(n:Nat)(w:World)(b:s.size<=4096)(hn:n<=5000):Calls prog 163 #[.string s,Vi n] w fun e w'=>e= .returned (.int .u8 (CN s n).toNat)/\w'=w:=by
 by_cases h:n<s.size
 ·have a:=(show Hd _ from JO s n h);go_enter func163,ntmps163;go_wp2;go_ret;rw[a.o];exact⟨rfl,rfl⟩
 ·have a:=(show Hd _ from Kj s n h);go_enter func163,ntmps163;go_wp2;go_ret;rw[a.o];exact⟨rfl,rfl⟩
def B6:Lu->Nat
 |[]=>0
 |c::r=>if EY c then B6 r+1 else 0
theorem TC(l:Lu):B6 l<=l.length:=by
 induction l with
 |nil=>exact Qe _
 |cons c r a=>unfold B6;split<;>simp<;>omega
theorem HK(s:ByteArray)(n:Nat)(w:World)(g:s.size<=4096)(hn:n<=s.size):Calls prog 162 #[.string s,Vi n] w fun e w'=>e= .returned (Vi ((n+B6 (s.data.toList.drop n):Nat):Int))/\w'=w:=by
 go_enter func162,h;go_wp2
 go_loop [1] (fun i=>∃k:Nat,k<=s.size/\i=Vi k/\n+B6 (s.data.toList.drop n)=k+B6 (s.data.toList.drop k)) (fun i=>s.size-(intOf i).toNat)
 case atStart=>exact⟨n,hn,rfl,rfl⟩
 case round=>
  obtain⟨k,f,rfl,hn⟩:=hrel;have a:=(show Hd _ from hn);clear hn
  by_cases d:k<s.size
  ·have hd:=B0 s k d
   cases hb:EY s[k]
   ·have Hd:Hd (B6 (s.data.toList.drop k)=0):=by show _=_;rw[hd,B6,if_neg (by simp[hb])]
    clear hd
    go_wp2_with (go_at_call 194;apply(Ki _ _).mono;rintro e w' ⟨rfl,rfl⟩)
    go_ret;exact⟨F6 (by have b:=a.o;have c:=Hd.o;omega),rfl⟩
   ·have Hd:Hd (B6 (s.data.toList.drop k)=B6 (s.data.toList.drop (k+1))+1):=by show _=_;rw[hd,B6,if_pos hb]
    clear hd
    go_wp2_with (go_at_call 194;apply(Ki _ _).mono;rintro e w' ⟨rfl,rfl⟩)
    go_round
    case rel=>exact⟨k+1,Yo,Yg,by have b:=a.o;have c:=Hd.o;omega⟩
    case measure=>simp[intOf];omega
  ·have Hd:Hd (B6 (s.data.toList.drop k)=0):=by show _=_;rw[DX s k d];rfl
   go_wp2;go_ret;exact⟨F6 (by have b:=a.o;have c:=Hd.o;omega),rfl⟩
theorem RJ:EE 0 EI=false:=by decide+kernel
theorem Im(s:ByteArray)(n:Nat)(w:World)(c:s.size<=4096)(hn:n<=s.size):Calls prog 197 #[.string s,Vi n] w fun e w'=>e= .returned (Vi ((n+AY (s.data.toList.drop n):Nat):Int))/\w'=w:=by
 go_enter func197,j;go_wp2
 go_loop [1] (fun i=>∃k:Nat,k<=s.size/\i=Vi k/\n+AY (s.data.toList.drop n)=k+AY (s.data.toList.drop k)) (fun i=>s.size-(intOf i).toNat)
 case atStart=>exact⟨n,hn,rfl,rfl⟩
 case round=>
  obtain⟨k,g,rfl,hn⟩:=hrel;have b:=(show Hd _ from hn);clear hn
  cases hb:EE (CN s k) EI
  ·have Hd:Hd (AY (s.data.toList.drop k)=0):=by
    show _=_
    by_cases a:k<s.size
    ·rw[B0 s k a];rw[JO s k a]at hb;exact L5 _ _ hb
    ·rw[DX s k a];rfl
   go_wp2_with (first|(go_at_call 163;apply(GZ _ _ _ c Yo).mono;rintro e w' ⟨rfl,rfl⟩)|(go_at_call 209;apply(KZ _ _).mono;rintro e w' ⟨rfl,rfl⟩))
   go_ret;exact⟨F6 (by have d:=b.o;have f:=Hd.o;omega),rfl⟩
  ·have a:k<s.size:=by
    rcases QB k s.size with h|h
    ·exact h
    ·rw[Kj s k Yo,RJ]at hb;cases hb
   have Hd:Hd (AY (s.data.toList.drop k)=AY (s.data.toList.drop (k+1))+1):=by
    show _=_;rw[B0 s k a];rw[JO s k a]at hb;exact Er _ _ hb
   go_wp2_with (first|(go_at_call 163;apply(GZ _ _ _ c Yo).mono;rintro e w' ⟨rfl,rfl⟩)|(go_at_call 209;apply(KZ _ _).mono;rintro e w' ⟨rfl,rfl⟩))
   go_round
   case rel=>exact⟨k+1,Yo,Yg,by have d:=b.o;have f:=Hd.o;omega⟩
   case measure=>simp[intOf];omega
def Ce(c d:UInt8):Nat:=
 if EE c CY then 1 else if EE c DE then 2 else if c=40 then 3 else if c=41 then 4 else if c=44 then 5 else if c=46 then 6 else if c=58/\d=45 then 7 else 8
theorem Ii{c k:UInt8}(h:c=k):((c.toNat:Int)==(k.toNat:Int))=true:=by subst h;simp
theorem Fy{c k:UInt8}(h:¬c=k):((c.toNat:Int)==(k.toNat:Int))=false:=by
 rw[Qu];intro e;exact h (UInt8.toNat_inj.1 Yo)
theorem Rk(c d:UInt8)(w:World):Calls prog 164 #[.int .u8 c.toNat,.int .u8 d.toNat] w fun e w'=>e= .returned (Vi (Ce c d))/\w'=w:=by
 cases k:EE c CY
 case true=>
  have a:Hd (Ce c d=1):=by show _=_;simp[Ce,k]
  go_enter func164,m
  go_wp2_with (first|(b 195;apply(B5 _ _).mono;rintro e w' ⟨rfl,rfl⟩)|(b 196;apply(BA _ _).mono;rintro e w' ⟨rfl,rfl⟩))
  go_ret;rw[a.o];exact⟨rfl,rfl⟩
 case false=>
  cases l:EE c DE
  case true=>
   have a:Hd (Ce c d=2):=by show _=_;simp[Ce,k,l]
   go_enter func164,m
   go_wp2_with (first|(b 195;apply(B5 _ _).mono;rintro e w' ⟨rfl,rfl⟩)|(b 196;apply(BA _ _).mono;rintro e w' ⟨rfl,rfl⟩))
   go_ret;rw[a.o];exact⟨rfl,rfl⟩
  case false=>
   by_cases f:c=40
   ·have a:Hd (Ce c d=3):=by show _=_;unfold Ce;rw[if_neg (by rw[k];simp),if_neg (by rw[l];simp),if_pos f]
    have q:((c.toNat:Int)==40)=true:=Ii f;clear f;go_enter func164,m
    go_wp2_with (first|(b 195;apply(B5 _ _).mono;rintro e w' ⟨rfl,rfl⟩)|(b 196;apply(BA _ _).mono;rintro e w' ⟨rfl,rfl⟩))
    go_ret;rw[a.o];exact⟨rfl,rfl⟩
   ·have q:((c.toNat:Int)==40)=false:=Fy f
    by_cases g:c=41
    ·have a:Hd (Ce c d=4):=by show _=_;unfold Ce;rw[if_neg (by rw[k];simp),if_neg (by rw[l];simp),if_neg f,if_pos g]
     have r:((c.toNat:Int)==41)=true:=Ii g;clear f g;go_enter func164,m
     go_wp2_with (first|(b 195;apply(B5 _ _).mono;rintro e w' ⟨rfl,rfl⟩)|(b 196;apply(BA _ _).mono;rintro e w' ⟨rfl,rfl⟩))
     go_ret;rw[a.o];exact⟨rfl,rfl⟩
    ·have r:((c.toNat:Int)==41)=false:=Fy g
     by_cases i:c=44
     ·have a:Hd (Ce c d=5):=by show _=_;unfold Ce;rw[if_neg (by rw[k];simp),if_neg (by rw[l];simp),if_neg f,if_neg g,if_pos i]
      have s:((c.toNat:Int)==44)=true:=Ii i;clear f g i;go_enter func164,m
      go_wp2_with (first|(b 195;apply(B5 _ _).mono;rintro e w' ⟨rfl,rfl⟩)|(b 196;apply(BA _ _).mono;rintro e w' ⟨rfl,rfl⟩))
      go_ret;rw[a.o];exact⟨rfl,rfl⟩
     ·have s:((c.toNat:Int)==44)=false:=Fy i
      by_cases j:c=46
      ·have a:Hd (Ce c d=6):=by show _=_;unfold Ce;rw[if_neg (by rw[k];simp),if_neg (by rw[l];simp),if_neg f,if_neg g,if_neg i,if_pos j]
       have t:((c.toNat:Int)==46)=true:=Ii j;clear f g i j;go_enter func164,m
       go_wp2_with (first|(b 195;apply(B5 _ _).mono;rintro e w' ⟨rfl,rfl⟩)|(b 196;apply(BA _ _).mono;rintro e w' ⟨rfl,rfl⟩))
       go_ret;rw[a.o];exact⟨rfl,rfl⟩
      ·have t:((c.toNat:Int)==46)=false:=Fy j
       by_cases n:c=58
       ·have u:((c.toNat:Int)==58)=true:=Ii n
        by_cases p:d=45
        ·have v:((d.toNat:Int)==45)=true:=Ii p;have a:Hd (Ce c d=7):=by show _=_;unfold Ce;rw[if_neg (by rw[k];simp),if_neg (by rw[l];simp),if_neg f,if_neg g,if_neg i,if_neg j,if_pos ⟨n,p⟩]
         clear f g i j n p;go_enter func164,m
         go_wp2_with (first|(b 195;apply(B5 _ _).mono;rintro e w' ⟨rfl,rfl⟩)|(b 196;apply(BA _ _).mono;rintro e w' ⟨rfl,rfl⟩))
         go_ret;rw[a.o];exact⟨rfl,rfl⟩
        ·have v:((d.toNat:Int)==45)=false:=Fy p;have a:Hd (Ce c d=8):=by show _=_;unfold Ce;rw[if_neg (by rw[k];simp),if_neg (by rw[l];simp),if_neg f,if_neg g,if_neg i,if_neg j,if_neg (fun h=>p h.2)]
         clear f g i j n p;go_enter func164,m
         go_wp2_with (first|(b 195;apply(B5 _ _).mono;rintro e w' ⟨rfl,rfl⟩)|(b 196;apply(BA _ _).mono;rintro e w' ⟨rfl,rfl⟩))
         go_ret;rw[a.o];exact⟨rfl,rfl⟩
       ·have u:((c.toNat:Int)==58)=false:=Fy n;have a:Hd (Ce c d=8):=by show _=_;unfold Ce;rw[if_neg (by rw[k];simp),if_neg (by rw[l];simp),if_neg f,if_neg g,if_neg i,if_neg j,if_neg (fun h=>n h.1)]
        clear f g i j n;go_enter func164,m
        go_wp2_with (first|(b 195;apply(B5 _ _).mono;rintro e w' ⟨rfl,rfl⟩)|(b 196;apply(BA _ _).mono;rintro e w' ⟨rfl,rfl⟩))
        go_ret;rw[a.o];exact⟨rfl,rfl⟩
def I1(s:ByteArray)(p kd:Nat):Nat:=if kd=1\/kd=2 then p+AY (s.data.toList.drop p)else if kd=7 then p+2 else p+1
theorem TU(s:ByteArray)(p kd:Nat)(w:World)(g:s.size<=4096)(f:p<=s.size):Calls prog 165 #[.string s,Vi p,Vi kd] w fun e w'=>e= .returned (Vi (I1 s p kd))/\w'=w:=by
 by_cases b:kd=1
 ·subst b;have a:Hd (I1 s p 1=p+AY (s.data.toList.drop p)):=by show _=_;simp[I1]
  go_enter func165,ntmps165
  go_wp2_with (go_at_call 197;apply(Im _ _ _ g f).mono;rintro e w' ⟨rfl,rfl⟩)
  go_ret;rw[a.o];exact⟨rfl,rfl⟩
 ·have i:((kd:Int)==1)=false:=by rw[Qu];omega
  by_cases c:kd=2
  ·subst c;have a:Hd (I1 s p 2=p+AY (s.data.toList.drop p)):=by show _=_;simp[I1]
   clear b;go_enter func165,ntmps165
   go_wp2_with (go_at_call 197;apply(Im _ _ _ g f).mono;rintro e w' ⟨rfl,rfl⟩)
   go_ret;rw[a.o];exact⟨rfl,rfl⟩
  ·have j:((kd:Int)==2)=false:=by rw[Qu];omega
   by_cases d:kd=7
   ·have h:((kd:Int)==7)=true:=by rw[beq_iff_eq];omega
    have a:Hd (I1 s p kd=p+2):=by show _=_;simp[I1,d]
    clear b c d;go_enter func165,ntmps165;go_wp2;go_ret;rw[a.o];exact⟨F6 Yo,rfl⟩
   ·have h:((kd:Int)==7)=false:=by rw[Qu];omega
    have a:Hd (I1 s p kd=p+1):=by show _=_;simp[I1,b,c,d]
    clear b c d;go_enter func165,ntmps165;go_wp2;go_ret;rw[a.o];exact⟨F6 Yo,rfl⟩
def HX(s:ByteArray)(n:Nat):Nat×Nat×Nat:=
 if n+B6 (s.data.toList.drop n)<s.size then
  (Ce (CN s (n+B6 (s.data.toList.drop n))) (CN s (n+B6 (s.data.toList.drop n)+1)),n+B6 (s.data.toList.drop n),
   I1 s (n+B6 (s.data.toList.drop n)) (Ce (CN s (n+B6 (s.data.toList.drop n))) (CN s (n+B6 (s.data.toList.drop n)+1))))
 else(0,s.size,s.size)
theorem Pz(s:ByteArray)(n:Nat)(w:World)(b:s.size<=4096)(hn:n<=s.size):Calls prog 130 #[.string s,Vi n] w fun e w'=>
  e= .returned (.agg #[Vi (HX s n).1,Vi (HX s n).2.1,Vi (HX s n).2.2])/\Below w.hz w w':=by
 have d:=TC (s.data.toList.drop n);simp only[List.length_drop,Array.length_toList]at d;have g:n+B6 (s.data.toList.drop n)<=s.size:=by
  have:s.data.size=s.size:=rfl;omega
 obtain⟨p,a⟩:=Ex (n+B6 (s.data.toList.drop n));have i:p<=s.size:=Yo
 have f:=(show Hd _ from a)
 by_cases h:p<s.size
 ·have c:Hd (HX s n=(Ce (CN s p) (CN s (p+1)),p,I1 s p (Ce (CN s p) (CN s (p+1))))):=by
   show _=_;unfold HX;rw[<-a,if_pos h]
  clear a d g;go_enter func130,ntmps130;go_wp2_with fail;apply(HK _ _ _ b hn).mono;rintro e w' ⟨rfl,rfl⟩;rw[<-f.o];go_wp2_with fail;apply(GZ _ _ _ b Yo).mono;rintro e w' ⟨rfl,rfl⟩;go_wp2_with fail;apply(GZ s (p+1) _ b Yo).mono;rintro e w' ⟨rfl,rfl⟩;go_wp2_with fail;apply(Rk _ _ _).mono;rintro e w' ⟨rfl,rfl⟩;go_wp2_with fail;apply(TU _ _ _ _ b i).mono;rintro e w' ⟨rfl,rfl⟩;go_wp2;rw[c.o];exact bodyPost_ret (v:= .agg #[Vi (Ce (CN s p) (CN s (p+1))),Vi p,Vi (I1 s p (Ce (CN s p) (CN s (p+1))))]) (by simp[results,results130,go_sem]) rfl ⟨rfl,(Below.refl _ _).alloc (Qe _) _⟩
 ·have c:Hd (HX s n=(0,s.size,s.size)):=by
   show _=_;unfold HX;rw[<-a,if_neg h]
  clear a d g;go_enter func130,ntmps130;go_wp2_with fail;apply(HK _ _ _ b hn).mono;rintro e w' ⟨rfl,rfl⟩;rw[<-f.o];go_wp2;rw[c.o];exact bodyPost_ret (v:= .agg #[Vi 0,Vi s.size,Vi s.size]) (by simp[results,results130,go_sem]) rfl ⟨rfl,(Below.refl _ _).alloc (Qe _) _⟩
def Wf:Nat->Ly->Prop
 |k,[]=>k=0
 |k,s::r=>0<k/\(s.name=[]->s.args=0)/\(s.name≠[]->s.num=0)/\Wf (k-1+s.args) r
def vr(n:Nat):Ly:=[⟨[],n,0⟩]
def EG(σ:Nat->Ly)(s:BL):Ly:=if s.name=[]then σ s.num else[s]
def ap(σ:Nat->Ly)(l:Ly):Ly:=l.flatMap (EG σ)
theorem Oj(σ:Nat->Ly):ap σ []=[]:=rfl
theorem Bw(σ:Nat->Ly)(s:BL)(l:Ly):ap σ (s::l)=EG σ s++ap σ l:=rfl
theorem EQ(σ:Nat->Ly)(l m:Ly):ap σ (l++m)=ap σ l++ap σ m:=by simp[ap]
theorem EK(σ:Nat->Ly)(ls:Ll):ap σ ls.flatten=(ls.map (ap σ)).flatten:=by
 induction ls with
 |nil=>rfl
 |cons l ls a=>simp[EQ,a]
theorem IT(σ:Nat->Ly)(n:Nat):ap σ (vr n)=σ n:=by simp[ap,vr,EG]
theorem MU(a σ:Nat->Ly)(l:Ly):ap a (ap σ l)=ap (fun n=>ap a (σ n)) l:=by
 induction l with
 |nil=>rfl
 |cons s l b=>
  rw[Bw,EQ,b,Bw]
  congr 1
  unfold EG;split
  ·rfl
  ·rename_i h;simp[ap,EG,h]
def Cj(v:Nat)(l:Ly):Prop:=∃s∈l,s.name=[]/\s.num=v
theorem LD{σ a:Nat->Ly}{l:Ly}(h:∀n,Cj n l->σ n=a n):ap σ l=ap a l:=by
 induction l with
 |nil=>rfl
 |cons s l e=>
  rw[Bw,Bw,e (fun n hn=>h n (by obtain⟨t,b,c⟩:=hn;exact⟨t,QD _ b,c⟩))]
  congr 1
  unfold EG;split
  ·rename_i d;exact h _ ⟨s,List.mem_cons_self ..,d,rfl⟩
  ·rfl
theorem Ca{v:Nat}{l m:Ly}:Cj v (l++m)↔Cj v l\/Cj v m:=by
 constructor
 ·rintro⟨s,h,a,b⟩;rcases Qk.1 h with h|h
  ·exact Or.inl ⟨s,h,a,b⟩
  ·exact Or.inr ⟨s,h,a,b⟩
 ·rintro(⟨s,h,a,b⟩|⟨s,h,a,b⟩)
  ·exact⟨s,Qk.2 (Or.inl h),a,b⟩
  ·exact⟨s,Qk.2 (Or.inr h),a,b⟩
theorem Ez{v n:Nat}:Cj v (vr n)↔v=n:=by
 constructor
 ·rintro⟨s,h,b,a⟩;simp[vr]at h;subst h;exact a.symm
 ·rintro rfl;exact⟨_,by simp[vr];rfl,rfl,rfl⟩
theorem JJ{v:Nat}{σ:Nat->Ly}{l:Ly}:Cj v (ap σ l)↔∃n,Cj n l/\Cj v (σ n):=by
 constructor
 ·rintro⟨s,h,b,c⟩;obtain⟨t,d,a⟩:=List.mem_flatMap.1 h;unfold EG at a;split at a
  ·rename_i hn;exact⟨t.num,⟨t,d,hn,rfl⟩,s,a,b,c⟩
  ·simp at a;subst a;contradiction
 ·rintro⟨n,⟨t,d,b,c⟩,s,a,e,f⟩;refine⟨s,List.mem_flatMap.2 ⟨t,d,?_⟩,e,f⟩;unfold EG;rw[if_pos b,c];exact a
theorem EJ:∀{l:Ly}{j k:Nat}{m:Ly},Wf j l->Wf k m->Wf (j+k) (l++m):=by
 intro l
 induction l with
 |nil=>intro j k m a b;cases a;simpa using b
 |cons s l d=>
  intro j k m a b;obtain⟨h,ha,hb,c⟩:=a;refine⟨Yo,ha,hb,?_⟩;have:=d c b;have e:j+k-1+s.args=j-1+s.args+k:=Yo
  rw[e];exact this
theorem IM:∀{l:Ly}{j k:Nat},Wf (j+k) l->∃a b,l=a++b/\Wf j a/\Wf k b:=by
 intro l
 induction l with
 |nil=>
  intro j k h;have h:j+k=0:=h;exact⟨[],[],rfl,by show j=0;omega,by show k=0;omega⟩
 |cons s l i=>
  intro j k h;rcases Nat.eq_zero_or_pos j with rfl|g
  ·exact⟨[],s::l,rfl,rfl,by simpa using h⟩
  ·obtain⟨m,ha,hb,c⟩:=h;have e:j+k-1+s.args=j-1+s.args+k:=Yo
   rw[e]at c;obtain⟨a,b,rfl,d,f⟩:=i c;exact⟨s::a,b,rfl,⟨g,ha,hb,d⟩,f⟩
theorem MH:∀{a:Ly}{k:Nat}{b x y:Ly},Wf k a->Wf k b->a++x=b++y->a=b/\x=y:=by
 intro a
 induction a with
 |nil=>
  intro k b x y d c h
  cases d
  cases b with
  |nil=>exact⟨rfl,h⟩
  |cons s b=>exact absurd c.1 Yo
 |cons s a f=>
  intro k b x y d c h
  cases b with
  |nil=>
   have c:k=0:=c;exact absurd d.1 Yo
  |cons t b=>
   simp only[Qy,QI]at h;obtain⟨rfl,h⟩:=h;obtain⟨rfl,e⟩:=f d.2.2.2 c.2.2.2 h;exact⟨rfl,e⟩
theorem BN:∀{l:Ly}{k:Nat},Wf k l->k<=l.length:=by
 intro l
 induction l with
 |nil=>intro k h;have h:k=0:=h;omega
 |cons s l a=>intro k h;have:=a h.2.2.2;simp;omega
theorem KJ(n:Nat):Wf 1 (vr n):=⟨Yo,fun _=>rfl,fun h=>absurd rfl h,rfl⟩
theorem KN{l:Ly}(h:Wf 1 l):∃s r,l=s::r/\Wf s.args r/\(s.name=[]->l=vr s.num):=by
 cases l with
 |nil=>exact absurd (show 1=0 from h) Yo
 |cons s r=>
  have a:=h.2.2.2;simp only[Nat.sub_self,Nat.zero_add]at a;refine⟨s,r,rfl,a,fun hn=> ?_⟩;have h0:=h.2.1 hn;rw[h0]at a
  cases r with
  |nil=>cases s;simp at hn h0;subst hn h0;rfl
  |cons t r=>exact absurd a.1 Yo
theorem CF{ls:Ll}(h:∀l∈ls,Wf 1 l):Wf ls.length ls.flatten:=by
 induction ls with
 |nil=>rfl
 |cons l ls a=>
  have:=EJ (h l Ys) (a (fun b hl=>h b (by simp[hl])));simpa[Nat.add_comm]using this
theorem N9:∀(k:Nat){l:Ly},Wf k l->∃ls:Ll,ls.length=k/\l=ls.flatten/\∀c∈ls,Wf 1 c:=by
 intro k
 induction k with
 |zero=>
  intro l h
  cases l with
  |nil=>exact⟨[],rfl,rfl,Ys⟩
  |cons s l=>exact absurd h.1 Yo
 |succ k i=>
  intro l h;rw[Nat.add_comm]at h;obtain⟨a,b,rfl,d,e⟩:=IM h;obtain⟨ls,f,rfl,g⟩:=i e;refine⟨a::ls,by simp[f],Ys,?_⟩;intro c hl;rcases Qp.1 hl with rfl|hl
  ·exact d
  ·exact g _ hl
theorem HD:∀{ls a:Ll},(∀l∈ls,Wf 1 l)->(∀l∈a,Wf 1 l)->ls.length=a.length->ls.flatten=a.flatten->ls=a:=by
 intro ls
 induction ls with
 |nil=>intro a _ _ h _;cases a with
  |nil=>rfl
  |cons m a=>simp at h
 |cons l ls f=>
  intro a c d hl h
  cases a with
  |nil=>simp at hl
  |cons m a=>
   simp only[Q4]at h;obtain⟨rfl,e⟩:=MH (c l Ys) (d m Ys) h;rw[f (fun b hl=>c b (QD _ hl)) (fun b hl=>d b (QD _ hl)) (by simpa using hl) e]
def Ts(σ:Nat->Ly):Prop:=∀n,Wf 1 (σ n)
theorem Xo:Ts vr:=KJ
theorem Iu{σ:Nat->Ly}(g:Ts σ):∀{l:Ly}{k:Nat},Wf k l->Wf k (ap σ l):=by
 intro l
 induction l with
 |nil=>intro k h;exact h
 |cons s l c=>
  intro k h;obtain⟨d,b,f,a⟩:=h;rw[Bw];unfold EG;split
  ·rename_i hn;rw[b hn]at a;have:=EJ (g s.num) (c a);have e:1+(k-1+0)=k:=Yo
   rwa [e]at this
  ·exact⟨d,b,f,c a⟩
theorem Te{σ a:Nat->Ly}(c:Ts σ)(b:Ts a):Ts (fun n=>ap a (σ n)):=fun n=>Iu b (c n)
theorem Tu:∀{l:Ly}{k:Nat},Wf k l->ap vr l=l:=by
 intro l
 induction l with
 |nil=>intro k h;rfl
 |cons s l a=>
  intro k h;rw[Bw,a h.2.2.2];unfold EG;split
  ·rename_i hn;have:=h.2.1 hn
   cases s;simp at hn this;subst hn this;rfl
  ·rfl
theorem Fe{σ:Nat->Ly}(a:Ts σ)(l:Ly):l.length<=(ap σ l).length:=by
 induction l with
 |nil=>simp
 |cons s l b=>
  rw[Bw];have:1<=(EG σ s).length:=by
   unfold EG;split
   ·exact BN (a _)
   ·simp
  simp;omega
theorem FE{σ:Nat->Ly}(d:Ts σ){v:Nat}{l:Ly}(h:Cj v l):(σ v).length+l.length<=(ap σ l).length+1:=by
 induction l with
 |nil=>obtain⟨s,h,_⟩:=h;simp at h
 |cons s l e=>
  rw[Bw];simp only[Qg,Qf];have hl:=Fe d l;have:1<=(EG σ s).length:=by
   unfold EG;split
   ·exact BN (d _)
   ·simp
  obtain⟨t,a,b,c⟩:=h;rcases Qp.1 a with rfl|a
  ·have:EG σ t=σ v:=by unfold EG;rw[if_pos b,c]
   rw[this];omega
  ·have:=e ⟨t,a,b,c⟩;omega
def Bv(v:Nat)(t:Ly):Nat->Ly:=fun n=>if n=v then t else vr n
theorem Tn{v:Nat}{t:Ly}(h:Wf 1 t):Ts (Bv v t):=fun n=>by
 unfold Bv;split
 ·exact h
 ·exact KJ n
theorem PU{a:Nat->Ly}{v:Nat}{t:Ly}(h:a v=ap a t)(n:Nat):ap a (Bv v t n)=a n:=by
 unfold Bv;split
 ·rename_i e;subst e;exact h.symm
 ·exact IT a n
theorem JB{a σ:Nat->Ly}(h:∀n,ap a (σ n)=a n)(l:Ly):ap a (ap σ l)=ap a l:=by
 rw[MU];exact LD (fun n _=>h n)
structure DY(a b x y:List BL):Prop where
 ex:∃p ra rb,a=p++x++ra/\b=p++y++rb
 wx:Wf 1 x
 wy:Wf 1 y
 ne:x.head?≠y.head?
theorem DY.unif{a b x y:Ly}(h:DY a b x y){c:Nat->Ly}(e:Ts c)(d:ap c a=ap c b):ap c x=ap c y:=by
 obtain⟨p,f,g,rfl,rfl⟩:=h.ex;simp only[EQ,Qi]at d;exact(MH (Iu e h.wx) (Iu e h.wy) (List.append_cancel_left d)).1
theorem DY.occ{a b x y:Ly}(h:DY a b x y){v:Nat}:(Cj v x->Cj v a)/\(Cj v y->Cj v b):=by
 obtain⟨p,c,d,rfl,rfl⟩:=h.ex;simp only[Ca];exact⟨fun h=>Or.inl (Or.inr h),fun h=>Or.inl (Or.inr h)⟩
theorem DY.symm{a b x y:Ly}(h:DY a b x y):DY b a y x:=by
 obtain⟨p,e,f,c,d⟩:=h.ex;exact⟨⟨p,f,e,d,c⟩,h.wy,h.wx,h.ne.symm⟩
def Dg(a b:Ly):Prop:=∀θ,Ts θ->ap θ a≠ap θ b
def Hp(a b:Ly):Prop:=(∃θ,Ts θ/\ap θ a=ap θ b)/\∀θ,Ts θ->ap θ a=ap θ b->30<(ap θ a).length
structure I5(σ:Nat->List BL)(a b:List BL):Prop where
 ts:Ts σ
 unif:ap σ a=ap σ b
 wide:∀θ,Ts θ->ap θ a=ap θ b->∀n,ap θ (σ n)=θ n
 occ:∀n v,Cj v (σ n)->v=n\/Cj v a\/Cj v b
 own:∀n,¬Cj n a->¬Cj n b->σ n=vr n
theorem Sp{a b x y:Ly}(h:DY a b x y){s t:BL}{r q:Ly}(d:x=s::r)(e:y=t::q)(f:s.name≠[])(g:t.name≠[]):Dg a b:=by
 intro k j i;have:=h.unif j i;rw[d,e,Bw,Bw]at this;simp only[EG,if_neg f,if_neg g,Qy,Qz,QI]at this;have c:=h.ne;rw[d,e]at c;simp at c;exact c this.1
theorem Ke{a b x y:Ly}(h:DY a b x y){v:Nat}(f:x=vr v)(c:Cj v y):Dg a b:=by
 intro n g k;have:=h.unif g k;rw[f,IT]at this;obtain⟨t,q,rfl,m,l⟩:=KN h.wy
 by_cases hn:t.name=[]
 ·have:=l hn;rw[this,Ez]at c;have e:=h.ne;rw[f,this,c]at e;exact e rfl
 ·have hl:=FE g c;rw[<-this]at hl;have j:q≠[]:=by
   rintro rfl;obtain⟨s,d,i,_⟩:=c;simp at d;subst d;exact hn i
  have:0<q.length:=List.length_pos_iff.2 j;simp only[Qf]at hl;omega
theorem Pb{a b x y:Ly}(h:DY a b x y){v:Nat}(e:x=vr v){c:Nat->Ly}(f:Ts c)(d:ap c a=ap c b):∀n,ap c (Bv v y n)=c n:=by
 have:=h.unif f d;rw[e,IT]at this;exact PU this
structure Hm(a0 b0:List BL)(σ:Nat->List BL)(a b:List BL):Prop where
 ts:Ts σ
 ha:a=ap σ a0
 hb:b=ap σ b0
 wide:∀θ,Ts θ->ap θ a0=ap θ b0->∀n,ap θ (σ n)=θ n
 occ:∀n v,Cj v (σ n)->v=n\/Cj v a0\/Cj v b0
 own:∀n,¬Cj n a0->¬Cj n b0->σ n=vr n
theorem Hm.start{a b:Ly}{j k:Nat}(ha:Wf j a)(hb:Wf k b):Hm a b vr a b:=
 ⟨Xo,(Tu ha).symm,(Tu hb).symm,fun c _ _ n=>IT c n,fun n v h=>Or.inl (Ez.1 h),fun _ _ _=>rfl⟩
theorem Hm.unif{a0 d:Ly}{σ:Nat->Ly}{a b:Ly}(h:Hm a0 d σ a b){c:Nat->Ly}(i:Ts c)(e:ap c a0=ap c d):ap c a=ap c a0/\ap c b=ap c d/\ap c a=ap c b:=by
 have f:ap c a=ap c a0:=by rw[h.ha,JB (h.wide c i e)]
 have g:ap c b=ap c d:=by rw[h.hb,JB (h.wide c i e)]
 exact⟨f,g,by rw[f,g,e]⟩
theorem Hm.occs{a0 f:Ly}{σ:Nat->Ly}{a b:Ly}(h:Hm a0 f σ a b){v:Nat}(g:Cj v a\/Cj v b):Cj v a0\/Cj v f:=by
 rw[h.ha,h.hb,JJ,JJ]at g;rcases g with⟨n,c,d⟩|⟨n,c,d⟩
 ·rcases h.occ n v d with rfl|e
  ·exact Or.inl c
  ·exact e
 ·rcases h.occ n v d with rfl|e
  ·exact Or.inr c
  ·exact e
theorem Hm.step{a0 j:Ly}{σ:Nat->Ly}{a b:Ly}(h:Hm a0 j σ a b){x y:Ly}{v:Nat}(c:DY a b x y\/DY b a x y)(g:x=vr v):
  Hm a0 j (fun n=>ap (Bv v y) (σ n)) (ap (Bv v y) a) (ap (Bv v y) b):=by
 have wy:Wf 1 y:=by rcases c with c|c<;>exact c.wy
 have s:Cj v a\/Cj v b:=by
  rcases c with c|c
  ·exact Or.inl (c.occ.1 (by rw[g];exact Ez.2 rfl))
  ·exact Or.inr (c.occ.1 (by rw[g];exact Ez.2 rfl))
 have t:∀m,Cj m y->Cj m a\/Cj m b:=fun m f=>by
  rcases c with c|c
  ·exact Or.inr (c.occ.2 f)
  ·exact Or.inl (c.occ.2 f)
 refine⟨Te h.ts (Tn wy),?_,?_,?_,?_,?_⟩
 ·rw[h.ha,MU]
 ·rw[h.hb,MU]
 ·intro u i p n;have q:=(h.unif i p).2.2;rw[JB,h.wide u i p];rcases c with c|c
  ·exact Pb c g i q
  ·exact Pb c g i q.symm
 ·intro n m f;rw[JJ]at f;obtain⟨k,r,d⟩:=f;unfold Bv at d;split at d
  ·exact Or.inr (h.occs (t m d))
  ·rw[Ez]at d;subst d;exact h.occ n m r
 ·intro n l o;rw[h.own n l o,IT];unfold Bv;split
  ·rename_i e;subst e;rcases h.occs s with h|h
   ·exact absurd h l
   ·exact absurd h o
  ·rfl
theorem Hm.done{a0 c:Ly}{σ:Nat->Ly}{a b:Ly}(h:Hm a0 c σ a b)(e:a=b):I5 σ a0 c:=
 ⟨h.ts,by rw[<-h.ha,<-h.hb,e],h.wide,h.occ,h.own⟩
theorem Hm.none{a0 d:Ly}{σ:Nat->Ly}{a b:Ly}(h:Hm a0 d σ a b)(e:Dg a b\/Dg b a):Dg a0 d:=by
 intro g c f;rcases e with e|e
 ·exact e g c (h.unif c f).2.2
 ·exact e g c (h.unif c f).2.2.symm
theorem Hm.vast{a0 d:Ly}{σ:Nat->Ly}{a b:Ly}(h:Hm a0 d σ a b)(e:30<a.length\/30<b.length)(f:∃c,Ts c/\ap c a0=ap c d):Hp a0 d:=by
 refine⟨f,fun c g f=> ?_⟩;obtain⟨i,k,j⟩:=h.unif g f;rw[<-i];rcases e with e|e
 ·have:=Fe g a;omega
 ·have:=Fe g b;rw[j];omega
theorem I5.small{σ:Nat->Ly}{a b:Ly}(h:I5 σ a b)(f:30<(ap σ a).length):Hp a b:=by
 refine⟨⟨σ,h.ts,h.unif⟩,fun e c d=> ?_⟩;have:=Fe c (ap σ a);rw[JB (h.wide e c d)]at this;omega
structure Gr where
 n:Nat
 hd:Nat->BL
 kids:Nat->List Nat
structure Gr.Ok(G:Gr):Prop where
 kl:∀i,i<G.n->∀k∈G.kids i,k<G.n
 ar:∀i,i<G.n->(G.hd i).args=(G.kids i).length
 vn:∀i,i<G.n->(G.hd i).name=[]->G.kids i=[]
 nv:∀i,i<G.n->(G.hd i).name≠[]->(G.hd i).num=0
structure Rt(n:Nat)(ρ:Nat->Nat):Prop where
 lt:∀i,i<n->ρ i<n
 idem:∀i,i<n->ρ (ρ i)=ρ i
def mg(ρ:Nat->Nat)(x y:Nat):Nat->Nat:=fun i=>if ρ i=x then y else ρ i
theorem Rt.mg{n:Nat}{a:Nat->Nat}(h:Rt n a){x y:Nat}(g:x<n)(f:y<n)(c:a y=y)(d:x≠y):Rt n (mg a x y):=by
 refine⟨fun i hi=> ?_,fun i hi=> ?_⟩
 ·unfold YtlmjilpjmgjjcaaGreatDoor.mg;split
  ·exact f
  ·exact h.lt i hi
 ·unfold YtlmjilpjmgjjcaaGreatDoor.mg
  by_cases b:a i=x
  ·rw[if_pos b,if_neg (by rw[c];exact fun e=>d e.symm),c]
  ·rw[if_neg b,h.idem i hi,if_neg b]
structure Mj(G:Gr)(val:Nat->List BL):Prop where
 wf:∀i,i<G.n->Wf 1 (val i)
 nm:∀i,i<G.n->(G.hd i).name≠[]->val i=G.hd i::((G.kids i).map val).flatten
def UH(n:Nat)(ρ:Nat->Nat)(val:Nat->Ly):Prop:=∀i,i<n->val (ρ i)=val i
def Cg(G:Gr)(ρ:Nat->Nat)(i:Nat):Prop:=(G.hd i).name≠[]->(G.hd (ρ i)).name=(G.hd i).name/\(G.kids (ρ i)).map ρ=(G.kids i).map ρ
def Ha(n:Nat)(ρ ρ':Nat->Nat):Prop:=∀i j,i<n->j<n->ρ i=ρ j->ρ' i=ρ' j
theorem Ha.refl(n:Nat)(a:Nat->Nat):Ha n a a:=fun _ _ _ _ h=>h
theorem Ha.trans{n:Nat}{b c d:Nat->Nat}(h:Ha n b c)(k:Ha n c d):Ha n b d:=fun i j hi a e=>k i j hi a (h i j hi a e)
theorem Ha.mg{n:Nat}(a:Nat->Nat)(x y:Nat):Ha n a (mg a x y):=fun i j _ _ e=>by unfold YtlmjilpjmgjjcaaGreatDoor.mg;rw[e]
theorem Ha.map{n:Nat}{d f:Nat->Nat}(h:Ha n d f):∀{l m:List Nat},(∀k∈l,k<n)->(∀k∈m,k<n)->l.map d=m.map d->l.map f=m.map f:=by
 intro l
 induction l with
 |nil=>intro m _ _ e;cases m with
  |nil=>rfl
  |cons _ _=>simp at e
 |cons a l i=>
  intro m hl g e
  cases m with
  |nil=>simp at e
  |cons b m=>
   simp only[Qx,QI]at e⊢;exact⟨h a b (hl a Ys) (g b Ys) e.1,i (fun k c=>hl k (by simp[c])) (fun k c=>g k (by simp[c])) e.2⟩
structure Bg(G:Gr)(ρ ρ':Nat->Nat)(ats bs:List Nat):Prop where
 rt:Rt G.n ρ'
 grow:Ha G.n ρ ρ'
 eq:ats.map ρ'=bs.map ρ'
 cg:∀i,i<G.n->Cg G ρ i->Cg G ρ' i
 con:∀val,Mj G val->UH G.n ρ val->ats.map val=bs.map val->UH G.n ρ' val
def Ew(G:Gr)(ρ:Nat->Nat)(ats bs:List Nat):Prop:=∀val,Mj G val->UH G.n ρ val->ats.map val≠bs.map val
theorem Bg.nil{G:Gr}{a:Nat->Nat}(h:Rt G.n a):Bg G a a [] []:=⟨h,Ha.refl _ _,rfl,fun _ _ h=>h,fun _ _ h _=>h⟩
theorem Bg.same{G:Gr}{c:Nat->Nat}(h:Rt G.n c){a b:Nat}(e:c a=c b):Bg G c c [a] [b]:=⟨h,Ha.refl _ _,by simp[e],fun _ _ h=>h,fun _ _ h _=>h⟩
theorem Bg.snoc{G:Gr}(o:G.Ok){j l m:Nat->Nat}{c d:List Nat}{a b:Nat}(h:Bg G j l c d)(k:Bg G l m [a] [b])(ha:∀k∈c,k<G.n)(hb:∀k∈d,k<G.n):
  Bg G j m (c++[a]) (d++[b]):=by
 refine⟨k.rt,h.grow.trans k.grow,?_,fun i hi f=>k.cg i hi (h.cg i hi f),fun val g f e=> ?_⟩
 ·rw[Qr,Qr,k.grow.map ha hb h.eq,k.eq]
 ·rw[Qr,Qr]at e;have hl:c.length=d.length:=by simpa using congrArg List.length h.eq
  have:=List.append_inj e (by simp[hl]);exact k.con val g (h.con val g f this.1) this.2
theorem Ew.snoc{G:Gr}{i j:Nat->Nat}{c d:List Nat}{a b:Nat}(h:Bg G i j c d)(k:Ew G j [a] [b])(m n:List Nat):Ew G i (c++a::m) (d++b::n):=by
 intro val g l e;rw[Qr,Qr]at e;have hl:c.length=d.length:=by simpa using congrArg List.length h.eq
 have:=List.append_inj e (by simp[hl]);refine k val g (h.con val g l this.1) ?_;have f:=this.2;simp only[Qx,QI]at f;simp[f.1]
theorem R3{G:Gr}{c:Nat->Nat}(h:Rt G.n c){a b x y:Nat}(ha:a<G.n)(hb:b<G.n)(j:(x=c a/\y=c b)\/(x=c b/\y=c a)){val:Nat->Ly}(k:Mj G val)(d:UH G.n c val)(e:val a=val b):UH G.n (mg c x y) val:=by
 have f:val x=val y:=by
  rcases j with⟨rfl,rfl⟩|⟨rfl,rfl⟩
  ·rw[d a ha,d b hb,e]
  ·rw[d a ha,d b hb,e]
 intro i hi;unfold mg;split
 ·rename_i g;rw[<-f,<-g,d i hi]
 ·exact d i hi
theorem Xg{c:Nat->Nat}{a b x y:Nat}(d:(x=c a/\y=c b)\/(x=c b/\y=c a)):mg c x y a=mg c x y b:=by
 unfold mg;rcases d with⟨rfl,rfl⟩|⟨rfl,rfl⟩
 ·simp
 ·simp
theorem Bg.var{G:Gr}{c:Nat->Nat}(h:Rt G.n c){a b x y:Nat}(ha:a<G.n)(hb:b<G.n)(d:(x=c a/\y=c b)\/(x=c b/\y=c a))(q:x≠y)(r:(G.hd x).name=[]):
  Bg G c (mg c x y) [a] [b]:=by
 have t:x<G.n:=by rcases d with⟨rfl,rfl⟩|⟨rfl,rfl⟩<;>exact h.lt _ (by assumption)
 have u:y<G.n:=by rcases d with⟨rfl,rfl⟩|⟨rfl,rfl⟩<;>exact h.lt _ (by assumption)
 have v:c y=y:=by rcases d with⟨rfl,rfl⟩|⟨rfl,rfl⟩<;>exact h.idem _ (by assumption)
 refine⟨h.mg t u v q,Ha.mg _ _ _,by simp[Xg d],?_,fun val s g e=>R3 h ha hb d s g (by simpa using e)⟩;intro i hi g hn;obtain⟨f,k⟩:=g hn;have o:c i≠x:=by
  intro e;rw[e,r]at f;exact hn f.symm
 have e:mg c x y i=c i:=by unfold mg;rw[if_neg o]
 rw[e];refine⟨f,?_⟩;have p:∀(l m:List Nat),l.map c=m.map c->l.map (mg c x y)=m.map (mg c x y):=by
  intro l m e;have:∀l:List Nat,l.map (mg c x y)=(l.map c).map (fun j=>if j=x then y else j):=by
   intro l;simp[mg]
  rw[this,this,e]
 exact p _ _ k
theorem Ha.of_map{a:Nat->Nat}{x y:Nat}{l m:List Nat}(e:l.map a=m.map a):l.map (YtlmjilpjmgjjcaaGreatDoor.mg a x y)=m.map (YtlmjilpjmgjjcaaGreatDoor.mg a x y):=by
 have:∀l:List Nat,l.map (YtlmjilpjmgjjcaaGreatDoor.mg a x y)=(l.map a).map (fun j=>if j=x then y else j):=by
  intro l;simp[YtlmjilpjmgjjcaaGreatDoor.mg]
 rw[this,this,e]
theorem Bg.name{G:Gr}(o:G.Ok){c f:Nat->Nat}(h:Rt G.n c){a b x y:Nat}(ha:a<G.n)(hb:b<G.n)(g:(x=c a/\y=c b)\/(x=c b/\y=c a))(C:x≠y)
  (z:(G.hd x).name≠[]) (hn:(G.hd x).name=(G.hd y).name) (k:Bg G (mg c x y) f (G.kids x) (G.kids y)):Bg G c f [a] [b]:=by
 have q:x<G.n:=by rcases g with⟨rfl,rfl⟩|⟨rfl,rfl⟩<;>exact h.lt _ (by assumption)
 have m:y<G.n:=by rcases g with⟨rfl,rfl⟩|⟨rfl,rfl⟩<;>exact h.lt _ (by assumption)
 have L:c x=x:=by rcases g with⟨rfl,rfl⟩|⟨rfl,rfl⟩<;>exact h.idem _ (by assumption)
 have D:c y=y:=by rcases g with⟨rfl,rfl⟩|⟨rfl,rfl⟩<;>exact h.idem _ (by assumption)
 have M:=h.mg q m D C;have B:Ha G.n c f:=(Ha.mg _ _ _).trans k.grow;have A:mg c x y y=y:=by unfold mg;rw[D,if_neg (fun e=>C e.symm)]
 have K:mg c x y x=y:=by unfold mg;rw[L,if_pos rfl]
 have F:Cg G f y:=k.cg y m (fun _=>by rw[A];exact⟨rfl,rfl⟩);have r:f x=f y:=k.grow x y q m (by rw[K,A]);refine⟨k.rt,B,?_,?_,?_⟩
 ·have:=k.grow a b ha hb (Xg g);simp[this]
 ·intro i hi d
  by_cases v:c i=x
  ·intro u;obtain⟨s,t⟩:=d u;rw[v]at s t;have J:f i=f y:=k.grow i y hi m (by rw[A];unfold mg;rw[if_pos v]);obtain⟨H,I⟩:=F (by rw[<-hn];exact z);rw[J];refine⟨by rw[H,<-hn,s],?_⟩;rw[I,<-k.eq];exact B.map (o.kl x q) (o.kl i hi) t
  ·refine k.cg i hi (fun u=> ?_);obtain⟨s,t⟩:=d u;have e:mg c x y i=c i:=by unfold mg;rw[if_neg v]
   rw[e];exact⟨s,Ha.of_map t⟩
 ·intro val p d e;have e':val a=val b:=by simpa using e
  have E:=R3 h ha hb g p d e';refine k.con val p E ?_;have r:val x=val y:=by
   rcases g with⟨rfl,rfl⟩|⟨rfl,rfl⟩
   ·rw[d a ha,d b hb,e']
   ·rw[d a ha,d b hb,e']
  rw[p.nm x q z,p.nm y m (by rw[<-hn];exact z)]at r;simp only[QI]at r;have hl:(G.kids x).length=(G.kids y).length:=by rw[<-o.ar x q,<-o.ar y m,r.1]
  refine HD ?_ ?_ (by simp[hl]) r.2
  ·intro l hl;obtain⟨j,w,rfl⟩:=Q0.1 hl;exact p.wf j (o.kl x q j w)
  ·intro l hl;obtain⟨j,w,rfl⟩:=Q0.1 hl;exact p.wf j (o.kl y m j w)
theorem Hv{G:Gr}(o:G.Ok){c:Nat->Nat}(h:Rt G.n c){a b x y:Nat}(ha:a<G.n)(hb:b<G.n)(g:(x=c a/\y=c b)\/(x=c b/\y=c a))
  (k:(G.hd x).name≠[]) (m:(G.hd y).name≠[]) (hn:(G.hd x).name≠(G.hd y).name\/(G.hd x).args≠(G.hd y).args):Ew G c [a] [b]:=by
 intro val i d e;have e':val a=val b:=by simpa using e
 have j:x<G.n:=by rcases g with⟨rfl,rfl⟩|⟨rfl,rfl⟩<;>exact h.lt _ (by assumption)
 have l:y<G.n:=by rcases g with⟨rfl,rfl⟩|⟨rfl,rfl⟩<;>exact h.lt _ (by assumption)
 have f:val x=val y:=by
  rcases g with⟨rfl,rfl⟩|⟨rfl,rfl⟩
  ·rw[d a ha,d b hb,e']
  ·rw[d a ha,d b hb,e']
 rw[i.nm x j k,i.nm y l m]at f;simp only[QI]at f;rw[f.1]at hn;rcases hn with hn|hn<;>exact hn rfl
theorem LA{G:Gr}(i:G.Ok){c:Nat->Nat}(h:Rt G.n c){a b x y:Nat}(ha:a<G.n)(hb:b<G.n)(m:(x=c a/\y=c b)\/(x=c b/\y=c a))
  (r:(G.hd x).name≠[]) (hn:(G.hd x).name=(G.hd y).name) (k:Ew G (mg c x y) (G.kids x) (G.kids y)):Ew G c [a] [b]:=by
 intro val d f e;have p:x<G.n:=by rcases m with⟨rfl,rfl⟩|⟨rfl,rfl⟩<;>exact h.lt _ (by assumption)
 have q:y<G.n:=by rcases m with⟨rfl,rfl⟩|⟨rfl,rfl⟩<;>exact h.lt _ (by assumption)
 have e':val a=val b:=by simpa using e
 have s:=R3 h ha hb m d f e';refine k val d s ?_;have g:val x=val y:=by
  rcases m with⟨rfl,rfl⟩|⟨rfl,rfl⟩
  ·rw[f a ha,f b hb,e']
  ·rw[f a ha,f b hb,e']
 rw[d.nm x p r,d.nm y q (by rw[<-hn];exact r)]at g;simp only[QI]at g;have hl:(G.kids x).length=(G.kids y).length:=by rw[<-i.ar x p,<-i.ar y q,g.1]
 refine HD ?_ ?_ (by simp[hl]) g.2
 ·intro l hl;obtain⟨j,o,rfl⟩:=Q0.1 hl;exact d.wf j (i.kl x p j o)
 ·intro l hl;obtain⟨j,o,rfl⟩:=Q0.1 hl;exact d.wf j (i.kl y q j o)
structure CP(G:Gr)(ρ:Nat->Nat)(D:Nat->Prop)(T:Nat->List BL):Prop where
 lt:∀r,D r->r<G.n/\ρ r=r
 tm:∀r,D r->T r=G.hd r::((G.kids r).map (fun k=>T (ρ k))).flatten
 kid:∀r,D r->∀k∈G.kids r,D (ρ k)
theorem CP.none(G:Gr)(a:Nat->Nat)(T:Nat->Ly):CP G a (fun _=>False) T:=⟨fun _ h=>h.elim,fun _ h=>h.elim,fun _ h=>h.elim⟩
theorem CP.more{G:Gr}{a:Nat->Nat}{D:Nat->Prop}{T:Nat->Ly}(h:CP G a D T){r:Nat}(g:r<G.n)(j:a r=r)(hd:¬D r)(b:∀k∈G.kids r,D (a k)):
  CP G a (fun i=>D i\/i=r) (fun i=>if i=r then G.hd r::((G.kids r).map (fun k=>T (a k))).flatten else T i):=by
 have c:∀i,D i->(fun i=>if i=r then G.hd r::((G.kids r).map (fun k=>T (a k))).flatten else T i) i=T i:=fun i hi=>by
  have:i≠r:=fun e=>hd (e▸hi);simp[this]
 have f:∀l:List Nat,(∀k∈l,D (a k))->l.map (fun k=>(fun i=>if i=r then G.hd r::((G.kids r).map (fun k=>T (a k))).flatten else T i) (a k))=l.map (fun k=>T (a k)):=fun l hl=>
  List.map_congr_left (fun k b=>c _ (hl k b))
 refine⟨?_,?_,?_⟩
 ·rintro i (hi|rfl)
  ·exact h.lt i hi
  ·exact⟨g,j⟩
 ·rintro i (hi|rfl)
  ·rw[f _ (h.kid i hi)];exact(c i hi).trans (h.tm i hi)
  ·rw[f _ b];simp
 ·rintro i (hi|rfl) k d
  ·exact Or.inl (h.kid i hi k d)
  ·exact Or.inl (b k d)
theorem Bf{l:Ly}{ls:Ll}(h:l∈ls):l.length<=ls.flatten.length:=by
 induction ls with
 |nil=>simp at h
 |cons a ls b=>
  simp only[Q4,Qg];rcases Qp.1 h with rfl|h
  ·omega
  ·have:=b h;omega
theorem CP.wf{G:Gr}(b:G.Ok){d:Nat->Nat}{D:Nat->Prop}{T:Nat->Ly}(h:CP G d D T):∀(m r:Nat),(T r).length<=m->D r->Wf 1 (T r):=by
 intro m
 induction m with
 |zero=>intro r a hd;rw[h.tm r hd]at a;simp at a
 |succ m g=>
  intro r a hd;have c:=(h.lt r hd).1;have e:=h.tm r hd;rw[e]at a⊢;refine⟨Yo,fun hn=>by rw[b.ar r c,b.vn r c hn];rfl,b.nv r c,?_⟩;simp only[Nat.sub_self,Nat.zero_add];rw[b.ar r c];have:=CF (ls:=(G.kids r).map (fun k=>T (d k))) (fun l hl=>by
   obtain⟨k,f,rfl⟩:=Q0.1 hl;refine g (d k) ?_ (h.kid r hd k f);have:=Bf hl;simp only[Qf]at a;omega)
  simpa using this
theorem CP.val{G:Gr}(f:G.Ok){b:Nat->Nat}{D:Nat->Prop}{T:Nat->Ly}(h:CP G b D T){val:Nat->Ly}(o:Mj G val)(j:UH G.n b val){g:Nat->Ly}(p:∀i,i<G.n->(G.hd i).name=[]->val i=g (G.hd i).num):
  ∀(m r:Nat),(T r).length<=m->D r->ap g (T r)=val r:=by
 intro m
 induction m with
 |zero=>intro r a hd;rw[h.tm r hd]at a;simp at a
 |succ m q=>
  intro r a hd;have c:=(h.lt r hd).1;have e:=h.tm r hd;rw[e]at a⊢;rw[Bw]
  by_cases hn:(G.hd r).name=[]
  ·rw[f.vn r c hn];simp only[List.map_nil,List.flatten_nil,Oj,Qs,EG,if_pos hn];exact(p r c hn).symm
  ·rw[o.nm r c hn];simp only[EG,if_neg hn,Qy,Qz,QI,true_and];rw[EK,QK]
   congr 1
   refine List.map_congr_left (fun k d=> ?_);have l:T (b k)∈(G.kids r).map (fun k=>T (b k)):=Q0.2 ⟨k,d,rfl⟩;have:=Bf l;simp only[Qf]at a;have:=q (b k) Yo (h.kid r hd k d);simp only[Function.comp];rw[this,j k (f.kl r c k d)]
structure Tb(G:Gr)(tm:Nat->List BL)(a b:List BL):Prop where
 ok:G.Ok
 tm:∀i,i<G.n->tm i=G.hd i::((G.kids i).map tm).flatten
 occ:∀i,i<G.n->(G.hd i).name=[]->Cj (G.hd i).num a\/Cj (G.hd i).num b
theorem Tb.val{G:Gr}{tm:Nat->Ly}{a b:Ly}(h:Tb G tm a b){c:Nat->Ly}(e:Ts c)(d:∀i,i<G.n->Wf 1 (tm i)):Mj G (fun i=>ap c (tm i)):=by
 refine⟨fun i hi=>Iu e (d i hi),fun i hi hn=> ?_⟩;show ap c (tm i)=_;rw[h.tm i hi,Bw];simp only[EG,if_neg hn,Qy,Qz,QI,true_and];rw[EK,QK];rfl
theorem Tb.wf{G:Gr}{tm:Nat->Ly}{a b:Ly}(h:Tb G tm a b):∀(m i:Nat),(tm i).length<=m->i<G.n->Wf 1 (tm i):=by
 intro m
 induction m with
 |zero=>intro i c hi;rw[h.tm i hi]at c;simp at c
 |succ m e=>
  intro i c hi;rw[h.tm i hi]at c⊢;refine⟨Yo,fun hn=>by rw[h.ok.ar i hi,h.ok.vn i hi hn];rfl,h.ok.nv i hi,?_⟩;simp only[Nat.sub_self,Nat.zero_add];rw[h.ok.ar i hi];have:=CF (ls:=(G.kids i).map tm) (fun l hl=>by
   have f:=Bf hl;obtain⟨k,d,rfl⟩:=Q0.1 hl;refine e k ?_ (h.ok.kl i hi k d);simp only[Qf]at c;omega)
  simpa using this
open Classical in
noncomputable def Dr(G:Gr)(ρ:Nat->Nat)(D:Nat->Prop)(T:Nat->List BL):Nat->List BL:=fun v=>
 if h:∃i,i<G.n/\(G.hd i).name=[]/\(G.hd i).num=v/\D (ρ i)then T (ρ h.choose)else vr v
def NR(G:Gr)(ρ:Nat->Nat):Prop:=∀i j,i<G.n->j<G.n->(G.hd i).name=[]->(G.hd j).name=[]->(G.hd i).num=(G.hd j).num->ρ i=ρ j
theorem Ky{G:Gr}{a:Nat->Nat}{D:Nat->Prop}{T:Nat->Ly}(d:NR G a){i:Nat}(hi:i<G.n)(hn:(G.hd i).name=[])(hd:D (a i)):Dr G a D T (G.hd i).num=T (a i):=by
 have c:∃j,j<G.n/\(G.hd j).name=[]/\(G.hd j).num=(G.hd i).num/\D (a j):=⟨i,hi,hn,rfl,hd⟩;unfold Dr;rw[dif_pos c];have b:=c.choose_spec;rw[d _ i b.1 hi b.2.1 hn b.2.2.1]
theorem Js{G:Gr}{c:Nat->Nat}{D:Nat->Prop}{T tm:Nat->Ly}{a b:Ly}(h:Tb G tm a b)(o:CP G c D T)(C:Rt G.n c)(w:∀i,i<G.n->Cg G c i)(E:NR G c):
  ∀(m i:Nat),(tm i).length<=m->i<G.n->D (c i)->ap (Dr G c D T) (tm i)=T (c i):=by
 intro m
 induction m with
 |zero=>intro i f hi;rw[h.tm i hi]at f;simp at f
 |succ m F=>
  intro i f hi hd;have e:=h.tm i hi;rw[e]at f⊢;rw[Bw]
  by_cases hn:(G.hd i).name=[]
  ·rw[h.ok.vn i hi hn];simp only[List.map_nil,List.flatten_nil,Oj,Qs,EG,if_pos hn];exact Ky E hi hn hd
  ·obtain⟨g,d⟩:=w i hi hn;rw[o.tm _ hd];have p:=C.lt i hi;have A:(G.kids (c i)).length=(G.kids i).length:=by simpa using congrArg List.length d
   have y:G.hd (c i)=G.hd i:=by
    have q:=h.ok.ar _ p;have r:=h.ok.ar i hi;have I:=h.ok.nv _ p (by rw[g];exact hn);have J:=h.ok.nv i hi hn;have s:(G.hd (c i)).args=(G.hd i).args:=by rw[q,r,A]
    have t:(G.hd (c i)).num=(G.hd i).num:=by rw[I,J]
    revert g s t
    cases G.hd (c i);cases G.hd i
    simp;intro g d v;exact⟨g,v,d⟩
   rw[y];simp only[EG,if_neg hn,Qy,Qz,QI,true_and];rw[EK,QK]
   congr 1
   have u:(G.kids (c i)).map (fun k=>T (c k))=(G.kids i).map (fun k=>T (c k)):=by
    have:∀l:List Nat,l.map (fun k=>T (c k))=(l.map c).map T:=fun l=>by simp
    rw[this,this,d]
   rw[u];refine List.map_congr_left (fun k j=> ?_);have B:tm k∈(G.kids i).map tm:=Q0.2 ⟨k,j,rfl⟩;have:=Bf B;simp only[Qf]at f;have x:D (c k):=by
    have:c k∈(G.kids (c i)).map c:=by rw[d];exact Q0.2 ⟨k,j,rfl⟩
    obtain⟨H,z,e'⟩:=Q0.1 this;rw[<-e'];exact o.kid _ hd H z
   exact F k Yo (h.ok.kl i hi k j) x
theorem Un{G:Gr}{d:Nat->Nat}{D:Nat->Prop}{T tm:Nat->Ly}{a b:Ly}(h:Tb G tm a b)(f:CP G d D T)(J:Rt G.n d)(H:∀i,i<G.n->Cg G d i)(M:NR G d)
  {x y:Nat} (Y:x<G.n) (Z:y<G.n) (ha:tm x=a) (hb:tm y=b) (O:d x=d y) (hd:D (d x)) (P:∀val,Mj G val->UH G.n (fun i=>i) val->(∀i j,i<G.n->j<G.n->(G.hd i).name=[]->(G.hd j).name=[]->(G.hd i).num=(G.hd j).num->val i=val j)->val x=val y->UH G.n d val):
  I5 (Dr G d D T) a b:=by
 have N:∀i,i<G.n->Wf 1 (tm i):=fun i hi=>h.wf _ i (Qe _) hi;have X:∀c,Ts c->ap c a=ap c b->UH G.n d (fun i=>ap c (tm i))/\Mj G (fun i=>ap c (tm i))/\∀i,i<G.n->(G.hd i).name=[]->ap c (tm i)=c (G.hd i).num:=by
  intro c u A;have B:∀i,i<G.n->(G.hd i).name=[]->ap c (tm i)=c (G.hd i).num:=by
   intro i hi hn;rw[h.tm i hi,h.ok.vn i hi hn,Bw];simp[EG,hn,Oj]
  refine⟨P _ (h.val u N) (fun _ _=>rfl) ?_ ?_,h.val u N,B⟩
  ·intro i j hi Q S U e;rw[B i hi S,B j Q U,e]
  ·show ap c (tm x)=ap c (tm y);rw[ha,hb,A]
 refine⟨?_,?_,?_,?_,?_⟩
 ·intro v;unfold Dr;split
  ·rename_i g;exact f.wf h.ok _ _ (Qe _) g.choose_spec.2.2.2
  ·exact KJ v
 ·have C:=Js h f J H M _ x (Qe _) Y hd;have E:=Js h f J H M _ y (Qe _) Z (by rw[<-O];exact hd);rw[ha]at C;rw[hb]at E;rw[C,E,O]
 ·intro c u A v;obtain⟨q,w,F⟩:=X c u A;unfold Dr;split
  ·rename_i g;have o:=g.choose_spec;rw[f.val h.ok w q (fun i hi hn=>F i hi hn) _ _ (Qe _) o.2.2.2];have:ap c (tm (d g.choose))=ap c (tm g.choose):=q _ o.1;rw[this,F _ o.1 o.2.1,o.2.2.1]
  ·exact IT c v
 ·intro n v t;unfold Dr at t;split at t
  ·rename_i g;have o:=g.choose_spec;right;have V:∀(m r:Nat),(T r).length<=m->D r->Cj v (T r)->Cj v a\/Cj v b:=by
    intro m
    induction m with
    |zero=>intro r p hd;rw[f.tm r hd]at p;simp at p
    |succ m aa=>
     intro r p hd I;rw[f.tm r hd]at p I;obtain⟨s,z,K,L⟩:=I;rcases Qp.1 z with rfl|z
     ·rw[<-L];exact h.occ r (f.lt r hd).1 K
     ·obtain⟨l,hl,W⟩:=List.mem_flatten.1 z;have ab:=Bf hl;obtain⟨k,R,rfl⟩:=Q0.1 hl;simp only[Qf]at p;exact aa (d k) Yo (f.kid r hd k R) ⟨s,W,K,L⟩
   exact V _ _ (Qe _) o.2.2.2 t
  ·exact Or.inl (Ez.1 t)
 ·intro n q w;unfold Dr;rw[dif_neg];rintro⟨i,hi,hn,rfl,_⟩;rcases h.occ i hi hn with h|h
  ·exact q h
  ·exact w h
theorem WD{G:Gr}(c:G.Ok){val:Nat->Ly}(d:Mj G val){x k:Nat}(b:x<G.n)(a:k∈G.kids x):(val k).length<(val x).length:=by
 have hn:(G.hd x).name≠[]:=fun h=>by rw[c.vn x b h]at a;simp at a
 rw[d.nm x b hn];have:=Bf (Q0.2 ⟨k,a,rfl⟩:val k∈(G.kids x).map val);simp only[Qf];omega
def FW(G:Gr)(ρ:Nat->Nat)(P:Nat->Prop)(i:Nat):Prop:=∀val,Mj G val->UH G.n ρ val->∃r,P r/\(val r).length<=(val i).length
theorem FW.here{G:Gr}{a:Nat->Nat}{P:Nat->Prop}{i:Nat}(hi:i<G.n)(h:P (a i)):FW G a P i:=fun val _ b=>⟨a i,h,by rw[b i hi];exact Qe _⟩
theorem FW.up{G:Gr}(d:G.Ok){a:Nat->Nat}{P:Nat->Prop}{i k:Nat}(hi:i<G.n)(g:a i<G.n)(e:k∈G.kids (a i))(h:FW G a (fun r=>P r\/r=a i) k):FW G a P i:=by
 intro val c b;have hl:=WD d c g e;obtain⟨r,f|rfl,j⟩:=h val c b
 ·exact⟨r,f,by rw[<-b i hi];omega⟩
 ·omega
theorem Tq{G:Gr}{tm:Nat->Ly}{a b:Ly}(h:Tb G tm a b){x y:Nat}(g:x<G.n)(j:y<G.n)(ha:tm x=a)(hb:tm y=b){c:Nat->Ly}(f:Ts c)(d:ap c a=ap c b):
  Mj G (fun i=>ap c (tm i))/\ap c (tm x)=ap c (tm y)/\∀i,i<G.n->(G.hd i).name=[]->ap c (tm i)=c (G.hd i).num:=by
 have e:∀i,i<G.n->Wf 1 (tm i):=fun i hi=>h.wf _ i (Qe _) hi;refine⟨h.val f e,by rw[ha,hb,d],?_⟩;intro i hi hn;rw[h.tm i hi,h.ok.vn i hi hn,Bw];simp[EG,hn,Oj]
structure FH(G:Gr)(ρ:Nat->Nat):Prop where
 rt:Rt G.n ρ
 vars:NR G ρ
 nm:∀i,i<G.n->(G.hd i).name≠[]->ρ i=i
 vr:∀i,i<G.n->(G.hd i).name=[]->(G.hd (ρ i)).name=[]/\(G.hd (ρ i)).num=(G.hd i).num
theorem FH.cg{G:Gr}{a:Nat->Nat}(h:FH G a)(i:Nat)(hi:i<G.n):Cg G a i:=fun hn=>by rw[h.nm i hi hn];exact⟨rfl,rfl⟩
theorem FH.con{G:Gr}{a:Nat->Nat}(h:FH G a){val:Nat->Ly}(b:∀i j,i<G.n->j<G.n->(G.hd i).name=[]->(G.hd j).name=[]->(G.hd i).num=(G.hd j).num->val i=val j):UH G.n a val:=by
 intro i hi
 by_cases hn:(G.hd i).name=[]
 ·exact b _ _ (h.rt.lt i hi) hi (h.vr i hi hn).1 hn (h.vr i hi hn).2
 ·rw[h.nm i hi hn]
theorem FH.vars'{G:Gr}{b c:Nat->Nat}(h:FH G b)(g:Ha G.n b c):NR G c:=fun i j hi a d f e=>g i j hi a (h.vars i j hi a d f e)
theorem PY{G:Gr}{tm:Nat->Ly}{a b:Ly}(h:Tb G tm a b){f:Nat->Nat}(h0:FH G f){x y:Nat}(r:x<G.n)(s:y<G.n)(ha:tm x=a)(hb:tm y=b)(l:Ew G f [x] [y]):Dg a b:=by
 intro d t q;obtain⟨g,k,c⟩:=Tq h r s ha hb t q;refine l _ g (h0.con (fun i j hi m o p e=> ?_)) (by simp[k]);show ap d (tm i)=ap d (tm j);rw[c i hi o,c j m p,e]
theorem PB{G:Gr}{tm:Nat->Ly}{a b:Ly}(h:Tb G tm a b){f l:Nat->Nat}(h0:FH G f){x y:Nat}(v:x<G.n)(w:y<G.n)(ha:tm x=a)(hb:tm y=b)(c:Bg G f l [x] [y]){i:Nat}(t:FW G l (fun _=>False) i):Dg a b:=by
 intro d z u;obtain⟨g,m,k⟩:=Tq h v w ha hb z u;have o:UH G.n f (fun i=>ap d (tm i)):=h0.con (fun i j hi c p q e=>by
  show ap d (tm i)=ap d (tm j);rw[k i hi p,k j c q,e])
 obtain⟨r,s,_⟩:=t _ g (c.con _ g o (by simp[m]));exact s
theorem OU{G:Gr}{tm:Nat->Ly}{a b:Ly}(h:Tb G tm a b){k d:Nat->Nat}(h0:FH G k){x y:Nat}(j:x<G.n)(o:y<G.n)(ha:tm x=a)(hb:tm y=b)(c:Bg G k d [x] [y])
  {D:Nat->Prop} {T:Nat->Ly} (g:CP G d D T) (hd:D (d x)):I5 (Dr G d D T) a b/\ap (Dr G d D T) a=T (d x):=by
 have f:∀i,i<G.n->Cg G d i:=fun i hi=>c.cg i hi (h0.cg i hi);refine⟨Un h g c.rt f (h0.vars' c.grow) j o ha hb (by simpa using c.eq) hd ?_,?_⟩
 ·intro val l _ m e;exact c.con val l (h0.con m) (by simp[e])
 ·rw[<-ha];exact Js h g c.rt f (h0.vars' c.grow) _ x (Qe _) j hd
def HL(xs ys:Ll):Prop:=∃τ,Ts τ/\ys=xs.map (ap τ)
def DQ(xs ys:Ll):Prop:=HL xs ys/\HL ys xs
theorem DQ.symm{xs a:Ll}(h:DQ xs a):DQ a xs:=⟨h.2,h.1⟩
theorem DQ.refl{xs:Ll}(h:∀x∈xs,∃k,Wf k x):DQ xs xs:=by
 have:HL xs xs:=⟨vr,Xo,by
  have:xs.map (ap vr)=xs.map id:=List.map_congr_left (fun x b=>by obtain⟨k,a⟩:=h x b;exact Tu a);simpa using this.symm⟩
 exact⟨this,this⟩
theorem DQ.len{xs a:Ll}(h:DQ xs a):xs.map List.length=a.map List.length:=by
 obtain⟨⟨m,e,b⟩,⟨n,f,g⟩⟩:=h;have hl:xs.length=a.length:=by simpa using(congrArg List.length b).symm
 apply List.ext_getElem (by simp[hl]);intro i hi j;simp only[Ql]at hi j;simp only[List.getElem_map];have c:a[i]=ap m xs[i]:=by simp only[b,List.getElem_map]
 have d:xs[i]=ap n a[i]:=by
  have:=List.getElem_of_eq g hi;simpa using this
 have k:=Fe e xs[i];have l:=Fe f a[i];rw[<-c]at k;rw[<-d]at l;omega
def upto(V:Nat)(σ τ:Nat->Ly):Nat->Ly:=fun n=>if n<V then ap σ (τ n)else σ n
theorem IU{V:Nat}{σ a:Nat->Ly}(h:Ts σ)(k:Ts a):Ts (upto V σ a):=fun n=>by
 unfold upto;split
 ·exact Iu h (k n)
 ·exact h n
theorem P3{V:Nat}{σ a:Nat->Ly}{l:Ly}(h:∀v,Cj v l->v<V):ap (upto V σ a) l=ap σ (ap a l):=by
 rw[MU];exact LD (fun n hn=>by unfold upto;rw[if_pos (h n hn)])
theorem MA{V:Nat}{σ a:Nat->Ly}{l:Ly}(h:∀v,Cj v l->V<=v):ap (upto V σ a) l=ap σ l:=
 LD (fun n hn=>by unfold upto;rw[if_neg (by have:=h n hn;omega)])
section
variable {V:Nat} {a b h:List BL} {xs ys:List (List BL)}
theorem HT(ha:∀v,Cj v a->v<V)(f:∀v,Cj v h->V<=v){d c:Nat->Ly}(e:b=ap d a)(g:ap c b=ap c h):ap (upto V c d) a=ap (upto V c d) h/\ap (upto V c d) a=ap c b:=by
 rw[P3 ha,MA f,<-e];exact⟨g,rfl⟩
theorem Dg.alike(hi:HL (a::xs) (b::ys))(ha:∀v,Cj v a->v<V)(e:∀v,Cj v h->V<=v)(hn:Dg a h):Dg b h:=by
 obtain⟨j,d,c⟩:=hi;simp only[Qx,QI]at c;intro i g f;exact hn _ (IU g d) (HT ha e c.1 f).1
theorem Hp.alike(hi:DQ (a::xs) (b::ys))(ha:∀v,Cj v a->v<V)(hb:∀v,Cj v b->v<V)(d:∀v,Cj v h->V<=v)(hn:Hp a h):Hp b h:=by
 obtain⟨⟨p,g,c⟩,q,i,e⟩:=hi;simp only[Qx,QI]at c e;obtain⟨⟨n,l,j⟩,k⟩:=hn;refine⟨⟨_,IU l i,(HT hb d e.1 j).1⟩,fun o m f=> ?_⟩;have:=HT ha d c.1 f;have:=k _ (IU m g) this.1;rw[(HT ha d c.1 f).2]at this;exact this
theorem HL.fit{σ j:Nat->Ly}{zs:Ll}(hi:HL (a::xs) (b::ys))(ha:∀x∈a::xs,∀v,Cj v x->v<V)(k:∀v,Cj v h->V<=v)(hz:∀d∈zs,∀v,Cj v d->V<=v)(m:I5 σ a h)(c:I5 j b h):
  HL ((zs++(a::xs)).map (ap σ)) ((zs++(b::ys)).map (ap j)):=by
 obtain⟨p,e,f⟩:=hi;have g:=f;simp only[Qx,QI]at g;have l:=HT (ha a Ys) k g.1 c.unif;have i:=m.wide _ (IU c.ts e) l.1;refine⟨_,IU (V:=V) c.ts e,?_⟩;rw[f,Qr,Qr,Qr,QK,QK,QK]
 congr 1
 ·refine List.map_congr_left (fun d o=> ?_);simp only[Function.comp];rw[JB i,MA (hz d o)]
 ·refine List.map_congr_left (fun x n=> ?_);simp only[Function.comp];rw[JB i,P3 (ha x n)]
end
def ren(f:Nat->Nat)(s:BL):BL:=if s.name=[]then⟨[],f s.num,0⟩else s
theorem X1:∀{a:Nat->Ly},Ts a->∀{l:Ly},(ap a l).length<=l.length->∀n,Cj n l->(a n).length=1:=by
 intro a e l
 induction l with
 |nil=>intro _ n h;obtain⟨s,h,_⟩:=h;simp at h
 |cons s l g=>
  intro hl n hn;rw[Bw]at hl;simp only[Qg,Qf]at hl;have i:=Fe e l;have f:1<=(EG a s).length:=by
   unfold EG;split
   ·exact BN (e _)
   ·simp
  obtain⟨t,b,c,d⟩:=hn;rcases Qp.1 b with rfl|b
  ·have:EG a t=a n:=by unfold EG;rw[if_pos c,d]
   rw[this]at hl f;omega
  ·exact g Yo n ⟨t,b,c,d⟩
theorem RC{a b:Nat->Ly}(d:Ts a)(f:Ts b):∀{l:Ly},ap b (ap a l)=l->∀v,Cj v l->ap b (a v)=vr v:=by
 intro l
 induction l with
 |nil=>intro _ v h;obtain⟨s,h,_⟩:=h;simp at h
 |cons s l q=>
  intro e v p;rw[Bw,EQ]at e;have w:1<=(EG a s).length:=by
   unfold EG;split
   ·exact BN (d _)
   ·simp
  have x:=Fe f (EG a s);have y:=Fe f (ap a l);have z:=Fe d l;have u:=congrArg List.length e;simp only[Qg,Qf]at u;have m:=List.append_inj (s₁:=ap b (EG a s)) (s₂:=[s]) (t₁:=ap b (ap a l)) (t₂:=l) (by simpa using e) Yp;obtain⟨t,j,g,i⟩:=p;rcases Qp.1 j with rfl|j
  ·have c:=m.1;unfold EG at c;rw[if_pos g,i]at c;have n:=Iu f (d v);rw[c]at n⊢;obtain⟨A,r,k,_,o⟩:=KN n;simp only[QI]at k;obtain⟨rfl,_⟩:=k;rw[o g,i]
  ·exact q m.2 v ⟨t,j,g,i⟩
theorem DQ.ren{xs p:Ll}(h:DQ xs p):∃f g:Nat->Nat,p=xs.map (List.map (ren f))/\(∀x∈xs,∀v,Cj v x->g (f v)=v):=by
 obtain⟨⟨q,y,d⟩,⟨u,B,k⟩⟩:=h;have hl:xs.length=p.length:=by simpa using(congrArg List.length d).symm
 have w:∀x∈xs,ap u (ap q x)=x:=fun x a=>by
  rw[d,QK]at k;obtain⟨i,hi,rfl⟩:=Q8 a;have:=List.getElem_of_eq k hi;simpa using this.symm
 have o:∀x∈xs,∀v,Cj v x->∃n,q v=vr n/\u n=vr v:=fun x a v c=>by
  have hb:=RC y B (w x a) v c;obtain⟨t,r,e,E,hn⟩:=KN (y v)
  by_cases b:t.name=[]
  ·refine⟨t.num,by rw[e,<-hn b,e],?_⟩;rw[hn b,IT]at hb;exact hb
  ·rw[e,Bw]at hb;simp[EG,b,vr]at hb;rw[hb.1]at b;exact absurd rfl b
 refine⟨fun v=>((q v).head?.map BL.num).getD 0,fun v=>((u v).head?.map BL.num).getD 0,?_,?_⟩
 ·rw[d];refine List.map_congr_left (fun x a=> ?_);have z:=o x a;clear w o d k hl a
  induction x with
  |nil=>rfl
  |cons s l D=>
   rw[Bw,D (fun v c=>z v (by obtain⟨t,b,C⟩:=c;exact⟨t,QD _ b,C⟩)),Qx];unfold EG YtlmjilpjmgjjcaaGreatDoor.ren
   by_cases m:s.name=[]
   ·obtain⟨n,j,_⟩:=z s.num ⟨s,List.mem_cons_self ..,m,rfl⟩;simp[m,j,vr]
   ·simp[m]
 ·intro x a v c;obtain⟨n,j,A⟩:=o x a v c;simp[j,A,vr]
variable{G:Gr}
end Go.Proofs.YtlmjilpjmgjjcaaGreatDoor
