/-
  PROVED HERE: a region that draws its order, holds one call, and lays new variables for what comes out of it, goes one way but for where the variables lie (the conditions stand in the statement).
-/
import Derived.Test.YtlmjilpjmgjjcaaGreatDoorT2
import Derived.Deep.RegionWith
import Derived.Orders
set_option linter.unusedSimpArgs false
set_option linter.unusedVariables false
set_option maxRecDepth 10000
set_option maxHeartbeats 4000000
namespace Go.Proofs.YtlmjilpjmgjjcaaGreatDoor
open Go.RowKit
open _root_.Go.Proofs.Tryz
open Go.Value (int slice string agg pointer tuple)
open Go.IntKind (i64)
open Go.Ending (returned)
variable {w w' w1 w2 w0 wr:World}{k B b i p size cap M rb bW x:Nat}{v cv gv vv lv:Value}{xs ys vs:Lv}{X Y S:Np}{s:ByteArray}{t e:TypeId}{P:Program}{l:Ly}{ls ts:Ll}{ρ:Nat->Nat}{σ:Nat->Ly}{cs:Lc}{c:Db}{a:Ll×At}{ds r:Ln}{st:RS}{L:Bj}{G:Gr}{A:List Lu}
def Bh(k:Nat):Nat:=if k=1 then 1 else if k=2 then 2 else if k=40 then 3 else if k=41 then 4 else if k=44 then 5 else if k=46 then 6 else if k=3 then 7 else 8
def E9(k:Nat):Prop:=k=1\/k=2\/k=40\/k=41\/k=44\/k=46\/k=3\/k=5
theorem Vn(c:UInt8)(h:Ey c E4=true):c=40\/c=41\/c=44\/c=46:=by
 have:=Dv (p:=fun c=> !Ey c E4||(c==40||c==41||c==44||c==46)) (by decide+kernel) c;simpa[h,or_assoc]using this
theorem Tt(c:UInt8)(h:Ey c E4=false):¬c=40/\¬c=41/\¬c=44/\¬c=46:=by
 have:=Dv (p:=fun c=>Ey c E4|| !(c==40||c==41||c==44||c==46)) (by decide+kernel) c;simpa[h,not_or,and_assoc]using this
theorem LJ(c:UInt8)(r:Lu):
  (A5 c r=(1,AX r)/\Ca c (r.head?.getD 0)=1/\Ey c EC=true)\/(A5 c r=(2,AX r)/\Ca c (r.head?.getD 0)=2/\Ey c EC=true)\/
  (A5 c r=(40,0)/\Ca c (r.head?.getD 0)=3)\/(A5 c r=(41,0)/\Ca c (r.head?.getD 0)=4)\/(A5 c r=(44,0)/\Ca c (r.head?.getD 0)=5)\/(A5 c r=(46,0)/\Ca c (r.head?.getD 0)=6)\/
  (A5 c r=(3,1)/\Ca c (r.head?.getD 0)=7)\/(A5 c r=(5,0)/\Ca c (r.head?.getD 0)=8):=by
 unfold A5 Ca
 cases k:Ey c CT
 ·cases l:Ey c DC
  ·cases j:Ey c E4
   ·obtain⟨b,f,g,i⟩:=Tt c j;have hd:(c=58/\r.head?=some 45)↔(c=58/\r.head?.getD 0=45):=by
     cases r with
     |nil=>simp
     |cons d r=>simp
    by_cases h:c=58/\r.head?=some 45
    ·have a:=hd.1 h;simp only[JQ,if_false,QP b,QP f,QP g,QP i,QQ h,QQ a];simp
    ·have a:¬(c=58/\r.head?.getD 0=45):=fun e=>h (hd.2 e);simp only[JQ,if_false,QP b,QP f,QP g,QP i,QP h,QP a];simp
   ·rcases Vn c j with rfl|rfl|rfl|rfl<;>simp
  ·simp[Hq l]
 ·simp[Hb k]
theorem Jz(c:UInt8)(r:Lu):Bh (A5 c r).1=Ca c (r.head?.getD 0)/\E9 (A5 c r).1:=by
 rcases LJ c r with⟨a,b,_⟩|⟨a,b,_⟩|⟨a,b⟩|⟨a,b⟩|⟨a,b⟩|⟨a,b⟩|⟨a,b⟩|⟨a,b⟩<;>rw[a,b]<;>exact⟨rfl,by unfold E9;simp⟩
theorem Vg(s:ByteArray)(p:Nat)(c:UInt8)(r:Lu)(hd:s.data.toList.drop p=c::r):I7 s p (Ca c (r.head?.getD 0))=p+((A5 c r).2+1):=by
 rcases LJ c r with⟨a,b,d⟩|⟨a,b,d⟩|⟨a,b⟩|⟨a,b⟩|⟨a,b⟩|⟨a,b⟩|⟨a,b⟩|⟨a,b⟩<;>rw[a,b]<;>simp[I7,hd]
 ·rw[Ei c r d]
 ·rw[Ei c r d]
theorem KC(s:ByteArray)(p:Nat):CG s p=(s.data.toList.drop p).head?.getD 0:=by
 unfold CG;rw[List.head?_drop]
theorem Rf:∀(l:Lu)(p:Nat),CZ l p=CZ (l.drop (B4 l)) (p+B4 l):=by
 intro l
 induction l with
 |nil=>intro p;rfl
 |cons c r a=>
  intro p;unfold B4
  cases h:E7 c
  ·simp
  ·rw[Lx c r p h,a (p+1)];simp only[QQ,List.drop_succ_cons]
   congr 1
   omega
theorem RR(l:Lu)(c:UInt8)(r:Lu)(h:l.drop (B4 l)=c::r):E7 c=false:=by
 induction l with
 |nil=>simp[B4]at h
 |cons d l a=>
  unfold B4 at h
  cases hb:E7 d
  ·rw[hb]at h;simp at h;rw[<-h.1];exact hb
  ·rw[hb]at h;simp only[QQ,List.drop_succ_cons]at h;exact a h
theorem Uz(s:ByteArray)(p k:Nat):(s.extract p (p+k)).data.toList=(s.data.toList.drop p).take k:=by
 rw[ByteArray.data_extract,Array.toList_extract,List.extract_eq_take_drop]
 congr 1
 omega
theorem UI(s:ByteArray)(n:Nat)(hn:n<=s.size):
  (HC s n=(0,s.size,s.size)/\CZ (s.data.toList.drop n) n=[])\/
  ∃t q,HC s n=(Bh t.kind,t.pos,q)/\CZ (s.data.toList.drop n) n=t::CZ (s.data.toList.drop q) q/\E9 t.kind/\n<=t.pos/\t.pos<q/\q<=s.size/\s.extract t.pos q=⟨t.text.toArray⟩/\t.text.length=q-t.pos:=by
 have hl:s.data.toList.length=s.size:=by rw[Array.length_toList];rfl
 rw[Rf,JV];unfold HC;obtain⟨p,b⟩:=Ex (n+B4 (s.data.toList.drop n));rw[<-b]
 by_cases h:p<s.size
 ·right;rw[QQ h];obtain⟨c,r,hd⟩:∃c r,s.data.toList.drop p=c::r:=by
   cases d:s.data.toList.drop p with
   |nil=>
    have:=congrArg List.length d;simp only[JI,Qt]at this;omega
   |cons c r=>exact⟨c,r,rfl⟩
  have hb:E7 c=false:=RR (s.data.toList.drop n) c r (by rw[JV,<-b];exact hd);have g:s.data.toList.drop (p+1)=r:=by rw[<-JV,hd];rfl
  have e:CG s p=c:=by rw[KC,hd];rfl
  have f:CG s (p+1)=r.head?.getD 0:=by rw[KC,g]
  have i:=Nx c r;have a:(s.data.toList.drop p).length=s.size-p:=by rw[JI,hl]
  rw[hd]at a;simp only[Qf]at a;rw[e,f,hd,MX c r p hb];refine⟨⟨(A5 c r).1,(c::r).take ((A5 c r).2+1),p⟩,p+((A5 c r).2+1),?_,?_,(Jz c r).2,by simp only;omega,by simp only;omega,Yo,?_,?_⟩
  ·rw[Vg s p c r hd,(Jz c r).1]
  ·congr 2
   ·rw[<-JV,hd];rfl
  ·have:(s.extract p (p+((A5 c r).2+1))).data.toList=(c::r).take ((A5 c r).2+1):=by rw[Uz,hd]
   simp only;rw[<-this]
  ·simp;omega
 ·left;rw[QP h];refine⟨rfl,?_⟩;rw[QW Yo];rfl
structure RI(k:Nat)(st:RS):Prop where
 opnl:st.opn.length<=k
 atoml:st.atom.length<=k
 bodyl:st.body.length<=k
 clsl:st.clauses.length<=k
 varsl:st.vars.length<=k
 args:∀s∈st.atom,s.args<=k
 next:st.next<=5
 opn:∀n∈st.opn,n<st.atom.length
 name:st.next=3->0<st.atom.length
theorem RI.bd(h:RI k st)(b:k<=4000):LZ st:=
 ⟨Qq h.opnl Yo,Qq h.atoml Yo,Qq h.bodyl Yo,Qq h.clsl Yo,fun s a=>Qq (h.args s a) Yo⟩
theorem Hn{kd len:Nat}(h:Bg st kd len=0):A2 st kd=true:=by
 unfold Bg at h;split at h
 ·omega
 ·rename_i a;simpa using a
theorem Hx{kd:Nat}(h:A2 st kd=true)(hn:st.next<=5):1<=kd/\kd<=7/\(kd=3->st.next=3)/\(kd=6\/kd=7->st.opn=[]):=by
 have fol:Bn st kd=true->(kd=4\/kd=5\/kd=6\/kd=7)/\(kd=6\/kd=7->st.opn=[]):=by
  unfold Bn
  cases d:st.opn with
  |nil=>
   simp only[List.isEmpty_nil,Ja];intro h;refine⟨?_,fun _=>trivial⟩;split at h
   ·simp at h;omega
   ·simp at h;omega
  |cons n r=>
   simp only[List.isEmpty_cons];intro h;simp at h;exact⟨Yo,fun h=>by omega⟩
 unfold A2 at h;split at h
 ·simp at h;subst h;simp
 ·split at h
  ·simp at h;rcases h with rfl|rfl<;>simp
  ·split at h
   ·rename_i c;simp only[JO,JF]at h;rcases h with rfl|h
    ·exact⟨Yo,Yo,fun _=>c,Yo⟩
    ·obtain⟨b,a⟩:=fol h;exact⟨Yo,Yo,Yo,a⟩
   ·split at h
    ·obtain⟨b,a⟩:=fol h;exact⟨Yo,Yo,Yo,a⟩
    ·simp at h
theorem RI.takes{kd:Nat}(h:RI k st)(d:k<=4000)(f:A2 st kd=true):V9 st kd:=by
 obtain⟨a,b,c,g⟩:=Hx f h.next;have:=h.varsl;have:=h.bodyl;exact⟨h.bd d,Yo,Yo,h.opn,a,b,fun e=>h.name (c e)⟩
theorem IT(st:RS):(Bq st).length=st.atom.length:=by unfold Bq;split<;>simp
theorem T8(st:RS)(h:∀s∈st.atom,s.args<=k):∀s∈Bq st,s.args<=k+1:=by
 unfold Bq;split
 ·exact fun s a=>JY (h s a)
 ·rename_i n r c;intro s a;obtain⟨i,hi⟩:=List.getElem?_of_mem a;rw[JL]at hi
  cases b:st.atom[i]? with
  |none=>rw[b]at hi;simp at hi
  |some x=>
   rw[b]at hi;have:=h x (Qh b);simp at hi;split at hi
   ·subst hi;simpa using this
   ·subst hi;omega
theorem RI.mono(h:RI k st):RI (k+1) st:=
 ⟨JY h.opnl,JY h.atoml,JY h.bodyl,JY h.clsl,JY h.varsl,fun s a=>JY (h.args s a),h.next,h.opn,h.name⟩
theorem RI.at{m:Nat}(h:RI k st)(a:k<=m):RI m st:=
 ⟨Qq h.opnl a,Qq h.atoml a,Qq h.bodyl a,Qq h.clsl a,Qq h.varsl a,fun s b=>Qq (h.args s b) a,h.next,h.opn,h.name⟩
theorem RI.add(h:RI k st)(s:BJ)(d:s.args=0)(n:Nat)(hn:n<=5)(vars:At)(b:vars.length<=k+1):RI (k+1) {Fn st s with next:=n,vars:=vars}:=by
 have hl:=IT st;have h0:=h.atoml;have c:=h.opnl;refine⟨by simp[Fn];omega,by simp[Fn,hl];omega,JY h.bodyl,JY h.clsl,b,?_,hn,?_,?_⟩
 ·intro x a;simp only[Fn,Qk,JP]at a;rcases a with a|rfl
  ·exact T8 st h.args x a
  ·omega
 ·intro x a;have:=h.opn x a;simp only[Fn,Qg,hl,Qn];omega
 ·intro _;simp[Fn]
theorem RI.ends(h:RI k st)(f:st.opn=[])(n:Nat)(hn:n<=5)(c:n≠3)(b:Bool):RI (k+1) {AG st with next:=n,inBody:=b}:=by
 have h0:=h.bodyl;have ha:(AG st).atom=[]:=by unfold AG;split<;>rfl
 have hb:(AG st).body.length<=k+1:=by unfold AG;split<;>simp<;>omega
 have d:(AG st).clauses=st.clauses:=by unfold AG;split<;>rfl
 have g:(AG st).vars=st.vars:=by unfold AG;split<;>rfl
 have a:(AG st).opn=[]:=by unfold AG;split<;>exact f
 have:=h.clsl;have:=h.varsl;exact⟨by simp[a],by simp[ha],hb,by simp only[d];omega,by simp only[g];omega,by simp[ha],hn,by simp[a],fun e=>absurd e c⟩
theorem RI.take{kd:Nat}(t:Lu)(h:RI k st)(j:A2 st kd=true):RI (k+1) (AT st kd t):=by
 obtain⟨p,q,f,b⟩:=Hx j h.next;have g:kd=1\/kd=2\/kd=3\/kd=4\/kd=5\/kd=6\/kd=7:=Yo
 have l:=h.opnl;have o:=h.varsl;rcases g with rfl|rfl|rfl|rfl|rfl|rfl|rfl
 ·exact h.add ⟨t,0,0⟩ rfl 3 Yo st.vars Yo
 ·have u:=I9 st.vars t;exact h.add ⟨[],(A8 st.vars t).2,0⟩ rfl 4 Yo (A8 st.vars t).1 Yo
 ·have s:=h.name (f rfl);have m:=h.mono;refine⟨by simp[AT];omega,m.atoml,m.bodyl,m.clsl,m.varsl,m.args,by simp[AT],?_,by simp[AT]⟩;intro n hn;simp only[AT,Qp]at hn;simp at hn;show n<st.atom.length;rcases hn with rfl|hn
  ·omega
  ·exact h.opn n hn
 ·have m:=h.mono;refine⟨by simp[AT,F4];omega,m.atoml,m.bodyl,m.clsl,m.varsl,m.args,by simp[AT],?_,by simp[AT]⟩;intro n hn;simp[AT,F4]at hn;exact h.opn n (List.mem_of_mem_tail hn)
 ·show RI (k+1) (Ev st);unfold Ev
  cases c:st.opn with
  |nil=>
   have:=h.ends c 1 Yo Yo (AG st).inBody;simpa using this
  |cons n r=>
   have m:=h.mono;simp only[List.isEmpty_cons,JQ,if_false];have d:=m.opnl;have e:=m.opn;rw[c]at d e;exact⟨d,m.atoml,m.bodyl,m.clsl,m.varsl,m.args,Ys,e,Ys⟩
 ·show RI (k+1) (AE (AG st));have a:=h.ends (b Yo) 0 Yo Yo false;have i:(AG st).clauses=st.clauses:=by unfold AG;split<;>rfl
  have:=h.clsl;refine⟨a.opnl,a.atoml,by simp[AE],by simp[AE,i];omega,by simp[AE],a.args,?_,a.opn,?_⟩
  ·simp only[AE];split<;>omega
  ·simp only[AE];split<;>omega
 ·exact h.ends (b Yo) 1 Yo Yo true
def EF(e:Nat):List BV->RS->Nat×Nat×RS
 |[],st=>if st.next≠0/\st.next≠5 then(2,e,st)else(0,0,st)
 |t::ts,st=>if Bg st (Bh t.kind) t.text.length≠0 then(Bg st (Bh t.kind) t.text.length,t.pos,st)else EF e ts (AT st (Bh t.kind) t.text)
def Ds(l:Ly)(n:Nat):Nat:=(l[n]?.map (fun s=>s.args)).getD 0
structure Wj(st:RS)(L:Bj):Prop where
 want:L.want=st.next
 query:L.query=st.query
 err:L.err=0
 n5:st.next<=5
 stk:L.stk=st.opn.map (Ds st.atom)
 opn:∀n∈st.opn,n<st.atom.length
 down:st.opn.Pairwise (fun a b=>b<a)
 flat:st.next=0\/st.next=1\/st.next=5->st.atom=[]/\st.opn=[]
 size:st.next=2\/st.next=3\/st.next=4->L.size=st.atom.length
 open2:st.next=2->st.opn≠[]
 name:st.next=3->0<st.atom.length/\Ds st.atom (st.atom.length-1)=0/\∀n∈st.opn,n<st.atom.length-1
 inb:st.next≠0->st.next≠5->L.body=st.inBody
 inb1:st.next=1->st.inBody=true
 goals:st.inBody=true->st.next≠0->st.next≠5->L.goals=st.body.length+(if st.next=1 then 0 else 1)
 heads:st.query=false->L.heads=st.clauses.length+(if st.next=0 then 0 else 1)
 hd:st.inBody=false->st.body=[]
 q0:st.query=true->st.next≠0
 h0:st.next=0->st.inBody=false
theorem Tp(l:Ly)(n:Nat)(s:BJ)(h:n<l.length):Ds (l.modify n (fun s=>{s with args:=s.args+1})++[s]) n=Ds l n+1:=by
 unfold Ds;rw[Qc (by simpa using h),JL,Qb h];simp
theorem OZ(l:Ly)(n m:Nat)(s:BJ)(h:m<l.length)(a:m≠n):Ds (l.modify n (fun s=>{s with args:=s.args+1})++[s]) m=Ds l m:=by
 unfold Ds;rw[Qc (by simpa using h),JL];have:¬n=m:=fun e=>a e.symm
 cases l[m]? <;>simp[this]
theorem R0(l:Ly)(s:BJ):Ds (l++[s]) l.length=s.args:=by
 unfold Ds;simp
theorem TC:Bh 1=1:=rfl
theorem XJ:Bh 2=2:=rfl
theorem Oi:Bh 40=3:=rfl
theorem WH:Bh 41=4:=rfl
theorem NW:Bh 44=5:=rfl
theorem NE:Bh 46=6:=rfl
theorem XK:Bh 3=7:=rfl
theorem F8(a:E9 k):(Bh k=1↔k=1)/\(Bh k=2↔k=2):=by
 rcases a with rfl|rfl|rfl|rfl|rfl|rfl|rfl|rfl<;>simp[Bh]
theorem U9(h:Wj st L)(k len:Nat)(t:Lu)(u:E9 k)(hn:st.next=0\/st.next=1):
  Bg st (Bh k) len=(Bi L k len).err/\((Bi L k len).err=0->Wj (AT st (Bh k) t) (Bi L k len)):=by
 obtain⟨ha,a⟩:=h.flat Yo;have f:=h.stk;rw[a]at f;simp only[QX]at f;have r:=h.want;have q:=h.err;have w:Bi L k len=AH L k len:=by rw[Bi,QQ Yo]
 rw[w]
 by_cases m:k=1
 ·subst m;have g:A2 st 1=true:=by unfold A2;rw[QQ Yo];rfl
  have p:Bq st=[]:=by simp[Bq,a,ha]
  rcases hn with hn|hn
  ·have n:st.query=false:=by
    cases n:st.query
    ·rfl
    ·exact absurd hn (h.q0 n)
   have b:=h.heads n;rw[QQ hn]at b;have j:Df st=decide (24<=st.clauses.length):=by simp[Df,hn]
   have hl:AH L 1 len={L with heads:=L.heads+1,body:=false,size:=1,err:=if 8<len\/30<0+1 then 3 else if 24<L.heads+1 then 3 else L.err,want:=3}:=by
    simp[AH,FI,AR,r,hn]
   rw[hl,TC];constructor
   ·simp only[Bg,g,j,q];rw[b]
    by_cases c:8<len
    ·simp[c]
    ·by_cases d:24<=st.clauses.length
     ·rw[QP Ys,QQ (by simp[d]),QP Yo,QQ Yo]
     ·rw[QP Ys,QP (by simp[c,d]<;>omega),QP Yo,QP Yo]
   ·intro i;have o:AT st 1 t={st with atom:=[⟨t,0,0⟩],next:=3}:=by simp[AT,Fn,p]
    rw[o];exact{
     want:=rfl
     query:=h.query
     err:=i
     n5:=Ys
     stk:=by simp[a,f]
     opn:=by simp[a]
     down:=by simp[a]
     flat:=Ys
     size:=Ys
     open2:=Ys
     name:=by simp[a,Ds]
     inb:=by simp[h.h0 hn]
     inb1:=Ys
     goals:=by simp[h.h0 hn]
     heads:=by simp[b]
     hd:=h.hd
     q0:=Ys
     h0:=by simp}
  ·have s:=h.inb1 hn;have l:=h.goals s Yo Yo;rw[QQ hn]at l;have j:Df st=decide (6<=st.body.length):=by simp[Df,hn]
   have hl:AH L 1 len={L with goals:=L.goals+1,size:=1,err:=if 8<len\/30<0+1 then 3 else if 6<L.goals+1 then 3 else L.err,want:=3}:=by
    simp[AH,FI,AR,r,hn]
   rw[hl,TC];constructor
   ·simp only[Bg,g,j,q];rw[l]
    by_cases c:8<len
    ·simp[c]
    ·by_cases d:6<=st.body.length
     ·rw[QP Ys,QQ (by simp[d]),QP Yo,QQ Yo]
     ·rw[QP Ys,QP (by simp[c,d]<;>omega),QP Yo,QP Yo]
   ·intro i;have o:AT st 1 t={st with atom:=[⟨t,0,0⟩],next:=3}:=by simp[AT,Fn,p]
    have b:=h.heads;rw[QP Yo]at b;rw[o];exact{
     want:=rfl
     query:=h.query
     err:=i
     n5:=Ys
     stk:=by simp[a,f]
     opn:=by simp[a]
     down:=by simp[a]
     flat:=Ys
     size:=Ys
     open2:=Ys
     name:=by simp[a,Ds]
     inb:=fun _ _=>h.inb Yo Yo
     inb1:=Ys
     goals:=by simp[l]
     heads:=by simpa using b
     hd:=h.hd
     q0:=Ys
     h0:=by simp}
 ·have v:¬Bh k=1:=fun e=>m ((F8 u).1.1 e);have g:A2 st (Bh k)=false:=by unfold A2;rw[QQ Yo];simpa using v
  have hl:AH L k len={L with err:=2}:=by
   unfold AH;rw[QQ ⟨m,QO Yo⟩]
  rw[hl];exact⟨by simp[Bg,g],Ys⟩
theorem Xy(h:Wj st L)(k len:Nat)(t:Lu)(w:E9 k)(hn:st.next=2):
  Bg st (Bh k) len=(Bi L k len).err/\((Bi L k len).err=0->Wj (AT st (Bh k) t) (Bi L k len)):=by
 have G:=h.want;have C:=h.err;have E:Bi L k len=AH L k len:=by rw[Bi,QQ Yo]
 rw[E];obtain⟨n,r,a⟩:∃n r,st.opn=n::r:=by
  cases f:st.opn with
  |nil=>exact absurd f (h.open2 hn)
  |cons n r=>exact⟨n,r,rfl⟩
 have z:=h.stk;rw[a,Qx]at z;have F:=h.opn n (by rw[a];simp);have o:=h.size Yo;have hd:=h.down;rw[a,List.pairwise_cons]at hd
 by_cases c:k=1\/k=2
 ·have j:A2 st (Bh k)=true:=by
   unfold A2;rw[QP Yo,QQ hn];rcases c with rfl|rfl<;>rfl
  have A:Gn st=Ds st.atom n:=by
   unfold Gn Ds;rw[a];simp only
   cases st.atom[n]? <;>rfl
  have D:Df st=(decide (30<=st.atom.length)||decide (4<=Ds st.atom n)):=by simp[Df,hn,A]
  have hl:AH L k len={L with stk:=(Ds st.atom n+1)::r.map (Ds st.atom),size:=L.size+1,err:=if 8<len\/30<L.size+1 then 3 else if 4<Ds st.atom n+1 then 3 else L.err,want:=if k=1 then 3 else 4}:=by
   unfold AH;rw[QP Yo];simp[FI,AR,G,hn,z]
  rw[hl];have d:Bh k=1\/Bh k=2:=by rcases c with rfl|rfl<;>simp[Bh]
  have B:Bq st=st.atom.modify n (fun s=>{s with args:=s.args+1}):=by simp[Bq,a]
  constructor
  ·simp only[Bg,j,D,C];rw[o]
   by_cases p:8<len
   ·simp[p,d]
   ·by_cases f:30<=st.atom.length
    ·rw[QP Ys,QQ ⟨d,QO (by simp[f])⟩,QQ Yo]
    ·by_cases q:4<=Ds st.atom n
     ·rw[QP Ys,QQ ⟨d,QO (by simp[q])⟩,QP Yo,QQ Yo]
     ·rw[QP Ys,QP (by simp[p,f,q]<;>omega),QP Yo,QP Yo]
  ·intro u;have x:∀(s:BJ),st.opn.map (Ds (Bq st++[s]))=(Ds st.atom n+1)::r.map (Ds st.atom):=by
    intro s;rw[a,Qx,B,Tp _ _ _ F]
    congr 1
    apply JE;intro m g;exact OZ _ _ _ _ (h.opn m (by rw[a];simp[g])) (by have:=hd.1 m g;omega)
   have b:=IT st;have y:∀m∈st.opn,m<st.atom.length+1:=fun m g=>Nat.lt_succ_of_lt (h.opn m g);have i:=h.heads;rw[QP Yo]at i;have v:=h.goals;rcases c with rfl|rfl
   ·have l:AT st (Bh 1) t={st with atom:=Bq st++[⟨t,0,0⟩],next:=3}:=by simp[TC,AT,Fn]
    rw[l];exact{
     want:=rfl
     query:=h.query
     err:=u
     n5:=Ys
     stk:=(x _).symm
     opn:=by simpa[b]using y
     down:=h.down
     flat:=Ys
     size:=by simp[o,b]
     open2:=Ys
     name:=by
      intro _;refine⟨Ys,?_,?_⟩
      ·have:=R0 (Bq st) ⟨t,0,0⟩;simpa using this
      ·simpa[b]using h.opn
     inb:=fun _ _=>h.inb Yo Yo
     inb1:=Ys
     goals:=fun hi _ _=>by have:=v hi Yo Yo;rw[QP Yo]at this;simpa using this
     heads:=by simpa using i
     hd:=h.hd
     q0:=Ys
     h0:=by simp}
   ·have l:AT st (Bh 2) t={st with atom:=Bq st++[⟨[],(A8 st.vars t).2,0⟩],vars:=(A8 st.vars t).1,next:=4}:=by simp[XJ,AT,Fn,My,Bq,a]
    rw[l];exact{
     want:=rfl
     query:=h.query
     err:=u
     n5:=Ys
     stk:=(x _).symm
     opn:=by simpa[b]using y
     down:=h.down
     flat:=Ys
     size:=by simp[o,b]
     open2:=Ys
     name:=Ys
     inb:=fun _ _=>h.inb Yo Yo
     inb1:=Ys
     goals:=fun hi _ _=>by have:=v hi Yo Yo;rw[QP Yo]at this;simpa using this
     heads:=by simpa using i
     hd:=h.hd
     q0:=Ys
     h0:=by simp}
 ·have d:¬Bh k=1/\¬Bh k=2:=⟨fun e=>c (QG ((F8 w).1.1 e)),fun e=>c (QO ((F8 w).2.1 e))⟩;have j:A2 st (Bh k)=false:=by unfold A2;rw[QP Yo,QQ hn];simpa using d
  have hl:AH L k len={L with err:=2}:=by
   unfold AH;rw[QQ Yo]
  rw[hl];exact⟨by simp[Bg,j],Ys⟩
theorem R9(h:Wj st L)(k len:Nat)(t:Lu)(y:E9 k)(hn:st.next=3\/st.next=4):
  Bg st (Bh k) len=(Bi L k len).err/\((Bi L k len).err=0->Wj (AT st (Bh k) t) (Bi L k len)):=by
 have N:=h.want;have d:=h.err;have J:Bi L k len=Am L k:=by rw[Bi,QP Yo,QP Yo]
 rw[J];have F:=h.size Yo;have w:=h.inb Yo Yo;have E:=h.stk;have q:=h.heads;rw[QP Yo]at q;have g:=h.query;have M:L.stk=[]↔st.opn=[]:=by rw[E];simp
 have s:∀b,A2 st (Bh k)=b->(Bh k≠1/\Bh k≠2)->Bg st (Bh k) len=if b then 0 else 2:=by
  intro b hb o;subst hb;unfold Bg
  cases A2 st (Bh k)<;>simp[o]
 have j:∀kd,A2 st kd=((kd==3&&decide (st.next=3))||Bn st kd):=by
  intro kd;unfold A2;rw[QP Yo,QP Yo];rcases hn with hn|hn<;>simp[hn]
 by_cases B:k=1\/k=2\/k=5
 ·have c:A2 st (Bh k)=false:=by
   rw[j];rcases B with rfl|rfl|rfl<;>(unfold Bn;simp[Bh])
  have hl:Am L k={L with err:=2}:=by
   rcases B with rfl|rfl|rfl<;>(unfold Am;simp)
  rw[hl];exact⟨by simp[Bg,c],Ys⟩
 ·have o:Bh k≠1/\Bh k≠2:=⟨fun e=>B (QG ((F8 y).1.1 e)),fun e=>B (QO (QG ((F8 y).2.1 e)))⟩
  by_cases D:k=40
  ·subst D
   by_cases C:st.next=3
   ·have c:A2 st (Bh 40)=true:=by rw[j];simp[Oi,C]
    have hl:Am L 40={L with stk:=0::L.stk,want:=2}:=by simp[Am,N,C]
    rw[hl,s true c o];refine⟨d.symm,fun _=> ?_⟩;obtain⟨Q,O,P⟩:=h.name C;have i:AT st (Bh 40) t={st with opn:=(st.atom.length-1)::st.opn,next:=2}:=by simp[Oi,AT]
    rw[i];exact{
     want:=rfl
     query:=g
     err:=d
     n5:=Ys
     stk:=by simp[E,O]
     opn:=by
      intro m x;simp only[Qp]at x;rcases x with rfl|x
      ·show st.atom.length-1<st.atom.length;omega
      ·exact h.opn m x
     down:=by
      rw[List.pairwise_cons];exact⟨P,h.down⟩
     flat:=Ys
     size:=fun _=>F
     open2:=Ys
     name:=Ys
     inb:=fun _ _=>w
     inb1:=Ys
     goals:=fun hi _ _=>by have:=h.goals hi Yo Yo;rw[QP Yo]at this;simpa using this
     heads:=by simpa using q
     hd:=h.hd
     q0:=Ys
     h0:=by simp}
   ·have c:A2 st (Bh 40)=false:=by
     rw[j];unfold Bn;simp[Oi,C]
    have hl:Am L 40={L with err:=2}:=by
     unfold Am;have:¬L.want=3:=Yo
     simp[this]
    rw[hl];exact⟨by simp[Bg,c],Ys⟩
  ·cases a:st.opn with
   |nil=>
    have f:L.stk=[]:=M.2 a
    cases hb:st.inBody with
    |false=>
     have l:∀kd,Bn st kd=(kd==7||kd==6):=by intro kd;simp[Bn,a,hb]
     have u:L.body=false:=w.trans hb
     by_cases H:k=3
     ·subst H;have c:A2 st (Bh 3)=true:=by rw[j,l];rfl
      have hl:Am L 3={L with body:=true,goals:=0,want:=1}:=by simp[Am,f,u]
      rw[hl,s true c o];refine⟨d.symm,fun _=> ?_⟩;have i:AT st (Bh 3) t={st with head:=st.atom,atom:=[],inBody:=true,next:=1}:=by simp[XK,AT,AG,hb]
      rw[i];exact{
       want:=rfl
       query:=g
       err:=d
       n5:=Ys
       stk:=by simp[f,a]
       opn:=by simp[a]
       down:=by simp[a]
       flat:=by simp[a]
       size:=Ys
       open2:=Ys
       name:=Ys
       inb:=Ys
       inb1:=Ys
       goals:=by simp[h.hd hb]
       heads:=by simpa using q
       hd:=Ys
       q0:=Ys
       h0:=by simp}
     ·by_cases A:k=46
      ·subst A;have c:A2 st (Bh 46)=true:=by rw[j,l];rfl
       have hl:Am L 46={L with want:=if L.query then 5 else 0}:=by cases g:L.query<;>simp[Am,f,u,g]
       rw[hl,s true c o];refine⟨d.symm,fun _=> ?_⟩;have i:AT st (Bh 46) t={st with clauses:=st.clauses++[⟨st.atom,st.body,st.vars⟩],atom:=[],head:=[],body:=[],vars:=[],inBody:=false,next:=if st.query then 5 else 0}:=by simp[NE,AT,AG,AE,hb]
       rw[i];have K:(if st.query then 5 else 0:Nat)=0\/(if st.query then 5 else 0:Nat)=5:=by split<;>simp
       exact{
        want:=by rw[g]
        query:=g
        err:=d
        n5:=by simp only;omega
        stk:=by simp[f,a]
        opn:=by simp[a]
        down:=by simp[a]
        flat:=by simp[a]
        size:=by simp only;omega
        open2:=by simp only;omega
        name:=by simp only;omega
        inb:=by simp only;omega
        inb1:=by simp only;omega
        goals:=Ys
        heads:=by
         intro p;have p:st.query=false:=p;have:=q p;simp[p,this]
        hd:=Ys
        q0:=by intro v;have v:st.query=true:=v;simp[v]
        h0:=by simp}
      ·have c:A2 st (Bh k)=false:=by
        rw[j,l];rcases y with rfl|rfl|rfl|rfl|rfl|rfl|rfl|rfl<;>simp_all [Bh]
       have hl:Am L k={L with err:=2}:=by
        unfold Am;simp[D,f,u,H,A]
       rw[hl];exact⟨by simp[Bg,c],Ys⟩
    |true=>
     have l:∀kd,Bn st kd=(kd==5||kd==6):=by intro kd;simp[Bn,a,hb]
     have u:L.body=true:=w.trans hb;have G:=h.goals hb Yo Yo;rw[QP Yo]at G
     by_cases z:k=44
     ·subst z;have c:A2 st (Bh 44)=true:=by rw[j,l];rfl
      have hl:Am L 44={L with want:=1}:=by simp[Am,f,u]
      rw[hl,s true c o];refine⟨d.symm,fun _=> ?_⟩;have i:AT st (Bh 44) t={st with body:=st.body++[st.atom],atom:=[],next:=1}:=by simp[NW,AT,Ev,AG,a,hb]
      rw[i];exact{
       want:=rfl
       query:=g
       err:=d
       n5:=Ys
       stk:=by simp[f,a]
       opn:=by simp[a]
       down:=by simp[a]
       flat:=by simp[a]
       size:=Ys
       open2:=Ys
       name:=Ys
       inb:=fun _ _=>w
       inb1:=fun _=>hb
       goals:=by simp[G]
       heads:=by simpa using q
       hd:=by simp[hb]
       q0:=Ys
       h0:=by simp}
     ·by_cases A:k=46
      ·subst A;have c:A2 st (Bh 46)=true:=by rw[j,l];rfl
       have hl:Am L 46={L with want:=if L.query then 5 else 0}:=by cases g:L.query<;>simp[Am,f,u,g]
       rw[hl,s true c o];refine⟨d.symm,fun _=> ?_⟩;have i:AT st (Bh 46) t={st with clauses:=st.clauses++[⟨st.head,st.body++[st.atom],st.vars⟩],atom:=[],head:=[],body:=[],vars:=[],inBody:=false,next:=if st.query then 5 else 0}:=by simp[NE,AT,AG,AE,hb]
       rw[i];have K:(if st.query then 5 else 0:Nat)=0\/(if st.query then 5 else 0:Nat)=5:=by split<;>simp
       exact{
        want:=by rw[g]
        query:=g
        err:=d
        n5:=by simp only;omega
        stk:=by simp[f,a]
        opn:=by simp[a]
        down:=by simp[a]
        flat:=by simp[a]
        size:=by simp only;omega
        open2:=by simp only;omega
        name:=by simp only;omega
        inb:=by simp only;omega
        inb1:=by simp only;omega
        goals:=Ys
        heads:=by
         intro p;have p:st.query=false:=p;have:=q p;simp[p,this]
        hd:=Ys
        q0:=by intro v;have v:st.query=true:=v;simp[v]
        h0:=by simp}
      ·have c:A2 st (Bh k)=false:=by
        rw[j,l];rcases y with rfl|rfl|rfl|rfl|rfl|rfl|rfl|rfl<;>simp_all [Bh]
       have hl:Am L k={L with err:=2}:=by
        unfold Am;simp[D,f,u,z,A]
       rw[hl];exact⟨by simp[Bg,c],Ys⟩
   |cons n r=>
    have f:L.stk=Ds st.atom n::r.map (Ds st.atom):=by rw[E,a];rfl
    have l:∀kd,Bn st kd=(kd==5||kd==4):=by intro kd;simp[Bn,a]
    by_cases z:k=44
    ·subst z;have c:A2 st (Bh 44)=true:=by rw[j,l];rfl
     have hl:Am L 44={L with want:=2}:=by simp[Am,f]
     rw[hl,s true c o];refine⟨d.symm,fun _=> ?_⟩;have i:AT st (Bh 44) t={st with next:=2}:=by simp[NW,AT,Ev,a]
     rw[i];exact{
      want:=rfl
      query:=g
      err:=d
      n5:=Ys
      stk:=E
      opn:=h.opn
      down:=h.down
      flat:=Ys
      size:=fun _=>F
      open2:=by simp[a]
      name:=Ys
      inb:=fun _ _=>w
      inb1:=Ys
      goals:=fun hi _ _=>by have:=h.goals hi Yo Yo;rw[QP Yo]at this;simpa using this
      heads:=by simpa using q
      hd:=h.hd
      q0:=Ys
      h0:=by simp}
    ·by_cases I:k=41
     ·subst I;have c:A2 st (Bh 41)=true:=by rw[j,l];rfl
      have hl:Am L 41={L with stk:=r.map (Ds st.atom),want:=4}:=by simp[Am,f]
      rw[hl,s true c o];refine⟨d.symm,fun _=> ?_⟩;have i:AT st (Bh 41) t={st with opn:=r,next:=4}:=by simp[WH,AT,F4,a]
      rw[i];have hd:=h.down;rw[a,List.pairwise_cons]at hd;exact{
       want:=rfl
       query:=g
       err:=d
       n5:=Ys
       stk:=rfl
       opn:=fun m x=>h.opn m (by rw[a];simp[x])
       down:=hd.2
       flat:=Ys
       size:=fun _=>F
       open2:=Ys
       name:=Ys
       inb:=fun _ _=>w
       inb1:=Ys
       goals:=fun hi _ _=>by have:=h.goals hi Yo Yo;rw[QP Yo]at this;simpa using this
       heads:=by simpa using q
       hd:=h.hd
       q0:=Ys
       h0:=by simp}
     ·have c:A2 st (Bh k)=false:=by
       rw[j,l];rcases y with rfl|rfl|rfl|rfl|rfl|rfl|rfl|rfl<;>simp_all [Bh]
      have hl:Am L k={L with err:=2}:=by
       unfold Am;simp[D,f,z,I]
      rw[hl];exact⟨by simp[Bg,c],Ys⟩
theorem Wn(h:Wj st L)(k len:Nat)(t:Lu)(a:E9 k):
  Bg st (Bh k) len=(Bi L k len).err/\((Bi L k len).err=0->Wj (AT st (Bh k) t) (Bi L k len)):=by
 have d:=h.n5;have e:=h.want;have b:(st.next=0\/st.next=1)\/st.next=2\/(st.next=3\/st.next=4)\/st.next=5:=Yo
 rcases b with hn|hn|hn|hn
 ·exact U9 h k len t a hn
 ·exact Xy h k len t a hn
 ·exact R9 h k len t a hn
 ·have hl:Bi L k len={L with err:=2}:=by rw[Bi,QP Yo,QQ Yo]
  have c:A2 st (Bh k)=false:=by unfold A2;simp[hn]
  rw[hl];exact⟨by simp[Bg,c],Ys⟩
def takes:List BV->RS->RS
 |[],st=>st
 |t::ts,st=>takes ts (AT st (Bh t.kind) t.text)
theorem IX(a b:List BV)(st:RS):takes (a++b) st=takes b (takes a st):=by
 induction a generalizing st with
 |nil=>rfl
 |cons t a c=>exact c _
theorem Xw(h:Wj st L)(hn:st.next≠0/\st.next≠5):(Bi L 4 0).err=2:=by
 have b:=h.want;unfold Bi
 by_cases a:L.want<=2
 ·rw[QQ a];simp[AH]
 ·rw[QP a,QP Yo];unfold Am;simp
theorem UU(e:Nat):∀(ts:List BV)(st:RS)(L:Bj),Wj st L->(∀t∈ts,E9 t.kind)->
  (EF e ts st).1=(Bb (ts++[⟨4,[],e⟩]) L).1/\((EF e ts st).1≠0->(EF e ts st).2.1=(Bb (ts++[⟨4,[],e⟩]) L).2)/\((EF e ts st).1=0->(EF e ts st).2.2=takes ts st):=by
 intro ts
 induction ts with
 |nil=>
  intro st L h _;have l:=h.want;simp only[Qz,Bb,EF,takes]
  by_cases hn:st.next≠0/\st.next≠5
  ·have a:=Xw h hn;simp only[Qt,a];rw[QQ hn,QP Yo];simp
  ·rw[QP hn,QQ (by refine⟨trivial,?_⟩;omega)];simp
 |cons t ts j=>
  intro st L h c;have d:=c t Ys;obtain⟨f,g⟩:=Wn h t.kind t.text.length t.text d;have b:¬(t.kind=4/\(L.want=5\/L.want=0)):=by
   rintro⟨b,_⟩;rcases d with h|h|h|h|h|h|h|h<;>omega
  simp only[Qy,Bb,EF,takes];rw[f,QP b]
  by_cases a:(Bi L t.kind t.text.length).err=0
  ·rw[QP (by simp[a]),QP (by simp[a])];exact j _ _ (g a) (fun k i=>c k (by simp[i]))
  ·rw[QQ a,QQ a];exact⟨rfl,fun _=>rfl,fun h=>absurd h a⟩
theorem Yx(q:Bool):Wj ⟨q,if q then 1 else 0,q,[],[],[],[],[],[]⟩ (AD q):=by
 cases q
 ·exact⟨rfl,rfl,rfl,Ys,rfl,Ys,Ys,Ys,Ys,Ys,Ys,Ys,Ys,Ys,by simp[AD],Ys,Ys,Ys⟩
 ·exact⟨rfl,rfl,rfl,Ys,rfl,Ys,Ys,Ys,Ys,Ys,Ys,by simp[AD],Ys,by simp[AD],Ys,Ys,Ys,Ys⟩
theorem UC:∀(f:Nat)(l:Lu)(p:Nat),∀t∈Gh f l p,E9 t.kind:=by
 intro f
 induction f with
 |zero=>intro l p t a;simp[Gh]at a
 |succ f b=>
  intro l p t a
  cases l with
  |nil=>simp[Gh]at a
  |cons c r=>
   rw[Gh]at a;split at a
   ·exact b _ _ t a
   ·simp only[Qp]at a;rcases a with rfl|a
    ·exact(Jz c r).2
    ·exact b _ _ t a
theorem GN(l:Lu)(p:Nat):∀t∈CZ l p,E9 t.kind:=UC _ l p
def D1(st:RS)(l:Ly)(names:At)(nx:Nat):RS:={st with atom:=Bq st++l,vars:=names,next:=nx}
def TX(n:Nat):Prop:=∀(ts:List BV)(L:Bj)(f:Nat)(st:RS),ts.length<=n->ts.length<=f->Jj ts L->fin ts->L.want<=2->L.err=0->(L.want=2->L.stk≠[])->(∀t r,ts=t::r->t.kind≠4)->
 ∃r L' m,Bo f ts st.vars=some r/\X5 r.2.1 L L' (AR L).stk/\r.2.1=ts.drop m/\r.2.1.length<ts.length/\takes (ts.take m) st=D1 st r.1 r.2.2 L'.want
theorem Eo{xs c:List BV}{y:BV}{b:Nat}(h:xs.drop b=y::c)(a:Nat)(st:RS):takes (xs.take (b+(1+a))) st=takes (c.take a) (AT (takes (xs.take b) st) (Bh y.kind) y.text)/\xs.drop (b+(1+a))=c.drop a:=by
 constructor
 ·rw[List.take_add,IX,h,Nat.add_comm 1 a];rfl
 ·rw[<-JV,h,Nat.add_comm 1 a];rfl
theorem Xq(A:Ly)(nm:Lu)(k:Nat)(B:Ly):(A++(⟨nm,0,k⟩:BJ)::B).modify A.length (fun s=>{s with args:=s.args+1})=A++⟨nm,0,k+1⟩::B:=by
 induction A with
 |nil=>simp
 |cons a A b=>simp[b]
theorem Vs(n f:Nat)(K:TX n):∀(g:Nat)(x:BV)(xs:List BV)(L:Bj)(m:Nat)(r:List Nat)(d:Ll)(st:RS)(A:Ly)(nm:Lu)(o:List Nat),xs.length<=n->xs.length<=f->xs.length+1<=g->x.kind≠41->
  Jj xs L->fin xs->L.want=2->L.stk=m::r->L.err=0->st.atom=A++⟨nm,0,d.length⟩::d.flatten->st.opn=A.length::o->
  ∃q w i,Cy (Bo f) g (x::xs) st.vars d=some q/\X5 q.2.1 L w r/\w.want=4/\q.2.1=xs.drop i/\q.2.1.length<xs.length/\
   takes (xs.take i) st={st with atom:=A++⟨nm,0,q.1.length⟩::q.1.flatten,opn:=o,vars:=q.2.2,next:=4}:=by
 intro g
 induction g with
 |zero=>intro x xs L m r d st A nm o z N O;omega
 |succ g aa=>
  intro x xs L m r d st A nm o z N O P D W H F C U j;have Z:∀t r,xs=t::r->t.kind≠4:=by
   rintro t r rfl ab;have:=(D4 D Yo).1;unfold Bi at this;rw[QQ Yo]at this;rcases EX C this with h|h<;>omega
  obtain⟨a,c,I,Y,ha,hd,hl,G⟩:=K xs L f st z Yo D W Yo C (by rw[F];simp) Z;have X:(AR L).stk=(m+1)::r:=by simp[AR,H,F]
  rw[X]at ha;rw[Cy,QP P,Y];simp only;have V:Bq st=A++⟨nm,0,d.length+1⟩::d.flatten:=by
   unfold Bq;rw[j];simp only;rw[U,Xq]
  cases E:a.2.1 with
  |nil=>rw[E]at ha;exact ha.fin.elim
  |cons y J=>
   rw[E]at ha hl hd;simp only[Qf]at hl;have B:(D1 st a.1 a.2.2 c.want).atom=A++⟨nm,0,(d++[a.1]).length⟩::(d++[a.1]).flatten:=by
    unfold D1;simp[V]
   rcases VQ ha with⟨k,p,l,b⟩|⟨k,p,l,b⟩
   ·have v:AT (D1 st a.1 a.2.2 c.want) (Bh y.kind) y.text={D1 st a.1 a.2.2 c.want with next:=2}:=by
     rw[k];simp[NW,AT,Ev,D1,j]
    obtain⟨q,M,i,Q,e,R,S,ac,T⟩:=aa y J (Am c 44) (m+1) r (d++[a.1]) {D1 st a.1 a.2.2 c.want with next:=2} A nm o Yo Yo Yo Yo p l (by rw[b]) (by rw[b];exact ha.stk) (by rw[b];exact ha.err) B j;obtain⟨s,u⟩:=Eo hd.symm i st;refine⟨q,M,I+(1+i),Q,⟨e.ok,e.fin,e.want,e.stk,e.err,?_,?_⟩,R,?_,Yo,?_⟩
    ·rw[e.query,b];exact ha.query
    ·rw[e.body,b];have:=ha.body;simp[H]at this⊢;exact this
    ·rw[u];exact S
    ·rw[s,G,v,T];rfl
   ·have v:AT (D1 st a.1 a.2.2 c.want) (Bh y.kind) y.text={D1 st a.1 a.2.2 c.want with opn:=o,next:=4}:=by
     rw[k];simp[WH,AT,F4,D1,j]
    obtain⟨s,u⟩:=Eo hd.symm 0 st;refine⟨(d++[a.1],J,a.2.2),Am c 41,I+(1+0),?_,⟨p,l,QG (by rw[b]),by rw[b],by rw[b];exact ha.err,by rw[b];exact ha.query,by rw[b];exact ha.body⟩,by rw[b],?_,by simp;omega,?_⟩
    ·cases g with
     |zero=>omega
     |succ g=>rw[Cy,QQ k]
    ·rw[u];rfl
    ·rw[s,G,v];show({D1 st a.1 a.2.2 c.want with opn:=o,next:=4}:RS)=_;have:({D1 st a.1 a.2.2 c.want with opn:=o,next:=4}:RS)={st with atom:=(D1 st a.1 a.2.2 c.want).atom,opn:=o,vars:=a.2.2,next:=4}:=rfl;rw[this,B]
theorem P1:∀n,TX n:=by
 intro n
 induction n with
 |zero=>
  intro ts L f st k p A l
  cases ts with
  |nil=>exact l.elim
  |cons t ts=>simp at k
 |succ n D=>
  intro ts L f st k p A l R K T O
  cases ts with
  |nil=>exact l.elim
  |cons t ts=>
   have F:=O t ts rfl;simp only[Qf]at k p
   cases f with
   |zero=>omega
   |succ f=>
    obtain⟨b,g⟩:=D4 A Yo;unfold Bi at b g;rw[QQ R]at b g;have N:=EX K b;obtain⟨c,s,v,w⟩:=Ia b N;have m:fin ts:=by
     rcases l with h|h
     ·exact absurd h F
     ·exact h
    by_cases o:t.kind=2
    ·rw[Bo,QQ o];refine⟨_,AH L t.kind t.text.length,1,rfl,⟨g,m,QG (by rw[c,o];rfl),s,b,v,w⟩,rfl,Ys,?_⟩;have P:AT st (Bh t.kind) t.text={st with atom:=Bq st++[⟨[],(A8 st.vars t.text).2,0⟩],vars:=(A8 st.vars t.text).1,next:=4}:=by rw[o];simp[XJ,AT,Fn,My,Bq]
     show AT st (Bh t.kind) t.text=_;rw[P,c,QP Yo];rfl
    ·have z:t.kind=1:=Yo
     have B:AT st (Bh t.kind) t.text={st with atom:=Bq st++[⟨t.text,0,0⟩],next:=3}:=by rw[z];simp[TC,AT,Fn]
     rw[Bo,QP o]
     cases ts with
     |nil=>exact m.elim
     |cons u d=>
      rw[FF];simp only[Qf]at k p;rw[QQ z]at c
      by_cases j:u.kind=40
      ·rw[QP (by simp[j])];obtain⟨x,r⟩:=D4 g Yo;unfold Bi at x r;rw[QP Yo,QP Yo,j]at x r;have e:Am (AH L t.kind t.text.length) 40={AH L t.kind t.text.length with stk:=0::(AH L t.kind t.text.length).stk,want:=2}:=by
        simp[Am,c]
       have M:fin d:=by
        rcases m with h|h
        ·omega
        ·exact h
       have Q:AT {st with atom:=Bq st++[⟨t.text,0,0⟩],next:=3} (Bh u.kind) u.text={st with atom:=Bq st++[⟨t.text,0,0⟩],opn:=(Bq st).length::st.opn,next:=2}:=by
        rw[j];simp[Oi,AT]
       obtain⟨q,E,i,G,a,H,I,S,J⟩:=Vs n f D (d.length+1) u d _ 0 (AR L).stk [] {st with atom:=Bq st++[⟨t.text,0,0⟩],opn:=(Bq st).length::st.opn,next:=2} (Bq st) t.text st.opn Yo Yo Yo Yo r M (by rw[e]) (by rw[e,<-s]) (by rw[e];exact b) rfl rfl;rw[show Cy (Bo f) (d.length+1) (u::d) st.vars []=some q from G];refine⟨_,E,i+2,rfl,⟨a.ok,a.fin,a.want,a.stk,a.err,?_,?_⟩,?_,by simp;omega,?_⟩
       ·rw[a.query,e];exact v
       ·rw[a.body,e];simpa using w
       ·exact I
       ·show takes (d.take i) (AT (AT st (Bh t.kind) t.text) (Bh u.kind) u.text)=_;rw[B,Q,J,H];rfl
      ·rw[QQ j];refine⟨_,AH L t.kind t.text.length,1,rfl,⟨g,m,QO ⟨c,?_⟩,s,b,v,w⟩,rfl,Ys,?_⟩
       ·intro y U C;simp at C;rw[<-C.1];exact j
       ·show AT st (Bh t.kind) t.text=_;rw[B,c];rfl
def Pm(st:RS)(hd:Ly)(bd:Ll)(vs:At):RS:={st with clauses:=st.clauses++[⟨hd,bd,vs⟩],atom:=[],opn:=[],head:=[],body:=[],vars:=[],inBody:=false,next:=if st.query then 5 else 0}
theorem Nm:∀(g:Nat)(ts:List BV)(L:Bj)(e:Ll)(st:RS),ts.length<=g->ts.length<=1000->Jj ts L->fin ts->L.want=1->L.stk=[]->L.body=true->L.err=0->st.opn=[]->st.atom=[]->st.inBody=true->
  ∃q c i ex,BG 1000 g ts st.vars e=some q/\Jj q.2.1 c/\fin q.2.1/\c.want=(if L.query then 5 else 0)/\c.stk=[]/\c.err=0/\c.query=L.query/\q.2.1.length<ts.length/\q.2.1=ts.drop i/\q.1=e++ex/\
   takes (ts.take i) st=Pm st st.head (st.body++ex) q.2.2:=by
 intro g
 induction g with
 |zero=>
  intro ts L e st s v n k
  cases ts with
  |nil=>exact k.elim
  |cons t ts=>simp at s
 |succ g V=>
  intro ts L e st s v n k E U hb B h Q l;obtain⟨a,d,F,S,ha,hd,hl,D⟩:=P1 ts.length ts L 1000 st (Qe _) v n k Yo B Yo (Tx n E B);have R:(AR L).stk=[]:=by simp[AR,E,U]
  rw[R]at ha;have x:d.body=true:=by rw[ha.body,QP Yo];exact hb
  have A:Bq st=[]:=by simp[Bq,h,Q]
  rw[BG,S];simp only
  cases C:a.2.1 with
  |nil=>rw[C]at ha;exact ha.fin.elim
  |cons y W=>
   rw[C]at ha hl hd;simp only[Qf]at hl;simp only;rcases KY ha with⟨f,_,m,j,b⟩|⟨f,z,_⟩|⟨f,m,j,b⟩
   ·rw[QP Yo];have r:AT (D1 st a.1 a.2.2 d.want) (Bh y.kind) y.text={st with body:=st.body++[a.1],atom:=[],vars:=a.2.2,next:=1}:=by
     rw[f];simp[NW,AT,Ev,AG,D1,h,l,A]
    obtain⟨q,G,i,ex,M,N,O,w,P,H,u,X,I,J,K⟩:=V W (Am d 44) (e++[a.1]) {st with body:=st.body++[a.1],atom:=[],vars:=a.2.2,next:=1} Yo Yo m j (by rw[b]) (by rw[b];exact ha.stk) (by rw[b];exact x) (by rw[b];exact ha.err) h rfl l;have T:(Am d 44).query=L.query:=by rw[b];exact ha.query
    rw[T]at w u;obtain⟨o,p⟩:=Eo hd.symm i st;refine⟨q,G,F+(1+i),a.1::ex,M,N,O,w,P,H,u,Yo,by rw[p];exact I,by rw[J];simp,?_⟩;rw[o,D,r,K];simp[Pm]
   ·rw[x]at z;cases z
   ·rw[QQ f];have r:AT (D1 st a.1 a.2.2 d.want) (Bh y.kind) y.text=Pm st st.head (st.body++[a.1]) a.2.2:=by
     rw[f];simp[NE,AT,AE,AG,D1,h,l,A,Pm]
    obtain⟨o,p⟩:=Eo hd.symm 0 st;refine⟨_,_,F+(1+0),[a.1],rfl,m,j,by rw[b,ha.query],by rw[b];exact ha.stk,by rw[b];exact ha.err,by rw[b];exact ha.query,by simp;omega,by rw[p];rfl,rfl,?_⟩;rw[o,D,r];rfl
structure XL(st:RS):Prop where
 query:st.query=false
 next:st.next=0
 inb:st.inBody=false
 atom:st.atom=[]
 opn:st.opn=[]
 head:st.head=[]
 body:st.body=[]
 vars:st.vars=[]
theorem Sj(ts:List BV)(L:Bj)(st:RS)(R:ts.length<=1000)(ab:Jj ts L)(Y:fin ts)(K:L.want=0)(ac:L.stk=[])(X:L.err=0)(H:L.query=false)(aa:∀t r,ts=t::r->t.kind≠4)(d:XL st):
  ∃c f i,Dl ts=some c/\Jj c.2 f/\fin c.2/\f.want=0/\f.stk=[]/\f.err=0/\f.query=false/\c.2.length<ts.length/\c.2=ts.drop i/\takes (ts.take i) st={st with clauses:=st.clauses++[c.1]}:=by
 obtain⟨a,e,M,G,ha,hd,hl,J⟩:=P1 ts.length ts L 1000 st (Qe _) R ab Y Yo X Yo aa;have Z:(AR L).stk=[]:=by simp[AR,K,ac]
 rw[Z]at ha;have W:e.body=false:=by rw[ha.body,QQ K]
 have F:Bq st=[]:=by simp[Bq,d.opn,d.atom]
 have E:∀hd bd vs,Pm st hd bd vs={st with clauses:=st.clauses++[⟨hd,bd,vs⟩]}:=by
  intro hd bd vs;obtain⟨o,p,s,u,v,w,x,z⟩:=d
  cases st
  simp only at o p s u v w x z;subst o p s u v w x z;rfl
 rw[d.vars]at G;rw[Dl,G];simp only
 cases I:a.2.1 with
 |nil=>rw[I]at ha;exact ha.fin.elim
 |cons y ad=>
  rw[I]at ha hl hd;simp only[Qf]at hl;simp only;rcases KY ha with⟨g,D,_⟩|⟨g,_,k,j,b⟩|⟨g,k,j,b⟩
  ·rw[W]at D;cases D
  ·rw[QQ g];have n:AT (D1 st a.1 a.2.2 e.want) (Bh y.kind) y.text={st with head:=a.1,atom:=[],vars:=a.2.2,inBody:=true,next:=1}:=by
    rw[g];simp[XK,AT,AG,D1,d.inb,F]
   obtain⟨q,N,i,ex,S,T,U,C,V,O,A,ae,P,B,Q⟩:=Nm 1000 ad (Am e 3) [] {st with head:=a.1,atom:=[],vars:=a.2.2,inBody:=true,next:=1} Yo Yo k j (by rw[b]) (by rw[b];exact ha.stk) (by rw[b]) (by rw[b];exact ha.err) d.opn rfl rfl;have h:(Am e 3).query=false:=by rw[b];exact ha.query.trans H
   rw[h]at C A;rw[S];obtain⟨l,m⟩:=Eo hd.symm i st;refine⟨_,N,M+(1+i),rfl,T,U,by simpa using C,V,O,A,by simp;omega,by rw[m];exact P,?_⟩;rw[l,J,n,Q,<-E];simp only[Qz]at B;simp[Pm,d.body,B]
  ·rw[QP Yo];have h:e.query=false:=ha.query.trans H;have n:AT (D1 st a.1 a.2.2 e.want) (Bh y.kind) y.text=Pm st a.1 [] a.2.2:=by
    rw[g];simp[NE,AT,AE,AG,D1,d.opn,d.inb,d.body,F,Pm]
   obtain⟨l,m⟩:=Eo hd.symm 0 st;refine⟨_,_,M+(1+0),rfl,k,j,by rw[b,h];rfl,by rw[b];exact ha.stk,by rw[b];exact ha.err,by rw[b];exact h,by simp;omega,by rw[m];rfl,?_⟩;rw[l,J,n,E];rfl
theorem Rr:∀(g:Nat)(ts:List BV)(L:Bj)(b:Lc)(st:RS),ts.length<=g->ts.length<=1000->Jj ts L->fin ts->L.want=0->L.stk=[]->L.err=0->L.query=false->XL st->
  ∃cs i ex,CW g ts b=some cs/\(∃t r,ts.drop i=t::r/\t.kind=4)/\cs=b++ex/\takes (ts.take i) st={st with clauses:=st.clauses++ex}:=by
 intro g
 induction g with
 |zero=>
  intro ts L b st h k m f
  cases ts with
  |nil=>exact f.elim
  |cons t ts=>simp at h
 |succ g D=>
  intro ts L b st h k m f C B y A a
  cases ts with
  |nil=>exact f.elim
  |cons t ts=>
   rw[CW]
   by_cases d:t.kind=4
   ·rw[QQ d];exact⟨_,0,[],rfl,⟨t,ts,rfl,d⟩,Ys,by simp[takes]⟩
   ·rw[QP d];obtain⟨c,n,i,z,s,u,v,w,x,o,p,l,q⟩:=Sj (t::ts) L st k m f C B y A (fun J I e=>by simp at e;rw[<-e.1];exact d) a;rw[z];simp only;simp only[Qf]at h k p;obtain⟨cs,j,ex,E,F,G,H⟩:=D c.2 n (b++[c.1]) {st with clauses:=st.clauses++[c.1]} Yo Yo s u v w x o ⟨a.query,a.next,a.inb,a.atom,a.opn,a.head,a.body,a.vars⟩;refine⟨cs,i+j,c.1::ex,E,?_,by rw[G];simp,?_⟩
    ·rw[<-JV,<-l];exact F
    ·rw[List.take_add,IX,q,<-l,H];simp
theorem Si{ts:List BV}{e:BV}(a:∀t∈ts,E9 t.kind)(h:∃t r,(ts++[e]).drop i=t::r/\t.kind=4):(ts++[e]).take i=ts:=by
 obtain⟨t,r,hd,b⟩:=h;rcases Nat.lt_trichotomy i ts.length with hi|hi|hi
 ·exfalso;rw[List.drop_append_of_le_length Yo,QC hi,Qy]at hd;simp only[QI]at hd;have:=a ts[i] (List.getElem_mem hi);rw[hd.1]at this;rcases this with h|h|h|h|h|h|h|h<;>omega
 ·subst hi;simp
 ·exfalso;rw[QW Yp]at hd;simp at hd
structure SB(st:RS):Prop where
 next:st.next<=5
 atom:st.atom.length<=30
 empty:st.next≠2->st.next≠3->st.next≠4->st.atom=[]
 head:st.head.length<=30
 body:∀l∈st.body,l.length<=30
 bodyn:st.body.length<=6
 inb:st.next=2\/st.next=3\/st.next=4->st.body.length<=5
 cls:∀c∈st.clauses,c.head.length<=30/\(∀l∈c.body,l.length<=30)/\c.body.length<=6
 clsn:st.clauses.length<=24
 clsb:st.next≠0->st.next≠5->st.clauses.length<=23
 fresh:st.next=0->st.body=[]
 an:∀s∈st.atom,s.name.length<=8
 hn:∀s∈st.head,s.name.length<=8
 bn:∀l∈st.body,∀s∈l,s.name.length<=8
 vn:∀x∈st.vars,x.length<=8
 cn:∀c∈st.clauses,(∀s∈c.head,s.name.length<=8)/\(∀l∈c.body,∀s∈l,s.name.length<=8)/\∀x∈c.names,x.length<=8
theorem SB.endAtom(h:SB st)(a:st.body.length<=5):(AG st).atom=[]/\(AG st).head.length<=30/\(∀l∈(AG st).body,l.length<=30)/\(AG st).body.length<=6/\(AG st).clauses=st.clauses/\(∀s∈(AG st).head,s.name.length<=8)/\(∀l∈(AG st).body,∀s∈l,s.name.length<=8)/\(AG st).vars=st.vars:=by
 unfold AG;split
 ·refine⟨rfl,h.head,?_,by simp;omega,rfl,h.hn,?_,rfl⟩
  ·intro l hl;simp at hl;rcases hl with hl|rfl
   ·exact h.body l hl
   ·exact h.atom
  ·intro l hl;simp at hl;rcases hl with hl|rfl
   ·exact h.bn l hl
   ·exact h.an
 ·exact⟨rfl,h.atom,h.body,by simpa using h.bodyn,rfl,h.an,h.bn,rfl⟩
theorem Mc(st:RS)(h:∀s∈st.atom,s.name.length<=8):∀s∈Bq st,s.name.length<=8:=by
 unfold Bq;split
 ·exact h
 ·intro s a;rw[J0]at a;obtain⟨i,hi⟩:=a;rw[JL]at hi;simp only[Option.map_eq_map,JH]at hi;obtain⟨t,b,e⟩:=hi;have:=h t (Qh b);split at e
  ·rw[<-e];exact this
  ·rw[<-e];exact this
theorem SB.take{kd len:Nat}{t:Lu}(h:SB st)(k:Bg st kd len=0)(I:len=t.length):SB (AT st kd t):=by
 have a:=Hn k;obtain⟨J,K,_,_⟩:=Hx a h.next;have E:kd=1\/kd=2->Df st=false:=by
  intro b;unfold Bg at k;rw[QP (by simp[a])]at k;split at k
  ·omega
  ·rename_i v
   cases i:Df st with
   |false=>rfl
   |true=>exact absurd ⟨b,QO i⟩ v
 have z:kd=1\/kd=2->t.length<=8:=by
  intro b;unfold Bg at k;rw[QP (by simp[a])]at k;split at k
  ·omega
  ·rename_i v;rcases QB 8 len with A|A
   ·exact absurd ⟨b,QG A⟩ v
   ·omega
 have F:kd=1\/kd=2->st.next=0\/st.next=1\/st.next=2:=by
  intro b;unfold A2 at a;split at a
  ·omega
  ·split at a
   ·omega
   ·split at a
    ·rcases b with rfl|rfl
     ·simp[Bn]at a
     ·simp[Bn]at a
    ·split at a
     ·rcases b with rfl|rfl
      ·simp[Bn]at a
      ·simp[Bn]at a
     ·simp at a
 have G:¬(kd=1\/kd=2)->st.next=3\/st.next=4:=by
  intro b;unfold A2 at a;split at a
  ·simp at a;omega
  ·split at a
   ·simp at a;omega
   ·split at a
    ·omega
    ·split at a
     ·omega
     ·simp at a
 have add:(kd=1\/kd=2)->st.atom.length+1<=30/\st.body.length<=5/\st.clauses.length<=23:=by
  intro b;have i:=E b;unfold Df at i;rcases F b with h0|h0|h0
  ·rw[QQ h0]at i;simp at i;have:=h.empty Yo Yo Yo;have hb:=h.fresh h0;exact⟨by simp[this],by simp[hb],Yo⟩
  ·rw[QP Yo,QQ h0]at i;simp at i;have:=h.empty Yo Yo Yo;exact⟨by simp[this],Yo,h.clsb Yo Yo⟩
  ·rw[QP Yo,QP Yo,QQ h0]at i;simp at i;exact⟨Yo,h.inb (QG h0),h.clsb Yo Yo⟩
 have D:¬(kd=1\/kd=2)->st.body.length<=5/\st.clauses.length<=23:=fun b=>by
  have:=G b;exact⟨h.inb Yo,h.clsb Yo Yo⟩
 unfold AT;split
 ·rename_i b;obtain⟨B,l,m⟩:=add (QG b);exact⟨Ys,by simp[Fn,IT];omega,fun _ C=>absurd rfl C,h.head,h.body,h.bodyn,fun _=>l,h.cls,h.clsn,fun _ _=>m,fun e=>by simp at e,fun s a=>by
   simp only[Fn,Qk,JP]at a;rcases a with a|rfl
   ·exact Mc st h.an s a
   ·exact z (QG b),h.hn,h.bn,h.vn,h.cn⟩
 ·split
  ·rename_i b;obtain⟨B,l,m⟩:=add (QO b);have hb:(Bq (My st t)).length=st.atom.length:=IT _;exact⟨Ys,by simp[Fn,hb];omega,fun _ _ y=>absurd rfl y,h.head,h.body,h.bodyn,fun _=>l,h.cls,h.clsn,fun _ _=>m,fun e=>by simp at e,fun s a=>by
    simp only[Fn,Qk,JP]at a;rcases a with a|rfl
    ·exact Mc (My st t) h.an s a
    ·simp,h.hn,h.bn,fun x j=>by
    simp only[Fn,My,A8]at j;split at j
    ·exact h.vn x j
    ·rcases Qk.1 j with j|j
     ·exact h.vn x j
     ·simp at j;subst j;exact z (QO b),h.cn⟩
  ·rename_i L M;obtain⟨b1,b2⟩:=D Yo;obtain⟨f,n,o,p,d,q,r,u⟩:=h.endAtom b1;split
   ·exact⟨Ys,h.atom,fun w=>absurd rfl w,h.head,h.body,h.bodyn,fun _=>b1,h.cls,h.clsn,fun _ _=>b2,fun e=>by simp at e,h.an,h.hn,h.bn,h.vn,h.cn⟩
   ·split
    ·exact⟨Ys,h.atom,fun _ _ y=>absurd rfl y,h.head,h.body,h.bodyn,fun _=>b1,h.cls,h.clsn,fun _ _=>b2,fun e=>by simp at e,h.an,h.hn,h.bn,h.vn,h.cn⟩
    ·split
     ·unfold Ev;split
      ·exact⟨Ys,by simp[f],fun _ _ _=>f,n,o,p,fun h=>by simp at h,by rw[d];exact h.cls,by rw[d];exact h.clsn,fun _ _=>by rw[d];exact b2,fun e=>by simp at e,by simp[f],q,r,by rw[u];exact h.vn,by rw[d];exact h.cn⟩
      ·exact⟨Ys,h.atom,fun w=>absurd rfl w,h.head,h.body,h.bodyn,fun _=>b1,h.cls,h.clsn,fun _ _=>b2,fun e=>by simp at e,h.an,h.hn,h.bn,h.vn,h.cn⟩
     ·split
      ·exact⟨Ys,by simp[f],fun _ _ _=>f,n,o,p,fun h=>by simp at h,by rw[d];exact h.cls,by rw[d];exact h.clsn,fun _ _=>by rw[d];exact b2,fun e=>by simp at e,by simp[f],q,r,by rw[u];exact h.vn,by rw[d];exact h.cn⟩
      ·split
       ·have hn:(AE (AG st)).next=0\/(AE (AG st)).next=5:=by unfold AE;simp only;split<;>simp
        refine⟨Yo,by simp[AE,f],fun _ _ _=>by simp[AE,f],by simp[AE],by simp[AE],by simp[AE],fun _=>by simp[AE],?_,?_,fun h0 H=>by omega,fun _=>by simp[AE],by simp[AE,f],by simp[AE],by simp[AE],by simp[AE],?_⟩
        ·intro c g;simp only[AE,d,Qk,JP]at g;rcases g with g|rfl
         ·exact h.cls c g
         ·exact⟨n,o,p⟩
        ·simp[AE,d];omega
        ·intro c g;simp only[AE,d,Qk,JP]at g;rcases g with g|rfl
         ·exact h.cn c g
         ·exact⟨q,r,by rw[u];exact h.vn⟩
       ·exact h
theorem SB.run{e:Nat}:∀{ts:List BV}{st:RS},SB st->(EF e ts st).1=0->SB (EF e ts st).2.2:=by
 intro ts
 induction ts with
 |nil=>intro st h _;unfold EF;split<;>exact h
 |cons t ts b=>
  intro st h h0;unfold EF at h0⊢;split at h0
  ·rename_i a;exact absurd h0 a
  ·rename_i a;rw[QP a];exact b (h.take (len:=t.text.length) Yo rfl) h0
theorem SB.start(q:Bool):SB ⟨q,if q then 1 else 0,q,[],[],[],[],[],[]⟩:=by
 cases q<;>exact⟨Ys,Ys,fun _ _ _=>rfl,Ys,Ys,Ys,fun _=>by simp,Ys,Ys,fun _ _=>by simp,fun _=>rfl,Ys,Ys,Ys,Ys,Ys⟩
theorem S0(n:Nat)(h:n<10):(⟨#[48,49,50,51,52,53,54,55,56,57,97,98,99,100,101,102,103,104,105,106,107,108,109,110,111,112,113,114,115,116,117,118,119,120,121,122]⟩:ByteArray).extract n (n+1)=⟨(Lib.decDigits n).toArray⟩:=by
 have:∀n,n<10->((⟨#[48,49,50,51,52,53,54,55,56,57,97,98,99,100,101,102,103,104,105,106,107,108,109,110,111,112,113,114,115,116,117,118,119,120,121,122]⟩:ByteArray).extract n (n+1)).data.toList=[UInt8.ofNat (48+n)]:=by decide+kernel
 apply ByteArray.ext;apply Array.ext';rw[this n h,Lib.decDigits,dif_pos h]
set_option maxRecDepth 20000 in
theorem St(n:Nat)(h:n<100)(a:¬n<10):(⟨#[48,48,48,49,48,50,48,51,48,52,48,53,48,54,48,55,48,56,48,57,49,48,49,49,49,50,49,51,49,52,49,53,49,54,49,55,49,56,49,57,50,48,50,49,50,50,50,51,50,52,50,53,50,54,50,55,50,56,50,57,51,48,51,49,51,50,51,51,51,52,51,53,51,54,51,55,51,56,51,57,52,48,52,49,52,50,52,51,52,52,52,53,52,54,52,55,52,56,52,57,53,48,53,49,53,50,53,51,53,52,53,53,53,54,53,55,53,56,53,57,54,48,54,49,54,50,54,51,54,52,54,53,54,54,54,55,54,56,54,57,55,48,55,49,55,50,55,51,55,52,55,53,55,54,55,55,55,56,55,57,56,48,56,49,56,50,56,51,56,52,56,53,56,54,56,55,56,56,56,57,57,48,57,49,57,50,57,51,57,52,57,53,57,54,57,55,57,56,57,57]⟩:ByteArray).extract (n*2) (n*2+2)=⟨(Lib.decDigits n).toArray⟩:=by
 have:∀n,n<100->((⟨#[48,48,48,49,48,50,48,51,48,52,48,53,48,54,48,55,48,56,48,57,49,48,49,49,49,50,49,51,49,52,49,53,49,54,49,55,49,56,49,57,50,48,50,49,50,50,50,51,50,52,50,53,50,54,50,55,50,56,50,57,51,48,51,49,51,50,51,51,51,52,51,53,51,54,51,55,51,56,51,57,52,48,52,49,52,50,52,51,52,52,52,53,52,54,52,55,52,56,52,57,53,48,53,49,53,50,53,51,53,52,53,53,53,54,53,55,53,56,53,57,54,48,54,49,54,50,54,51,54,52,54,53,54,54,54,55,54,56,54,57,55,48,55,49,55,50,55,51,55,52,55,53,55,54,55,55,55,56,55,57,56,48,56,49,56,50,56,51,56,52,56,53,56,54,56,55,56,56,56,57,57,48,57,49,57,50,57,51,57,52,57,53,57,54,57,55,57,56,57,57]⟩:ByteArray).extract (n*2) (n*2+2)).data.toList=[UInt8.ofNat (48+n/10),UInt8.ofNat (48+n%10)]:=by decide+kernel
 apply ByteArray.ext;apply Array.ext';rw[this n h,Lib.decDigits,dif_neg a,Lib.decDigits,dif_pos Yo];rfl
theorem La(n:Nat):Utf8.encode (65+(n:Int)%26)=⟨[UInt8.ofNat (65+n%26)].toArray⟩:=by
 have:∀m:Nat,m<26->(Utf8.encode (65+(m:Int))).data.toList=[UInt8.ofNat (65+m)]:=by decide+kernel
 rw[show(n:Int)%26=((n%26:Nat):Int) from by omega];apply ByteArray.ext;apply Array.ext';rw[this (n%26) Yo]
set_option maxRecDepth 20000 in
theorem T9(n:Nat)(w:World)(h:n<100):Calls prog 122 #[int i64 n] w fun e w'=>e=returned (string ⟨(Lib.decDigits n).toArray⟩)/\w'=w:=by
 by_cases a:n<10
 ·go_enter func122,ntmps122;go_wp2;go_ret;exact⟨DS (S0 n a),rfl⟩
 ·go_enter func122,ntmps122;go_wp2;go_ret;exact⟨DS (St n h a),rfl⟩
theorem Sy(n:Nat)(w:World)(h:n<100):Calls prog 95 #[int i64 n,int i64 10] w fun e w'=>e=returned (string ⟨(Lib.decDigits n).toArray⟩)/\w'=w:=by
 go_enter func95,ntmps95;go_wp2_with fail;apply(T9 n _ h).mono;rintro e w' ⟨rfl,rfl⟩;go_wp2;go_ret;exact⟨rfl,rfl⟩
theorem T7(n:Nat)(w:World)(h:n<100):Calls prog 66 #[int i64 n] w fun e w'=>e=returned (string ⟨(Lib.decDigits n).toArray⟩)/\w'=w:=by
 go_enter func66,ntmps66;go_wp2_with fail;apply(Sy n _ h).mono;rintro e w' ⟨rfl,rfl⟩;go_wp2;go_ret;exact⟨rfl,rfl⟩
theorem IQ(n:Nat)(w:World)(h:n<100):Calls prog 41 #[int i64 n] w fun e w'=>e=returned (string ⟨(Lib.decDigits n).toArray⟩)/\w'=w:=by
 go_enter func41,ntmps41;go_wp2_with fail;apply(T7 n _ h).mono;rintro e w' ⟨rfl,rfl⟩;go_wp2;go_ret;exact⟨rfl,rfl⟩
theorem Pr(n:Nat)(w:World)(h:n<2600):Calls prog 174 #[int i64 n] w fun e w'=>e=returned (string ⟨(CJ n).toArray⟩)/\w'=w:=by
 by_cases a:n<26
 ·have hd:(n:Int)/26=0:=Yo
  go_enter func174,ntmps174;go_wp2;go_ret;refine⟨DS ((La n).trans ?_),rfl⟩;rw[CJ,QQ a,Nat.mod_eq_of_lt a]
 ·have hd:((n:Int)/26==0)=false:=by rw[Qu];omega
  go_enter func174,ntmps174;go_wp2_with fail;apply(IQ (n/26) _ Yo).mono;rintro e w' ⟨rfl,rfl⟩;have d:=D8 (n/26);have b:=La n;have c:=Yh b;have f:(Utf8.encode (65+(n:Int)%26)).size=1:=by rw[b];rfl
  clear b;go_wp2;go_ret;refine⟨DS ?_,rfl⟩;show Utf8.encode (65+(n:Int)%26)++_=_;rw[c.o,AA,CJ,QP a];rfl
def Hc(s:BJ):Lu:=if s.name=[]then CJ s.num else s.name
theorem LH(s:BJ)(w:World)(h:s.num<2600):Calls prog 135 #[agg #[string ⟨s.name.toArray⟩,int i64 s.num,int i64 s.args]] w fun e w'=>e=returned (string ⟨(Hc s).toArray⟩)/\Below w.heap.size w w':=by
 cases hn:s.name with
 |nil=>
  have a:YH (Hc s=CJ s.num):=by show _=_;simp[Hc,hn]
  clear hn;go_enter func135,ntmps135;go_wp2_with fail;apply(Pr s.num _ h).mono;rintro e w' ⟨rfl,rfl⟩;go_wp2;go_ret;rw[a.o];exact⟨rfl,(Jc _ _).alloc (Qe _) _⟩
 |cons c r=>
  have a:YH (Hc s=c::r):=by show _=_;simp[Hc,hn]
  clear hn;go_enter func135,ntmps135;go_wp2;go_ret;rw[a.o];exact⟨rfl,(Jc _ _).alloc (Qe _) _⟩
def Io(w:World)(b:Nat)(t:Nat×Nat×Nat):Prop:=w.heap[b]?=some (.cells #[.int .i64 t.1,.int .i64 t.2.1,.int .i64 t.2.2] 224 (0,0))
def C3(w:World)(b:Nat)(e p:Nat):Prop:=w.heap[b]?=some (.cells #[.int .i64 e,.int .i64 p] 91 (0,0))
theorem Io.cells{t:Nat×Nat×Nat}(h:Io w b t):b<w.heap.size/\w.cell? ⟨b,0,none⟩=some (int i64 t.1)/\w.cell? ⟨b,1,none⟩=some (int i64 t.2.1)/\w.cell? ⟨b,2,none⟩=some (int i64 t.2.2)/\∀i,w.frozen? ⟨b,i,none⟩=false:=
 ⟨Ac h,Aa h 0 _ rfl,Aa h 1 _ rfl,Aa h 2 _ rfl,fun i=>Ag h i⟩
theorem C3.cells{e:Nat}(h:C3 w b e p):b<w.heap.size/\w.cell? ⟨b,0,none⟩=some (int i64 e)/\w.cell? ⟨b,1,none⟩=some (int i64 p)/\∀i,w.frozen? ⟨b,i,none⟩=false:=
 ⟨Ac h,Aa h 0 _ rfl,Aa h 1 _ rfl,fun i=>Ag h i⟩
theorem Io.held{t:Nat×Nat×Nat}(h:Io w b t)(a:Dh B w w'):Io w' b t:=(a.other b _ _ _ h (QG rfl)).trans h
theorem C3.held{e:Nat}(h:C3 w b e p)(a:Dh B w w'):C3 w' b e p:=(a.other b _ _ _ h (QO rfl)).trans h
theorem Io.kept{t:Nat×Nat×Nat}(h:Io w b t)(a:Ad S w w')(c:¬S b):Io w' b t:=(a.block b (Ac h) c).trans h
theorem C3.kept{e:Nat}(h:C3 w b e p)(a:Ad S w w')(c:¬S b):C3 w' b e p:=(a.block b (Ac h) c).trans h
theorem Ad.untouched(h:Below w.heap.size w w'):Ad A4 w w':=⟨h.os,h.tape,h.output,h.size,fun k a _=>h.block k a⟩
theorem BZ.fresh(h:BZ w B rb st)(c:Ad A4 w w'):BZ w' B rb st:=by
 obtain⟨V,a,b,vs,xs,h⟩:=h;exact⟨V,a,b,vs,xs,h.fresh c⟩
theorem BZ.aside{cs:Av}{T:TypeId}{fr:Nat×Nat}(h:BZ w B rb st)(hb:w.heap[k]?=some (.cells cs T fr))(z:T=224\/T=91)(j:Ad (only k) w w'):BZ w' B rb st:=by
 obtain⟨V,d,C,vs,xs,h⟩:=h;have H:rb≠k:=fun e=>by
  have f:=h.blk;rw[e,hb]at f;simp only[Qo,Obj.cells.injEq]at f;rcases z with b|b<;>exact absurd (f.2.1.symm.trans b) Yd
 have a:∀{u:Nat}{e:TypeId}{s n:Nat}{v:Value}{A:Lv},w.ownsRow u e s v n A->e≠224->e≠91->w'.ownsRow u e s v n A:=fun t b p=>
  j.owns t (fun i hi e=>by
   have e:i=k:=e;subst e;rcases z with rfl|rfl
   ·exact Ai t b hb hi
   ·exact Ai t p hb hi)
 have q:∀{v:Value}{l:Ly},DX w B d v l->DX w' B d v l:=fun g=>⟨a g.1 Yd Yd,g.2⟩;have y:∀{v:Value}{ls:Ll}{m:Lv},Co w B d v ls m->Co w' B d v ls m:=fun g=>⟨a g.1 Yd Yd,fun i l hl=>by
  obtain⟨x,b,p⟩:=g.2 i l hl;exact⟨x,b,q p⟩⟩
 have r:=h.rest;exact⟨V,d,C,vs,xs,(j.block rb (Ac h.blk) H).trans h.blk,⟨a r.atom Yd Yd,a r.opn Yd Yd,a r.vars Yd Yd,q r.head,y r.body,
  ⟨a r.cls.1 Yd Yd,r.cls.2.1,r.cls.2.2.1,fun i c G=>by
   obtain⟨I,D,J,m,f,E,F,o⟩:=r.cls.2.2.2 i c G;exact⟨I,D,J,m,f,q E,y F,o.1,a o.2.1 Yd Yd,o.2.2⟩⟩,r.ta,r.tb,r.tv,Qq r.la j.size,Qq r.lb j.size⟩,h.le⟩
theorem BZ.le(h:BZ w B rb st):B<=w.heap.size:=by
 obtain⟨V,a,b,vs,xs,h⟩:=h;have:=h.le;have:=Ac h.blk;omega
theorem BZ.look(h:BZ w B rb st):∃V,Fj w B rb st V:=by
 obtain⟨V,a,b,vs,xs,h⟩:=h;exact⟨V,h.opens⟩
theorem GO{c g:Nat}(f:BZ wr B rb st)(e:C3 wr b c g)(a:B<=b)(d:Below B w wr)(x y:Value):
  BZ ((wr.setCell ⟨b,0,none⟩ x).setCell ⟨b,1,none⟩ y) B rb st/\Below B w ((wr.setCell ⟨b,0,none⟩ x).setCell ⟨b,1,none⟩ y):=
 ⟨f.aside e (QO rfl) (((Ad.refl (only b) wr).put 0 x).put 1 y),(d.setCell (p:=⟨b,0,none⟩) a x).setCell (p:=⟨b,1,none⟩) a y⟩
theorem Hj(w:World)(B i:Nat)(st:RS)(s:ByteArray)(h:BZ w B i st)(hi:RI 0 st)(ci:s.size<=4000):
  Calls prog 98 #[Pt i,string s] w fun e w'=>
   e=returned (agg #[int i64 (EF s.size (CZ s.data.toList 0) st).1,int i64 (EF s.size (CZ s.data.toList 0) st).2.1])/\BZ w' B i (EF s.size (CZ s.data.toList 0) st).2.2/\Below B w w':=by
 obtain⟨bp,Y⟩:=Ex (EF s.size (CZ s.data.toList 0) st);rw[<-Y];have ap:=h.le;have bb:=Yh Y;have a9:=Yh h;have bj:=Yh hi;clear h hi Y;go_enter func98,ntmps98;go_wp2_with fail;apply(PE s 0 _ Yo (Qm _)).mono;rintro e w1 ⟨rfl,aa⟩;have aq:C3 (w.alloc (.cells #[int i64 0,int i64 0] 91)) w.heap.size 0 0:=QL w _;have ab:Ad A4 w w1:=((Ad.refl _ w).alloc _).trans (Ad.untouched aa);have ag:=Yh (aq.kept (Ad.untouched aa) (fun h=>h));have ba:=Yh (a9.o.fresh ab);have af:=Yh (ab.below ap (fun _ h=>h.elim));have cc:w.heap.size<w1.heap.size:=Ac ag.o;clear aq ab aa;go_wp2
 go_loopg [] (s.size+1) (fun gk wr=>∃(n:Nat)(b:RS),n<=s.size/\s.size-n<gk/\Io wr w1.heap.size (HC s n)/\C3 wr w.heap.size 0 0/\BZ wr B i b/\RI n b/\EF s.size (CZ (s.data.toList.drop n) n) b=bp/\Below B w wr)
 case atStart=>
  refine⟨0,st,Qm _,Yo,QL w1 _,ag.o.kept ((Ad.refl A4 w1).alloc _) (fun h=>h),ba.o.fresh ((Ad.refl _ w1).alloc _),bj.o,?_,af.o.alloc (Qq ap af.o.size) _⟩;rw[bb.o];rfl
 case round=>
  obtain⟨n,b,hn,ca,f,u,g,F,a,N⟩:=hrel;obtain⟨ch,am,L,an,_,cf⟩:=g.cells;obtain⟨Z,y,z,A⟩:=u.cells;have bw:=F.next;have bu:¬w.heap.size=w1.heap.size:=Yo
  have cg:¬i=w.heap.size:=fun e=>by
   obtain⟨V,b4,b5,vs,xs,h⟩:=g;have ao:=h.blk;rw[e,u]at ao;simp at ao
  rcases UI s n hn with⟨E,G⟩|⟨t,q,E,G,aw,cd,ce,ay,a1,a0⟩
  ·rw[E]at f;rw[G,EF]at a;obtain⟨bv,x,H,I,ae⟩:=f.cells;simp only at x H I;have l:=Yh g;have k:=Yh u;have j:=Yh N;clear f u g F G E N
   by_cases h0:b.next=0
   ·rw[QP Yo]at a;rw[h0]at L;have d:=Yh a;clear a h0;go_wp2;refine Jb (v:=agg #[int i64 0,int i64 0]) (by simp[results,results98,go_sem,y,z,A,Z]) rfl ?_;rw[<-d.o];exact⟨rfl,GO l.o k.o Yo j.o _ _⟩
   ·by_cases M:b.next=5
    ·rw[QP Yo]at a;rw[M]at L;have d:=Yh a;clear a h0 M;go_wp2;refine Jb (v:=agg #[int i64 0,int i64 0]) (by simp[results,results98,go_sem,y,z,A,Z]) rfl ?_;rw[<-d.o];exact⟨rfl,GO l.o k.o Yo j.o _ _⟩
    ·rw[QQ ⟨h0,M⟩]at a;have b6:((b.next:Int) !=0)=true:=by rw[QR];omega
     have b7:((b.next:Int) !=5)=true:=by rw[QR];omega
     have d:=Yh a;clear a h0 M;go_wp2;refine Jb (v:=agg #[int i64 2,int i64 s.size]) (by simp[results,results98,go_sem,y,z,A,Z]) rfl ?_;rw[<-d.o];exact⟨rfl,GO l.o k.o Yo j.o _ _⟩
  ·rw[E]at f;rw[G,EF,a0]at a;obtain⟨bv,x,H,I,ae⟩:=f.cells;simp only at x H I;obtain⟨kd,ac⟩:=Ex (Bh t.kind);rw[<-ac]at f x a;have cb:1<=kd:=by
    rw[ac];rcases aw with h|h|h|h|h|h|h|h<;>rw[h]<;>decide
   have b9:((kd:Int) !=0)=true:=by rw[QR];omega
   obtain⟨V,ax⟩:=g.look;have R:=Yh (UO wr B i b V kd t.pos q ax (F.bd Yo) bw Yo Yo);have l:=Yh g;have k:=Yh u;have aj:=Yh f;have j:=Yh N;have ai:=Yh F;have bo:=Yh a1;clear f u g F G E N ax a1 aw ac a0
   by_cases r:Bg b kd (q-t.pos)=0
   ·rw[QP (by simp[r])]at a;have ad:=Hn r;have d:=Yh a;have bc:=Yh (ai.o.takes Yo ad);have bn:=Yh ((ai.o.take t.text ad).at (m:=q) Yo);rw[r]at R;clear a r ad;go_wp2_with fail;apply R.o.mono;rintro e w2 ⟨rfl,c⟩;have U:=Yh (l.o.fresh c);have J:=Yh (k.o.kept c (fun h=>h));have K:=Yh (aj.o.kept c (fun h=>h));have S:=Yh (j.o.trans (c.below Yo (fun _ h=>h.elim)));obtain⟨b1,O,P,Q,a2⟩:=K.o.cells;simp only at O P Q;clear c x H I ae am L an cf y z A;go_wp2_with fail
    go_region_with (first
     | (go_at_call 133;refine(Tk s kd t.pos q _ ?_ ?_ ?_).mono ?_;(· omega);(· omega);(· omega);rintro e w3 ⟨rfl,C⟩;rw[bo.o];have bl:=Yh (U.o.fresh (((Ad.refl A4 w2).drewN 1).trans C));have bg:=Yh (J.o.kept (((Ad.refl A4 w2).drewN 1).trans C) (fun h=>h));have ak:=Yh (K.o.kept (((Ad.refl A4 w2).drewN 1).trans C) (fun h=>h));obtain⟨cl,a3,a4,a5,b2⟩:=ak.o.cells;simp only at a3 a4 a5;have bk:=Yh C;clear C)
     | (go_at_call 132;apply(WK _ B i b kd t.text bl.o bc.o).mono;rintro e w4 ⟨rfl,az,av⟩;have ah:=Yh az;have T:=Yh av;clear az av))
    all_goals
     have au:Below B w w4:=(S.o.trans (Ad.below (((Ad.refl A4 w2).drewN 1).trans bk.o) Yo (fun _ h=>h.elim))).trans T.o.below;have bh:=Yh (bg.o.held T.o);have al:=Yh (ak.o.held T.o);obtain⟨cm,a6,a7,a8,b3⟩:=al.o.cells;simp only at a6 a7 a8;have be:=Yh au;clear au O P Q a2 a3 a4 a5 b2;go_wp2_with fail;apply(PE s q _ Yo ay).mono;rintro e w5 ⟨rfl,ar⟩;have D:=Ad.untouched ar;have W:=Yh (al.o.kept D (fun h=>h));have bi:=Yh (bh.o.kept D (fun h=>h));have bm:=Yh (ah.o.fresh D);have bf:=Yh (be.o.trans (D.below ah.o.le (fun _ h=>h.elim)));obtain⟨cj,bx,bz,b0,ck⟩:=W.o.cells;simp only at bx bz b0;clear D ar a6 a7 a8 b3;go_wp2
     go_roundg (s.size-q+1)
     case measure=>omega
     case rel=>
      have X:B<=w1.heap.size:=Yo
      refine⟨q,AT b kd t.text,ay,Yo,?_,?_,?_,bn.o,d.o,?_⟩
      ·unfold Io;rw[Ae (Ae (Ae W.o 0 _) 1 _) 2 _];rfl
      ·exact bi.o.kept ((((Ad.refl (only w1.heap.size) w5).put 0 _).put 1 _).put 2 _) (fun e=>bu e)
      ·exact bm.o.aside W.o (QG rfl) ((((Ad.refl (only w1.heap.size) w5).put 0 _).put 1 _).put 2 _)
      ·exact((bf.o.setCell (p:=⟨w1.heap.size,0,none⟩) X _).setCell (p:=⟨w1.heap.size,1,none⟩) X _).setCell (p:=⟨w1.heap.size,2,none⟩) X _
   ·rw[QQ r]at a;have b8:((Bg b kd (q-t.pos):Int) !=0)=true:=by rw[QR];omega
    have d:=Yh a;clear a r;go_wp2_with fail;apply R.o.mono;rintro e w2 ⟨rfl,c⟩;have U:=Yh (l.o.fresh c);have J:=Yh (k.o.kept c (fun h=>h));have K:=Yh (aj.o.kept c (fun h=>h));have S:=Yh (j.o.trans (c.below Yo (fun _ h=>h.elim)));obtain⟨b1,O,P,Q,a2⟩:=K.o.cells;simp only at O P Q;obtain⟨bs,bq,br,bt⟩:=J.o.cells;clear c x H I ae am L an cf y z A;go_wp2;refine Jb (v:=agg #[int i64 (Bg b kd (q-t.pos)),int i64 t.pos]) (by simp[results,results98,go_sem,bq,br,bt,bs]) rfl ?_;rw[<-d.o];exact⟨rfl,GO U.o J.o Yo S.o _ _⟩
def Bk:List Nat->Lu×List Nat
 |[]=>([],[])
 |n::r=>if 1<n then([44],(n-1)::r)else(41::(Bk r).1,(Bk r).2)
def A3:Ly->List Nat->Lu
 |[],_=>[]
 |s::r,miss=>if 0<s.args then Hc s++40::A3 r (s.args::miss)else Hc s++((Bk miss).1++A3 r (Bk miss).2)
theorem H1{a b c:Lu}(h:a++b=c):a.length+b.length=c.length:=by rw[<-h];simp
theorem GY(w:World)(B:Nat)(v:Value)(l:Ly)(c:w.ownsRow B 133 3 v l.length (Aq l))(hl:l.length<=4000)(hn:∀s∈l,s.num<2600/\s.args<=4096)(av:(A3 l []).length<=100000000):
  Calls prog 100 #[v] w fun e w'=>e=returned (string ⟨(A3 l []).toArray⟩)/\Below w.heap.size w w':=by
 obtain⟨t,K⟩:=Ex (A3 l []);rw[<-K]at av⊢;obtain⟨va,br,rfl⟩:=Ab c;have am:=Yh c;have ai:=Yh K;have al:=Yh hn;clear c K hn;go_enter func100,ntmps100;go_wp2
 go_loopg [3,4,10] (l.length+1) (fun gk a9 a7 i wr=>∃(k:Nat)(d:Lu)(miss:List Nat),i=int i64 k/\k<=l.length/\l.length-k<gk/\a9=string ⟨d.toArray⟩/\d++A3 (l.drop k) miss=t/\
   wr.ownsRow w.heap.size 3 1 a7 miss.length (AM miss.reverse)/\Below w.heap.size w wr/\miss.length<=k/\∀m∈miss,1<=m/\m<=4096)
 case atStart=>exact⟨0,[],[],rfl,Qm _,Yo,rfl,by rw[ai.o];rfl,Q2 _ _ _ _,Jc _ _,Qm _,Ys⟩
 case round=>
  obtain⟨k,d,miss,rfl,af,bh,rfl,u,F,x,a1,ag⟩:=hrel;obtain⟨bm,bo,rfl⟩:=Ab F;have a6:=x.size
  by_cases Q:k<l.length
  ·obtain⟨s,q⟩:∃s,l[k]?=some s:=⟨_,Qb Q⟩;have hd:l.drop k=s::l.drop (k+1):=by
    rw[QC Q];rw[Qb Q]at q;simp at q;rw[q]
   rw[hd,A3]at u;obtain⟨a5,a4⟩:=al.o s (Qh q);have c:=(Ad.untouched x).owns am.o (fun _ _ h=>h);obtain⟨g,ba,bb,ac,bf,ay,bg⟩:=An c Yo;simp only[QH]at ac;obtain⟨rfl,_,rfl⟩:=ac;have ao:wr.cell? ⟨g,k*3,none⟩=some (string ⟨s.name.toArray⟩):=Af c _ _ (by have:=AV l k s q 0 Yo;rw[JU]at this;rw[this];rfl);have ap:wr.cell? ⟨g,k*3+1,none⟩=some (int i64 s.num):=Af c _ _ (by rw[AV l k s q 1 Yo];rfl);have aq:wr.cell? ⟨g,k*3+2,none⟩=some (int i64 s.args):=Af c _ _ (by rw[AV l k s q 2 Yo];rfl);have y:=Yh u;have aj:=Yh F;have H:=Yh x;have X:=Yh ag;clear u F x ag hd q c ay;go_wp2_with fail;apply(LH s _ a5).mono;rintro e w1 ⟨rfl,L⟩;have N:Ad A4 wr w1:=((Ad.refl _ wr).alloc _).trans (Ad.untouched L);have M:w1.heap[wr.heap.size]?=some (.cells #[string ⟨s.name.toArray⟩,int i64 s.num,int i64 s.args] 133 (0,0)):=(L.block _ Ys).trans (QL wr _);have b2:w1.cell? ⟨wr.heap.size,2,none⟩=some (int i64 s.args):=Aa M 2 _ rfl;have bl:=Ac M;have J:=Yh (N.owns aj.o (fun _ _ h=>h));have V:=Yh (H.o.trans (N.below a6 (fun _ h=>h.elim)));have E:=H1 y.o;clear N M L ao ap aq
   by_cases ha:0<s.args
   ·have G:YH (d++Hc s++[40]++A3 (l.drop (k+1)) (s.args::miss)=t):=by show _=_;rw[<-y.o,QQ ha];simp
    rw[QQ ha]at E;simp only[Qg,Qf]at E
    go_wp2_with (at_builtin;refine Al _ rfl (.tmp 23) (.tmp 26) 25 rfl w.heap.size 3 infoInt underlying25 rfl Yd _ miss.length (AM miss.reverse) rfl J.o _ rfl Ys rfl (DT _) ?_ ?_ ?_)
    ·omega
    ·omega
    intro bq w2 ab;have S:=Yh ab;clear ab;go_wp2
    go_roundg (l.length-k)
    case measure=>omega
    case rel=>
     have a3:=S.o.owns;refine⟨k+1,d++Hc s++[40],s.args::miss,Yg,Yo,Yo,?_,G.o,?_,?_,by simp;omega,?_⟩
     ·show Value.string (_++_++(⟨[40].toArray⟩:ByteArray))=_;rw[AA,AA]
     ·simpa[AM]using a3
     ·refine V.o.trans (S.o.kept.below Yo (fun k af=>(J.o.lt k af).1))
     ·intro m a;simp only[Qp]at a;rcases a with rfl|a
      ·exact⟨ha,a4⟩
      ·exact X.o m a
   ·have G:YH (d++Hc s++((Bk miss).1++A3 (l.drop (k+1)) (Bk miss).2)=t):=by show _=_;rw[<-y.o,QP ha];simp
    rw[QP ha]at E;simp only[Qg]at E;go_wp2
    go_loopg [3,4] (miss.length+1) (fun ar ty a8 ah=>∃(f:Lu)(b:List Nat),b.length<ar/\ty=string ⟨f.toArray⟩/\f++((Bk b).1++A3 (l.drop (k+1)) (Bk b).2)=t/\
     ah.ownsRow w.heap.size 3 1 a8 b.length (AM b.reverse)/\Below w.heap.size w ah/\b.length<=k/\∀m∈b,1<=m/\m<=4096)
    case atStart=>
     exact⟨d++Hc s,miss,Yo,congrArg Value.string (AA _ _),G.o,J.o,V.o,a1,X.o⟩
    case round=>
     obtain⟨f,b,az,rfl,z,j,A,a2,R⟩:=hrel;obtain⟨bn,bp,rfl⟩:=Ab j;have P:=H1 z;simp only[Qg]at P
     cases a:b with
     |nil=>
      have C:=Yh z;have ak:=Yh j;have U:=Yh A;have W:=Yh a;have bi:b.length=0:=by rw[a];rfl
      clear z j A a;go_wp2
      go_roundg (l.length-k)
      case measure=>omega
      case rel=>
       refine⟨k+1,f,[],Yg,Yo,Yo,rfl,?_,?_,U.o,Ys,Ys⟩
       ·have h:=C.o;rw[W.o]at h;simpa[Bk]using h
       ·have h:=ak.o;rw[W.o]at h;exact h
     |cons n r=>
      subst a;obtain⟨bj,bk⟩:=R n Ys;obtain⟨aa,bd,be,ad,au,ae,aw⟩:=An j Ys;simp only[QH]at ad;obtain⟨rfl,_,rfl⟩:=ad;simp only[Qf]at aw j az a2;have cg:wr.cell? ⟨aa,r.length,none⟩=some (int i64 n):=Af j r.length _ (by simp[AM]);have bc:=Ag ae r.length;have Z:=Yh (BY j r.length (int i64 ((n:Int)-1)));have C:=Yh z;have U:=Yh A;have Y:=Yh R;have T:=Yh (A.setCell (p:=⟨aa,r.length,none⟩) au (int i64 ((n:Int)-1)));clear z A R j ae
      by_cases D:1<n
      ·have I:YH (f++[44]++A3 (l.drop (k+1)) ((n-1)::r)=t):=by show _=_;rw[<-C.o];simp[Bk,D]
       have O:(Bk (n::r)).1.length=1:=by simp[Bk,D]
       rw[O]at P
       go_wp2
       go_roundg (l.length-k)
       case measure=>omega
       case rel=>
        have ax:(n:Int)-1=((n-1:Nat):Int):=Yo
        refine⟨k+1,f++[44],(n-1)::r,Yg,Yo,Yo,?_,I.o,?_,T.o,by simp;omega,?_⟩
        ·show Value.string (_++(⟨[44].toArray⟩:ByteArray))=_;rw[AA]
        ·have h:=Z.o;rw[ax]at h⊢;simpa[AM]using h
        ·intro m a;simp only[Qp]at a;rcases a with rfl|a
         ·omega
         ·exact Y.o m (by simp[a])
      ·have I:YH (f++[41]++((Bk r).1++A3 (l.drop (k+1)) (Bk r).2)=t):=by show _=_;rw[<-C.o];simp[Bk,D]
       have O:(Bk (n::r)).1.length=(Bk r).1.length+1:=by simp[Bk,D]
       rw[O]at P
       have an:=Yh (I6 (n:=r.length) Z.o);go_wp2
       go_roundg (r.length+1)
       case measure=>omega
       case rel=>
        refine⟨f++[41],r,Yo,?_,I.o,?_,T.o,Yo,fun m a=>Y.o m (by simp[a])⟩
        ·show Value.string (_++(⟨[41].toArray⟩:ByteArray))=_;rw[AA]
        ·have h:=an.o;have e:((AM (n::r).reverse).set r.length (int i64 ((n:Int)-1))).take r.length=AM r.reverse:=by
          simp[AM,List.take_set]
         rw[e]at h;exact h
  ·have a0:k=l.length:=Yo
   have y:YH (d=t):=by
    show _=_;rw[a0,QW (Qe _)]at u;simpa[A3]using u
   have H:=Yh x;clear u x F;go_wp2;go_ret;rw[<-y.o];exact⟨rfl,H.o⟩
def HY(q:Bool):RS:=⟨q,if q then 1 else 0,q,[],[],[],[],[],[]⟩
theorem N3(q:Bool):RI 0 (HY q):=by
 refine⟨by simp[HY],by simp[HY],by simp[HY],by simp[HY],by simp[HY],by simp[HY],?_,by simp[HY],?_⟩
 ·cases q<;>simp[HY]
 ·cases q<;>simp[HY]
def Of:RV:=⟨.slice none 0 0,.slice none 0 0,.slice none 0 0,.slice none 0 0,.slice none 0 0,.slice none 0 0⟩
theorem Tg(w:World)(q:Bool):BZ (w.alloc (.cells (Cm (HY q) Of) 169)) w.heap.size w.heap.size (HY q):=by
 refine⟨Of,0,0,[],[],QL w _,⟨Q2 _ _ _ _,Q2 _ _ _ _,Q2 _ _ _ _,⟨Q2 _ _ _ _,fun k e=>by simp[Of,Value.ownBlock]at e⟩,⟨Q2 _ _ _ _,fun i l hl=>by simp[HY]at hl⟩,
  ⟨Q2 _ _ _ _,rfl,fun x b=>by simp at b,fun i c a=>by simp[HY]at a⟩,fun k e=>by simp[Of,Value.ownBlock]at e,fun k e=>by simp[Of,Value.ownBlock]at e,fun k e=>by simp[Of,Value.ownBlock]at e,Qm _,Qm _⟩,Qe _⟩
def Cp(s:ByteArray)(q:Bool):Nat×Nat×RS:=EF s.size (CZ s.data.toList 0) (HY q)
theorem Lf{b r:Nat}{cs:List CC}{xs:List (Lv)}(h:Fh w B b r v cs xs)(G:Ad S w w')(g:∀k t T fr,S k->w.heap[k]?=some (.cells t T fr)->T≠133/\T≠105/\T≠107/\T≠9):Fh w' B b r v cs xs:=by
 have f:∀{q:Nat}{e:TypeId}{s n:Nat}{v:Value}{z:Lv},w.ownsRow q e s v n z->(e=133\/e=105\/e=107\/e=9)->w'.ownsRow q e s v n z:=fun y a=>
  G.owns y (fun i hi d=>by
   obtain⟨t,p⟩:=Ay y i hi;obtain⟨m,o,E,F⟩:=g i _ _ _ d p;rcases a with a|a|a|a
   ·exact m a
   ·exact o a
   ·exact E a
   ·exact F a)
 have d:∀{v:Value}{l:Ly},DX w B b v l->DX w' B b v l:=fun g=>⟨f g.1 (QG rfl),g.2⟩;refine⟨f h.1 (QO (QO (QG rfl))),h.2.1,h.2.2.1,fun i c p=> ?_⟩;obtain⟨H,A,J,I,C,D,u,j⟩:=h.2.2.2 i c p;exact⟨H,A,J,I,C,d D,⟨f u.1 (QO (QG rfl)),fun i l hl=>by
  obtain⟨x,m,o⟩:=u.2 i l hl;exact⟨x,m,d o⟩⟩,j.1,f j.2.1 (QO (QO (QO rfl))),j.2.2⟩
theorem Ny{b:Nat}{g:Lv}(h:Co w B b v ls g)(o:Ad S w w')(p:∀k,S k->k<B):Co w' B b v ls g:=by
 have d:∀{e:TypeId}{s n:Nat}{v:Value}{j:Lv},w.ownsRow B e s v n j->w'.ownsRow B e s v n j:=fun f=>
  o.owns f (fun i hi m=>by
   have c:=(f.lt i hi).1;have a:=p i m;omega)
 exact⟨d h.1,fun i l hl=>by
  obtain⟨x,c,a⟩:=h.2 i l hl;exact⟨x,c,d a.1,a.2⟩⟩
theorem Ij(s:ByteArray)(w:World)(a:s.size<=maxLen)(hl:800<s.size):
  Calls prog 72 #[string s] w fun e w'=>e=Rq #[Nl,agg #[int i64 1,int i64 0]]/\Below w.heap.size w w':=by
 go_enter func72,ntmps72;go_wp2;refine Jb (v:=tuple #[Nl,agg #[int i64 1,int i64 0]]) (by simp[results,results72,go_sem]) rfl ⟨rfl,(Jc _ _).alloc (Qe _) _⟩
theorem IM(s:ByteArray)(w:World)(hl:s.size<=800):
  Calls prog 72 #[string s] w fun e w'=>Below w.heap.size w w'/\(((Cp s false).1≠0/\e=Rq #[Nl,agg #[int i64 (Cp s false).1,int i64 (Cp s false).2.1]])\/
   ((Cp s false).1=0/\∃v B f g xs,e=Rq #[v,agg #[int i64 0,int i64 0]]/\Fh w' B f g v (Cp s false).2.2.clauses xs)):=by
 obtain⟨a,j⟩:=Ex (Cp s false);have c:=Hj ((w.alloc (.cells #[int i64 0,int i64 0] 91)).alloc (.cells (Cm (HY false) Of) 169)) _ _ (HY false) s (Tg (w.alloc (.cells #[int i64 0,int i64 0] 91)) false) (N3 false) Yo;rw[show EF s.size (CZ s.data.toList 0) (HY false)=a from j.symm]at c;rw[show(w.alloc (.cells #[int i64 0,int i64 0] 91)).heap.size=w.heap.size+1 from by simp]at c;have y:=Yh c;rw[<-j];clear j c;go_enter func72,ntmps72;go_wp2_with fail;apply y.o.mono;rintro e w2 ⟨rfl,O,hb⟩;have i:C3 w2 w.heap.size 0 0:=(hb.block w.heap.size Yo).trans (Ah (QL w _) _);have u:Below w.heap.size w w2:=((Jc _ w).alloc (Qe _) _).trans ((((Jc _ _).alloc Ys _)).trans (hb.mono Yo));obtain⟨V,f,g,vs,xs,h⟩:=O;have Q:=Ac h.blk;obtain⟨E,F,G,H,I,J,K,L,M⟩:=h.opens.facts;obtain⟨ca,N,m⟩:=Ab h.rest.cls.1;rw[m]at M;obtain⟨x,q,r,t⟩:=i.cells;have A:=Yh i;have n:=Yh u;have z:=Yh h.rest.cls;have C:=Yh m;clear i u h m hb E F G H I J K L
 by_cases b:a.1=0
 ·have D:((a.1:Int) !=0)=false:=by rw[b];rfl
  have d:=Yh b;clear b;go_wp2;refine Jb (v:=tuple #[slice ca a.2.2.clauses.length N,agg #[int i64 0,int i64 0]]) (by simp[results,results72,go_sem,q,r,t,x]) rfl ?_;refine⟨?_,QO ⟨d.o,_,w.heap.size+1,f,g,xs,rfl,?_⟩⟩
  ·exact((n.o.setCell (p:=⟨w.heap.size,0,none⟩) (Qe _) _).setCell (p:=⟨w.heap.size,1,none⟩) (Qe _) _).alloc Yp _
  ·rw[<-C.o];exact Lf z.o ((((Ad.refl (only w.heap.size) w2).put 0 _).put 1 _).alloc _) (fun k P T fr l hb=>by
    have l:k=w.heap.size:=l;rw[l,A.o]at hb;simp only[Qo,Obj.cells.injEq]at hb;rw[<-hb.2.1];decide)
 ·have D:((a.1:Int) !=0)=true:=by rw[QR];omega
  have d:=Yh b;clear b;go_wp2_with fail;go_region
  all_goals
   go_wp2;refine Jb (v:=tuple #[Nl,agg #[int i64 a.1,int i64 a.2.1]]) (by simp[results,results72,go_sem,q,r,t,x]) rfl ?_;refine⟨?_,QG ⟨d.o,rfl⟩⟩;exact(((n.o.setCell (p:=⟨w.heap.size,0,none⟩) (Qe _) _).setCell (p:=⟨w.heap.size,1,none⟩) (Qe _) _).alloc Yp _).drew
theorem Kg(s:ByteArray)(w:World)(a:s.size<=maxLen)(hl:120<s.size):
  Calls prog 73 #[string s] w fun e w'=>e=Rq #[agg #[Nl,Nl,Nl],agg #[int i64 1,int i64 0]]/\Below w.heap.size w w':=by
 go_enter func73,ntmps73;go_wp2;refine Jb (v:=tuple #[agg #[Nl,Nl,Nl],agg #[int i64 1,int i64 0]]) (by simp[results,results73,go_sem]) rfl ⟨rfl,((Jc _ _).alloc (Qe _) _).alloc Ys _⟩
theorem Ix(s:ByteArray)(w:World)(hl:s.size<=120)(q:(Cp s true).1=0->∃c cs,(Cp s true).2.2.clauses=c::cs):
  Calls prog 73 #[string s] w fun e w'=>Below w.heap.size w w'/\(((Cp s true).1≠0/\e=Rq #[agg #[Nl,Nl,Nl],agg #[int i64 (Cp s true).1,int i64 (Cp s true).2.1]])\/
   ((Cp s true).1=0/\∃I D L B z vs c cs,e=Rq #[agg #[I,D,L],agg #[int i64 0,int i64 0]]/\(Cp s true).2.2.clauses=c::cs/\(∃a n x,I=slice a n x)/\w'.ownsRow B 9 1 L c.names.length (Ba c.names)/\Co w' B z D c.body vs)):=by
 obtain⟨b,G⟩:=Ex (Cp s true);have m:=Hj (((w.alloc (.cells #[Nl,Nl,Nl] 107)).alloc (.cells #[int i64 0,int i64 0] 91)).alloc (.cells (Cm (HY true) Of) 169)) _ _ (HY true) s (Tg ((w.alloc (.cells #[Nl,Nl,Nl] 107)).alloc (.cells #[int i64 0,int i64 0] 91)) true) (N3 true) Yo;rw[show EF s.size (CZ s.data.toList 0) (HY true)=b from G.symm]at m;rw[show((w.alloc (.cells #[Nl,Nl,Nl] 107)).alloc (.cells #[int i64 0,int i64 0] 91)).heap.size=w.heap.size+1+1 from by simp]at m;have ak:=Yh m;rw[<-G]at q⊢;have am:=Yh q;clear G m q;go_enter func73,ntmps73;go_wp2_with fail;apply ak.o.mono;rintro e w2 ⟨rfl,a4,hb⟩;have W:C3 w2 (w.heap.size+1) 0 0:=(hb.block (w.heap.size+1) Yo).trans (Ah (by have:=QL (w.alloc (.cells #[Nl,Nl,Nl] 107)) (.cells #[int i64 0,int i64 0] 91);simpa using this) _);have d:w2.heap[w.heap.size]?=some (.cells #[Nl,Nl,Nl] 107 (0,0)):=(hb.block w.heap.size Yo).trans (Ah (Ah (QL w _) _) _);have U:Below w.heap.size w w2:=((Jc _ w).alloc (Qe _) _).trans (((Jc _ _).alloc Ys _).trans (((Jc _ _).alloc Yp _).trans (hb.mono Yo)));obtain⟨V,z,a6,vs,xs,h⟩:=a4;have be:=Ac h.blk;obtain⟨ar,au,av,aw,ax,ay,az,a0,a1⟩:=h.opens.facts;obtain⟨ca,a8,J⟩:=Ab h.rest.cls.1;rw[J]at a1;obtain⟨Y,Q,R,T⟩:=W.cells;have q0:w2.cell? ⟨w.heap.size,0,none⟩=some Nl:=Aa d 0 _ rfl;have ac:w2.cell? ⟨w.heap.size,1,none⟩=some Nl:=Aa d 1 _ rfl;have ad:w2.cell? ⟨w.heap.size,2,none⟩=some Nl:=Aa d 2 _ rfl;have ae:=fun i=>Ag d i;have X:=Ac d;have al:=Yh U;have M:=Yh h.rest.cls;have ap:=Yh J;clear W U h hb ar au av aw ax ay az a0 d J;have N:YH (∀af ag ah ai aj o,Below w.heap.size w ((((((w2.setCell ⟨w.heap.size,0,none⟩ af).setCell ⟨w.heap.size,1,none⟩ ag).setCell ⟨w.heap.size,2,none⟩ ah).setCell ⟨w.heap.size+1,0,none⟩ ai).setCell ⟨w.heap.size+1,1,none⟩ aj).alloc o)):=fun af ag ah ai aj o=>
  (((((al.o.setCell (p:=⟨w.heap.size,0,none⟩) (Qe _) _).setCell (p:=⟨w.heap.size,1,none⟩) (Qe _) _).setCell (p:=⟨w.heap.size,2,none⟩) (Qe _) _).setCell (p:=⟨w.heap.size+1,0,none⟩) (Nat.le_succ _) _).setCell (p:=⟨w.heap.size+1,1,none⟩) (Nat.le_succ _) _).alloc Yp _
 by_cases f:b.1=0
 ·have aq:((b.1:Int) !=0)=false:=by rw[f];rfl
  obtain⟨c,cs,r⟩:=am.o f;obtain⟨I,D,L,a5,l,P,E,a2,F,a3⟩:=M.o.2.2.2 0 c (by rw[r];rfl);obtain⟨va,K,rfl⟩:=Ab F;obtain⟨ha,H,rfl⟩:=Ab P.1;obtain⟨A,C,rfl⟩:=Ab E.1;have q:0<b.2.2.clauses.length:=by rw[r];simp
  have j:=M.o.1;rw[ap.o]at j;obtain⟨g,a9,ba,Z,bb,aa,bc⟩:=An j Yo;simp only[QH]at Z;obtain⟨rfl,_,rfl⟩:=Z;obtain⟨u,t⟩:∃u,xs=[slice ha c.head.length H,slice A c.body.length C,slice va c.names.length K]::u:=by
   cases xs with
   |nil=>simp at l
   |cons x u=>simp at l;exact⟨u,by rw[l]⟩
  have bf:w2.cell? ⟨g,0,none⟩=some (slice ha c.head.length H):=Af j 0 _ (by rw[t];rfl);have bg:w2.cell? ⟨g,1,none⟩=some (slice A c.body.length C):=Af j 1 _ (by rw[t];rfl);have bh:w2.cell? ⟨g,2,none⟩=some (slice va c.names.length K):=Af j 2 _ (by rw[t];rfl);have bd:=Ac aa;have a7:(((b.2.2.clauses.length:Nat):Int)==0)=false:=by rw[Qu];omega
  have y:=Yh f;have an:=Yh r;have ao:=Yh E;have O:=Yh F;clear f r l P E a2 F a3 j aa t;go_wp2;refine Jb (v:=tuple #[agg #[slice ha c.head.length H,slice A c.body.length C,slice va c.names.length K],agg #[int i64 0,int i64 0]]) (by simp[results,results73,go_sem,Q,R,T,Y,q0,ac,ad,ae,X]) rfl ?_;refine⟨N.o _ _ _ _ _ _,QO ⟨y.o,_,_,_,w.heap.size+1+1,z,a5,c,cs,rfl,an.o,⟨_,_,_,rfl⟩,?_,?_⟩⟩
  rotate_left
  refine Ny ao.o (S:=fun k=>k=w.heap.size\/k=w.heap.size+1) ?_ (fun k ab=>by omega)
  rotate_left
  refine Ad.owns (S:=fun k=>k=w.heap.size\/k=w.heap.size+1) ?_ O.o (fun k ab e=>by have:=(O.o.lt k ab).1;omega)
  all_goals exact((((((Ad.refl _ w2).setCell (p:=⟨w.heap.size,0,none⟩) (fun _=>QG rfl) _).setCell (p:=⟨w.heap.size,1,none⟩) (fun _=>QG rfl) _).setCell (p:=⟨w.heap.size,2,none⟩) (fun _=>QG rfl) _).setCell (p:=⟨w.heap.size+1,0,none⟩) (fun _=>QO rfl) _).setCell (p:=⟨w.heap.size+1,1,none⟩) (fun _=>QO rfl) _).alloc _
 ·have aq:((b.1:Int) !=0)=true:=by rw[QR];omega
  have y:=Yh f;clear f;go_wp2_with fail;go_region
  all_goals
   go_wp2;refine Jb (v:=tuple #[agg #[Nl,Nl,Nl],agg #[int i64 b.1,int i64 b.2.1]]) (by simp[results,results73,go_sem,Q,R,T,Y,q0,ac,ad,ae,X]) rfl ?_;refine⟨?_,QG ⟨y.o,rfl⟩⟩;exact(N.o _ _ _ _ _ _).drew
def G5(l:Ly):Prop:=l.length<=4000/\∀s∈l,s.num<2600/\s.args<=4096
def E1:Lu->Ll->Lu
 |_,[]=>[]
 |sep,l::ls=>sep++(A3 l []++E1 [44,32] ls)
def G7(c:CC):Lu:=if c.body=[]then A3 c.head []++[46]else A3 c.head []++([32,58,45,32]++(E1 [] c.body++[46]))
def Hy:List CC->Lu
 |[]=>[]
 |c::cs=>G7 c++10::Hy cs
theorem DX.fresh{a:Nat}(h:DX w B a v l)(b:Ad A4 w w'):DX w' B a v l:=⟨b.owns h.1 (fun _ _ h=>h),h.2⟩
theorem Co.fresh{a:Nat}{b:Lv}(h:Co w B a v ls b)(c:Ad A4 w w'):Co w' B a v ls b:=Ny h c (fun _ h=>h.elim)
theorem Fh.fresh{a b:Nat}{cs:List CC}{xs:List (Lv)}(h:Fh w B a b v cs xs)(c:Ad A4 w w'):Fh w' B a b v cs xs:=Lf h c (fun _ _ _ _ h=>h.elim)
theorem Wm(xs:List (Lv))(c:∀x∈xs,x.length=3)(k:Nat)(x:Lv)(b:xs[k]?=some x)(j:Nat)(f:j<3):xs.flatten[k*3+j]?=x[j]?:=by
 induction xs generalizing k with
 |nil=>simp at b
 |cons a xs e=>
  have ha:=c a Ys
  cases k with
  |zero=>
   simp at b;subst b;rw[Q4,Qc Yo];simp
  |succ k=>
   rw[Q4,Qd Yo,<-e (fun y d=>c y (by simp[d])) k (by simpa using b)]
   congr 1
   omega
theorem I8(w:World)(B I:Nat)(v:Value)(ls:Ll)(N:Lv)(u:Co w B I v ls N)(hl:ls.length<=4000)(hn:∀l∈ls,G5 l)(J:(E1 [] ls).length<=100000000):
  Calls prog 146 #[v] w fun e w'=>e=returned (string ⟨(E1 [] ls).toArray⟩)/\Below w.heap.size w w':=by
 obtain⟨h,s⟩:=Ex (E1 [] ls);rw[<-s]at J⊢;obtain⟨va,Y,rfl⟩:=Ab u.1;have H:=Yh u;have F:=Yh s;have G:=Yh hn;clear u s hn;go_enter func146,ntmps146;go_wp2
 go_loopg [3,8] (ls.length+1) (fun gk M i wr=>∃(k:Nat)(a:Lu),i=int i64 k/\k<=ls.length/\ls.length-k<gk/\M=string ⟨a.toArray⟩/\a++E1 (if k=0 then[]else[44,32]) (ls.drop k)=h/\Below w.heap.size w wr)
 case atStart=>exact⟨0,[],rfl,Qm _,Yo,rfl,by rw[F.o];rfl,Jc _ _⟩
 case round=>
  obtain⟨k,a,rfl,W,V,rfl,b,c⟩:=hrel;have D:=c.size
  by_cases t:k<ls.length
  ·obtain⟨l,d⟩:∃l,ls[k]?=some l:=⟨_,Qb t⟩;have hd:ls.drop k=l::ls.drop (k+1):=by
    rw[QC t];rw[Qb t]at d;simp at d;rw[d]
   rw[hd,E1]at b;have y:=G.o l (Qh d);have n:=H.o.fresh (Ad.untouched c);obtain⟨x,E,z⟩:=n.2 k l d;obtain⟨O,P,rfl⟩:=Ab z.1;obtain⟨g,Q,R,C,T,K,U⟩:=An n.1 Yo;simp only[QH]at C;obtain⟨rfl,_,rfl⟩:=C;have S:wr.cell? ⟨g,k,none⟩=some (slice O l.length P):=Af n.1 _ _ E;have p:=H1 b;simp only[Qg]at p;have A:=Yh (GY wr B _ l z.1 y.1 y.2 Yo);have j:=Yh b;have m:=Yh c;clear b c hd d K n z E y
   by_cases h0:k=0
   ·subst h0;have q:YH (a++A3 l []++E1 [44,32] (ls.drop (0+1))=h):=by show _=_;rw[<-j.o];simp
    simp only[QQ]at p;go_wp2_with fail;apply A.o.mono;rintro e w1 ⟨rfl,f⟩;have r:=Yh f;clear f;go_wp2
    go_roundg (ls.length-0)
    case measure=>omega
    case rel=>
     exact⟨0+1,a++A3 l [],Yg,Yo,Yo,congrArg Value.string (AA _ _),q.o,m.o.trans (r.o.mono D)⟩
   ·have q:YH (a++[44,32]++A3 l []++E1 [44,32] (ls.drop (k+1))=h):=by show _=_;rw[<-j.o,QP h0];simp
    rw[QP h0]at p;simp only[Qf,Qt]at p;have X:(0:Int)<(k:Int):=Yo
    go_wp2_with fail;apply A.o.mono;rintro e w1 ⟨rfl,f⟩;have r:=Yh f;clear f;go_wp2
    go_roundg (ls.length-k)
    case measure=>omega
    case rel=>
     refine⟨k+1,a++[44,32]++A3 l [],Yg,Yo,Yo,?_,by rw[QP Yo];exact q.o,m.o.trans (r.o.mono D)⟩;show Value.string (_++(⟨[44,32].toArray⟩:ByteArray)++_)=_;rw[AA,AA]
  ·have L:k=ls.length:=Yo
   have j:YH (a=h):=by
    show _=_;rw[L,QW (Qe _)]at b;simpa[E1]using b
   have m:=Yh c;clear b c;go_wp2;go_ret;rw[<-j.o];exact⟨rfl,m.o⟩
theorem MM(w:World)(B c:Nat)(g d i:Value)(ls:Ll)(h:Lv)(p:∃a n x,g=slice a n x)(q:∃a n x,i=slice a n x)(b:Co w B c d ls h)(hl:ls.length<=4000)(hn:∀l∈ls,G5 l)(m:(E1 [] ls).length<=100000000):
  Calls prog 109 #[agg #[g,d,i]] w fun e w'=>e=returned (string ⟨(E1 [] ls++[46]).toArray⟩)/\Below w.heap.size w w':=by
 obtain⟨ha,t,u,rfl⟩:=p;obtain⟨va,vn,v,rfl⟩:=q;obtain⟨r,s,rfl⟩:=Ab b.1;have j:=Yh (fun o=>I8 (w.alloc o) B c _ ls h (b.fresh ((Ad.refl _ w).alloc o)) hl hn m);clear b;go_enter func109,ntmps109;go_wp2_with fail;apply(j.o _).mono;rintro e w1 ⟨rfl,f⟩;have k:=Yh f;clear f;go_wp2;go_ret;refine⟨DS ?_,((Jc _ w).alloc (Qe _) _).trans (k.o.mono Ys)⟩;exact AA _ [46]
theorem N0(w:World)(B p:Nat)(z u C:Value)(c:CC)(A:Lv)(M:∃a n x,C=slice a n x)(q:DX w B p z c.head)(r:Co w B p u c.body A)(hl:c.body.length<=4000)(hn:G5 c.head/\∀l∈c.body,G5 l)(d:(G7 c).length<=100000000):
  Calls prog 140 #[agg #[z,u,C]] w fun e w'=>e=returned (string ⟨(G7 c).toArray⟩)/\Below w.heap.size w w':=by
 obtain⟨va,vn,D,rfl⟩:=M;obtain⟨ha,y,rfl⟩:=Ab q.1;obtain⟨g,i,rfl⟩:=Ab r.1;have K:(A3 c.head []).length<=100000000:=by
  unfold G7 at d;split at d<;>simp only[Qg]at d<;>omega
 have t:=Yh (fun o=>GY (w.alloc o) B _ c.head (q.fresh ((Ad.refl _ w).alloc o)).1 hn.1.1 hn.1.2 K);have E:=Yh r;have H:=Yh hn;clear q r hn
 by_cases hb:c.body=[]
 ·have m:YH (G7 c=A3 c.head []++[46]):=by show _=_;rw[G7,QQ hb]
  have I:(((c.body.length:Nat):Int)==0)=true:=by rw[hb];rfl
  clear hb;go_enter func140,ntmps140;go_wp2_with fail;apply(t.o _).mono;rintro e w1 ⟨rfl,b⟩;have f:w1.heap[w.heap.size]?=some (.cells #[slice ha c.head.length y,slice g c.body.length i,slice va vn D] 107 (0,0)):=(b.block _ Ys).trans (QL w _);have b1:w1.cell? ⟨w.heap.size,1,none⟩=some (slice g c.body.length i):=Aa f 1 _ rfl;have k:=Yh b;clear b f;go_wp2;go_ret;rw[m.o];exact⟨DS (AA _ [46]),((Jc _ w).alloc (Qe _) _).trans (k.o.mono Ys)⟩
 ·have s:G7 c=A3 c.head []++([32,58,45,32]++(E1 [] c.body++[46])):=by rw[G7,QP hb]
  have I:(((c.body.length:Nat):Int)==0)=false:=by
   rw[Qu]
   cases J:c.body with
   |nil=>exact absurd J hb
   |cons _ _=>simp;omega
  rw[s]at d;simp only[Qg,Qf,Qt]at d;have m:=Yh s;clear hb s;go_enter func140,ntmps140;go_wp2_with fail;apply(t.o _).mono;rintro e w1 ⟨rfl,b⟩;have f:w1.heap[w.heap.size]?=some (.cells #[slice ha c.head.length y,slice g c.body.length i,slice va vn D] 107 (0,0)):=(b.block _ Ys).trans (QL w _);have b1:w1.cell? ⟨w.heap.size,1,none⟩=some (slice g c.body.length i):=Aa f 1 _ rfl;have j:Ad A4 w w1:=((Ad.refl _ w).alloc _).trans (Ad.untouched b);have F:=Yh (I8 w1 B p _ c.body A (E.o.fresh j) hl H.o.2 Yo);have L:=j.size;have k:=Yh (j.below (Qe _) (fun _ h=>h.elim));clear b f j;go_wp2_with fail;apply F.o.mono;rintro e w2 ⟨rfl,v⟩;have G:=Yh v;clear v;go_wp2;go_ret;rw[m.o];refine⟨DS ?_,k.o.trans (G.o.mono L)⟩;show _++(⟨[32,58,45,32].toArray⟩:ByteArray)++_++(⟨[46].toArray⟩:ByteArray)=_;rw[AA,AA,AA];simp
theorem KO(w:World)(B x O:Nat)(v:Value)(cs:List CC)(xs:List (Lv))(u:Fh w B x O v cs xs)(hl:cs.length<=4000)(hn:∀c∈cs,c.body.length<=4000/\G5 c.head/\∀l∈c.body,G5 l)(S:(Hy cs).length<=100000000):
  Calls prog 105 #[v] w fun e w'=>e=returned (string ⟨(Hy cs).toArray⟩)/\Below w.heap.size w w':=by
 obtain⟨n,s⟩:=Ex (Hy cs);rw[<-s]at S⊢;obtain⟨va,am,rfl⟩:=Ab u.1;have N:=Yh u;have I:=Yh s;have M:=Yh hn;clear u s hn;go_enter func105,ntmps105;go_wp2
 go_loopg [3,8] (cs.length+1) (fun gk Z i wr=>∃(k:Nat)(d:Lu),i=int i64 k/\k<=cs.length/\cs.length-k<gk/\Z=string ⟨d.toArray⟩/\d++Hy (cs.drop k)=n/\Below w.heap.size w wr)
 case atStart=>exact⟨0,[],rfl,Qm _,Yo,rfl,by rw[I.o];rfl,Jc _ _⟩
 case round=>
  obtain⟨k,d,rfl,ah,ag,rfl,a,f⟩:=hrel;have Y:=f.size
  by_cases t:k<cs.length
  ·obtain⟨c,h⟩:∃c,cs[k]?=some c:=⟨_,Qb t⟩;have hd:cs.drop k=c::cs.drop (k+1):=by
    rw[QC t];rw[Qb t]at h;simp at h;rw[h]
   rw[hd,Hy]at a;obtain⟨C,D⟩:=M.o c (Qh h);have b:=N.o.fresh (Ad.untouched f);obtain⟨ai,ab,an,aa,y,q,r,R,E,_⟩:=b.2.2.2 k c h;obtain⟨ha,T,rfl⟩:=Ab q.1;obtain⟨P,Q,rfl⟩:=Ab r.1;obtain⟨F,G,rfl⟩:=Ab E;obtain⟨g,ac,ad,A,ae,U,af⟩:=An b.1 Yo;simp only[QH]at A;obtain⟨rfl,_,rfl⟩:=A;have m:=fun j V=>Wm xs b.2.2.1 k _ y j V;have aj:wr.cell? ⟨g,k*3,none⟩=some (slice ha c.head.length T):=Af b.1 _ _ (by have:=m 0 Yo;rw[JU]at this;rw[this];rfl);have ak:wr.cell? ⟨g,k*3+1,none⟩=some (slice P c.body.length Q):=Af b.1 _ _ (by rw[m 1 Yo];rfl);have al:wr.cell? ⟨g,k*3+2,none⟩=some (slice F c.names.length G):=Af b.1 _ _ (by rw[m 2 Yo];rfl);have X:=H1 a;simp only[Qg,Qf]at X;have H:=Yh (fun o=>N0 (wr.alloc o) B x _ _ _ c aa ⟨F,c.names.length,G,rfl⟩ (q.fresh ((Ad.refl _ wr).alloc o)) (r.fresh ((Ad.refl _ wr).alloc o)) C D Yo);have K:YH (d++(G7 c++[10])++Hy (cs.drop (k+1))=n):=by show _=_;rw[<-a];simp
   have p:=Yh f;clear a f hd h U b y q r R m C D E;go_wp2_with fail;apply(H.o _).mono;rintro e w1 ⟨rfl,z⟩;have L:=Yh z;clear z;go_wp2
   go_roundg (cs.length-k)
   case measure=>omega
   case rel=>
    refine⟨k+1,d++(G7 c++[10]),Yg,Yo,Yo,?_,K.o,p.o.trans (((Jc _ wr).alloc Y _).trans (L.o.mono Yp))⟩;show Value.string (_++(_++(⟨[10].toArray⟩:ByteArray)))=_;rw[AA,AA]
  ·have W:k=cs.length:=Yo
   have J:YH (d=n):=by
    show _=_;rw[W,QW (Qe _)]at a;simpa[Hy]using a
   have p:=Yh f;clear a f;go_wp2;go_ret;rw[<-J.o];exact⟨rfl,p.o⟩
def CI:Ly->Nat->Option Nat
 |[],k=>some k
 |s::r,k=>if s.name=[]then(if s.num<k then CI r k else if s.num=k then CI r (k+1)else none)else CI r k
theorem Hg(a b:Ly)(k:Nat):CI (a++b) k=(CI a k).bind (CI b):=by
 induction a generalizing k with
 |nil=>rfl
 |cons s a c=>
  simp only[Qy,CI];split
  ·split
   ·exact c k
   ·split
    ·exact c (k+1)
    ·rfl
  ·exact c k
theorem Lq{a b:Ly}{c:Nat}(h:CI (a++b) k=some c):∃j,CI a k=some j/\CI b j=some c:=by
 rw[Hg]at h
 cases ha:CI a k with
 |none=>rw[ha]at h;simp at h
 |some j=>rw[ha]at h;exact⟨j,rfl,h⟩
theorem Dn:∀(l:Ly)(k b:Nat),CI l k=some b->k<=b/\b<=k+l.length/\∀s∈l,s.name=[]->s.num<b:=by
 intro l
 induction l with
 |nil=>intro k b h;simp[CI]at h;subst h;simp
 |cons s l f=>
  intro k b h;simp only[CI]at h;split at h
  ·split at h
   ·rename_i e i;obtain⟨d,g,c⟩:=f _ _ h;refine⟨d,by simp;omega,?_⟩;intro x a hn;simp at a;rcases a with rfl|a
    ·omega
    ·exact c x a hn
   ·split at h
    ·rename_i e i j;obtain⟨d,g,c⟩:=f _ _ h;refine⟨Yo,by simp;omega,?_⟩;intro x a hn;simp at a;rcases a with rfl|a
     ·omega
     ·exact c x a hn
    ·simp at h
  ·rename_i e;obtain⟨d,g,c⟩:=f _ _ h;refine⟨d,by simp;omega,?_⟩;intro x a hn;simp at a;rcases a with rfl|a
   ·exact absurd hn e
   ·exact c x a hn
theorem UH(n k:Nat)(h:n<k):(List.range k).idxOf n=n:=by
 have c:n∈List.range k:=by simpa using h
 have b:=JX c;have a:=List.getElem_idxOf b;rw[List.getElem_range]at a;exact a
theorem Rw(f:Nat)(m:∀l,GT f l->∀k a,CI l k=some a->(AO f l (List.range k)).2.1=List.range a/\∀rest miss,A3 (l++rest) miss=(AO f l (List.range k)).1++((Bk miss).1++A3 rest (Bk miss).2)):
  ∀(ls:Ll),ls≠[]->(∀l∈ls,GT f l)->∀(k a:Nat)(b:UInt8),CI ls.flatten k=some a->(BD f b ls (List.range k)).2=List.range a/\
   ∀rest miss,b::A3 (ls.flatten++rest) (ls.length::miss)=(BD f b ls (List.range k)).1++(41::((Bk miss).1++A3 rest (Bk miss).2)):=by
 intro ls
 induction ls with
 |nil=>intro h;exact absurd rfl h
 |cons l ls r=>
  intro _ g k a b i;rw[Q4]at i;obtain⟨j,n,e⟩:=Lq i;obtain⟨w1,w2⟩:=m l (g l Ys) k j n
  cases ls with
  |nil=>
   simp only[QY,CI,Qo]at e;subst e;simp only[BD,w1,Q4,QY,Qs];refine⟨trivial,fun rest miss=> ?_⟩;rw[w2];simp[Bk]
  |cons c d=>
   obtain⟨s,t⟩:=r Ys (fun x q=>g x (by simp[q])) j a 44 e;have p:BD f b (l::c::d) (List.range k)=(b::((AO f l (List.range k)).1++(BD f 44 (c::d) (List.range j)).1),(BD f 44 (c::d) (List.range j)).2):=by
    rw[BD,w1]
   rw[p];refine⟨s,fun rest miss=> ?_⟩;rw[Q4,Qi,w2];have o:Bk ((l::c::d).length::miss)=([44],(c::d).length::miss):=by simp[Bk]
   rw[o];have:=t rest miss;simp only[Qy,Qz,Qi];rw[this]
theorem VS:∀(f:Nat)(l:Ly),GT f l->∀k b,CI l k=some b->(AO f l (List.range k)).2.1=List.range b/\∀rest miss,A3 (l++rest) miss=(AO f l (List.range k)).1++((Bk miss).1++A3 rest (Bk miss).2):=by
 intro f
 induction f with
 |zero=>intro l h;exact h.elim
 |succ f r=>
  intro l h k b a;rcases h with⟨n,rfl⟩|⟨nm,ls,c,rfl,i⟩
  ·simp only[CI,Ja]at a;split at a
   ·rename_i hn;simp at a;subst a;have g:Gm n (List.range k)=(CJ n,List.range k):=by
     unfold Gm;rw[QQ (by simpa using hn),UH n k hn]
    simp[AO,g,A3,Hc]
   ·split at a
    ·rename_i m o;simp at a;subst a;have g:Gm n (List.range k)=(CJ n,List.range (k+1)):=by
      unfold Gm;rw[QP (by simpa using m),List.range_succ,o];simp
     simp[AO,g,A3,Hc]
    ·simp at a
  ·have e:CI ls.flatten k=some b:=by simpa[CI,c]using a
   cases d:ls with
   |nil=>
    rw[d]at e;simp[CI]at e;subst e;simp[AO,A3,Hc,c]
   |cons u v=>
    rw[<-d];have j:ls≠[]:=by rw[d];simp
    have q:=GF f nm ls c i j (List.range k);obtain⟨s,t⟩:=Rw f r ls j i k b 40 e;rw[q];refine⟨s,fun rest miss=> ?_⟩;have p:0<ls.length:=by rw[d];simp
    have:=t rest miss;simp only[Qy,A3,p,Ja,Hc,c,if_false,Qi];rw[this];simp
theorem KH(f:Nat):∀(ls:Ll),(∀l∈ls,GT f l)->∀(k a:Nat)(b:Lu),CI ls.flatten k=some a->E1 b ls=BQ f b ls (List.range k):=by
 intro ls
 induction ls with
 |nil=>intro _ k a b _;rfl
 |cons l ls m=>
  intro d k a b e;rw[Q4]at e;obtain⟨j,g,h⟩:=Lq e;obtain⟨w1,w2⟩:=VS f l (d l Ys) k j g;have c:=w2 [] [];simp only[Qs,Bk,A3,Qz]at c;rw[E1,BQ,w1,c,m (fun x i=>d x (by simp[i])) j a _ h];simp
def C6(ts:List BV):Prop:=∀i t,ts[i]?=some t->i+1<ts.length->t.text≠[]
theorem C6.drop{ts:List BV}(h:C6 ts)(n:Nat):C6 (ts.drop n):=by
 intro i t hi hl;rw[List.getElem?_drop]at hi;rw[JI]at hl;exact h (n+i) t hi Yo
theorem C6.tail{t:BV}{ts:List BV}(h:C6 (t::ts)):C6 ts:=by simpa using h.drop 1
theorem Pn(names:At)(s:Lu)(r:Ly):CI (⟨[],(A8 names s).2,0⟩::r) names.length=CI r (A8 names s).1.length:=by
 unfold A8;split
 ·rename_i h;have:=JX h;simp[CI,this]
 ·simp[CI]
theorem UK(f:Nat)(i:∀ts names r,C6 ts->Bo f ts names=some r->GT f r.1/\CI r.1 names.length=some r.2.2.length)(e:Nat):
  ∀(g:Nat)(ts:List BV)(names:At)(a:Ll) r,C6 ts->(∀l∈a,GT f l)->CI a.flatten e=some names.length->Cy (Bo f) g ts names a=some r->(∀l∈r.1,GT f l)/\CI r.1.flatten e=some r.2.2.length:=by
 intro g
 induction g with
 |zero=>intro ts names a r _ _ _ h;simp[Cy]at h
 |succ g m=>
  intro ts names a r d ha c h
  cases ts with
  |nil=>simp[Cy]at h
  |cons t ts=>
   rw[Cy]at h;split at h
   ·simp at h;subst h;exact⟨ha,c⟩
   ·cases b:Bo f ts names with
    |none=>rw[b]at h;simp at h
    |some q=>
     rw[b]at h;simp only at h;obtain⟨j,k⟩:=i ts names q d.tail b;obtain⟨n,_,_,hn,_⟩:=Di f ts names q b;refine m q.2.1 q.2.2 (a++[q.1]) r (by rw[hn];exact d.tail.drop n) ?_ ?_ h
     ·intro l hl;simp at hl;rcases hl with hl|rfl
      ·exact ha l hl
      ·exact j
     ·simp only[JB,Q4,QY,Qs];rw[Hg,c];exact k
theorem J4:∀(f:Nat)(ts:List BV)(names:At) r,C6 ts->Bo f ts names=some r->GT f r.1/\CI r.1 names.length=some r.2.2.length:=by
 intro f
 induction f with
 |zero=>intro ts names r _ h;simp[Bo]at h
 |succ f g=>
  intro ts names r b h
  cases ts with
  |nil=>simp[Bo]at h
  |cons t ts=>
   rw[Bo]at h;split at h
   ·simp at h;subst h;exact⟨QG ⟨_,rfl⟩,by rw[Pn];rfl⟩
   ·cases ts with
    |nil=>simp[FF]at h
    |cons u i=>
     have a:t.text≠[]:=b 0 t rfl Ys;rw[FF]at h;split at h
     ·simp at h;subst h;exact⟨QO ⟨t.text,[],a,rfl,Ys⟩,by simp[CI,a]⟩
     ·rw[JH]at h;obtain⟨q,e,rfl⟩:=h;obtain⟨c,d⟩:=UK f g names.length _ _ _ _ _ b.tail Ys rfl e;exact⟨QO ⟨t.text,q.1,a,rfl,c⟩,by simpa[CI,a]using d⟩
theorem FC(f:Nat)(d:Nat):∀(g:Nat)(ts:List BV)(names:At)(a:Ll) q,C6 ts->(∀l∈a,GT f l)->CI a.flatten d=some names.length->BG f g ts names a=some q->
  (∀l∈q.1,GT f l)/\CI q.1.flatten d=some q.2.2.length/\C6 q.2.1:=by
 intro g
 induction g with
 |zero=>intro ts names a q _ _ _ h;simp[BG]at h
 |succ g s=>
  intro ts names a q k ha m h;rw[BG]at h
  cases b:Bo f ts names with
  |none=>rw[b]at h;simp at h
  |some r=>
   rw[b]at h;simp only at h;obtain⟨o,p⟩:=J4 f ts names r k b;obtain⟨n,_,_,hn,_⟩:=Di f ts names r b;have c:C6 r.2.1:=by rw[hn];exact k.drop n
   have e:∀l∈a++[r.1],GT f l:=by
    intro l hl;simp at hl;rcases hl with hl|rfl
    ·exact ha l hl
    ·exact o
   have j:CI (a++[r.1]).flatten d=some r.2.2.length:=by
    simp only[JB,Q4,QY,Qs];rw[Hg,m];exact p
   cases i:r.2.1 with
   |nil=>rw[i]at h;simp at h
   |cons x rest=>
    rw[i]at h c;simp only at h;split at h
    ·simp at h;subst h;exact⟨e,j,c.tail⟩
    ·exact s rest r.2.2 (a++[r.1]) q c.tail e j h
def Vx(c:Db):Prop:=GT 1000 c.head/\(∀l∈c.body,GT 1000 l)/\∃k1 k2,CI c.head 0=some k1/\CI c.body.flatten k1=some k2
theorem Kl(ts:List BV)(c:Db×List BV)(e:C6 ts)(h:Dl ts=some c):Vx c.1/\C6 c.2:=by
 rw[Dl]at h
 cases a:Bo 1000 ts []with
 |none=>rw[a]at h;simp at h
 |some r=>
  rw[a]at h;simp only at h;obtain⟨f,g⟩:=J4 1000 ts [] r e a;obtain⟨n,_,_,hn,_⟩:=Di 1000 ts [] r a;have b:C6 r.2.1:=by rw[hn];exact e.drop n
  cases d:r.2.1 with
  |nil=>rw[d]at h;simp at h
  |cons y m=>
   rw[d]at h b;simp only at h;split at h
   ·rw[JH]at h;obtain⟨q,l,rfl⟩:=h;obtain⟨i,j,k⟩:=FC 1000 r.2.2.length 1000 m r.2.2 [] q b.tail Ys rfl l;exact⟨⟨f,i,_,_,g,j⟩,k⟩
   ·simp at h;subst h;exact⟨⟨f,Ys,_,_,g,rfl⟩,b.tail⟩
theorem Nq:∀(g:Nat)(ts:List BV)(a cs:Lc),C6 ts->(∀c∈a,Vx c)->CW g ts a=some cs->∀c∈cs,Vx c:=by
 intro g
 induction g with
 |zero=>intro ts a cs _ _ h;simp[CW]at h
 |succ g j=>
  intro ts a cs i ha h
  cases ts with
  |nil=>simp[CW]at h
  |cons t ts=>
   rw[CW]at h;split at h
   ·simp at h;subst h;exact ha
   ·cases d:Dl (t::ts)with
    |none=>rw[d]at h;simp at h
    |some c=>
     rw[d]at h;simp only at h;obtain⟨e,f⟩:=Kl _ c i d;refine j c.2 (a++[c.1]) cs f ?_ h;intro x b;simp at b;rcases b with b|rfl
     ·exact ha x b
     ·exact e
theorem Rh(c:Db)(h:Vx c):G7 c++[10]=BE c:=by
 obtain⟨b,d,a,g,e,f⟩:=h;obtain⟨w1,w2⟩:=VS 1000 c.head b 0 a e;have w3:=w2 [] [];simp only[Qs,Bk,A3,Qz,List.range_zero]at w1 w3;unfold G7 BE;split
 ·rw[w3];simp
 ·rw[w3,w1,KH 1000 c.body d a g [] f];simp
theorem Rd(cs:Lc)(h:∀c∈cs,Vx c):Hy cs=cs.flatMap BE:=by
 induction cs with
 |nil=>rfl
 |cons c cs b=>
  rw[Hy,List.flatMap_cons,<-Rh c (h c Ys),b (fun x a=>h x (by simp[a]))];simp
theorem OB(ls:Ll)(l:Ly)(h:l∈ls):l.length<=ls.flatten.length:=by
 induction ls with
 |nil=>simp at h
 |cons x ls a=>
  simp only[Qp]at h;rw[Q4,Qg];rcases h with rfl|h
  ·omega
  ·have:=a h;omega
theorem Wk:∀(f:Nat)(l:Ly),GT f l->∀s∈l,s.args<=l.length/\(s.name=[]\/s.num=0):=by
 intro f
 induction f with
 |zero=>intro l h;exact h.elim
 |succ f g=>
  intro l h s a;rcases h with⟨n,rfl⟩|⟨nm,ls,j,rfl,c⟩
  ·simp at a;subst a;simp
  ·have k:=HB f ls c;simp only[Qp]at a;rcases a with rfl|a
   ·exact⟨by simp only[Qf];omega,QO rfl⟩
   ·rw[List.mem_flatten]at a;obtain⟨b,d,a⟩:=a;obtain⟨i,e⟩:=g b (c b d) s a;have:=OB ls b d;exact⟨by simp only[Qf];omega,e⟩
theorem Wz(f:Nat)(l:Ly)(k b:Nat)(h:GT f l)(e:CI l k=some b)(hl:l.length<=1000)(i:b<=2600):G5 l:=by
 refine⟨Yo,fun s c=> ?_⟩;obtain⟨g,a⟩:=Wk f l h s c;obtain⟨_,_,d⟩:=Dn l k b e;refine⟨?_,Yo⟩;rcases a with a|a
 ·have:=d s c a;omega
 ·omega
theorem Ty(f:Nat):∀(ls:Ll)(k a:Nat),(∀l∈ls,GT f l)->CI ls.flatten k=some a->ls.flatten.length<=1000->a<=2600->∀l∈ls,G5 l:=by
 intro ls
 induction ls with
 |nil=>intro k a _ _ _ _ l hl;simp at hl
 |cons l ls m=>
  intro k a d e hl h x b;rw[Q4]at e hl;rw[Qg]at hl;obtain⟨j,g,c⟩:=Lq e;obtain⟨b1,_,_⟩:=Dn _ _ _ c;simp only[Qp]at b;rcases b with rfl|b
  ·exact Wz f x k j (d x Ys) g Yo Yo
  ·exact m j a (fun y i=>d y (by simp[i])) c Yo h x b
theorem Da(s:ByteArray):C6 (Ap s):=GI s
theorem BS(s:ByteArray)(q:Bool):(Cp s q).1=(Bb (Ap s) (AD q)).1/\((Cp s q).1≠0->(Cp s q).2.1=(Bb (Ap s) (AD q)).2)/\((Cp s q).1=0->(Cp s q).2.2=takes (CZ s.data.toList 0) (HY q)):=
 UU s.size _ _ _ (Yx q) (GN _ _)
theorem WS{ts:List BV}(d:Jj ts L)(b:fin ts)(e:L.want=5):∃t r,ts=t::r/\t.kind=4:=by
 cases ts with
 |nil=>exact b.elim
 |cons t r=>
  refine⟨t,r,rfl,?_⟩;apply Classical.byContradiction;intro c;have h:=(D4 d (fun a=>c a.1)).1;unfold Bi at h;rw[QP Yo,QQ e]at h;simp at h
theorem Ec(s:ByteArray)(w:s.size<=120)(h0:(Cp s true).1=0):
  ∃q,BG 1000 1000 (Ap s) [] []=some q/\(Cp s true).2.2.clauses=[⟨[],q.1,q.2.2⟩]/\E1 [] q.1=BQ 1000 [] q.1 []/\q.1.length<=4000/\(∀l∈q.1,G5 l)/\(E1 [] q.1).length<=100000000:=by
 obtain⟨A,_,B⟩:=BS s true;have hl:=BM s;have v:Jj (Ap s) (AD true):=A.symm.trans h0;obtain⟨q,C,i,ex,j,m,n,o,_,_,_,_,p,k,e⟩:=Nm 1000 (Ap s) (AD true) [] (HY true) Yo Yo v (IP _ _) rfl rfl rfl rfl rfl rfl rfl;have u:(Ap s).take i=CZ s.data.toList 0:=Si (GN _ _) (by
  obtain⟨t,r,g,h⟩:=WS m n (by rw[o];rfl);exact⟨t,r,by rw[<-g,p];rfl,h⟩)
 rw[u]at e;have c:BG 1000 1000 (Ap s) [] []=some q:=j;have f:=FN (M:=120) 1000 (Ap s) [] [] q (fun t y=>Qq (Cu s t y) w) Ys c;obtain⟨a,b,_⟩:=FC 1000 0 1000 (Ap s) [] [] q (Da s) Ys rfl c;have D:=HB 1000 q.1 a;have E:q.1.flatten.length<=121:=by have:=f.1;simp only[QY,Qt]at this;omega
 obtain⟨_,b2,_⟩:=Dn _ _ _ b;have d:=KH 1000 q.1 a 0 _ [] b;simp only[List.range_zero]at d;have F:=FR 1000 q.1 a (fun x z=>Qq (f.2.1 x z) Yo) [] [] Ys (by simp only[Qt];omega);refine⟨q,c,?_,d,Yo,Ty 1000 q.1 0 _ a b Yo Yo,?_⟩
 ·rw[B h0,e,k];rfl
 ·rw[d];omega
theorem Vf(cs:Lc)(h:∀c∈cs,(BE c).length<=4110*Dd c):(cs.flatMap BE).length<=4110*(cs.map Dd).sum:=by
 induction cs with
 |nil=>simp
 |cons c cs b=>
  have d:=b (fun x a=>h x (by simp[a]));have e:=h c Ys;simp only[List.flatMap_cons,Qg,Qx,List.sum_cons];omega
theorem PN(cs:Lc)(c:Db)(h:c∈cs):Dd c<=(cs.map Dd).sum:=by
 induction cs with
 |nil=>simp at h
 |cons x cs a=>
  simp only[Qp]at h;simp only[Qx,List.sum_cons];rcases h with rfl|h
  ·omega
  ·have:=a h;omega
theorem OD(s:ByteArray)(w:s.size<=800)(h0:(Cp s false).1=0):
  ∃cs,CW 1000 (Ap s) []=some cs/\(Hy (Cp s false).2.2.clauses)=cs.flatMap BE/\(Cp s false).2.2.clauses.length<=4000/\(∀c∈(Cp s false).2.2.clauses,c.body.length<=4000/\G5 c.head/\∀l∈c.body,G5 l)/\(cs.flatMap BE).length<=100000000:=by
 obtain⟨B,_,C⟩:=BS s false;have hl:=BM s;have v:Jj (Ap s) (AD false):=B.symm.trans h0;obtain⟨cs,i,ex,e,r,k,m⟩:=Rr 1000 (Ap s) (AD false) [] (HY false) Yo Yo v (IP _ _) rfl rfl rfl rfl ⟨rfl,rfl,rfl,rfl,rfl,rfl,rfl,rfl⟩;rw[show(Ap s).take i=CZ s.data.toList 0 from Si (GN _ _) r]at m;rw[Qz]at k;subst k;have u:(Cp s false).2.2.clauses=cs:=by
  rw[C h0,m];rfl
 have f:=Nq 1000 (Ap s) [] cs (Da s) Ys e;obtain⟨p,A,q⟩:=L9 (M:=800) 1000 (Ap s) [] cs (fun t y=>Qq (Cu s t y) w) Ys e;simp only[QX,List.sum_nil,Qt]at p A;rw[u];refine⟨cs,e,Rd cs f,Yo,?_,?_⟩
 ·intro c a;obtain⟨d,b,o,z,h,j⟩:=f c a;have n:=Qq (PN cs c a) p;unfold Dd at n;have D:=HB 1000 c.body b;obtain⟨_,b1,_⟩:=Dn _ _ _ h;obtain⟨_,b2,_⟩:=Dn _ _ _ j;exact⟨Yo,Wz 1000 c.head 0 o d h Yo Yo,Ty 1000 c.body o z b j Yo Yo⟩
 ·have:=Vf cs (fun c a=>by
   obtain⟨d,b,_⟩:=f c a;have n:=PN cs c a;exact Kf c d b (fun x g=>Qq ((q c a).1 x g) Yo) (fun x g=>Qq ((q c a).2 x g) Yo) Yo)
  omega
def AN(q:Ll×At):ND:=⟨q.1.map (fun t=>(t,0)),(List.range q.2.length).map vr,[],[],q.2.length⟩
def Ep(n:Nat)(met:List Nat):List Nat:=if met.idxOf n=met.length then met++[n]else met
def AC:Ly->List Nat->Ly×List Nat
 |[],met=>([],met)
 |s::r,met=>if s.name=[]then(⟨[],met.idxOf s.num,s.args⟩::(AC r (Ep s.num met)).1,(AC r (Ep s.num met)).2)else(s::(AC r met).1,(AC r met).2)
def Aw:Ll->List Nat->Ll×List Nat
 |[],met=>([],met)
 |t::ts,met=>((AC t met).1::(Aw ts (AC t met).2).1,(Aw ts (AC t met).2).2)
theorem Ic(a b:Ly)(met:List Nat):AC (a++b) met=((AC a met).1++(AC b (AC a met).2).1,(AC b (AC a met).2).2):=by
 induction a generalizing met with
 |nil=>rfl
 |cons s a c=>simp only[Qy,AC,c];split<;>rfl
theorem ML(a b:Ll)(met:List Nat):Aw (a++b) met=((Aw a met).1++(Aw b (Aw a met).2).1,(Aw b (Aw a met).2).2):=by
 induction a generalizing met with
 |nil=>rfl
 |cons s a c=>simp only[Qy,Aw,c]
theorem ET(ts:Ll)(met:List Nat):(Aw ts met).1.length=ts.length:=by
 induction ts generalizing met with
 |nil=>rfl
 |cons t ts a=>simp[Aw,a]
theorem Ih(l:Ly)(met:List Nat):(AC l met).1.length=l.length:=by
 induction l generalizing met with
 |nil=>rfl
 |cons s l a=>simp only[AC];split<;>simp[a]
theorem MQ{f:Nat->Nat}{met:List Nat}{n:Nat}(h:∀m∈met,f m=f n->m=n):(met.map f).idxOf (f n)=met.idxOf n:=by
 induction met with
 |nil=>rfl
 |cons m met c=>
  simp only[Qx,List.idxOf_cons]
  by_cases e:m=n
  ·subst e;simp
  ·have e':¬f m=f n:=fun a=>e (h m Ys a);have b1:(f m==f n)=false:=by rw[Qu];exact e'
   have b2:(m==n)=false:=by rw[Qu];exact e
   rw[b1,b2];simp only[cond_false];rw[c (fun x b=>h x (by simp[b]))]
theorem Wl{f:Nat->Nat}{met:List Nat}{n:Nat}(h:∀m∈met,f m=f n->m=n):Ep (f n) (met.map f)=(Ep n met).map f:=by
 unfold Ep;rw[MQ h];simp only[Ql];split<;>simp
theorem PD{n m:Nat}{met:List Nat}(h:m∈Ep n met):m∈met\/m=n:=by
 unfold Ep at h;split at h
 ·simpa using h
 ·exact QG h
theorem S2{l:Ly}{met:List Nat}{m:Nat}(h:m∈(AC l met).2):m∈met\/Cf m l:=by
 induction l generalizing met with
 |nil=>exact QG h
 |cons s l d=>
  simp only[AC]at h;split at h
  ·rename_i e;rcases d h with h|h
   ·rcases PD h with h|rfl
    ·exact QG h
    ·exact QO ⟨s,Ys,e,rfl⟩
   ·obtain⟨t,c,a,b⟩:=h;exact QO ⟨t,by simp[c],a,b⟩
  ·rcases d h with h|h
   ·exact QG h
   ·obtain⟨t,c,a,b⟩:=h;exact QO ⟨t,by simp[c],a,b⟩
theorem Tl{f:Nat->Nat}{V:Nat->Prop}(r:∀a b,V a->V b->f a=f b->a=b):∀{l:Ly}{met:List Nat},(∀s∈l,s.name=[]->s.args=0)->(∀m∈met,V m)->(∀v,Cf v l->V v)->
  AC (l.map (ren f)) (met.map f)=((AC l met).1,(AC l met).2.map f):=by
 intro l
 induction l with
 |nil=>intro met _ _ _;rfl
 |cons s l o=>
  intro met ha d k;have n:∀v,Cf v l->V v:=fun v ⟨t,g,p,q⟩=>k v ⟨t,by simp[g],p,q⟩;have j:∀s∈l,s.name=[]->s.args=0:=fun t g=>ha t (by simp[g])
  by_cases c:s.name=[]
  ·have i:V s.num:=k s.num ⟨s,Ys,c,rfl⟩;have e:ren f s=⟨[],f s.num,0⟩:=by simp[ren,c]
   have hi:∀m∈met,f m=f s.num->m=s.num:=fun m u h=>r m s.num (d m u) i h;simp only[Qx,AC,e,c,Ja];rw[MQ hi,Wl hi,o j (fun m h=>by
    rcases PD h with h|rfl
    ·exact d m h
    ·exact i) n,ha s Ys c]
  ·have e:ren f s=s:=by simp[ren,c]
   simp only[Qx,AC,e,c,if_false];rw[o j d n]
theorem Te{f:Nat->Nat}{V:Nat->Prop}(e:∀a b,V a->V b->f a=f b->a=b):∀{ts:Ll}{met:List Nat},(∀t∈ts,∀s∈t,s.name=[]->s.args=0)->(∀m∈met,V m)->(∀t∈ts,∀v,Cf v t->V v)->
  Aw (ts.map (List.map (ren f))) (met.map f)=((Aw ts met).1,(Aw ts met).2.map f):=by
 intro ts
 induction ts with
 |nil=>intro met _ _ _;rfl
 |cons t ts g=>
  intro met ha d c;simp only[Qx,Aw];rw[Tl e (ha t Ys) d (c t Ys)];simp only;rw[g (fun t h=>ha t (by simp[h])) (fun m h=>by
   rcases S2 h with h|h
   ·exact d m h
   ·exact c t Ys m h) (fun t h=>c t (by simp[h]))]
theorem Oj:∀{l:Ly}{k:Nat},Wf k l->∀s∈l,s.name=[]->s.args=0:=by
 intro l
 induction l with
 |nil=>intro k _ s a;simp at a
 |cons t l d=>
  intro k h s a;obtain⟨_,b,_,c⟩:=h;rcases Qp.1 a with rfl|a
  ·exact b
  ·exact d c s a
theorem Ji{xs i:Ll}(h:DM xs i)(k:∀x∈xs,Wf 1 x):(Aw i []).1=(Aw xs []).1:=by
 obtain⟨f,g,e,d⟩:=h.ren;have:=Te (f:=f) (V:=fun v=>∃x∈xs,Cf v x) (fun a b ⟨x,l,ha⟩ ⟨y,m,hb⟩ e=>by rw[<-d x l a ha,<-d y m b hb,e]) (ts:=xs) (met:=[]) (fun t c=>Oj (k t c)) Ys (fun t c v j=>⟨t,c,j⟩);simp only[QX]at this;rw[<-e]at this;rw[this]
theorem HD.part{a b c d:Ll}(h:HD (a++b) (c++d))(hl:a.length=c.length):HD a c/\HD b d:=by
 obtain⟨g,f,e⟩:=h;obtain⟨i,j⟩:=Nz e hl.symm;exact⟨⟨g,f,i⟩,g,f,j⟩
theorem DM.part{a b c d:Ll}(h:DM (a++b) (c++d))(hl:a.length=c.length):DM a c/\DM b d:=
 ⟨⟨(h.1.part hl).1,(h.2.part hl.symm).1⟩,(h.1.part hl).2,(h.2.part hl.symm).2⟩
theorem Cl.vals{n m:ND}(h:Cl n m):DM n.vals m.vals:=by
 have:=(h.al.part (by simp[h.gl])).2;exact(this.part h.vl).1
theorem Cl.done{n m:ND}(h:Cl n m):DM (n.done.map (·.1)) (m.done.map (·.1)):=by
 have:=(h.al.part (by simp[h.gl])).2;exact(this.part h.vl).2
theorem Cl.valsC{n m:ND}(h:Cl n m)(hn:FM n):(Aw n.vals []).1=(Aw m.vals []).1:=
 (Ji h.vals (fun x a=>hn.wf x (by simp[ND.terms,a]))).symm
theorem Cl.doneC{n m:ND}(h:Cl n m)(hn:FM n):(Aw (n.done.map (·.1)) []).1=(Aw (m.done.map (·.1)) []).1:=
 (Ji h.done (fun x a=>hn.wf x (by simp only[ND.terms,Qk];exact QO (QO a)))).symm
theorem Sg(n:Nat)(seen:List Nat):Gm n seen=(CJ (seen.idxOf n),Ep n seen):=by
 unfold Gm Ep
 by_cases h:n∈seen
 ·have:=JX h;rw[QQ h,QP Yo]
 ·have e:seen.idxOf n=seen.length:=List.idxOf_eq_length h;rw[QP h,QQ e,e]
theorem R3(f:Nat)(e:∀l,GT f l->∀seen,(AO f l seen).2.1=(AC l seen).2/\∀rest miss,A3 ((AC l seen).1++rest) miss=(AO f l seen).1++((Bk miss).1++A3 rest (Bk miss).2)):
  ∀(ls:Ll),ls≠[]->(∀l∈ls,GT f l)->∀(seen:List Nat)(a:UInt8),(BD f a ls seen).2=(AC ls.flatten seen).2/\
   ∀rest miss,a::A3 ((AC ls.flatten seen).1++rest) (ls.length::miss)=(BD f a ls seen).1++(41::((Bk miss).1++A3 rest (Bk miss).2)):=by
 intro ls
 induction ls with
 |nil=>intro h;exact absurd rfl h
 |cons l ls k=>
  intro _ d seen a;rw[Q4,Ic];obtain⟨w1,w2⟩:=e l (d l Ys) seen
  cases ls with
  |nil=>
   simp only[QY,AC,BD,w1,Qs];refine⟨trivial,fun rest miss=> ?_⟩;rw[w2];simp[Bk]
  |cons b c=>
   obtain⟨m,n⟩:=k Ys (fun x j=>d x (by simp[j])) (AC l seen).2 44;have i:BD f a (l::b::c) seen=(a::((AO f l seen).1++(BD f 44 (b::c) (AC l seen).2).1),(BD f 44 (b::c) (AC l seen).2).2):=by
    rw[BD,w1]
   rw[i];refine⟨m,fun rest miss=> ?_⟩;simp only[Qi];rw[w2];have g:Bk ((l::b::c).length::miss)=([44],(b::c).length::miss):=by simp[Bk]
   rw[g];have:=n rest miss;simp only[Qy,Qz,Qi];rw[this]
theorem Ol:∀(f:Nat)(l:Ly),GT f l->∀seen,(AO f l seen).2.1=(AC l seen).2/\∀rest miss,A3 ((AC l seen).1++rest) miss=(AO f l seen).1++((Bk miss).1++A3 rest (Bk miss).2):=by
 intro f
 induction f with
 |zero=>intro l h;exact h.elim
 |succ f j=>
  intro l h seen;rcases h with⟨n,rfl⟩|⟨nm,ls,a,rfl,c⟩
  ·simp[AO,Sg,AC,A3,Hc]
  ·have e:AC (⟨nm,0,ls.length⟩::ls.flatten) seen=(⟨nm,0,ls.length⟩::(AC ls.flatten seen).1,(AC ls.flatten seen).2):=by
    simp[AC,a]
   rw[e]
   cases b:ls with
   |nil=>simp[AO,A3,Hc,a,AC]
   |cons o p=>
    rw[<-b];have d:ls≠[]:=by rw[b];simp
    have i:=GF f nm ls a c d seen;obtain⟨k,m⟩:=R3 f j ls d c seen 40;rw[i];refine⟨k,fun rest miss=> ?_⟩;have g:0<ls.length:=by rw[b];simp
    have:=m rest miss;simp only[Qy,A3,g,Ja,Hc,a,if_false,Qi];rw[this];simp
theorem HP{f:Nat}(h:GT f l)(seen:List Nat):(AO f l seen).1=A3 (AC l seen).1 []/\(AO f l seen).2.1=(AC l seen).2:=by
 obtain⟨a,b⟩:=Ol f l h seen;have:=b [] [];simp only[Qs,Bk,A3]at this;exact⟨this.symm,a⟩
theorem Tu:∀(n:Nat){l:Ly},l.length<=n->Wf 1 l->GT n l:=by
 intro n
 induction n with
 |zero=>intro l hl h;have:=BR h;omega
 |succ n i=>
  intro l hl h;obtain⟨s,r,rfl,f,g⟩:=Mh h
  by_cases a:s.name=[]
  ·exact QG ⟨s.num,g a⟩
  ·obtain⟨_,_,d,_⟩:=h;obtain⟨ls,c,rfl,e⟩:=OL _ f;refine QO ⟨s.name,ls,a,?_,fun j b=> ?_⟩
   ·rw[c,<-d a]
   ·have:=Be b;simp only[Qf]at hl;exact i Yo (e j b)
def Bz(s:ByteArray):Option (Lc):=
 if 800<s.size then none else if(Bb (Ap s) (AD false)).1≠0 then none else CW 1000 (Ap s) []
def Cn(s:ByteArray):Option (Ll×At):=
 if 120<s.size then none else if(Bb (Ap s) (AD true)).1≠0 then none else(BG 1000 1000 (Ap s) [] []).map (fun q=>(q.1,q.2.2))
def DF:Lu->At->Ll->Lu
 |sep,x::xs,t::ts=>sep++(x++(61::(A3 t []++DF [44] xs ts)))
 |_,_,_=>[]
def AU(names:At)(n:ND):Lu:=if names=[]then[121,101,115]else DF [] names (Aw n.vals []).1
def CS:Lu->List Nat->Lu
 |_,[]=>[]
 |sep,k::ks=>sep++(Lib.decDigits k++CS [46] ks)
def FB(n:ND):Lu:=CS [] n.used
def CH:Ll->List Nat->List Nat->Lu
 |t::ts,d::ds,k::ks=>List.replicate (2*d) 32++(A3 t []++([32,98,121,32]++(Lib.decDigits k++(10::CH ts ds ks))))
 |_,_,_=>[]
def Hz(n:ND):Lu:=CH (Aw (n.done.map (·.1)) []).1 (n.done.map (·.2)) n.used
def Fc(c:UInt8):Bool:=decide (48<=c.toNat/\c.toNat<=57)
def As:Lu->Nat×Nat
 |[]=>(0,0)
 |a::r=>if Fc a then(if a.toNat=48 then(0,1)else match r with
   |[]=>(a.toNat-48,1)
   |b::_=>if Fc b then(10*(a.toNat-48)+(b.toNat-48),2)else(a.toNat-48,1))else(0,0)
theorem Cd(l:Lu):(As l).2<=l.length/\(As l).2<=2/\(As l).1<=99:=by
 cases l with
 |nil=>simp[As]
 |cons a r=>
  simp only[As]
  by_cases c:Fc a
  ·rw[QQ c];have ha:a.toNat<=57:=by simp[Fc]at c;exact c.2
   by_cases e:a.toNat=48
   ·rw[QQ e];simp
   ·rw[QP e]
    cases r with
    |nil=>simp;omega
    |cons b r=>
     simp only
     by_cases d:Fc b
     ·have hb:b.toNat<=57:=by simp[Fc]at d;exact d.2
      rw[QQ d];simp;omega
     ·rw[QP d];simp;omega
  ·rw[QP c];simp
def D3:Nat->Lu->Nat->List Nat->Option (List Nat)×Nat
 |0,_,_,_=>(none,0)
 |f+1,l,p,acc=>
  if(As l).2=0 then(none,p)
  else match l.drop (As l).2 with
   |[]=>(some (acc++[(As l).1]),0)
   |c::r=>if c=46 then D3 f r (p+(As l).2+1) (acc++[(As l).1])else(none,p+(As l).2)
def Bl(s:ByteArray):Option (List Nat)×Nat:=D3 (s.size+1) s.data.toList 0 []
noncomputable def Az(cs:Lc):ND->List Nat->Nat->ND×Nat×Nat
 |n,[],i=>if n.goals=[]then(n,0,0)else(n,7,i)
 |n,k::ks,i=>match cs[k]? with
  |none=>(n,7,i)
  |some c=>if n.goals=[]then(n,7,i)else if(Ax n c k).2=1\/(Ax n c k).2=2 then Az cs (Ax n c k).1 ks (i+1)else(n,7,i)
noncomputable def Bm(p q x:ByteArray):At×ND×Nat×Nat:=
 match Bz p with
 |none=>([],⟨[],[],[],[],0⟩,4,0)
 |some cs=>match Cn q with
  |none=>([],⟨[],[],[],[],0⟩,5,0)
  |some a=>if 400<x.size then([],⟨[],[],[],[],0⟩,1,0)else match Bl x with
   | (none,at')=>([],⟨[],[],[],[],0⟩,6,at')
   | (some ks,_)=>(a.2,Az cs (AN a) ks 0)
noncomputable def Jm(p q x:ByteArray):Lu×Nat×Nat:=if(Bm p q x).2.2.1=0 then(AU (Bm p q x).1 (Bm p q x).2.1,0,0)else([],(Bm p q x).2.2.1,(Bm p q x).2.2.2)
noncomputable def Gw(p q x:ByteArray):Lu×Nat×Nat:=if(Bm p q x).2.2.1=0 then(Hz (Bm p q x).2.1,0,0)else([],(Bm p q x).2.2.1,(Bm p q x).2.2.2)
theorem Le{b:Nat->Ly}(f:Ts b){c:BJ->BJ}:∀{l:Ly},ap b l=l.map c->∀s∈l,s.name≠[]->c s=s:=by
 intro l
 induction l with
 |nil=>intro _ s a;simp at a
 |cons t l g=>
  intro e s a hn;rw[Bu,Qx]at e;have i:1<=(ED b t).length:=by
   unfold ED;split
   ·exact BR (f _)
   ·simp
  have j:=Fd f l;have h:=congrArg List.length e;simp only[Qg,Qf,Ql]at h;have d:=List.append_inj (s₁:=ED b t) (s₂:=[c t]) (t₁:=ap b l) (t₂:=l.map c) (by simpa using e) Yp;rcases Qp.1 a with rfl|a
  ·have:=d.1;unfold ED at this;rw[QP hn]at this;simpa using this.symm
  ·exact g d.2 s a hn
def Jp(N:List (Lu))(s:BJ):BJ:=if s.name=[]\/s.name∈N then s else⟨s.name++[0],s.num,s.args⟩
theorem X4{N:List (Lu)}:∀{l:Ly}{k:Nat},Wf k l->Wf k (l.map (Jp N)):=by
 intro l
 induction l with
 |nil=>intro k h;exact h
 |cons s l j=>
  intro k h;obtain⟨e,f,g,i⟩:=h;have a:(Jp N s).args=s.args:=by unfold Jp;split<;>rfl
  have b:(Jp N s).name=[]↔s.name=[]:=by
   unfold Jp;split
   ·exact Iff.rfl
   ·rename_i h;simp at h⊢;exact h.1
  have c:(Jp N s).num=s.num:=by unfold Jp;split<;>rfl
  refine⟨e,fun h=>by rw[a];exact f (b.1 h),fun h=>by rw[c];exact g (fun d=>h (b.2 d)),?_⟩;rw[a];exact j i
theorem ID.nm{σ:Nat->Ly}{a b:Ly}(h:ID σ a b)(n:Nat):∀s∈σ n,s.name≠[]->∃t∈a++b,t.name=s.name:=by
 intro s m hn;refine Classical.byContradiction (fun g=> ?_);have g:∀t∈a++b,t.name≠s.name:=fun t c e=>g ⟨t,c,e⟩;obtain⟨N,d⟩:∃N,N=(a++b).map (·.name):=⟨_,rfl⟩;have i:Ts (fun n=>(σ n).map (Jp N)):=fun n=>X4 (h.ts n);have j:∀l:Ly,(∀t∈l,t.name∈N)->ap (fun n=>(σ n).map (Jp N)) l=(ap σ l).map (Jp N):=by
  intro l
  induction l with
  |nil=>intro _;rfl
  |cons t l q=>
   intro c;rw[Bu,Bu,Qr,q (fun u o=>c u (by simp[o]))]
   congr 1
   unfold ED;split
   ·rfl
   ·have:Jp N t=t:=by unfold Jp;rw[QQ (QO (c t Ys))]
    simp[this]
 have ha:=j a (fun t c=>by rw[d];exact Q0.2 ⟨t,by simp[c],rfl⟩);have hb:=j b (fun t c=>by rw[d];exact Q0.2 ⟨t,by simp[c],rfl⟩);have p:=h.wide _ i (by rw[ha,hb,h.unif]) n;have f:=Le i p s m hn;have k:¬(s.name=[]\/s.name∈N):=by
  rintro(h|h)
  ·exact hn h
  ·rw[d]at h;obtain⟨t,c,e⟩:=Q0.1 h;exact g t c e
 unfold Jp at f;rw[QP k]at f;have:=congrArg (fun s=>s.name.length) f;simp at this
def Eu(l:Ly):Prop:=∀s∈l,s.name.length<=800
def NG(n:ND):Prop:=∀t∈n.terms,Eu t
def Ry(c:Db):Prop:=Eu c.head/\∀t∈c.body,Eu t
theorem MV(n:Nat):Eu (vr n):=fun s a=>by simp[vr]at a;subst a;simp
theorem Eu.ap{σ:Nat->Ly}{l:Ly}(h:Eu l)(c:∀n,Eu (σ n)):Eu (ap σ l):=by
 intro s a;simp only[YtlmjilpjmgjjcaaGreatDoor.ap,List.mem_flatMap]at a;obtain⟨t,b,a⟩:=a;unfold ED at a;split at a
 ·exact c _ s a
 ·simp at a;subst a;exact h s b
theorem IK(v n:Nat):Eu (A0 v n):=MV _
theorem ID.shorts{σ:Nat->Ly}{a b:Ly}(h:ID σ a b)(ha:Eu a)(hb:Eu b)(n:Nat):Eu (σ n):=by
 intro s d
 by_cases hn:s.name=[]
 ·rw[hn];simp
 ·obtain⟨t,c,e⟩:=h.nm n s d hn;rw[<-e];rcases Qk.1 c with c|c
  ·exact ha t c
  ·exact hb t c
theorem OM{n:ND}{c:Db}{k q:Nat}{i:ND}(h:Kv n c k q i)(r:q=1\/q=2)(hn:NG n)(j:Ry c):NG i:=by
 obtain⟨g,gs,l,h⟩:=h;rcases h with⟨rfl,_⟩|⟨rfl,_⟩|⟨σ,o,_,_,rfl⟩
 ·omega
 ·omega
 ·have m:Eu g.1:=hn g.1 (by simp[ND.terms,l]);have p:Eu (ap (A0 n.vars) c.head):=j.1.ap (IK _);have d:=o.shorts m p;intro t e;rw[EW]at e;simp only[Qk,Q0]at e;rcases e with⟨u,a,rfl⟩|⟨u,a,rfl⟩|⟨u,a,rfl⟩
  ·rcases a with⟨b,hb,rfl⟩|⟨x,f,rfl⟩
   ·exact((j.2 b hb).ap (IK _)).ap d
   ·exact(hn x.1 (by simp only[ND.terms,l,Qx,Qy,Qp,Qk,Q0];exact QO (QG ⟨x,f,rfl⟩))).ap d
  ·exact(hn u (by simp[ND.terms,a])).ap d
  ·rcases a with⟨x,f,rfl⟩|a
   ·exact(hn x.1 (by simp only[ND.terms,Qk,Q0];exact QO (QO ⟨x,f,rfl⟩))).ap d
   ·simp at a;subst a;exact m.ap d
theorem SE:∀(f:Nat){l:Ly},GT f l->Wf 1 l:=by
 intro f
 induction f with
 |zero=>intro l h;exact h.elim
 |succ f c=>
  intro l h;rcases h with⟨n,rfl⟩|⟨nm,ls,a,rfl,b⟩
  ·exact LF n
  ·refine⟨Yo,fun e=>absurd e a,fun _=>rfl,?_⟩;have:=CU (fun l hl=>c (b l hl));simpa using this
theorem Wp:∀(l:Ly)(k b:Nat),CI l k=some b->∀i,k<=i->i<b->Cf i l:=by
 intro l
 induction l with
 |nil=>intro k b h i c a;simp[CI]at h;omega
 |cons s l d=>
  intro k b h i c a;simp only[CI]at h;have up:Cf i l->Cf i (s::l):=fun⟨t,j,f,g⟩=>⟨t,by simp[j],f,g⟩;split at h
  ·rename_i hn;split at h
   ·exact up (d _ _ h i c a)
   ·split at h
    ·rename_i m;rcases QB k i with e|e
     ·exact up (d _ _ h i e a)
     ·exact⟨s,Ys,hn,Yo⟩
    ·simp at h
  ·exact up (d _ _ h i c a)
theorem Pb{f:Nat}:∀{g:Nat}{ts:List BV}{names:At}{a:Ll} {q},BG f g ts names a=some q->a.length<q.1.length:=by
 intro g
 induction g with
 |zero=>intro ts names a q h;simp[BG]at h
 |succ g d=>
  intro ts names a q h;rw[BG]at h
  cases b:Bo f ts names with
  |none=>rw[b]at h;simp at h
  |some r=>
   rw[b]at h;simp only at h
   cases c:r.2.1 with
   |nil=>rw[c]at h;simp at h
   |cons x rest=>
    rw[c]at h;simp only at h;split at h
    ·simp at h;subst h;simp
    ·have:=d h;simp at this;omega
def VV(c:Db):Prop:=∃k1,CI c.head 0=some k1/\CI c.body.flatten k1=some c.n
theorem NU(ts:List BV)(c:Db×List BV)(d:C6 ts)(h:Dl ts=some c):VV c.1:=by
 rw[Dl]at h
 cases a:Bo 1000 ts []with
 |none=>rw[a]at h;simp at h
 |some r=>
  rw[a]at h;simp only at h;obtain⟨m,f⟩:=J4 1000 ts [] r d a;obtain⟨n,_,_,hn,_⟩:=Di 1000 ts [] r a;have e:C6 r.2.1:=by rw[hn];exact d.drop n
  cases b:r.2.1 with
  |nil=>rw[b]at h;simp at h
  |cons y j=>
   rw[b]at h e;simp only at h;split at h
   ·rw[JH]at h;obtain⟨q,i,rfl⟩:=h;obtain⟨k,g,l⟩:=FC 1000 r.2.2.length 1000 j r.2.2 [] q e.tail Ys rfl i;exact⟨_,f,g⟩
   ·simp at h;subst h;exact⟨_,f,rfl⟩
theorem S9:∀(g:Nat)(ts:List BV)(a cs:Lc),C6 ts->(∀c∈a,VV c)->CW g ts a=some cs->∀c∈cs,VV c:=by
 intro g
 induction g with
 |zero=>intro ts a cs _ _ h;simp[CW]at h
 |succ g j=>
  intro ts a cs e ha h
  cases ts with
  |nil=>simp[CW]at h
  |cons t ts=>
   rw[CW]at h;split at h
   ·simp at h;subst h;exact ha
   ·cases b:Dl (t::ts)with
    |none=>rw[b]at h;simp at h
    |some c=>
     rw[b]at h;simp only at h;obtain⟨_,i⟩:=Kl _ c e b;have f:=NU _ c e b;refine j c.2 (a++[c.1]) cs i ?_ h;intro x d;simp at d;rcases d with d|rfl
     ·exact ha x d
     ·exact f
theorem Jv(s:ByteArray)(h:s.size<=800)(h0:(Cp s false).1=0):∃cs,CW 1000 (Ap s) []=some cs/\(Cp s false).2.2.clauses=cs:=by
 obtain⟨f,_,g⟩:=BS s false;have hl:=BM s;have e:Jj (Ap s) (AD false):=f.symm.trans h0;obtain⟨cs,i,ex,c,d,a,b⟩:=Rr 1000 (Ap s) (AD false) [] (HY false) Yo Yo e (IP _ _) rfl rfl rfl rfl ⟨rfl,rfl,rfl,rfl,rfl,rfl,rfl,rfl⟩;rw[show(Ap s).take i=CZ s.data.toList 0 from Si (GN _ _) d]at b;rw[Qz]at a;subst a;refine⟨cs,c,?_⟩;rw[g h0,b];rfl
theorem Cv(h:Bz s=some cs):s.size<=800/\(Cp s false).1=0/\(Cp s false).2.2.clauses=cs/\(∀c∈cs,KR c/\Ry c)/\cs.length<=24:=by
 unfold Bz at h;split at h
 ·simp at h
 ·split at h
  ·simp at h
  ·rename_i i H;have i:s.size<=800:=Yo
   obtain⟨B,_,_⟩:=BS s false;have h0:(Cp s false).1=0:=by rw[B];omega
   obtain⟨j,a,d⟩:=Jv s i h0;rw[a]at h;simp at h;subst h;have g:SB (Cp s false).2.2:=(SB.start false).run h0;have p:=Nq 1000 (Ap s) [] j (Da s) Ys a;have q:=S9 1000 (Ap s) [] j (Da s) Ys a;refine⟨i,h0,d,fun c f=> ?_,by rw[<-d];exact g.clsn⟩;obtain⟨n,o,_⟩:=p c f;obtain⟨J,z,A⟩:=q c f;obtain⟨b1,b2,k⟩:=g.cls c (by rw[d];exact f);obtain⟨l,m,E⟩:=g.cn c (by rw[d];exact f);obtain⟨K,L,C⟩:=Dn _ _ _ z;obtain⟨M,N,D⟩:=Dn _ _ _ A;have I:c.body.flatten.length<=180:=by
    have w:∀ls:Ll,(∀t∈ls,t.length<=30)->ls.flatten.length<=30*ls.length:=by
     intro ls
     induction ls with
     |nil=>intro _;simp
     |cons t ts u=>
      intro h;have F:=h t Ys;have G:=u (fun y r=>h y (by simp[r]));simp only[Q4,Qg,Qf];omega
    have:=w c.body b2;omega
   refine⟨⟨SE 1000 n,fun t e=>SE 1000 (o t e),?_,?_,Yo,b1,b2,k⟩,fun x b=>Qq (l x b) Yo,fun t e x b=>Qq (m t e x b) Yo⟩
   ·rintro v ⟨x,b,a,d⟩;have:=C x b a;omega
   ·rintro t e v ⟨x,b,a,d⟩;have:=D x (List.mem_flatten.2 ⟨t,e,b⟩) a;omega
theorem Cq(h:Cn s=some a):s.size<=120/\(Cp s true).1=0/\(Cp s true).2.2.clauses=[⟨[],a.1,a.2⟩]/\FM (AN a)/\NG (AN a)/\a.1.length<=6/\a.1≠[]/\a.2.length<=121/\(∀x∈a.2,x.length<=8):=by
 unfold Cn at h;split at h
 ·simp at h
 ·split at h
  ·simp at h
  ·rename_i k O;have k:s.size<=120:=Yo
   obtain⟨K,_,_⟩:=BS s true;have h0:(Cp s true).1=0:=by rw[K];omega
   obtain⟨q,j,l,_⟩:=Ec s k h0;rw[j]at h;simp at h;subst h;have z:SB (Cp s true).2.2:=(SB.start true).run h0;obtain⟨G,y,_⟩:=FC 1000 0 1000 (Ap s) [] [] q (Da s) Ys rfl j;obtain⟨b1,b2,n⟩:=z.cls ⟨[],q.1,q.2.2⟩ (by rw[l];simp);obtain⟨N,o,w⟩:=z.cn ⟨[],q.1,q.2.2⟩ (by rw[l];simp);obtain⟨P,Q,L⟩:=Dn _ _ _ y;have hl:=BM s;have H:=FN (M:=120) 1000 (Ap s) [] [] q (fun t b=>Qq (Cu s t b) k) Ys j;have I:=H.1;simp only[QY,Qt]at I;simp only at b2 n o w;have D:∀t∈q.1,Wf 1 t:=fun t b=>SE 1000 (G t b);have J:q.1≠[]:=by
    intro e;have:=Pb j;rw[e]at this;simp at this
   refine⟨k,h0,l,⟨?_,?_,?_,by simp[AN],?_,by simp[AN];omega,by simp[AN],by simp[AN],by simp[AN];omega,by simp[AN];omega⟩,?_,n,J,by simp only;omega,w⟩
   ·intro t b;simp only[ND.terms,AN,QK,QX,Qs,Qk,Q0,Function.comp]at b;rcases b with⟨u,c,rfl⟩|⟨i,_,rfl⟩
    ·exact D u c
    ·exact LF i
   ·intro t b v C;simp only[ND.terms,AN,QK,QX,Qs,Qk,Q0,Function.comp,JK]at b;show v<q.2.2.length;rcases b with⟨u,c,rfl⟩|⟨i,hi,rfl⟩
    ·obtain⟨x,f,d,m⟩:=C;have:=L x (List.mem_flatten.2 ⟨_,c,f⟩) d;omega
    ·have:=Er.1 C;omega
   ·intro g B;simp only[AN,Q0]at B;obtain⟨t,b,rfl⟩:=B;exact⟨b2 t b,by simp[AN]⟩
   ·intro t b;simp only[AN,Q0,JK]at b;obtain⟨i,hi,rfl⟩:=b;obtain⟨x,f,d,m⟩:=Wp _ _ _ y i (Qm _) hi;obtain⟨u,c,E⟩:=List.mem_flatten.1 f;obtain⟨p,r,F⟩:=List.append_of_mem E;have A:=Oj (D u c) x E d;have ex:x=⟨[],i,0⟩:=by
     cases x
     simp only at d m A;subst d m A;rfl
    refine⟨(u,0),by simp only[AN,Qs,Q0];exact⟨u,c,rfl⟩,p,r,?_⟩;show u=p++vr i++r;rw[F,ex];simp[vr]
   ·intro t b;simp only[ND.terms,AN,QK,QX,Qs,Qk,Q0,Function.comp]at b;rcases b with⟨u,c,rfl⟩|⟨i,_,rfl⟩
    ·exact fun x f=>Qq (o u c x f) Yo
    ·exact MV i
abbrev Ao(w w':World):Prop:=Below w.heap.size w w'
section inv
variable {P:Program} {ops:Array Oper} {Q:Exit->Act->World->Prop} {md:Region.Mode}
def X6(ops:Array Oper)(L:Array Bool):Nat:=((List.range ops.size).filter (fun i=> !L.getD i true)).length
theorem Jx{d:Type}{p q:d->Bool}{l:List d}(h:∀x∈l,q x=true->p x=true){x:d}(b:x∈l)(f:p x=true)(g:q x=false):(l.filter q).length<(l.filter p).length:=by
 induction l with
 |nil=>simp at b
 |cons y l c=>
  have m:(l.filter q).length<=(l.filter p).length:=by
   clear c b
   induction l with
   |nil=>simp
   |cons j l c=>
    have e:=h j Ys;have k:=c (fun u a=>h u (by
     rcases Qp.1 a with rfl|a
     ·simp
     ·simp[a]))
    simp only[List.filter_cons];split
    ·rename_i hz;rw[QQ (e hz)];simp;omega
    ·split<;>simp<;>omega
  simp only[List.filter_cons];rcases Qp.1 b with rfl|b
  ·rw[f,g];simp;omega
  ·have:=c (fun u a=>h u (by simp[a])) b;split
   ·rename_i i;rw[QQ (h y Ys i)];simp;omega
   ·split<;>simp<;>omega
theorem TO{L:Array Bool}(hi:i<ops.size)(hl:L.getD i true=false):X6 ops (L.setIfInBounds i true)<X6 ops L:=by
 have b:i<L.size:=by
  rcases QB i L.size with h|h
  ·exact h
  ·simp[Array.getElem?_eq_none h]at hl
 refine Jx (x:=i) (fun j _ a=> ?_) (JK.2 hi) (by simp at hl⊢;exact hl) (by simp[b])
 by_cases e:i=j
 ·subst e;simp[b]at a
 ·rw[getD_set_ne true e]at a;exact a
theorem M4{J:Array Bool->Act->World->Prop}(g:∀L a w i,i∈Region.ready md ops L->J L a w->wpOp P ops Q i (J (L.setIfInBounds i true)) a w)
  (e:∀L a w,Region.ready md ops L=[]->J L a w->Q .normal a w):∀(fuel:Nat)(L:Array Bool)(a:Act)(w:World),X6 ops L<=fuel->J L a w->wpAny P md ops Q fuel L a w:=by
 intro fuel
 induction fuel with
 |zero=>
  intro L a w j b;have c:Region.ready md ops L=[]:=by
   cases h:Region.ready md ops L with
   |nil=>rfl
   |cons i r=>
    have hi:i∈Region.ready md ops L:=by rw[h];simp
    obtain⟨h0,o,d,_⟩:=mem_ready.1 hi;have:=TO (ops:=ops) (JZ.1 d).1 h0;omega
  exact⟨c,e L a w c b⟩
 |succ fuel k=>
  intro L a w j b;refine⟨fun c=>e L a w c b,fun i hi=>wpOp_mono (fun f w' h=>k _ f w' ?_ h) (g L a w i hi b)⟩;obtain⟨h0,o,d,_⟩:=mem_ready.1 hi;have:=TO (ops:=ops) (JZ.1 d).1 h0;omega
end inv
inductive Kd where
 |pur (c:Value)
 |post (g:Value->Value)
 |cal
 |alo (t:TypeId) (z:Array Value) (s:Nat) (cs:Value->Array Value)
 |sto (i:Nat)
def Kd.val(vc:Value)(β:Nat->Nat)(i:Nat):Kd->Value
 | .pur c=>c
 | .post g=>g vc
 | .cal=>vc
 | .alo .. => .pointer (some ⟨β i,0,none⟩)
 | .sto _=>undef
def pa(a0:Act)(vc:Value)(β:Nat->Nat)(lst:Nat->Bool):Nat->List Oper->List Kd->Act
 |_,[],_=>a0
 |_,_,[]=>a0
 |k,o::os,q::qs=>if lst k then(pa a0 vc β lst (k+1) os qs).put o.dst (q.val vc β k)else pa a0 vc β lst (k+1) os qs
abbrev CD(a0:Act)(ops:List Oper)(kd:List Kd)(vc:Value)(β:Nat->Nat):Act:=pa a0 vc β (fun _=>true) 0 ops kd
def EY:Kd->Bool
 | .post _=>true
 | .sto _=>true
 |_=>false
def IN:Kd->Bool
 | .post _=>true
 | .cal=>true
 |_=>false
def C5(o:Oper)(j:Nat):Bool:=o.after.any fun e=>Region.binds .any e&&e.on==j
def F7(ops:List Oper)(kd:List Kd)(ic:Nat):Bool:=
 ops.length==kd.length&&
 (List.range ops.length).all fun i=>match ops[i]?,kd[i]? with
  |some o,some q=>
   o.guard.isNone&&(match o.op with| .select .. =>false|_=>true)&&
   (o.after.all fun e=> !Region.binds .any e||e.on<i)&&
   ((List.range ops.length).all fun j=>match ops[j]? with
    |some p=>match p.dst with
     |some d=>((j==i)||(o.dst !=some d))&&(!(o.looksAt ops.toArray).contains d||C5 o j)
     |none=>true
    |none=>true)&&
   (match q with
    | .pur _=>true
    | .cal=>i==ic
    | .post _=>(List.range i).any fun j=>C5 o j&&(match kd[j]? with|some r=>IN r|none=>false)
    | .alo _ _ s _=>match kd[s]? with|some (.sto k)=>k==i|_=>false
    | .sto k=>o.dst.isNone&&C5 o k&&((List.range i).any fun j=>C5 o j&&(match kd[j]? with|some r=>IN r|none=>false))&&(match kd[k]? with|some (.alo _ _ s _)=>s==i|_=>false))
  |_,_=>false
theorem Gc{a0:Act}{vc b:Value}{β c:Nat->Nat}{lst a:Nat->Bool}:∀{ops:List Oper}{kd:List Kd}{k:Nat},(∀j q,kd[j]?=some q->lst (k+j)=a (k+j)/\(lst (k+j)=true->q.val vc β (k+j)=q.val b c (k+j)))->
  pa a0 vc β lst k ops kd=pa a0 b c a k ops kd:=by
 intro ops
 induction ops with
 |nil=>intro kd k _;simp[pa]
 |cons o os g=>
  intro kd k h
  cases kd with
  |nil=>simp[pa]
  |cons q l=>
   have h0:=h 0 q rfl;simp only[JU]at h0;have i:=g (kd:=l) (k:=k+1) (fun j r f=>by
    have:=h (j+1) r (by simpa using f);have e:k+1+j=k+(j+1):=Yo
    rw[e];exact this)
   rw[pa,pa,i,<-h0.1];split
   ·rename_i d;rw[h0.2 d]
   ·rfl
theorem WY{a0:Act}{vc:Value}{β:Nat->Nat}{lst:Nat->Bool}{x:Operand}:∀{ops:List Oper}{kd:List Kd}{k:Nat},(∀j o,ops[j]?=some o->lst (k+j)=false->∀d,o.dst=some d->x≠.tmp d)->
  (pa a0 vc β lst k ops kd).eval x=(pa a0 vc β (fun _=>true) k ops kd).eval x:=by
 intro ops
 induction ops with
 |nil=>intro kd k _;simp[pa]
 |cons o os u=>
  intro kd k h
  cases kd with
  |nil=>simp[pa]
  |cons q w=>
   have m:=u (kd:=w) (k:=k+1) (fun j r t hl=>by
    have e:k+1+j=k+(j+1):=Yo
    rw[e]at hl;exact h (j+1) r (by simpa using t) hl)
   rw[pa,pa];simp only[Ja]
   by_cases l:∃d,o.dst=some d/\x= .tmp d
   ·obtain⟨d,hd,rfl⟩:=l
    cases s:lst k
    ·exact absurd rfl (h 0 o rfl s d hd)
    ·simp only[Ja];rw[hd];have b:∀(p:Nat->Bool)(g:Nat)(c:List Oper)(a:List Kd),(pa a0 vc β p g c a).tmps.size=a0.tmps.size:=by
      intro p g c
      induction c generalizing g with
      |nil=>intro a;simp[pa]
      |cons v c n=>
       intro a
       cases a with
       |nil=>simp[pa]
       |cons y a=>
        rw[pa];split
        ·cases v.dst<;>simp[Act.put,n]
        ·exact n _ _
     simp only[Act.eval,Act.put,Array.getD_eq_getD_getElem?];rcases QB d a0.tmps.size with f|f
     ·rw[J9 (by rw[b];exact f),J9 (by rw[b];exact f)]
     ·rw[Array.getElem?_eq_none (by simp[b];omega),Array.getElem?_eq_none (by simp[b];omega)]
   ·have i:∀d,o.dst=some d->x≠.tmp d:=fun d hd e=>l ⟨d,hd,e⟩;rw[Act.eval_put i];split
    ·rw[Act.eval_put i];exact m
    ·exact m
theorem Vk{a0:Act}{vc:Value}{β:Nat->Nat}{lst:Nat->Bool}:∀{ops:List Oper}{kd:List Kd}{k i:Nat}{o:Oper}{q:Kd},ops[i]?=some o->kd[i]?=some q->lst (k+i)=false->
  (∀j p d,ops[j]?=some p->p.dst=some d->j=i\/o.dst≠some d)->pa a0 vc β (fun j=>lst j||j==k+i) k ops kd=(pa a0 vc β lst k ops kd).put o.dst (q.val vc β (k+i)):=by
 intro ops
 induction ops with
 |nil=>intro kd k i o q h;simp at h
 |cons p os l=>
  intro kd k i o q c a hl hd
  cases kd with
  |nil=>simp at a
  |cons r n=>
   cases i with
   |zero=>
    simp at c a;subst c a;simp only[JU]at hl⊢;rw[pa,pa];simp only[hl,Bool.false_or,BEq.rfl,Ja,JQ,if_false]
    congr 1
    refine Gc (fun j s t=>⟨?_,fun _=>rfl⟩);have:(k+1+j==k)=false:=by rw[Qu];omega
    simp[this]
   |succ i=>
    have e:k+(i+1)=k+1+i:=Yo
    have m:=l (kd:=n) (k:=k+1) (i:=i) (o:=o) (q:=q) (by simpa using c) (by simpa using a) (by rw[<-e];exact hl) (fun j p' d g b=>by
     rcases hd (j+1) p' d (by simpa using g) b with h|h
     ·exact QG Yo
     ·exact QO h)
    rw[e];rw[pa,pa,m];have f:(k==k+1+i)=false:=by rw[Qu];omega
    simp only[f,Bool.or_false];split
    ·refine Act.put_comm _ _ _ (fun d b e'=> ?_);rcases hd 0 p d rfl e' with h|h
     ·omega
     ·exact h b
    ·rfl
def Ob(P:Program)(kd:List Kd)(w0:World)(FA:Value->(Nat->Nat)->Act)(R:(Nat->Prop)->Value->World->Prop)(f:FuncId)(args:Av)(o:Oper):Kd->Prop
 | .pur c=>∀vc β w,Ao w0 w->(execOp (FA vc β).eval o).run P w= .ok (.value c) w
 | .post g=>∀vc β X w,R X vc w->(execOp (FA vc β).eval o).run P w= .ok (.value (g vc)) w
 | .cal=>∀vc β w,(execOp (FA vc β).eval o).run P w= .ok (.enter f args) w
 | .alo t z _ _=>∀vc β w,(execOp (FA vc β).eval o).run P w= .ok (.value (.pointer (some ⟨w.heap.size,0,none⟩))) (w.alloc (.cells z t))
 | .sto i=>∀vc β X w t z s cs,kd[i]?=some (.alo t z s cs)->R X vc w->w.heap[β i]?=some (.cells z t (0,0))->
   ∃w',(execOp (FA vc β).eval o).run P w= .ok .skip w'/\w'.heap[β i]?=some (.cells (cs vc) t (0,0))/\Ad (fun k=>k=β i) w w'
def Ps(P:Program)(kd:List Kd)(w0:World)(FA:Value->(Nat->Nat)->Act)(R:(Nat->Prop)->Value->World->Prop)(f:FuncId)(args:Av):List Oper->List Kd->Prop
 |o::os,q::qs=>Ob P kd w0 FA R f args o q/\Ps P kd w0 FA R f args os qs
 |_,_=>True
theorem Ps.at{kd:List Kd}{c:Value->(Nat->Nat)->Act}{d:(Nat->Prop)->Value->World->Prop}{f:FuncId}{args:Av}:∀{ops:List Oper}{ks:List Kd},Ps P kd w0 c d f args ops ks->
  ∀{i:Nat}{o:Oper}{q:Kd},ops[i]?=some o->ks[i]?=some q->Ob P kd w0 c d f args o q:=by
 intro ops
 induction ops with
 |nil=>intro ks _ i o q h;simp at h
 |cons p os e=>
  intro ks h i o q b a
  cases ks with
  |nil=>simp at a
  |cons r g=>
   cases i with
   |zero=>simp at b a;subst b a;exact h.1
   |succ i=>exact e h.2 (by simpa using b) (by simpa using a)
def Gx(kd:List Kd)(β:Nat->Nat)(lst:Nat->Bool):Nat->Prop:=fun k=>∃i t z s cs,kd[i]?=some (.alo t z s cs)/\lst i=true/\k=β i
structure Yw(P:Program)(ops:List Oper)(kd:List Kd)(ic:Nat)(a0:Act)(w0:World)(R:(Nat->Prop)->Value->World->Prop)(L:Array Bool)(a:Act)(w:World):Prop where
 size:L.size=ops.length
 ext:Ao w0 w
 st:∃vc β,a=pa a0 vc β (fun j=>L.getD j false) 0 ops kd/\(L.getD ic false=true->R (Gx kd β (fun j=>L.getD j false)) vc w)/\
  (∀(i:Nat) q,kd[i]?=some q->L.getD i false=true->EY q=true->L.getD ic false=true)/\
  (∀(i:Nat) t z s cs,kd[i]?=some (.alo t z s cs)->L.getD i false=true->w0.heap.size<=β i/\w.heap[β i]?=some (.cells (if L.getD s false then cs vc else z) t (0,0)))/\
  (∀(i j:Nat) t z s cs t' z' s' cs',kd[i]?=some (.alo t z s cs)->kd[j]?=some (.alo t' z' s' cs')->L.getD i false=true->L.getD j false=true->i≠j->β i≠β j)/\
  (∀(i k:Nat),kd[i]?=some (.sto k)->L.getD i false=true->L.getD k false=true)
theorem Ko{L:Array Bool}(hi:i<L.size)(j:Nat):(L.setIfInBounds i true).getD j false=(L.getD j false||j==i):=by
 by_cases e:i=j
 ·subst e;simp[hi]
 ·rw[getD_set_ne false e];have:(j==i)=false:=by rw[Qu];omega
  simp[this]
structure VT(ops:List Oper)(kd:List Kd)(ic i:Nat)(o:Oper)(q:Kd):Prop where
 gd:o.guard=none
 sel:∀cs b,o.op≠.select cs b
 low:∀e∈o.after,Region.binds .any e=true->e.on<i
 dst:∀j p d,ops[j]?=some p->p.dst=some d->j=i\/o.dst≠some d
 look:∀j p d,ops[j]?=some p->p.dst=some d->d∈o.looksAt ops.toArray->C5 o j=true
 cal:q= .cal->i=ic
 post:EY q=true->∃j r,C5 o j=true/\kd[j]?=some r/\IN r=true
 alo:∀t z s cs,q= .alo t z s cs->kd[s]?=some (.sto i)
 sto:∀k,q= .sto k->o.dst=none/\C5 o k=true/\∃t z cs,kd[k]?=some (.alo t z i cs)
theorem K3{ops:List Oper}{kd:List Kd}{z:Nat}(h:F7 ops kd z=true){i:Nat}{o:Oper}(x:ops[i]?=some o):∃q,kd[i]?=some q/\VT ops kd z i o q:=by
 unfold F7 at h;simp only[Q6,List.all_eq_true,JK,JF]at h;obtain⟨hl,h⟩:=h;have hi:=(Qa.1 x).1;have h:=h i hi;rw[x]at h
 cases y:kd[i]? with
 |none=>rw[y]at h;simp at h
 |some q=>
  rw[y]at h;simp only[Q6,List.all_eq_true,JK]at h;obtain⟨⟨⟨⟨B,v⟩,C⟩,w⟩,a⟩:=h;refine⟨q,rfl,?_,?_,?_,?_,?_,?_,?_,?_,?_⟩
  ·simpa using B
  ·intro cs b e;rw[e]at v;simp at v
  ·intro e D hb;have:=Array.all_eq_true_iff_forall_mem.1 C e D;simpa[hb]using this
  ·intro j p d f hd;have:=w j (Qa.1 f).1;rw[f]at this;simp only[hd,Q6,JO,JF,QR]at this;exact this.1
  ·intro j p d f hd E;have:=w j (Qa.1 f).1;rw[f]at this;simp only[hd,Q6,JO,JF,QR]at this;rcases this.2 with h|h
   ·simp[E]at h
   ·exact h
  ·intro e;subst e;simpa using a
  ·intro f
   cases q with
   |post g=>
    simp only[List.any_eq_true,JK,Q6]at a;obtain⟨j,_,m,c⟩:=a
    cases l:kd[j]? with
    |none=>rw[l]at c;simp at c
    |some r=>rw[l]at c;exact⟨j,r,m,l,c⟩
   |sto k=>
    simp only[List.any_eq_true,JK,Q6]at a;obtain⟨⟨_,j,_,m,c⟩,_⟩:=a
    cases l:kd[j]? with
    |none=>rw[l]at c;simp at c
    |some r=>rw[l]at c;exact⟨j,r,m,l,c⟩
   |_=>simp[EY]at f
  ·intro t A s cs e;subst e;simp only at a;split at a
   ·rename_i k u;simp at a;subst a;exact u
   ·simp at a
  ·intro k e;subst e;simp only[List.any_eq_true,JK,Q6]at a;obtain⟨⟨⟨m,c⟩,_⟩,n⟩:=a;refine⟨by simpa using m,c,?_⟩;split at n
   ·rename_i t A s cs u;simp at n;subst n;exact⟨t,A,cs,u⟩
   ·simp at n
theorem DQ{ops:List Oper}{L:Array Bool}{j:Nat}{o:Oper}(d:i∈Region.ready .any ops.toArray L)(b:ops[i]?=some o)(f:C5 o j=true):L.getD j false=true:=by
 obtain⟨_,g,c,h⟩:=mem_ready.1 d;have:g=o:=by simpa[b]using c.symm
 subst this;obtain⟨e,a,hb⟩:=Array.any_eq_true'.1 f;simp only[Q6,JF]at hb;rw[<-hb.2];exact h e a hb.1
theorem SL{ops:List Oper}{kd:List Kd}{h:Nat}(c:F7 ops kd h=true){L:Array Bool}(l:L.size=ops.length)(g:Region.ready .any ops.toArray L=[]):∀i,i<ops.length->L.getD i false=true:=by
 intro i
 induction i using Nat.strongRecOn with
 |_ i j=>
  intro hi
  cases hl:L.getD i false with
  |true=>rfl
  |false=>
   exfalso;have f:ops[i]?=some ops[i]:=Qb hi;obtain⟨q,k,a⟩:=K3 c f;have:i∈Region.ready .any ops.toArray L:=by
    refine mem_ready.2 ⟨?_,ops[i],Ys,fun e b hb=>j e.on (a.low e b hb) (by have:=a.low e b hb;omega)⟩;have d:i<L.size:=Yo
    simp[d]at hl⊢;exact hl
   rw[g]at this;simp at this
theorem IU{ops:List Oper}{cb:Nat}{bk:Exit->Act->World->Prop}{a0:Act}(b1:P.follows .mixedOrders=true)(kd:List Kd)(H:Nat)(W:F7 ops kd H=true)
  (ad:(Nat->Prop)->Value->World->Prop) (f:FuncId) (args:Av)
  (ae:∀X bl v u R,ad X v u->(∀k,k<u.heap.size->¬X k->R.heap[k]?=u.heap[k]?)->u.heap.size<=R.heap.size->(∀k,k<u.heap.size->bl k->X k)->ad bl v R)
  (bw:∀X u,Ao w.drew u->(∀k,X k->w.heap.size<=k/\k<u.heap.size/\∃(i:Nat)(t:TypeId)(n:Av)(s:Nat)(cs:Value->Av)(cl:Av),kd[i]?=some (.alo t n s cs)/\u.heap[k]?=some (.cells cl t (0,0)))->Calls P f args u (fun e R=>∃v,e=returned v/\Ao u R/\ad X v R))
  (b3:Ps P kd w.drew (CD a0 ops kd) ad f args ops kd)
  (bf:kd[H]?=some .cal) (a6:H<ops.length)
  (bx:∀vc β u,Ao w.drew u->ad (Gx kd β (fun _=>true)) vc u->(∀(i:Nat) t n s cs,kd[i]?=some (.alo t n s cs)->w.heap.size<=β i/\u.heap[β i]?=some (.cells (cs vc) t (0,0)))->
   (∀(i j:Nat) t n s cs E F A C,kd[i]?=some (.alo t n s cs)->kd[j]?=some (.alo E F A C)->i≠j->β i≠β j)->bk .normal (CD a0 ops kd vc β) u):
  (Code.region cb ops.toArray true).wp P bk a0 w:=by
 have cj:ops.length=kd.length:=by
  unfold F7 at W;simp only[Q6,JF]at W;exact W.1
 refine wp_region_any b1 (M4 (J:=Yw P ops kd H a0 w.drew ad) ?_ ?_ _ _ _ _ ?_ ?_)
 ·intro L a u i al be;obtain⟨aa,K,vc,β,rfl,T,aw,O,au,a9⟩:=be;obtain⟨h0,o,bt,_⟩:=mem_ready.1 al;have Y:ops[i]?=some o:=by simpa using bt
  have hi:i<ops.length:=(Qa.1 Y).1;have a6:i<L.size:=Yo
  have ab:L.getD i false=false:=by simp[a6]at h0⊢;exact h0
  obtain⟨q,ak,S⟩:=K3 W Y;have ar:=b3.at Y ak;have bz:execOp (pa a0 vc β (fun j=>L.getD j false) 0 ops kd).eval o=execOp (CD a0 ops kd vc β).eval o:=by
   refine execOp_congr o S.sel (fun x ca=>WY (fun j p U hl d hd e=> ?_));subst e;have b7:=S.look j p d U hd (Q9 _ (List.mem_filterMap.2 ⟨.tmp d,by simpa using ca,rfl⟩));have:=DQ al Y b7;simp only[JJ]at hl;rw[hl]at this;simp at this
  have b8:Region.wanted o (yielded ops.toArray (pa a0 vc β (fun j=>L.getD j false) 0 ops kd).tmps)=true:=by simp[Region.wanted,S.gd]
  have aq:=Ko a6;have ax:∀an ao,(∀j r,kd[j]?=some r->L.getD j false=true->r.val vc β j=r.val an ao j)->
    (pa a0 vc β (fun j=>L.getD j false) 0 ops kd).put o.dst (q.val an ao i)=pa a0 an ao (fun j=>(L.setIfInBounds i true).getD j false) 0 ops kd:=by
   intro an ao b6;have bv:pa a0 vc β (fun j=>L.getD j false) 0 ops kd=pa a0 an ao (fun j=>L.getD j false) 0 ops kd:=Gc (fun j r am=>by
    simp only[JJ];exact⟨trivial,fun hl=>b6 j r am hl⟩)
   rw[bv];have bm:=Vk (a0:=a0) (vc:=an) (β:=ao) (lst:=fun j=>L.getD j false) (k:=0) Y ak (by simpa using ab) S.dst;simp only[JJ]at bm;rw[<-bm];exact Gc (fun j r am=>⟨by simp only[JJ,aq],fun _=>rfl⟩)
  have ch:∀r,kd[H]?=some r->r= .cal:=fun r h=>by rw[bf]at h;exact(Option.some.inj h).symm
  have aj:∀j,L.getD j false=true->(L.setIfInBounds i true).getD j false=true:=fun j h=>by rw[aq,h];rfl
  have z:∀j,j≠i->(L.setIfInBounds i true).getD j false=L.getD j false:=fun j h=>by
   rw[aq];have:(j==i)=false:=by rw[Qu];exact h
   simp[this]
  unfold wpOp;simp only[bt];rw[QQ b8];refine QG ?_;unfold Oper.wp;rw[bz];have b4:∀(b:Nat) B,kd[b]?=some B->(L.setIfInBounds i true).getD b false=true->EY B=true->b≠i->(L.setIfInBounds i true).getD H false=true:=fun b B m y I D=>
   aj _ (aw b B m (by rw[z b D]at y;exact y) I)
  have ag:∀{b:Nat}{B:Kd},kd[b]?=some B->∃ac,VT ops kd H b ac B:=fun{b B} m=>by
   obtain⟨ce,Z,bd⟩:=K3 W (Qb (l:=ops) (i:=b) (by have:=(Qa.1 m).1;omega));rw[m]at Z;simp at Z;subst Z;exact⟨_,bd⟩
  have D:∀{b:Nat}{B:Kd},kd[b]?=some B->B≠q->b≠i:=fun{b B} m y e=>by
   subst e;rw[ak]at m;exact y (Option.some.inj m).symm
  have bb:(∀t n s cs,q≠.alo t n s cs)->∀k,Gx kd β (fun j=>(L.setIfInBounds i true).getD j false) k->Gx kd β (fun j=>L.getD j false) k:=by
   rintro ai k ⟨b,t,n,s,cs,m,y,rfl⟩;have:b≠i:=D m (fun e=>ai t n s cs e.symm);exact⟨b,t,n,s,cs,m,(z b this).symm.trans y,rfl⟩
  have a4:(∀t n s cs,q≠.alo t n s cs)->∀(b G:Nat) t n s cs E F A C,kd[b]?=some (.alo t n s cs)->kd[G]?=some (.alo E F A C)->(L.setIfInBounds i true).getD b false=true->(L.setIfInBounds i true).getD G false=true->b≠G->β b≠β G:=by
   intro ai b G t n s cs E F A C m y I ap;rw[z b (D m (fun e=>ai _ _ _ _ e.symm))]at I;rw[z G (D y (fun e=>ai _ _ _ _ e.symm))]at ap;exact au b G t n s cs E F A C m y I ap
  have bn:(∀t n s cs,q≠.alo t n s cs)->(∀k,q≠.sto k)->∀(b:Nat) t n s cs,kd[b]?=some (.alo t n s cs)->(L.setIfInBounds i true).getD b false=true->w.drew.heap.size<=β b/\u.heap[β b]?=some (.cells (if(L.setIfInBounds i true).getD s false then cs vc else n) t (0,0)):=by
   intro ai bh b t n s cs m y;obtain⟨ac,M⟩:=ag m;have ay:s≠i:=D (M.alo t n s cs rfl) (fun e=>bh _ e.symm);rw[z s ay];exact O b t n s cs m ((z b (D m (fun e=>ai _ _ _ _ e.symm))).symm.trans y)
  have ba:(∀k,q≠.sto k)->∀(b k:Nat),kd[b]?=some (.sto k)->(L.setIfInBounds i true).getD b false=true->(L.setIfInBounds i true).getD k false=true:=fun bh b k m y=>
   aj _ (a9 b k m ((z b (D m (fun e=>bh _ e.symm))).symm.trans y))
  have bu:EY q=false->∀(b:Nat) B,kd[b]?=some B->(L.setIfInBounds i true).getD b false=true->EY B=true->(L.setIfInBounds i true).getD H false=true:=fun U b B m y I=>
   b4 b B m y I (D m (fun e=>by rw[e,U]at I;simp at I))
  have bo:EY q=true->L.getD H false=true:=fun U=>by
   obtain⟨j,r,m,y,I⟩:=S.post U;have af:=DQ al Y m
   cases r with
   |post g=>exact aw j _ y af rfl
   |cal=>
    obtain⟨ac,M⟩:=ag y;have:=M.cal rfl;rw[<-this];exact af
   |_=>simp[IN]at I
  cases q with
  |pur c=>
   rw[ar vc β u K];have N:H≠i:=D bf Ys;refine⟨by simpa using aa,K,vc,β,ax vc β (fun _ _ _ _=>rfl),?_,bu rfl,bn Ys Ys,a4 Ys,ba Ys⟩;intro h;rw[z H N]at h;exact ae _ _ vc u u (T h) (fun _ _ _=>rfl) (Qe _) (fun k _=>bb Ys k)
  |post g=>
   have N:=bo rfl;rw[ar vc β _ u (T N)];refine⟨by simpa using aa,K,vc,β,ax vc β (fun _ _ _ _=>rfl),?_,fun b B _ _ _=>aj _ N,bn Ys Ys,a4 Ys,ba Ys⟩;intro h;exact ae _ _ vc u u (T N) (fun _ _ _=>rfl) (Qe _) (fun k _=>bb Ys k)
  |cal=>
   have a5:=S.cal rfl;rw[ar vc β u];refine(bw (Gx kd β (fun j=>L.getD j false)) u K ?_).mono ?_
   ·rintro k ⟨b,t,n,s,cs,m,y,rfl⟩;have:=O b t n s cs m y;exact⟨this.1,(JZ.1 this.2).1,b,t,n,s,cs,_,m,this.2⟩
   ·rintro e R ⟨v,rfl,bp,am⟩;refine⟨by simpa using aa,K.trans (bp.mono K.size),v,β,ax v β ?_,?_,?_,?_,a4 Ys,ba Ys⟩
    ·intro j r m y
     cases r with
     |post g=>
      have:=aw j _ m y rfl;rw[<-a5,ab]at this;simp at this
     |cal=>
      obtain⟨ac,M⟩:=ag m;have:=M.cal rfl;rw[this,<-a5,ab]at y;simp at y
     |_=>rfl
    ·intro _;exact ae _ _ v R R am (fun _ _ _=>rfl) (Qe _) (fun k _=>bb Ys k)
    ·intro b B _ _ _;rw[<-a5,aq];simp
    ·intro b t n s cs m y;have b0:=D m Ys;have hb:=O b t n s cs m ((z b b0).symm.trans y);refine⟨hb.1,(bp.block _ (JZ.1 hb.2).1).trans ?_⟩;obtain⟨ac,M⟩:=ag m;have bs:=M.alo t n s cs rfl;have ay:s≠i:=D bs Ys;have V:L.getD s false=false:=by
      cases V:L.getD s false with
      |false=>rfl
      |true=>
       have:=aw s _ bs V rfl;rw[<-a5,ab]at this;simp at this
     rw[z s ay,V];rw[V]at hb;exact hb.2
  |alo t n s cs=>
   have N:H≠i:=D bf Ys;rw[ar vc β u];have br:=S.alo t n s cs rfl;have ay:s≠i:=D br Ys;have V:L.getD s false=false:=by
    cases V:L.getD s false with
    |false=>rfl
    |true=>
     have:=a9 s i br V;rw[ab]at this;simp at this
   have az:∀j,j≠i->(fun j=>if j=i then u.heap.size else β j) j=β j:=fun j h=>by simp[h]
   have bj:(fun j=>if j=i then u.heap.size else β j) i=u.heap.size:=Ys
   have U:=ax vc (fun j=>if j=i then u.heap.size else β j) (fun j r m y=>by
    have af:j≠i:=fun e=>by rw[e,ab]at y;simp at y
    cases r with
    |alo=>simp only[Kd.val];rw[QP af]
    |_=>rfl)
   simp only[Kd.val,Ja]at U;have bg:∀(b:Nat) t n s cs,kd[b]?=some (.alo t n s cs)->L.getD b false=true->β b<u.heap.size:=fun b t n s cs m y=>(JZ.1 (O b t n s cs m y).2).1;refine⟨by simpa using aa,K.alloc K.size _,vc,(fun j=>if j=i then u.heap.size else β j),U,?_,?_,?_,?_,ba Ys⟩
   ·intro h;rw[z H N]at h;refine ae _ _ vc u _ (T h) (fun k Q _=>Jd _ _ _ Q) Ys ?_;rintro k Q ⟨b,t,n,s,cs,m,y,rfl⟩
    by_cases e:b=i
    ·subst e;simp at Q
    ·rw[az b e];exact⟨b,t,n,s,cs,m,(z b e).symm.trans y,rfl⟩
   ·exact bu rfl
   ·intro b E F A C m y
    by_cases e:b=i
    ·subst e;rw[ak]at m;simp only[Qo,Kd.alo.injEq]at m;obtain⟨rfl,rfl,rfl,rfl⟩:=m;rw[bj,z s ay,V];exact⟨K.size,QL u _⟩
    ·rw[az b e];have av:=(z b e).symm.trans y;have hb:=O b E F A C m av;have bi:A≠i:=by
      obtain⟨ac,M⟩:=ag m;exact D (M.alo E F A C rfl) Ys
     rw[z A bi];exact⟨hb.1,(Jd _ _ _ (bg b E F A C m av)).trans hb.2⟩
   ·intro b G E F A C cm cn ck cf m y I ap bq
    by_cases e:b=i
    ·have e':G≠i:=fun h=>bq (e.trans h.symm);rw[e,bj,az G e'];have:=bg G _ _ _ _ y ((z G e').symm.trans ap);omega
    ·rw[az b e]
     by_cases e':G=i
     ·rw[e',bj];have:=bg b _ _ _ _ m ((z b e).symm.trans I);omega
     ·rw[az G e'];exact au b G _ _ _ _ _ _ _ _ m y ((z b e).symm.trans I) ((z G e').symm.trans ap) bq
  |sto k=>
   have N:=bo rfl;obtain⟨cg,b9,t,n,cs,ah⟩:=S.sto k rfl;have a8:=DQ al Y b9;have a3:=O k t n i cs ah a8;rw[ab]at a3;obtain⟨w',b5,b2,a7⟩:=ar vc β _ u t n i cs ah (T N) a3.2;rw[b5];have ci:k≠i:=D ah Ys;refine⟨by simpa using aa,K.trans (a7.below K.size (fun j e=>by rw[e];exact a3.1)),vc,β,ax vc β (fun _ _ _ _=>rfl),?_,fun b B _ _ _=>aj _ N,?_,a4 Ys,?_⟩
   ·intro _;refine ae _ _ vc u w' (T N) (fun j af hn=>a7.block j af (fun e=>hn ⟨k,t,n,i,cs,ah,a8,e⟩)) a7.size (fun j _=>bb Ys j)
   ·intro b E F A C m y;have e:b≠i:=D m Ys;have av:=(z b e).symm.trans y
    by_cases bc:b=k
    ·subst bc;rw[ah]at m;simp only[Qo,Kd.alo.injEq]at m;obtain⟨rfl,rfl,rfl,rfl⟩:=m;rw[aq];simp only[BEq.rfl,Bool.or_true,Ja];exact⟨a3.1,b2⟩
    ·have hb:=O b E F A C m av;have bi:A≠i:=fun e'=>by
      obtain⟨ac,M⟩:=ag m;have:=M.alo E F A C rfl;rw[e',ak]at this;simp at this;exact bc this.symm
     rw[z A bi];exact⟨hb.1,(a7.block _ (JZ.1 hb.2).1 (au b k _ _ _ _ _ _ _ _ m ah av a8 bc)).trans hb.2⟩
   ·intro b cd m y
    by_cases e:b=i
    ·subst e;rw[ak]at m;simp at m;subst m;exact aj _ a8
    ·exact aj _ (a9 b cd m ((z b e).symm.trans y))
 ·intro L a u al be;obtain⟨aa,K,vc,β,rfl,T,aw,O,au,a9⟩:=be;have a2:=SL W aa al;have e:pa a0 vc β (fun j=>L.getD j false) 0 ops kd=CD a0 ops kd vc β:=Gc (fun j r am=>⟨by
   simp only[JJ];exact a2 j (by have:=(Qa.1 am).1;omega),fun _=>rfl⟩)
  rw[e];have Q:∀(i:Nat) t n s cs,kd[i]?=some (.alo t n s cs)->L.getD i false=true/\L.getD s false=true:=fun i t n s cs h=>by
   have hi:=(Qa.1 h).1;obtain⟨ce,Z,bd⟩:=K3 W (Qb (l:=ops) (i:=i) Yo);rw[h]at Z;simp at Z;subst Z;have:=(Qa.1 (bd.alo t n s cs rfl)).1;exact⟨a2 i Yo,a2 s Yo⟩
  refine bx vc β u K ?_ ?_ ?_
  ·refine ae _ _ vc u u (T (a2 H a6)) (fun _ _ _=>rfl) (Qe _) ?_;rintro k _ ⟨b,t,n,s,cs,m,y,rfl⟩;exact⟨b,t,n,s,cs,m,(Q b t n s cs m).1,rfl⟩
  ·intro i t n s cs h;have:=O i t n s cs h (Q i t n s cs h).1;rw[(Q i t n s cs h).2]at this;exact this
  ·intro i j t n s cs E F A C m y;exact au i j t n s cs E F A C m y (Q i t n s cs m).1 (Q j E F A C y).1
 ·have:(ops.toArray).size=ops.length:=Ys
  unfold X6;exact Qq (List.length_filter_le _ _) Ys
 ·have hz:∀j,(Array.replicate ops.toArray.size false).getD j false=false:=fun j=>by
   simp only[Array.getD_eq_getD_getElem?,Array.getElem?_replicate];split<;>rfl
  refine⟨Ys,Jc _ _,undef,fun _=>0,?_,?_,?_,?_,?_,?_⟩
  ·have:∀(k:Nat)(os:List Oper)(a1:List Kd),pa a0 undef (fun _=>0) (fun j=>(Array.replicate ops.toArray.size false).getD j false) k os a1=a0:=by
    intro k os
    induction os generalizing k with
    |nil=>intro a1;simp[pa]
    |cons o os cc=>
     intro a1
     cases a1 with
     |nil=>simp[pa]
     |cons q a1=>rw[pa,hz];simp only[JQ,if_false];exact cc _ _
   exact(this _ _ _).symm
  ·intro h;rw[hz]at h;simp at h
  ·intro i q _ h;rw[hz]at h;simp at h
  ·intro i t n s cs _ h;rw[hz]at h;simp at h
  ·intro i j t n s cs E F A C _ _ h;rw[hz]at h;simp at h
  ·intro i k _ h;rw[hz]at h;simp at h
theorem DL{ops:List Oper}{B:Nat}{d:Exit->Act->World->Prop}{a0:Act}(x:P.follows .mixedOrders=true)(kd:List Kd)(c:Nat)(q:F7 ops kd c=true)
  (a:(Nat->Prop)->Value->World->Prop) (f:FuncId) (args:Av)
  (o:∀X g v u b,a X v u->(∀k,k<u.heap.size->¬X k->b.heap[k]?=u.heap[k]?)->u.heap.size<=b.heap.size->(∀k,k<u.heap.size->g k->X k)->a g v b)
  (m:∀X u,Ao w.drew u->(∀k,X k->w.heap.size<=k/\k<u.heap.size)->Calls P f args u (fun e b=>∃v,e=returned v/\Ao u b/\a X v b))
  (y:Ps P kd w.drew (CD a0 ops kd) a f args ops kd)
  (p:kd[c]?=some .cal) (r:c<ops.length)
  (n:∀vc β u,Ao w.drew u->a (Gx kd β (fun _=>true)) vc u->(∀(i:Nat) t z s cs,kd[i]?=some (.alo t z s cs)->w.heap.size<=β i/\u.heap[β i]?=some (.cells (cs vc) t (0,0)))->
   (∀(i j:Nat) t z s cs t' z' s' cs',kd[i]?=some (.alo t z s cs)->kd[j]?=some (.alo t' z' s' cs')->i≠j->β i≠β j)->d .normal (CD a0 ops kd vc β) u):
  (Code.region B ops.toArray true).wp P d a0 w:=
 IU x kd c q a f args o (fun X u A h=>m X u A (fun k l=>⟨(h k l).1,(h k l).2.1⟩)) y p r n
end Go.Proofs.YtlmjilpjmgjjcaaGreatDoor
