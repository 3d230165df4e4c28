/-
  PROVED HERE: how a search and what it has told so far lie in memory (the conditions stand in each statement).
-/
import Derived.Test.YtlmjilpjmgjjcabDoorT7
import Derived.Test.YtlmjilpjmgjjcabDoorCards
import Derived.Test.YtlmjilpjmgjjcabDoorTie
import Derived.ProofKit
import Derived.LaidMore
import Derived.OpenShut
import Derived.Stop.Joined
import Derived.SevenTiedAt
import Derived.Deep.Slices
import Derived.Carry
import Derived.Deep.QuietTactic
import Derived.BigQuiet
import Derived.Lib.ItoaLen
import Derived.Shelf.LaysM
import Derived.Shelf.Strconv.Itoa3
import Derived.Lib.AppendIntMem
set_option linter.unusedSimpArgs false
set_option linter.unusedVariables false
set_option maxRecDepth 10000
set_option maxHeartbeats 4000000
namespace Go.Proofs.YtlmjilpjmgjjcabDoor
open Go.RowKit
theorem Zwo {p:List Tok→Names→Option (List Sym × List Tok × Names)} (hp:∀ ts names r,p ts names=some r→2 * r.1.length+r.2.1.length≤ts.length+1) :
  ∀ (g:Nat) (ts:List Tok) (names:Names) (acc:List (List Sym)) r,Zen p g ts names acc=some r→2 * r.1.flatten.length+r.2.1.length+1≤2 * acc.flatten.length+ts.length:=by
 intro g
 induction g with
 | zero=>intro ts names acc r h; simp [Zen] at h
 | succ g ih =>
  intro ts names acc r h
  cases ts with
  | nil=>simp [Zen] at h
  | cons t ts =>
   rw [Zen] at h
   split at h
   ·simp at h; subst h
    simp only [Qf]; omega
   ·split at h
    ·simp at h
    ·rename_i q hq
     have h1:=hp _ _ _ hq
     have h4:=ih _ _ _ _ h
     simp only [List.flatten_append,List.flatten_cons,List.flatten_nil,Qs,Qg,Qf] at h4 ⊢
     omega
theorem Zwp:∀ (f:Nat) (ts:List Tok) (names:Names) r,Zcz f ts names=some r→2 * r.1.length+r.2.1.length≤ts.length+1:=by
 intro f
 induction f with
 | zero=>intro ts names r h; simp [Zcz] at h
 | succ f ih =>
  intro ts names r h
  cases ts with
  | nil=>simp [Zcz] at h
  | cons t ts =>
   rw [Zcz] at h
   split at h
   ·simp at h; subst h
    simp only [Qf,Jt]; omega
   ·cases ts with
    | nil=>simp [Zkf] at h
    | cons u us =>
     rw [Zkf] at h
     split at h
     ·simp at h; subst h
      simp only [Qf,Jt]; omega
     ·rw [Option.map_eq_some_iff] at h
      obtain ⟨q,hq,rfl⟩:=h
      have h1:=Zwo ih _ _ _ _ _ hq
      simp only [List.flatten_nil,Jt,Qf] at h1 ⊢
      omega
theorem Ztj {f:Nat}:∀ (g:Nat) (ts:List Tok) (names:Names) (acc:List (List Sym)) r,Zdd f g ts names acc=some r→2 * r.1.flatten.length+r.2.1.length≤2 * acc.flatten.length+ts.length:=by
 intro g
 induction g with
 | zero=>intro ts names acc r h; simp [Zdd] at h
 | succ g ih =>
  intro ts names acc r h
  rw [Zdd] at h
  split at h
  ·simp at h
  ·rename_i q hq
   have h1:=Zwp f _ _ _ hq
   split at h
   ·simp at h
   ·rename_i x rest hx
    rw [hx] at h1
    simp only [Qf] at h1
    split at h
    ·simp at h; subst h
     simp only [List.flatten_append,List.flatten_cons,List.flatten_nil,Qs,Qg]
     omega
    ·have h4:=ih _ _ _ _ h
     simp only [List.flatten_append,List.flatten_cons,List.flatten_nil,Qs,Qg] at h4
     omega
theorem Zwq {s:ByteArray} {a:List (List Sym) × Names} (h:Zey s=some a):a.2.length≤60:=by
 unfold Zey at h
 split at h
 ·simp at h
 ·split at h
  ·simp at h
  ·rename_i hs he
   have hs:s.size≤120:=by omega
   obtain ⟨r1,_,_⟩:=Zcr s true
   have h0:(runs s true).1=0:=by rw [r1]; omega
   obtain ⟨q,e1,e2,_⟩:=Zgh s hs h0
   rw [e1] at h
   simp at h
   subst h
   obtain ⟨g1,g2,_⟩:=Zfc 1000 0 1000 (Zbd s) [] [] q (Zcy s) (by simp) rfl e1
   obtain ⟨x1,x2,x3⟩:=Zdj _ _ _ g2
   have hl:=Zfj s
   have h2:=Ztj 1000 (Zbd s) [] [] q e1
   simp only [List.flatten_nil,Jt] at h2
   simp only
   omega
theorem Ztk:∀ (l:List Sym) (met:List Nat) (M:Nat),(Zar l met).2.length≤M→(∀ s ∈ l,s.name≠[]→s.num=0)→0<M→∀ s ∈ (Zar l met).1,s.num<M:=by
 intro l
 induction l with
 | nil=>intro met M _ _ _ s hs; simp [Zar] at hs
 | cons s l ih =>
  intro met M hM hz hp t ht
  have hgrow:∀ (l:List Sym) (met:List Nat),met.length≤(Zar l met).2.length:=by
   intro l
   induction l with
   | nil=>intro met; simp [Zar]
   | cons s l ih =>
    intro met
    simp only [Zar]
    split
    ·have:=ih (meet s.num met)
     have h1:met.length≤(meet s.num met).length:=by unfold meet; split <;> simp
     simp; omega
    ·exact ih met
  simp only [Zar] at hM ht
  split at ht
  ·rename_i hn
   rw [if_pos hn] at hM
   simp only at hM
   rcases Qp.1 ht with rfl | ht
   ·show met.idxOf s.num<M
    have h1:=hgrow l (meet s.num met)
    have h2:met.idxOf s.num<(meet s.num met).length:=by
     unfold meet
     split
     ·rename_i e; rw [e]; simp
     ·rename_i e
      have:=List.idxOf_le_length (a:=s.num) (l:=met)
      omega
    omega
   ·exact ih _ M hM (fun u hu=>hz u (by simp [hu])) hp t ht
  ·rename_i hn
   rw [if_neg hn] at hM
   simp only at hM
   rcases Qp.1 ht with rfl | ht
   ·rw [hz t (by simp) hn]; exact hp
   ·exact ih _ M hM (fun u hu=>hz u (by simp [hu])) hp t ht
theorem Ztl:∀ (ts:List (List Sym)) (met:List Nat) (M:Nat),(Zau ts met).2.length≤M→(∀ t ∈ ts,∀ s ∈ t,s.name≠[]→s.num=0)→0<M→∀ t ∈ (Zau ts met).1,∀ s ∈ t,s.num<M:=by
 intro ts
 induction ts with
 | nil=>intro met M _ _ _ t ht; simp [Zau] at ht
 | cons u ts ih =>
  intro met M hM hz hp t ht
  have hgrow:∀ (ts:List (List Sym)) (met:List Nat),met.length≤(Zau ts met).2.length:=by
   intro ts
   induction ts with
   | nil=>intro met; simp [Zau]
   | cons v ts ih =>
    intro met
    simp only [Zau]
    have h1:=ih (Zar v met).2
    have h2:met.length≤(Zar v met).2.length:=by
     clear h1 ih
     induction v generalizing met with
     | nil=>simp [Zar]
     | cons s l ih =>
      simp only [Zar]
      split
      ·have:=ih (meet s.num met)
       have h1:met.length≤(meet s.num met).length:=by unfold meet; split <;> simp
       simp; omega
      ·exact ih met
    omega
  simp only [Zau] at hM ht
  rcases Qp.1 ht with rfl | ht
  ·exact Ztk u met M (Qq (hgrow ts _) hM) (fun s hs=>hz u (by simp) s hs) hp
  ·exact ih _ M hM (fun v hv=>hz v (by simp [hv])) hp t ht
theorem Zpu:∀ (l:List Sym) (met:List Nat) (P:Nat→Prop),(∀ s ∈ l,P s.args)→∀ s ∈ (Zar l met).1,P s.args:=by
 intro l
 induction l with
 | nil=>intro met P _ s hs; simp [Zar] at hs
 | cons s l ih =>
  intro met P h t ht
  simp only [Zar] at ht
  split at ht
  ·rcases Qp.1 ht with rfl | ht
   ·exact h s (by simp)
   ·exact ih _ P (fun u hu=>h u (by simp [hu])) t ht
  ·rcases Qp.1 ht with rfl | ht
   ·exact h t (by simp)
   ·exact ih _ P (fun u hu=>h u (by simp [hu])) t ht
theorem Zjz:∀ (ts:List (List Sym)) (met:List Nat) (u:List Sym),u ∈ (Zau ts met).1→∃ t ∈ ts,∃ m,u=(Zar t m).1:=by
 intro ts
 induction ts with
 | nil=>intro met u h; simp [Zau] at h
 | cons t ts ih =>
  intro met u h
  simp only [Zau] at h
  rcases Qp.1 h with rfl | h
  ·exact ⟨t,by simp,met,rfl⟩
  ·obtain ⟨t',h1,m,h2⟩:=ih _ u h
   exact ⟨t',by simp [h1],m,h2⟩
end Go.Proofs.YtlmjilpjmgjjcabDoor
namespace Go.Proofs.YtlmjilpjmgjjcabDoor
open Go.ChangeShapes Go.WideShapes Go.ChangeAt Go.WideMaps Go.WideElems Go.RowKit
theorem own:ownKnob Tryd.prog.godebug=none:=by kernel_rfl
namespace Go.Proofs.YtlmjilpjmgjjcabDoor
open Go.ChangeShapes Go.WideShapes Go.ChangeAt Go.WideMaps Go.WideElems Go.RowKit
set_option linter.unusedSimpArgs false
set_option linter.unusedVariables false
end Go.Proofs.YtlmjilpjmgjjcabDoor
end Go.Proofs.YtlmjilpjmgjjcabDoor
namespace Go.Proofs.YtlmjilpjmgjjcabDoor
open Go.RowKit
theorem Zpv {ts:List (List Sym)} {N:Nat} (h:∀ t ∈ ts,t.length≤N):ts.flatten.length≤N * ts.length:=by
 induction ts with
 | nil=>simp
 | cons t ts ih =>
  have h1:=h t (by simp)
  have h2:=ih (fun y hy=>h y (by simp [hy]))
  simp only [List.flatten_cons,Qg,Qf]
  rw [Nat.mul_add]
  omega
theorem Ztm:∀ (ts:List (List Sym)) (seen:List Nat),(∀ t ∈ ts,Wf 1 t∧t.length≤30∧∀ s ∈ t,s.name.length≤4096)→seen.length+ts.flatten.length≤4000→∀ u ∈ (Zau ts seen).1,(Zbu u []).length≤200000:=by
 intro ts
 induction ts with
 | nil=>intro seen _ _ u hu; simp [Zau] at hu
 | cons t ts ih =>
  intro seen h hs u hu
  simp only [List.flatten_cons,Qg] at hs
  obtain ⟨h1,h2,h3⟩:=h t (by simp)
  have hc:=Znr (l:=t) (by omega) h1 h3 (seen:=seen) (by omega)
  simp only [Zau] at hu
  rcases Qp.1 hu with rfl | hu
  ·omega
  ·exact ih _ (fun v hv=>h v (by simp [hv])) (by omega) u hu
theorem tx_ok {n:ND} (hn:NOk n) (hm:NNm n) {ts:List (List Sym)} (ht:∀ t ∈ ts,t ∈ n.terms∧t.length≤30) (hl:ts.length≤130) (hv:(Zau ts []).2.length≤2599):TxOk ts:=by
 have hfl:ts.flatten.length≤30 * ts.length:=Zpv (fun t h=>(ht t h).2)
 have hV:n.vars≤101000:=by have:=hn.vars; have:=hn.ul; omega
 refine ⟨by omega,by omega,fun t h=>Zkh (hn.wf t (ht t h).1) (by have:=(ht t h).2; omega) (hn.occ t (ht t h).1) (by omega),fun u hu=>⟨?_,fun s hs=>⟨?_,?_⟩⟩,fun u hu => ?_⟩
 ·obtain ⟨t,h1,m,rfl⟩:=Zjz ts [] u hu
  rw [Zhn]
  have:=(ht t h1).2
  omega
 ·exact Ztl ts [] 2600 (by omega) (fun t h1 x hx hne=>by
   obtain ⟨i,hi⟩:=List.mem_iff_getElem?.1 hx
   exact (Zhd (hn.wf t (ht t h1).1) hi).2 hne) (by omega) u hu s hs
 ·obtain ⟨t,h1,m,rfl⟩:=Zjz ts [] u hu
  refine Qq (Zpu t m (fun a=>a≤30) (fun x hx => ?_) s hs) (by omega)
  obtain ⟨i,hi⟩:=List.mem_iff_getElem?.1 hx
  have hil:=(Qa.1 hi).1
  have:=Zpn (hn.wf t (ht t h1).1) (i:=i) hil
  have he:Zaq t i=x:=by unfold Zaq; rw [List.getD_eq_getElem?_getD,hi]; rfl
  rw [he] at this
  have:=(ht t h1).2
  omega
 ·refine Qq (Ztm ts [] (fun t h1=>⟨hn.wf t (ht t h1).1,(ht t h1).2,fun s hs=>Qq (hm t (ht t h1).1 s hs) (by omega)⟩) ?_ u hu) (by omega)
  simp only [Jt]
  omega
theorem Yao {n:ND} (hn:NOk n) (hm:NNm n) (hl:n.vals.length≤60):TxOk n.vals:=by
 have hfl:n.vals.flatten.length≤30 * n.vals.length:=Zpv (fun t h=>hn.vsize h)
 refine tx_ok hn hm (fun t h=>⟨by unfold ND.terms; simp [h],hn.vsize h⟩) (by omega) ?_
 have:=Zli n.vals []
 simp only [Jt] at this
 omega
theorem Ztn {n:ND} (hn:NOk n) (hm:NNm n) (hl:n.vals.length≤60) {names:Names} (hs:names.length≤60) (hns:∀ x ∈ names,x.length≤8):(Zgk [] names (Zau n.vals []).1).length≤100000000:=by
 have hfl:n.vals.flatten.length≤30 * n.vals.length:=Zpv (fun t h=>hn.vsize h)
 have:=Zvp names n.vals [] [] (fun x hx=>Qq (hns x hx) (by omega)) (fun t ht=>⟨hn.wf t (by unfold ND.terms; simp [ht]),by have:=hn.vsize ht; omega,fun s hs=>Qq (hm t (by unfold ND.terms; simp [ht]) s hs) (by omega)⟩) (by simp) (by simp only [Jt]; omega)
 omega
def Zcb (t:TypeId):Prop:=t=79∨t=52∨t=55∨t=9∨t=3
def OffCode (S:Nat→Prop) (w:World):Prop:=∀ k,S k→∃ cl t fr,w.heap[k]?=some (.cells cl t fr)∧¬ Zcb t
theorem OffCode.own {S:Nat→Prop} {w w':World} {B:Nat} {e:TypeId} {size n:Nat} {v:Value} {xs:List Value} (hS:OffCode S w) (he:Zcb e) (hk:Kept S w w') (h:w.ownsRow B e size v n xs):w'.ownsRow B e size v n xs :=
 Zao h (fun k hj=>hk.block k (h.lt k hj).2 (fun hs=>by
  obtain ⟨cl,t,fr,h1,h2⟩:=hS k hs
  rcases h.2 with ⟨rfl,_⟩ | ⟨g,cap,cur,rfl,_,hg,_⟩
  ·simp [Zbo,Value.ownBlock] at hj
  ·simp [Zbo,Value.ownBlock] at hj
   subst hj
   rw [hg] at h1
   simp at h1
   exact h2 (h1.2.1 ▸ he)))
theorem OffCode.terms {S:Nat→Prop} {w w':World} {v:Value} {ls:List (List Sym)} (hS:OffCode S w) (hk:Kept S w w') (h:TermsIn w v ls):TermsIn w' v ls:=by
 obtain ⟨vs,h⟩:=h
 exact ⟨vs,hS.own (by simp [Zcb]) hk h.owns,fun i l hl=>by
  obtain ⟨x,h1,h2⟩:=h.all i l hl
  exact ⟨x,h1,hS.own (by simp [Zcb]) hk h2⟩⟩
theorem OffCode.prog {S:Nat→Prop} {w w':World} {v:Value} {cs:List Cls} {xs:List (List Value)} (hS:OffCode S w) (hk:Kept S w w') (h:ProgIn w v cs xs):ProgIn w' v cs xs :=
 ⟨hS.own (by simp [Zcb]) hk h.owns,h.len,h.three,fun i c hc=>by
  obtain ⟨hv,bv,vv,h1,h2⟩:=h.all i c hc
  exact ⟨hv,bv,vv,h1,hS.own (by simp [Zcb]) hk h2.head,hS.terms hk h2.body,hS.own (by simp [Zcb]) hk h2.names⟩⟩
def CNode (w:World) (gv vv rv uv:Value) (n0:ND):Prop:=∃ n,NodeIn w gv vv rv n∧uv = .int .i64 n.vars∧NOk n∧NNm n∧NFew n∧Same n n0
theorem CNode.ext {w w':World} {gv vv rv uv:Value} {n0:ND} (h:CNode w gv vv rv uv n0) (e:Ext w w'):CNode w' gv vv rv uv n0:=by
 obtain ⟨n,h1,h2⟩:=h
 exact ⟨n,h1.ext e,h2⟩
theorem CNode.keep {S:Nat→Prop} {w w':World} {gv vv rv uv:Value} {n0:ND} (h:CNode w gv vv rv uv n0) (hk:Kept S w w') (hS:OffCode S w):CNode w' gv vv rv uv n0:=by
 obtain ⟨n,h1,h2⟩:=h
 exact ⟨n,⟨hS.terms hk h1.goals,hS.terms hk h1.vals,hS.terms hk h1.done⟩,h2⟩
theorem CNode.shape {w:World} {gv vv rv uv:Value} {n0:ND} (h:CNode w gv vv rv uv n0):∃ ga gc va vl vc ra rl rc,∃ u:Nat,gv = .slice ga n0.goals.length gc∧vv = .slice va vl vc∧rv = .slice ra rl rc∧uv = .int .i64 u∧u≤101000:=by
 obtain ⟨n,h1,rfl,h3,_,_,hs⟩:=h
 obtain ⟨ga,gcap,rfl⟩:=h1.goals.shape
 obtain ⟨va,vcap,rfl⟩:=h1.vals.shape
 obtain ⟨ra,rcap,rfl⟩:=h1.done.shape
 exact ⟨ga,gcap,va,_,vcap,ra,_,rcap,n.vars,by rw [Ql,hs.gl],rfl,rfl,rfl,by have:=h3.vars; have:=h3.ul; omega⟩
structure RowL (w:World) (v:Value) (ds:List (ND × Nat)) (xs:List Value):Prop where
 owns:w.ownsRow 0 81 5 v ds.length xs
 all:∀ (i:Nat) (d:ND × Nat),ds[i]?=some d→∃ x0 x1 x2 x3,xs[i * 5]?=some x0∧xs[i * 5+1]?=some x1∧xs[i * 5+2]?=some x2∧xs[i * 5+3]?=some x3∧xs[i * 5+4]?=some (.int .i64 d.2)∧CNode w x0 x1 x2 x3 d.1
theorem RowL.nil (w:World):RowL w (.slice none 0 0) [] []:=⟨World.ownsRow_nil _ _ _ _,fun i d h=>by simp at h⟩
theorem RowL.ext {w w':World} {v:Value} {ds:List (ND × Nat)} {xs:List Value} (h:RowL w v ds xs) (e:Ext w w'):RowL w' v ds xs :=
 ⟨Zao h.owns (fun k hk=>e.block k (h.owns.lt k hk).2),fun i d hd=>by
  obtain ⟨x0,x1,x2,x3,y0,y1,y2,y3,y4,g⟩:=h.all i d hd
  exact ⟨x0,x1,x2,x3,y0,y1,y2,y3,y4,g.ext e⟩⟩
theorem RowL.keep {S:Nat→Prop} {w w':World} {v:Value} {ds:List (ND × Nat)} {xs:List Value} (h:RowL w v ds xs) (hk:Kept S w w') (hS:OffCode S w) (ho:∀ k,v.ownBlock=some k→¬ S k):RowL w' v ds xs :=
 ⟨Zao h.owns (fun k hj=>hk.block k (h.owns.lt k hj).2 (ho k hj)),fun i d hd=>by
  obtain ⟨x0,x1,x2,x3,y0,y1,y2,y3,y4,g⟩:=h.all i d hd
  exact ⟨x0,x1,x2,x3,y0,y1,y2,y3,y4,g.keep hk hS⟩⟩
theorem RowL.pop {w:World} {g n cap:Nat} {ds:List (ND × Nat)} {d:ND × Nat} {xs:List Value} (h:RowL w (.slice (some ⟨g,0,none⟩) (n+1) cap) (ds++[d]) xs) (hn:ds.length=n):RowL w (.slice (some ⟨g,0,none⟩) n cap) ds (xs.take (n * 5)):=by
 have ho:=h.owns
 rw [Qg,Qn,hn] at ho
 refine ⟨by rw [hn]; exact Zvr ho,fun i x hx => ?_⟩
 have hi:=(Qa.1 hx).1
 obtain ⟨x0,x1,x2,x3,y0,y1,y2,y3,y4,g⟩:=h.all i x (by rw [Qc hi]; exact hx)
 exact ⟨x0,x1,x2,x3,by rw [List.getElem?_take_of_lt (by omega)]; exact y0,by rw [List.getElem?_take_of_lt (by omega)]; exact y1,by rw [List.getElem?_take_of_lt (by omega)]; exact y2,by rw [List.getElem?_take_of_lt (by omega)]; exact y3,by rw [List.getElem?_take_of_lt (by omega)]; exact y4,g⟩
theorem Zhh {w:World} {B n size:Nat} {v:Value} {xs:List Value} (h:w.ownsRow B 81 size v n xs):OffCode (Zbo v) w:=fun j hj=>by
 rcases h.2 with ⟨rfl,_⟩ | ⟨g,cap,cur,rfl,_,hg,_⟩
 ·simp [Zbo,Value.ownBlock] at hj
 ·simp [Zbo,Value.ownBlock] at hj
  subst hj
  exact ⟨_,_,_,hg,by simp [Zcb]⟩
theorem RowL.step {w w':World} {cv cv':Value} {ds:List (ND × Nat)} {xs:List Value} {x0 x1 x2 x3:Value} {n:ND} {k:Nat} (h:RowL w cv ds xs) (hn:CNode w x0 x1 x2 x3 n) (ha:Appended w 0 81 5 cv (ds.length+1) (xs++[x0,x1,x2,x3,.int .i64 k]) cv' w') :
  RowL w' cv' (ds++[(n,k)]) (xs++[x0,x1,x2,x3,.int .i64 k]):=by
 have hS:=Zhh h.owns
 have hxl:=h.owns.1
 refine ⟨by simpa using ha.owns,fun i d hd => ?_⟩
 rcases Nat.lt_or_ge i ds.length with hi | hi
 ·rw [Qc hi] at hd
  obtain ⟨p0,p1,p2,p3,y0,y1,y2,y3,y4,g⟩:=h.all i d hd
  exact ⟨p0,p1,p2,p3,by rw [Qc (by omega)]; exact y0,by rw [Qc (by omega)]; exact y1,by rw [Qc (by omega)]; exact y2,by rw [Qc (by omega)]; exact y3,by rw [Qc (by omega)]; exact y4,g.keep ha.kept hS⟩
 ·have e:i=ds.length:=by
   have:=(Qa.1 hd).1
   simp at this; omega
  subst e
  rw [Qd (Qe _)] at hd
  simp at hd
  subst hd
  exact ⟨x0,x1,x2,x3,by rw [Qd (by omega)]; simp [hxl],by rw [Qd (by omega),show ds.length * 5+1 - xs.length=1 by omega]; rfl,by rw [Qd (by omega),show ds.length * 5+2 - xs.length=2 by omega]; rfl,by rw [Qd (by omega),show ds.length * 5+3 - xs.length=3 by omega]; rfl,by rw [Qd (by omega),show ds.length * 5+4 - xs.length=4 by omega]; rfl,hn.keep ha.kept hS⟩
structure CX where
 ca:Option Addr
 cc:Nat
 na:Option Addr
 nc:Nat
 wa:Option Addr
 wc:Nat
 va:Option Addr
 vl:Nat
 vc:Nat
 fa:Option Addr
 fl:Nat
 fc:Nat
def CX.cells (x:CX) (cl nl wl tr st:Nat) (T:List UInt8):Array Value:=#[.slice x.ca cl x.cc,.slice x.na nl x.nc,.slice x.wa wl x.wc,.int .i64 tr,.int .i64 st,.slice x.va x.vl x.vc,.slice x.fa x.fl x.fc,.string ⟨T.toArray⟩]
structure CSr (w:World) (b:Nat) (x:CX) (cs:List Cls) (a:List (List Sym) × Names) (m:SN):Prop where
 box:w.heap[b]?=some (.cells (x.cells cs.length a.2.length m.way.length m.tries m.status m.tree) 60 (0,0))
 prog:∃ xs,ProgIn w (.slice x.ca cs.length x.cc) cs xs
 names:w.ownsRow 0 9 1 (.slice x.na a.2.length x.nc) a.2.length (strs a.2)
 way:∃ ys,RowL w (.slice x.wa m.way.length x.wc) m.way.reverse ys
 found:m.status=1→(∃ n,TermsIn w (.slice x.va x.vl x.vc) n.vals∧NOk n∧NNm n∧Same n m.found)∧w.ownsRow 0 3 1 (.slice x.fa x.fl x.fc) m.found.used.length (ints m.found.used)
theorem CSr.ext {w w':World} {b:Nat} {x:CX} {cs:List Cls} {a:List (List Sym) × Names} {m:SN} (h:CSr w b x cs a m) (e:Ext w w'):CSr w' b x cs a m:=by
 obtain ⟨xs,h1⟩:=h.prog
 obtain ⟨ys,h2⟩:=h.way
 refine ⟨(e.block _ (Zab h.box)).trans h.box,⟨xs,h1.ext e⟩,Zao h.names (fun k hk=>e.block k (h.names.lt k hk).2),⟨ys,h2.ext e⟩,fun hs => ?_⟩
 obtain ⟨⟨n,g1,g2⟩,g3⟩:=h.found hs
 exact ⟨⟨n,g1.ext e,g2⟩,Zao g3 (fun k hk=>e.block k (g3.lt k hk).2)⟩
def ownS (b:Nat) (x:CX):Nat→Prop:=fun k=>k=b∨(∃ a,x.wa=some a∧a.block=k)
theorem CSr.keep {S:Nat→Prop} {w w':World} {b:Nat} {x:CX} {cs:List Cls} {a:List (List Sym) × Names} {m:SN} (h:CSr w b x cs a m) (hk:Kept S w w') (hS:OffCode S w) (ho:∀ k,ownS b x k→¬ S k):CSr w' b x cs a m:=by
 obtain ⟨xs,h1⟩:=h.prog
 obtain ⟨ys,h2⟩:=h.way
 refine ⟨(hk.block _ (Zab h.box) (ho _ (Or.inl rfl))).trans h.box,⟨xs,hS.prog hk h1⟩,hS.own (by simp [Zcb]) hk h.names,⟨ys,h2.keep hk hS (fun k hj=>ho k (Or.inr ?_))⟩,fun hs => ?_⟩
 ·rcases h2.owns.2 with ⟨e,_⟩ | ⟨g,cap,cur,e,_⟩
  ·rw [e] at hj; simp [Value.ownBlock] at hj
  ·rw [e] at hj
   simp [Value.ownBlock] at hj
   simp at e
   exact ⟨_,e.1,hj⟩
 ·obtain ⟨⟨n,g1,g2⟩,g3⟩:=h.found hs
  exact ⟨⟨n,hS.terms hk g1,g2⟩,hS.own (by simp [Zcb]) hk g3⟩
theorem CSr.upd {w w':World} {b:Nat} {x x':CX} {cs:List Cls} {a:List (List Sym) × Names} {m m':SN} (h:CSr w b x cs a m) (hk:Kept (only b) w w') (hbox:w'.heap[b]?=some (.cells (x'.cells cs.length a.2.length m'.way.length m'.tries m'.status m'.tree) 60 (0,0))) (hx:x'.ca=x.ca∧x'.cc=x.cc∧x'.na=x.na∧x'.nc=x.nc)
  (hway:∃ ys,RowL w (.slice x'.wa m'.way.length x'.wc) m'.way.reverse ys) (hf:m'.status=1→(∃ n,TermsIn w (.slice x'.va x'.vl x'.vc) n.vals∧NOk n∧NNm n∧Same n m'.found)∧w.ownsRow 0 3 1 (.slice x'.fa x'.fl x'.fc) m'.found.used.length (ints m'.found.used)):CSr w' b x' cs a m':=by
 obtain ⟨xs,h1⟩:=h.prog
 obtain ⟨ys,h2⟩:=hway
 have hS:OffCode (only b) w:=fun k e=>by
  have e:k=b:=e
  subst e
  exact ⟨_,_,_,h.box,by simp [Zcb]⟩
 obtain ⟨e1,e2,e3,e4⟩:=hx
 refine ⟨hbox,⟨xs,by rw [e1,e2]; exact hS.prog hk h1⟩,by rw [e3,e4]; exact hS.own (by simp [Zcb]) hk h.names,⟨ys,h2.keep hk hS (fun k hj e => ?_)⟩,fun hs => ?_⟩
 ·have e:k=b:=e
  subst e
  rcases h2.owns.2 with ⟨e,_⟩ | ⟨g,cap,cur,e,_,hg,_⟩
  ·rw [e] at hj; simp [Value.ownBlock] at hj
  ·rw [e] at hj
   simp [Value.ownBlock] at hj
   subst hj
   rw [h.box] at hg
   simp at hg
 ·obtain ⟨⟨n,g1,g2⟩,g3⟩:=hf hs
  exact ⟨⟨n,hS.terms hk g1,g2⟩,hS.own (by simp [Zcb]) hk g3⟩
theorem CSr.off {w:World} {b:Nat} {x:CX} {cs:List Cls} {a:List (List Sym) × Names} {m:SN} (h:CSr w b x cs a m):OffCode (only b) w:=fun k e=>by
 have e:k=b:=e
 subst e
 exact ⟨_,_,_,h.box,by simp [Zcb]⟩
theorem CSr.upd' {w w':World} {b:Nat} {x x':CX} {cs:List Cls} {a:List (List Sym) × Names} {m m':SN} (h:CSr w b x cs a m) (hk:Kept (only b) w w') (hbox:w'.heap[b]?=some (.cells (x'.cells cs.length a.2.length m'.way.length m'.tries m'.status m'.tree) 60 (0,0))) (hx:x'.ca=x.ca∧x'.cc=x.cc∧x'.na=x.na∧x'.nc=x.nc)
  (hway:∃ ys,RowL w (.slice x'.wa m'.way.length x'.wc) m'.way.reverse ys) (hf:m'.status=1→(∃ n,TermsIn w' (.slice x'.va x'.vl x'.vc) n.vals∧NOk n∧NNm n∧Same n m'.found)∧w'.ownsRow 0 3 1 (.slice x'.fa x'.fl x'.fc) m'.found.used.length (ints m'.found.used)):CSr w' b x' cs a m':=by
 obtain ⟨xs,h1⟩:=h.prog
 obtain ⟨ys,h2⟩:=hway
 have hS:=h.off
 obtain ⟨e1,e2,e3,e4⟩:=hx
 refine ⟨hbox,⟨xs,by rw [e1,e2]; exact hS.prog hk h1⟩,by rw [e3,e4]; exact hS.own (by simp [Zcb]) hk h.names,⟨ys,h2.keep hk hS (fun k hj e => ?_)⟩,hf⟩
 have e:k=b:=e
 subst e
 rcases h2.owns.2 with ⟨e,_⟩ | ⟨g,cap,cur,e,_,hg,_⟩
 ·rw [e] at hj; simp [Value.ownBlock] at hj
 ·rw [e] at hj
  simp [Value.ownBlock] at hj
  subst hj
  rw [h.box] at hg
  simp at hg
def Zfh (w:World) (x x':CX):Prop:=(∀ k,(∃ p,x'.wa=some p∧p.block=k)→(∃ p,x.wa=some p∧p.block=k)∨w.heap.size≤k)∧x'.ca=x.ca∧x'.cc=x.cc∧x'.na=x.na∧x'.nc=x.nc
theorem Zil {wa:Option Addr} {n c k:Nat}:(Value.slice wa n c).ownBlock=some k↔∃ p,wa=some p∧p.block=k:=by
 cases wa <;> simp [Value.ownBlock]
theorem CSr.offS {w:World} {b:Nat} {x:CX} {cs:List Cls} {a:List (List Sym) × Names} {m:SN} (h:CSr w b x cs a m):OffCode (ownS b x) w:=fun k hk=>by
 rcases hk with rfl | hk
 ·exact ⟨_,_,_,h.box,by simp [Zcb]⟩
 ·obtain ⟨ys,h2⟩:=h.way
  exact Zhh h2.owns k (Zil.2 hk)
theorem box8 {w:World} {b:Nat} {u0 u1 u2 u3 u4 u5 u6 u7:Value} {t:TypeId} (h:w.heap[b]?=some (.cells #[u0,u1,u2,u3,u4,u5,u6,u7] t (0,0))) :
  w.cell? ⟨b,0,none⟩=some u0∧w.cell? ⟨b,1,none⟩=some u1∧w.cell? ⟨b,2,none⟩=some u2∧w.cell? ⟨b,3,none⟩=some u3∧w.cell? ⟨b,4,none⟩=some u4∧w.cell? ⟨b,5,none⟩=some u5∧w.cell? ⟨b,6,none⟩=some u6∧w.cell? ⟨b,7,none⟩=some u7∧∀ i,w.frozen? ⟨b,i,none⟩=false :=
 ⟨Zaa h 0 _ rfl,Zaa h 1 _ rfl,Zaa h 2 _ rfl,Zaa h 3 _ rfl,Zaa h 4 _ rfl,Zaa h 5 _ rfl,Zaa h 6 _ rfl,Zaa h 7 _ rfl,fun i=>Zae h i⟩
theorem Zwr {way:List (ND × Nat)} {i:Nat} {d:ND × Nat} (h:way.reverse[i]?=some d):(Zfd way)[i]?=some (d.2 - 1):=by
 unfold Zfd
 rw [← List.map_reverse,Qj,h]
 rfl
theorem Zmk (w:World) (b:Nat) (wa:Option Addr) (wc:Nat) (way:List (ND × Nat)) (ys:List Value) (hb2:w.cell? ⟨b,2,none⟩=some (.slice wa way.length wc)) (hW:RowL w (.slice wa way.length wc) way.reverse ys) (hw:way.length≤200000) (hk:∀ y ∈ way,1≤y.2∧y.2≤4000) :
  Calls Tryd.prog 36 #[.pointer (some ⟨b,0,none⟩)] w fun e w'=>∃ fa fc,e = .returned (.slice fa way.length fc)∧Ext w w'∧w'.ownsRow w.heap.size 3 1 (.slice fa way.length fc) way.length (ints (Zfd way)):=by
 have hbl:b<w.heap.size:=World.block_lt_of_cell? w ⟨b,2,none⟩ hb2
 obtain ⟨L,hL⟩:∃ L,L=way.length:=⟨_,rfl⟩
 rw [← hL] at hW hb2 hw ⊢
 have hul:(Zfd way).length=L:=by rw [hL]; simp [Zfd]
 have HW:=Zac hW
 have Hul:=Zac hul
 have Hk:=Zac hk
 have HL:=Zac hL
 clear hW hul hk hL
 go_enter Tryd.func36,Tryd.ntmps36
 go_wp2
 go_loopg [3,11] (L+1) (fun gk nv iv wr=>∃ (i:Nat) (ga:Option Addr) (gc:Nat),nv = .slice ga i gc∧iv = .int .i64 i∧i≤L∧L - i<gk∧Ext w wr∧wr.ownsRow w.heap.size 3 1 (.slice ga i gc) i (ints ((Zfd way).take i)))
 case atStart=>exact ⟨0,none,0,rfl,by go_num,by omega,by omega,Ext.of (Qx _ _),by simpa [ints] using World.ownsRow_nil w w.heap.size 3 1⟩
 case round =>
  obtain ⟨i,ga,gc,rfl,rfl,hi,hgk,hE,hrow⟩:=hrel
  have hs:=hE.size
  have HE:=Zac hE
  have Hrow:=Zac hrow
  clear hE hrow
  by_cases hlt:i<L
  ·obtain ⟨d,hd⟩:∃ d,way.reverse[i]?=some d:=⟨_,Qb (by rw [List.length_reverse,← HL.out]; exact hlt)⟩
   have hu:=Zwr hd
   have hdm:d ∈ way:=List.mem_reverse.1 (Qh hd)
   obtain ⟨hd1,hd2⟩:=Hk.out d hdm
   obtain ⟨x0,x1,x2,x3,y0,y1,y2,y3,y4,hnode⟩:=HW.out.all i d hd
   obtain ⟨ga',gc',va',vl',vc',ra',rl',rc',u',rfl,rfl,rfl,rfl,hu'⟩:=hnode.shape
   have ho:=HW.out.owns
   rw [List.length_reverse,← HL.out] at ho
   obtain ⟨wb,wcap,wcur,hwe,_,hwb,_⟩:=Zat ho (by omega)
   simp only [Value.slice.injEq] at hwe
   obtain ⟨rfl,_,rfl⟩:=hwe
   have hwl:=Zab hwb
   have c0:=(HE.out.cell (p:=⟨wb,i * 5,none⟩) hwl).trans (Zai ho _ _ y0)
   have c1:=(HE.out.cell (p:=⟨wb,i * 5+1,none⟩) hwl).trans (Zai ho _ _ y1)
   have c2:=(HE.out.cell (p:=⟨wb,i * 5+2,none⟩) hwl).trans (Zai ho _ _ y2)
   have c3:=(HE.out.cell (p:=⟨wb,i * 5+3,none⟩) hwl).trans (Zai ho _ _ y3)
   have c4:=(HE.out.cell (p:=⟨wb,i * 5+4,none⟩) hwl).trans (Zai ho _ _ y4)
   obtain ⟨W1,hW1⟩:∃ W1,W1=wr.alloc (.cells #[.slice ga' d.1.goals.length gc',.slice va' vl' vc',.slice ra' rl' rc',.int .i64 u',.int .i64 d.2] 81):=⟨_,rfl⟩
   have hE1:Ext wr W1:=by rw [hW1]; exact (Ext.of (by repeat' (first | with_reducible(first|exact Qx _ _|apply Kept.drew|apply Kept.drewN|apply Qz|refine Qy ?_ ?_ _)|exact fun h=>absurd h (by simp <;> omega))))
   have Hrow1:=Zac (Zao Hrow.out (fun k hk=>hE1.block k (Hrow.out.lt k hk).2))
   have hs1:W1.heap.size=wr.heap.size+1:=by rw [hW1]; simp
   have Htk:Hid (ints ((Zfd way).take (i+1))=ints ((Zfd way).take i)++[.int .i64 ((d.2:Int) - 1)]):=by
    show _=_
    rw [List.take_add_one,hu]
    simp [ints]
    omega
   have HE1:=Zac hE1
   have HW1:=Zac hW1
   have hd3:(-(2:Int) ^ 63≤(d.2:Int) - 1):=by omega
   clear hd hu hdm y0 y1 y2 y3 y4 hnode ho hwb hE1 hW1
   go_wp2_with (at_builtin; rw [← HW1.out]; go_loud (refine Zam W1 rfl (.tmp 15) (.tmp 19) 22 rfl w.heap.size 3 Tryd.infoInt Tryd.underlying22 rfl (by decide) (.slice ga i gc) i (ints ((Zfd way).take i)) rfl Hrow1.out #[.int .i64 ((d.2:Int) - 1)] rfl (by omega) rfl (Zlt _) ?_ ?_ ?_))
   ·omega
   ·omega
   intro v' w2 hap
   obtain ⟨ga2,gc2,rfl⟩:=Zad hap.owns
   have Hap:=Zac hap
   clear hap
   go_wp2
   go_roundg (L - i)
   case measure=>omega
   case rel =>
    refine ⟨i+1,ga2,gc2,rfl,by go_num,by omega,by omega,(HE.out.trans (HE1.out.mono hs)).trans (Hap.out.kept.below (by omega) (fun k e=>(Hrow1.out.lt k e).1)),?_⟩
    rw [Htk.out]
    exact Hap.out.owns
  ·have he:i=L:=by omega
   subst he
   have Hfin:Hid (ints ((Zfd way).take i)=ints (Zfd way)):=by
    show _=_
    rw [List.take_of_length_le (by rw [Hul.out]; omega)]
   go_wp2
   go_ret
   exact ⟨ga,gc,rfl,HE.out,by rw [← Hfin.out]; exact Hrow.out⟩
set_option maxHeartbeats 8000000 in
theorem Zoi (w:World) (b:Nat) (x:CX) (cs:List Cls) (a:List (List Sym) × Names) (m:SN) (h:CSr w b x cs a m) (hw:m.way.length≤200000) (hk:∀ y ∈ m.way,y.2≤4000) (hcl:cs.length≤24) (hT:m.tree.length+m.way.length≤200000) :
  Calls Tryd.prog 24 #[.pointer (some ⟨b,0,none⟩)] w fun e w'=>e = .returned (.tuple #[])∧Kept (only b) w w'∧CSr w' b x cs a (Zcs cs m):=by
 have hbx:=h.box
 obtain ⟨ca,cc,na,nc,wa,wc,va,vl,vc,fa,fl,fc⟩:=x
 simp only [CX.cells] at hbx
 obtain ⟨b0,b1,b2,b3,b4,b5,b6,b7,bf⟩:=box8 hbx
 have H:=Zac h
 have Hk:=Zac hk
 have HT:=Zac hT
 have hbl:=Zab hbx
 clear h hbx hk hT
 go_enter Tryd.func24,Tryd.ntmps24
 go_wp2
 go_loopg [2] (m.way.length+1) (fun gk lv wr=>∃ (way':List (ND × Nat)) (T':List UInt8),way'.length<gk∧lv = .int .i64 ((way'.length:Int) - 1)∧Zcm cs way' T'=Zcm cs m.way m.tree∧T'.length+way'.length≤200000∧way'.length≤200000∧(∀ y ∈ way',y.2≤4000)∧Kept (only b) w wr∧CSr wr b ⟨ca,cc,na,nc,wa,wc,va,vl,vc,fa,fl,fc⟩ cs a { m with way:=way',tree:=T' })
 case atStart=>exact ⟨m.way,m.tree,by omega,rfl,rfl,HT.out,hw,Hk.out,Qx _ _,H.out⟩
 case round =>
  clear b0 b1 b2 b3 b4 b5 b6 b7 bf
  obtain ⟨way',T',hgk,hlv,hlw,hT,hwl,hk',hK,hC⟩:=hrel
  have hbx:=hC.box
  simp only [CX.cells] at hbx
  obtain ⟨b0,b1,b2,b3,b4,b5,b6,b7,bf⟩:=box8 hbx
  have hbl':=Zab hbx
  cases hw':way' with
  | nil =>
   have hlv':u2 = .int .i64 (-1):=by rw [hlv,hw']; rfl
   subst hlv'
   have Hfin:Hid (∀ u,Kept (only b) wr u→(∀ k,u.heap[k]?=wr.heap[k]?)→Kept (only b) w u∧CSr u b ⟨ca,cc,na,nc,wa,wc,va,vl,vc,fa,fl,fc⟩ cs a (Zcs cs m)):=fun u hu he=>by
    refine ⟨hK.trans hu,?_⟩
    have e:Zcs cs m = { m with way:=way',tree:=T' }:=by
     unfold Zcs
     rw [← hlw,hw']
     rfl
    rw [e]
    exact hC.ext ⟨hu.os,hu.tape,hu.output,hu.size,fun k _=>he k⟩
   clear hC hbx hK hlw hk' hlv hw' hgk hwl hT
   go_wp2_with fail
   go_quiet (fail)
   go_wp2
   go_end0
   exact ⟨rfl,Hfin.out _ ((Qx _ wr).drewN _) (fun _=>rfl)⟩
  | cons y r =>
   obtain ⟨yn,yk⟩:=y
   have hlv':u2 = .int .i64 (r.length:Int):=by rw [hlv,hw']; simp
   subst hlv'
   subst hw'
   simp only [Qf] at b2 hgk hwl hT
   obtain ⟨ys,hrow⟩:=hC.way
   simp only [List.reverse_cons,Qf] at hrow
   have ho:=hrow.owns
   rw [Qg,List.length_reverse,Qn] at ho
   obtain ⟨wb,wcap,wcur,hwe,_,hwb,_⟩:=Zat ho (by omega)
   simp only [Value.slice.injEq] at hwe
   obtain ⟨rfl,_,rfl⟩:=hwe
   obtain ⟨x0,x1,x2,x3,y0,y1,y2,y3,y4,hnode⟩:=hrow.all r.length (yn,yk) (by rw [Qd (by simp)]; simp)
   have c4:=Zai ho _ _ y4
   simp only at c4
   have hyk:=hk' (yn,yk) (by simp)
   simp only at hyk
   have hwbl:=Zab hwb
   by_cases hN:cs.length≤yk
   ·have hN':(cs.length:Int)≤(yk:Int):=by omega
    have hpop:=hrow.pop List.length_reverse
    have Hstr:=Zac (Zbp T' [41])
    have Hbx:=Zac hbx
    have Hnext:Hid (∀ u,Kept (only b) wr u→u.heap[b]?=some (.cells #[.slice ca cs.length cc,.slice na a.2.length nc,.slice (some ⟨wb,0,none⟩) r.length wc,.int .i64 m.tries,.int .i64 m.status,.slice va vl vc,.slice fa fl fc,.string ⟨(T'++[41]).toArray⟩] 60 (0,0))→Kept (only b) w u∧CSr u b ⟨ca,cc,na,nc,some ⟨wb,0,none⟩,wc,va,vl,vc,fa,fl,fc⟩ cs a { m with way:=r,tree:=T'++[41] }):=fun u hu hb=>⟨hK.trans hu,hC.upd hu hb ⟨rfl,rfl,rfl,rfl⟩ ⟨_,hpop⟩ hC.found⟩
    have Hlw:Hid (Zcm cs r (T'++[41])=Zcm cs m.way m.tree):=by
     have h1:=hlw
     simp only [Zcm] at h1
     rw [if_pos hN] at h1
     exact h1
    have Hk2:Hid (∀ y ∈ r,y.2≤4000):=fun y hy=>hk' y (by simp [hy])
    clear hC hbx hK hlw hk' hlv hrow ho y0 y1 y2 y3 y4 hnode hwb hpop hN
    go_wp2_with fail
    go_quiet (fail)
    go_wp2
    go_roundg (r.length+1)
    case measure=>omega
    case rel =>
     obtain ⟨g1,g2⟩:=Hnext.out _ ((((Qx (only b) wr).drewN _).put 7 _).put 2 _) (Zah (Zah (w:=wr.drewN _) Hbx.out 7 _) 2 _)
     exact ⟨r,T'++[41],by omega,rfl,Hlw.out,by simp; omega,by omega,Hk2.out,g1,g2⟩
   ·have hN':¬ (cs.length:Int)≤(yk:Int):=by omega
    have Hfin:Hid (∀ u,Kept (only b) wr u→(∀ k,u.heap[k]?=wr.heap[k]?)→Kept (only b) w u∧CSr u b ⟨ca,cc,na,nc,some ⟨wb,0,none⟩,wc,va,vl,vc,fa,fl,fc⟩ cs a (Zcs cs m)):=fun u hu he=>by
     refine ⟨hK.trans hu,?_⟩
     have e:Zcs cs m = { m with way:=(yn,yk)::r,tree:=T' }:=by
      unfold Zcs
      rw [← hlw]
      simp only [Zcm]
      rw [if_neg hN]
     rw [e]
     exact hC.ext ⟨hu.os,hu.tape,hu.output,hu.size,fun k _=>he k⟩
    clear hC hbx hK hlw hk' hlv hrow ho y0 y1 y2 y3 y4 hnode hwb hN
    go_wp2_with fail
    go_quiet (fail)
    go_wp2
    go_end0
    exact ⟨rfl,Hfin.out _ ((Qx _ wr).drewN _) (fun _=>rfl)⟩
theorem Tryd.infoLevel:(Tryd.prog.info? 81).map (fun i=>(i.zero,i.size,i.bytes))=some (some (.agg #[.slice none 0 0,.slice none 0 0,.slice none 0 0,.int .i64 0,.int .i64 0]),5,88):=by kernel_rfl
theorem Zws {a0 a1 a2:Option Addr} {l0 l1 l2 c0 c1 c2:Nat} {v k:Int}:∀ u ∈ (#[Value.slice a0 l0 c0,.slice a1 l1 c1,.slice a2 l2 c2,.int .i64 v,.int .i64 k]:Array Value).toList,u.oneCell'=true:=by
 intro u hu
 simp at hu
 rcases hu with rfl | rfl | rfl | rfl | rfl <;> rfl
theorem Zto (w:World) (b:Nat) (x:CX) (cs:List Cls) (a:List (List Sym) × Names) (m:SN) (gv vv rv uv:Value) (n:ND) (h:CSr w b x cs a m) (hn:CNode w gv vv rv uv n) (hw:m.way.length≤200000) (hg:n.goals=[]) (hu:n.used=Zfd m.way) (hk:∀ y ∈ m.way,1≤y.2∧y.2≤4000) (hT:m.tree.length≤200000) :
  Calls Tryd.prog 23 #[.pointer (some ⟨b,0,none⟩),.agg #[gv,vv,rv,uv]] w fun e w'=>e = .returned (.tuple #[])∧∃ x',Kept (ownS b x) w w'∧CSr w' b x' cs a (Zbw m n)∧Zfh w x x':=by
 obtain ⟨n1,hN,hU,hOk,hNm,hFw,hS⟩:=hn
 obtain ⟨ga,gc,va',vl',vc',ra,rl,rc,u,rfl,rfl,rfl,rfl,hu4⟩:=CNode.shape ⟨n1,hN,hU,hOk,hNm,hFw,hS⟩
 have hbx:=h.box
 obtain ⟨ca,cc,na,nc,wa,wc,va,vl,vc,fa,fl,fc⟩:=x
 simp only [CX.cells] at hbx
 obtain ⟨b0,b1,b2,b3,b4,b5,b6,b7,bf⟩:=box8 hbx
 have hbl:=Zab hbx
 obtain ⟨ys,hrow⟩:=h.way
 have Hstr:=Zac (Zbp m.tree [33])
 have hen:Zbw m n = { m with tree:=m.tree++[33],status:=1,found:=n }:=by unfold Zbw; rw [if_pos hg]
 have HTL:Hid (∀ y,Kept (only b) w y→y.heap[b]?=some (.cells #[.slice ca cs.length cc,.slice na a.2.length nc,.slice wa m.way.length wc,.int .i64 m.tries,.int .i64 1,.slice va' vl' vc',.slice fa fl fc,.string ⟨(m.tree++[33]).toArray⟩] 60 (0,0))→Calls Tryd.prog 36 #[.pointer (some ⟨b,0,none⟩)] y fun e y'=>∃ fa' fc',e = .returned (.slice fa' m.way.length fc')∧Kept (only b) w y'∧y'.heap[b]?=some (.cells #[.slice ca cs.length cc,.slice na a.2.length nc,.slice wa m.way.length wc,.int .i64 m.tries,.int .i64 1,.slice va' vl' vc',.slice fa fl fc,.string ⟨(m.tree++[33]).toArray⟩] 60 (0,0))∧y'.ownsRow 0 3 1 (.slice fa' m.way.length fc') m.way.length (ints (Zfd m.way))):=fun y hy hb=>by
  refine (Zmk y b wa wc m.way ys (Zaa hb 2 _ rfl) (hrow.keep hy h.off (fun k hj e => ?_)) hw hk).mono ?_
  ·have e:k=b:=e
   subst e
   rcases hrow.owns.2 with ⟨e,_⟩ | ⟨g,cap,cur,e,_,hg,_⟩
   ·rw [e] at hj; simp [Value.ownBlock] at hj
   ·rw [e] at hj
    simp [Value.ownBlock] at hj
    subst hj
    rw [hbx] at hg
    simp at hg
  ·rintro e y' ⟨fa',fc',rfl,hE,ho⟩
   exact ⟨fa',fc',rfl,hy.then (Kept.of_below hE) (fun i hi h=>by have:=hy.size; omega),(hE.block _ (Zab hb)).trans hb,Zbc ho (Qm _)⟩
 have Hfin:Hid (∀ y fa' fc',Kept (only b) w y→y.heap[b]?=some (.cells #[.slice ca cs.length cc,.slice na a.2.length nc,.slice wa m.way.length wc,.int .i64 m.tries,.int .i64 1,.slice va' vl' vc',.slice fa fl fc,.string ⟨(m.tree++[33]).toArray⟩] 60 (0,0))→y.ownsRow 0 3 1 (.slice fa' m.way.length fc') m.way.length (ints (Zfd m.way))→∃ x',Kept (ownS b ⟨ca,cc,na,nc,wa,wc,va,vl,vc,fa,fl,fc⟩) w (y.setCell ⟨b,6,none⟩ (.slice fa' m.way.length fc'))∧CSr (y.setCell ⟨b,6,none⟩ (.slice fa' m.way.length fc')) b x' cs a (Zbw m n)∧Zfh w ⟨ca,cc,na,nc,wa,wc,va,vl,vc,fa,fl,fc⟩ x'):=fun y fa' fc' hy hb ho=>by
  have hk2:Kept (only b) w (y.setCell ⟨b,6,none⟩ (.slice fa' m.way.length fc')):=hy.put 6 _
  have hoff:OffCode (only b) y:=fun k e=>by
   have e:k=b:=e
   subst e
   exact ⟨_,_,_,hb,by simp [Zcb]⟩
  have hk3:Kept (only b) y (y.setCell ⟨b,6,none⟩ (.slice fa' m.way.length fc')):=(Qx _ _).put 6 _
  refine ⟨⟨ca,cc,na,nc,wa,wc,va',vl',vc',fa',m.way.length,fc'⟩,hk2.mono (fun i hi e=>Or.inl e),?_,⟨fun k hk=>Or.inl hk,rfl,rfl,rfl,rfl⟩⟩
  rw [hen]
  refine h.upd' hk2 (Zah hb 6 _) ⟨rfl,rfl,rfl,rfl⟩ ⟨ys,hrow⟩ (fun _=>⟨⟨n1,h.off.terms hk2 hN.vals,hOk,hNm,hS⟩,?_⟩)
  have hl:n.used.length=m.way.length:=by rw [hu]; simp [Zfd]
  show World.ownsRow _ 0 _ 1 _ n.used.length (ints n.used)
  rw [hl,hu]
  exact hoff.own (by simp [Zcb]) hk3 ho
 have Hbx:=Zac hbx
 rw [hg]
 clear h hN hrow hbx hk hu hen hS hOk hNm hFw hU
 go_enter Tryd.func23,Tryd.ntmps23
 go_wp2_with fail
 refine (HTL.out _ (by repeat (first | exact Qx _ _ | apply Qz | apply Kept.put | apply Kept.drew)) (Zap (by rw [← Hstr.out]; exact Zah (Zah (Zah Hbx.out 7 _) 4 _) 5 _) _)).mono ?_
 rintro e w3 ⟨fa',fc',rfl,hK3,hb3,ho3⟩
 have c6:=Zaa hb3 6 _ rfl
 have cf:=fun i=>Zae hb3 i
 have H3:=Zac (Hfin.out w3 fa' fc' hK3 hb3 ho3)
 have hbl3:=Zab hb3
 clear hK3 hb3 ho3 b0 b1 b2 b3 b4 b5 b6 b7 bf
 go_wp2
 go_end0
 exact ⟨rfl,H3.out⟩
theorem Zlj (w:World) (b:Nat) (x:CX) (cs:List Cls) (a:List (List Sym) × Names) (m:SN) (gv vv rv uv:Value) (n:ND) (h:CSr w b x cs a m) (hn:CNode w gv vv rv uv n) (hw:m.way.length≤200000) (hg:n.goals≠[]) (hT:m.tree.length≤200000) :
  Calls Tryd.prog 23 #[.pointer (some ⟨b,0,none⟩),.agg #[gv,vv,rv,uv]] w fun e w'=>e = .returned (.tuple #[])∧∃ x',Kept (ownS b x) w w'∧CSr w' b x' cs a (Zbw m n)∧Zfh w x x':=by
 obtain ⟨ga,gc,va',vl',vc',ra,rl,rc,u,rfl,rfl,rfl,rfl,hu4⟩:=hn.shape
 have hgl:0<n.goals.length:=List.length_pos_iff.2 hg
 obtain ⟨z,hz⟩:∃ z,z=n.goals.length:=⟨_,rfl⟩
 rw [← hz] at hgl hn ⊢
 have hbx:=h.box
 obtain ⟨ca,cc,na,nc,wa,wc,va,vl,vc,fa,fl,fc⟩:=x
 simp only [CX.cells] at hbx
 obtain ⟨b0,b1,b2,b3,b4,b5,b6,b7,bf⟩:=box8 hbx
 have hbl:=Zab hbx
 obtain ⟨ys,hrow⟩:=h.way
 obtain ⟨L,hL⟩:∃ L,L=m.way.length:=⟨_,rfl⟩
 have ho:=hrow.owns
 rw [List.length_reverse] at ho
 simp only [← hL] at b2 ho hw
 have Hstr:=Zac (Zbp m.tree [40])
 have hen:Zbw m n = { m with way:=(n,0)::m.way,tree:=m.tree++[40] }:=by unfold Zbw; rw [if_neg hg]
 have HL:=Zac hL
 have Hbx:=Zac hbx
 have H:=Zac h
 have Hn:=Zac hn
 have Hrow:=Zac hrow
 have Ho:=Zac ho
 have Hen:=Zac hen
 have hzi:(0:Int)<(z:Int):=by omega
 clear h hn hrow ho hbx hen hg hz hL
 go_enter Tryd.func23,Tryd.ntmps23
 go_wp2_with fail
 obtain ⟨U,hU⟩:∃ U,U=(w.setCell ⟨b,7,none⟩ (.string (⟨m.tree.toArray⟩++⟨#[40]⟩))).alloc (.cells #[.slice ga z gc,.slice va' vl' vc',.slice ra rl rc,.int .i64 u] 62):=⟨_,rfl⟩
 rw [← hU]
 have hKU:Kept (only b) w U:=by rw [hU]; exact ((Qx _ _).put 7 _).alloc _
 have hbU:U.heap[b]?=some (.cells #[.slice ca cs.length cc,.slice na a.2.length nc,.slice wa L wc,.int .i64 m.tries,.int .i64 m.status,.slice va vl vc,.slice fa fl fc,.string ⟨(m.tree++[40]).toArray⟩] 60 (0,0)):=by rw [hU,← Hstr.out,HL.out]; exact Zap (Zah Hbx.out 7 _) _
 have hnU:U.heap[w.heap.size]?=some (.cells #[.slice ga z gc,.slice va' vl' vc',.slice ra rl rc,.int .i64 u] 62 (0,0)):=by rw [hU]; exact Zeu (by simp) _
 have hsU:U.heap.size=w.heap.size+1:=by rw [hU]; simp
 have hap0:∀ k,(Value.slice wa L wc).ownBlock=some k→k≠b:=fun k hj e=>by
  subst e
  rcases Ho.out.2 with ⟨e,_⟩ | ⟨g,cap,cur,e,_,hg,_⟩
  ·rw [e] at hj; simp [Value.ownBlock] at hj
  ·rw [e] at hj
   simp [Value.ownBlock] at hj
   subst hj
   rw [Hbx.out] at hg
   simp at hg
 have hrU:=Hrow.out.keep hKU H.out.off (fun k hj e=>hap0 k (by rw [HL.out]; exact hj) e)
 have hoU:U.ownsRow 0 81 5 (.slice wa L wc) L ys:=by
  have:=hrU.owns
  rw [List.length_reverse,← HL.out] at this
  exact this
 have Hfin:Hid (∀ w2 wa2 wc2,Appended (U.drewN 1) 0 81 5 (.slice wa L wc) (L+1) (ys++[.slice ga z gc,.slice va' vl' vc',.slice ra rl rc,.int .i64 u,.int .i64 0]) (.slice wa2 (L+1) wc2) w2→w2.heap[b]?=some (.cells #[.slice ca cs.length cc,.slice na a.2.length nc,.slice wa L wc,.int .i64 m.tries,.int .i64 m.status,.slice va vl vc,.slice fa fl fc,.string ⟨(m.tree++[40]).toArray⟩] 60 (0,0))∧∃ x',Kept (ownS b ⟨ca,cc,na,nc,wa,wc,va,vl,vc,fa,fl,fc⟩) w (w2.setCell ⟨b,2,none⟩ (.slice wa2 (L+1) wc2))∧CSr (w2.setCell ⟨b,2,none⟩ (.slice wa2 (L+1) wc2)) b x' cs a (Zbw m n)∧Zfh w ⟨ca,cc,na,nc,wa,wc,va,vl,vc,fa,fl,fc⟩ x'):=fun w2 wa2 wc2 hap=>by
  have hb2:w2.heap[b]?=_:=(hap.kept.block b (by show b<U.heap.size; omega) (fun e=>hap0 b e rfl)).trans hbU
  refine ⟨hb2,?_⟩
  have hK2:Kept (Zbo (.slice wa L wc)) U w2:=⟨hap.kept.os,hap.kept.tape,hap.kept.output,hap.kept.size,hap.kept.block⟩
  have hK3:Kept (only b) w2 (w2.setCell ⟨b,2,none⟩ (.slice wa2 (L+1) wc2)):=(Qx _ _).put 2 _
  have hK:Kept (ownS b ⟨ca,cc,na,nc,wa,wc,va,vl,vc,fa,fl,fc⟩) w (w2.setCell ⟨b,2,none⟩ (.slice wa2 (L+1) wc2)):=((hKU.mono (fun i _ e=>Or.inl e)).trans ((hK2.mono (fun i _ e=>Or.inr (Zil.1 e))):Kept (ownS b ⟨ca,cc,na,nc,wa,wc,va,vl,vc,fa,fl,fc⟩) U w2)).trans (hK3.mono (fun i _ e=>Or.inl e))
  have hS:=H.out.offS
  obtain ⟨xs,hP⟩:=H.out.prog
  have hR2:RowL w2 (.slice wa2 (L+1) wc2) (m.way.reverse++[(n,0)]) _:=hrU.step (k:=0) (Hn.out.keep hKU H.out.off) ⟨by rw [List.length_reverse,← HL.out]; exact hap.owns,by rw [← HL.out]; exact hK2,by rw [← HL.out]; exact hap.where_⟩
  have hoff2:OffCode (only b) w2:=fun k e=>by
   have e:k=b:=e
   subst e
   exact ⟨_,_,_,hb2,by simp [Zcb]⟩
  have hR3:=hR2.keep hK3 hoff2 (fun k hj e=>by
   have e:k=b:=e
   subst e
   rcases hR2.owns.2 with ⟨e,_⟩ | ⟨g,cap,cur,e,_,hg,_⟩
   ·rw [e] at hj; simp [Value.ownBlock] at hj
   ·rw [e] at hj
    simp [Value.ownBlock] at hj
    subst hj
    rw [hb2] at hg
    simp at hg)
  refine ⟨⟨ca,cc,na,nc,wa2,wc2,va,vl,vc,fa,fl,fc⟩,hK,?_,⟨fun k hk => ?_,rfl,rfl,rfl,rfl⟩⟩
  ·rw [Hen.out]
   refine ⟨?_,⟨xs,hS.prog hK hP⟩,hS.own (by simp [Zcb]) hK H.out.names,⟨ys++[.slice ga z gc,.slice va' vl' vc',.slice ra rl rc,.int .i64 u,.int .i64 ((0:Nat):Int)],?_⟩,fun hs => ?_⟩
   ·simp only [CX.cells,Qf]
    rw [← HL.out]
    exact Zah hb2 2 _
   ·simp only [List.reverse_cons,Qf]
    rw [← HL.out]
    exact hR3
   ·obtain ⟨⟨n',g1,g2⟩,g3⟩:=H.out.found hs
    exact ⟨⟨n',hS.terms hK g1,g2⟩,hS.own (by simp [Zcb]) hK g3⟩
  ·have hj:(Value.slice wa2 (L+1) wc2).ownBlock=some k:=Zil.2 hk
   rcases hap.where_ with e | ⟨g,e,hg⟩
   ·rw [e] at hj
    exact Or.inl (Zil.1 hj)
   ·rw [e] at hj
    simp at hj
    subst hj
    exact Or.inr (by have:U.heap.size≤g:=hg; omega)
 have HoU:=Zac hoU
 have c2:=Zaa hbU 2 _ rfl
 have cf:=fun i=>Zae hbU i
 have k0:=Zaa hnU 0 _ rfl
 have k1:=Zaa hnU 1 _ rfl
 have k2:=Zaa hnU 2 _ rfl
 have k3:=Zaa hnU 3 _ rfl
 clear hU hKU hbU hnU hap0 hrU hoU b0 b1 b2 b3 b4 b5 b6 b7 bf
 go_region_law (refine Zcg (U.drewN 1) rfl (.tmp 19) (.tmp 22) 58 rfl 0 81 Tryd.infoLevel Tryd.underlying58 rfl (by decide) (.slice wa L wc) L ys rfl HoU.out #[.slice ga z gc,.slice va' vl' vc',.slice ra rl rc,.int .i64 u,.int .i64 0] rfl (by show _=U.heap.size; omega) rfl Zws (by omega) (by omega) rfl ?_; intro v' w2 hap; obtain ⟨wa2,wc2,rfl⟩:=Zad hap.owns; obtain ⟨hb2,hfin⟩:=Hfin.out _ _ _ hap; have d2:=Zaa hb2 2 _ rfl; have df:=fun i=>Zae hb2 i; have H2:=Zac hfin; clear hap hb2 hfin)
 all_goals
  go_wp2
  (try simp only [Exit.inBlock,Exit.then])
  refine bodyPost_ret (results_none rfl _ _ _) rfl ?_
  exact ⟨rfl,H2.out⟩
theorem RowL.bump {w:World} {wb cap:Nat} {ds:List (ND × Nat)} {n:ND} {k:Nat} {xs:List Value} (h:RowL w (.slice (some ⟨wb,0,none⟩) (ds.length+1) cap) (ds++[(n,k)]) xs) (k':Nat) :
  RowL (w.setCell ⟨wb,ds.length * 5+4,none⟩ (.int .i64 k')) (.slice (some ⟨wb,0,none⟩) (ds.length+1) cap) (ds++[(n,k')]) (xs.set (ds.length * 5+4) (.int .i64 k')):=by
 have ho:=h.owns
 have hxl:=ho.1
 rw [Qg,Qn] at ho hxl
 have hS:=Zhh ho
 have hk:=Zip w wb (ds.length+1) cap (ds.length * 5+4) (.int .i64 k')
 refine ⟨by rw [Qg,Qn]; exact Zjp ho _ _,fun i d hd => ?_⟩
 rcases Nat.lt_or_ge i ds.length with hi | hi
 ·rw [Qc hi] at hd
  obtain ⟨p0,p1,p2,p3,y0,y1,y2,y3,y4,g⟩:=h.all i d (by rw [Qc hi]; exact hd)
  exact ⟨p0,p1,p2,p3,by rw [List.getElem?_set_ne (by omega)]; exact y0,by rw [List.getElem?_set_ne (by omega)]; exact y1,by rw [List.getElem?_set_ne (by omega)]; exact y2,by rw [List.getElem?_set_ne (by omega)]; exact y3,by rw [List.getElem?_set_ne (by omega)]; exact y4,g.keep hk hS⟩
 ·have e:i=ds.length:=by
   have:=(Qa.1 hd).1
   simp at this; omega
  subst e
  rw [Qd (Qe _)] at hd
  simp at hd
  subst hd
  obtain ⟨p0,p1,p2,p3,y0,y1,y2,y3,y4,g⟩:=h.all ds.length (n,k) (by rw [Qd (Qe _)]; simp)
  exact ⟨p0,p1,p2,p3,by rw [List.getElem?_set_ne (by omega)]; exact y0,by rw [List.getElem?_set_ne (by omega)]; exact y1,by rw [List.getElem?_set_ne (by omega)]; exact y2,by rw [List.getElem?_set_ne (by omega)]; exact y3,by rw [List.getElem?_set_self (by omega)],g.keep hk hS⟩
theorem CSr.bump {w:World} {b wb:Nat} {x:CX} {cs:List Cls} {a:List (List Sym) × Names} {m:SN} {n:ND} {k:Nat} {r:List (ND × Nat)} (h:CSr w b x cs a m) (hw:m.way=(n,k)::r) (hx:x.wa=some ⟨wb,0,none⟩) :
  Kept (ownS b x) w ((w.setCell ⟨wb,r.length * 5+4,none⟩ (.int .i64 ((k+1:Nat):Int))).setCell ⟨b,3,none⟩ (.int .i64 ((m.tries+1:Nat):Int)))∧CSr ((w.setCell ⟨wb,r.length * 5+4,none⟩ (.int .i64 ((k+1:Nat):Int))).setCell ⟨b,3,none⟩ (.int .i64 ((m.tries+1:Nat):Int))) b x cs a { m with way:=(n,k+1)::r,tries:=m.tries+1 }:=by
 obtain ⟨ys,hrow⟩:=h.way
 obtain ⟨xs,hP⟩:=h.prog
 rw [hw,hx,Qf,List.reverse_cons] at hrow
 have hbx:=h.box
 have hne:wb≠b:=fun e=>by
  subst e
  rcases hrow.owns.2 with ⟨e,_⟩ | ⟨g,cap,cur,e,_,hg,_⟩
  ·simp at e
  ·simp at e
   obtain ⟨rfl,_⟩:=e
   rw [hbx] at hg
   simp at hg
 have hK1:Kept (Zbo (.slice (some ⟨wb,0,none⟩) (r.length+1) x.wc)) w (w.setCell ⟨wb,r.length * 5+4,none⟩ (.int .i64 ((k+1:Nat):Int))):=Zip w wb (r.length+1) x.wc _ _
 have hb1:(w.setCell ⟨wb,r.length * 5+4,none⟩ (.int .i64 ((k+1:Nat):Int))).heap[b]?=_:=(hK1.block b (Zab hbx) (fun e=>hne (by simpa [Zbo,Value.ownBlock] using e))).trans hbx
 have hK2:Kept (only b) (w.setCell ⟨wb,r.length * 5+4,none⟩ (.int .i64 ((k+1:Nat):Int))) _:=(Qx (only b) _).put 3 (.int .i64 ((m.tries+1:Nat):Int))
 have hK:Kept (ownS b x) w ((w.setCell ⟨wb,r.length * 5+4,none⟩ (.int .i64 ((k+1:Nat):Int))).setCell ⟨b,3,none⟩ (.int .i64 ((m.tries+1:Nat):Int))):=(hK1.mono (fun i _ e=>Or.inr (by rw [hx]; exact Zil.1 e))).trans (hK2.mono (fun i _ e=>Or.inl e))
 have hS:=h.offS
 have hR1:=RowL.bump (ds:=r.reverse) (n:=n) (k:=k) (xs:=ys) (by rw [List.length_reverse]; exact hrow) (k+1)
 rw [List.length_reverse] at hR1
 have hoff1:OffCode (only b) (w.setCell ⟨wb,r.length * 5+4,none⟩ (.int .i64 ((k+1:Nat):Int))):=fun j e=>by
  have e:j=b:=e
  subst e
  exact ⟨_,_,_,hb1,by simp [Zcb]⟩
 have hR2:=hR1.keep hK2 hoff1 (fun j hj e=>by
  have e:j=b:=e
  subst e
  exact hne (by simpa [Value.ownBlock] using hj))
 refine ⟨hK,(by have:=Zah hb1 3 (.int .i64 ((m.tries+1:Nat):Int)); rw [hw] at this; exact this),⟨xs,hS.prog hK hP⟩,hS.own (by simp [Zcb]) hK h.names,⟨_,by rw [hx]; simp only [List.reverse_cons,Qf]; exact hR2⟩,fun hs => ?_⟩
 obtain ⟨⟨n',g1,g2⟩,g3⟩:=h.found hs
 exact ⟨⟨n',hS.terms hK g1,g2⟩,hS.own (by simp [Zcb]) hK g3⟩
def TreePh (W:World) (b:Nat) (T X:List UInt8):List Value→World→Prop
 | [],y=>y=W
 | [v],y=>y=W∧v = .string ⟨X.toArray⟩
 | [v,_],y=>v = .string ⟨X.toArray⟩∧y=W.setCell ⟨b,7,none⟩ (.string ⟨(T++X).toArray⟩)
 | _,_=>False
theorem TreePh.at {W:World} {b:Nat} {T X:List UInt8} {vs:List Value} {y:World} (h:TreePh W b T X vs y):(vs.length≤1→y=W)∧(1≤vs.length→vs.getD 0 undef = .string ⟨X.toArray⟩):=by
 match vs,h with
 | [],h=>exact ⟨fun _=>h,fun h=>by simp at h⟩
 | [v],h=>exact ⟨fun _=>h.1,fun _=>by simpa using h.2⟩
 | [v,v'],h=>exact ⟨fun h=>by simp at h,fun _=>by simpa using h.1⟩
theorem Zpw (w:World) (b:Nat) (x:CX) (cs:List Cls) (a:List (List Sym) × Names) (m:SN) (h:CSr w b x cs a m) (hI:InvN cs a m) (h0:m.status=0) (hw:m.way≠[]) (ht:m.tries<3000) (hcs:∀ c ∈ cs,COk c∧CNm c) (hcf:∀ c ∈ cs,CFew c) (hcl:cs.length≤24) :
  Calls Tryd.prog 28 #[.pointer (some ⟨b,0,none⟩)] w fun e w'=>e = .returned (.tuple #[])∧∃ x',Kept (ownS b x) w w'∧CSr w' b x' cs a (Zaw cs m)∧Zfh w x x':=by
 obtain ⟨n,k,r,c,hw1,hc,hg⟩:=hI.head hw
 have hkl:=(Qa.1 hc).1
 have hlen:=hI.len
 rw [hw1,Qf] at hlen
 have hrl:r.length+1≤100000:=by omega
 obtain ⟨xs,hP⟩:=h.prog
 obtain ⟨ys,hrow⟩:=h.way
 have hbx:=h.box
 obtain ⟨ca,cc,na,nc,wa,wc,va,vl,vc,fa,fl,fc⟩:=x
 simp only [CX.cells] at hbx hP hrow
 rw [hw1,Qf,List.reverse_cons] at hrow
 rw [hw1,Qf,h0] at hbx
 have ho:=hrow.owns
 rw [Qg,List.length_reverse,Qn] at ho
 obtain ⟨wb,wcap,wcur,hwe,_,hwb,hwcap⟩:=Zat ho (by omega)
 simp only [Value.slice.injEq] at hwe
 obtain ⟨rfl,_,rfl⟩:=hwe
 obtain ⟨x0,x1,x2,x3,y0,y1,y2,y3,y4,hnode⟩:=hrow.all r.length (n,k) (by rw [Qd (by simp)]; simp)
 obtain ⟨lb,lcap,lcur,hle,_,hlb,_⟩:=Zat hP.owns (by omega)
 simp only [Value.slice.injEq] at hle
 obtain ⟨rfl,_,rfl⟩:=hle
 obtain ⟨b0,b1,b2,b3,b4,b5,b6,b7,bf⟩:=box8 hbx
 have c4:=Zai ho _ _ y4
 simp only at c4
 have hwf:=fun i=>Zae hwb i
 have hbl:=Zab hbx
 have hwbl:=Zab hwb
 have hne:wb≠b:=fun e=>by
  subst e
  rw [hbx] at hwb
  simp at hwb
 have hne':b≠wb:=fun e=>hne e.symm
 have hki:¬ ((cs.length:Int)≤(k:Int)):=by omega
 have hgd:decide ((r.length:Int)<0)=false:=by rw [decide_eq_false_iff_not]; omega
 obtain ⟨tr,htr⟩:∃ x,x=m.tries:=⟨_,rfl⟩
 rw [← htr] at hbx b3
 have htr3:tr≤3000:=by omega
 have HI:=Zac hI
 have H:=Zac h
 have Hcs:=Zac hcs
 have Hcf:=Zac hcf
 have Hw1:=Zac hw1
 have Hc:=Zac hc
 have Hg:=Zac hg
 have H0:=Zac h0
 have Htr:=Zac htr
 have Ht:=Zac ht
 clear h hI hcs hcf hw1 hc hg h0 hw hP hrow ho hwb hlb hbx y0 y1 y2 y3 y4 hnode htr ht hlen
 go_enter Tryd.func28,Tryd.ntmps28
 go_wp2_with fail
 go_quiet (fail)
 go_wp2_with fail
 obtain ⟨W4,hW4⟩:∃ W4,W4=((w.drewN nq).setCell ⟨wb,r.length * 5+4,none⟩ (.int .i64 ((k:Int)+1))).setCell ⟨b,3,none⟩ (.int .i64 ((tr:Int)+1)):=⟨_,rfl⟩
 rw [← hW4]
 have hE0:Ext w (w.drewN nq):=Ext.of ((Qx _ w).drewN _)
 obtain ⟨hK4,hC4⟩:=(H.out.ext hE0).bump Hw1.out rfl
 rw [show ((k+1:Nat):Int)=(k:Int)+1 by omega,← Htr.out,show ((tr+1:Nat):Int)=(tr:Int)+1 by omega,← hW4] at hK4 hC4
 have hKw:Kept (ownS b ⟨some ⟨lb,0,none⟩,cc,na,nc,some ⟨wb,0,none⟩,wc,va,vl,vc,fa,fl,fc⟩) w W4:=((Qx _ w).drewN nq).trans hK4
 obtain ⟨M4,hM4⟩:∃ M4:SN,M4 = { m with way:=(n,k+1)::r,tries:=tr+1 }:=⟨_,rfl⟩
 rw [← hM4] at hC4
 have hbx4:=hC4.box
 rw [hM4] at hbx4
 simp only [CX.cells,Qf] at hbx4
 rw [H0.out] at hbx4
 clear b0 b1 b2 b3 b4 b5 b6 b7 bf c4 hwf
 obtain ⟨b0,b1,b2,b3,b4,b5,b6,b7,bf⟩:=box8 hbx4
 obtain ⟨ys4,hrow4⟩:=hC4.way
 rw [hM4] at hrow4
 simp only [Qf,List.reverse_cons] at hrow4
 have ho4:=hrow4.owns
 rw [Qg,List.length_reverse,Qn] at ho4
 obtain ⟨x0,x1,x2,x3,y0,y1,y2,y3,y4,hnode⟩:=hrow4.all r.length (n,k+1) (by rw [Qd (by simp)]; simp)
 obtain ⟨n1,hN1,rfl,hOk,hNm,hFw,hSm⟩:=hnode
 obtain ⟨ga,gcap,rfl⟩:=hN1.goals.shape
 obtain ⟨va',vcap',rfl⟩:=hN1.vals.shape
 obtain ⟨ra',rcap',rfl⟩:=hN1.done.shape
 simp only [Ql] at hN1 y0 y1 y2
 have c0:=Zai ho4 _ _ y0
 have c1:=Zai ho4 _ _ y1
 have c2:=Zai ho4 _ _ y2
 have c3:=Zai ho4 _ _ y3
 obtain ⟨xs4,hP4⟩:=hC4.prog
 obtain ⟨cv0,cv1,cv2,l0,l1,l2,hcl2⟩:=hP4.cell Hc.out
 obtain ⟨d0,d1,rfl⟩:=Zad hcl2.head
 obtain ⟨d2,d3,rfl⟩:=hcl2.body.shape
 obtain ⟨d4,d5,rfl⟩:=Zad hcl2.names
 have hbl4:=Zab hbx4
 have hwbl4:wb<W4.heap.size:=Nat.lt_of_lt_of_le hwbl hKw.size
 have hlbl:lb<W4.heap.size:=World.block_lt_of_cell? W4 ⟨lb,k * 3,none⟩ l0
 obtain ⟨hco,hcm⟩:=Hcs.out c (Qh Hc.out)
 have HIc:Hid (∀ Z u,Ext W4.drew u→(∀ k,Z k→W4.heap.size≤k∧k<u.heap.size)→Calls Tryd.prog 39 #[.agg #[.slice ga n1.goals.length gcap,.slice va' n1.vals.length vcap',.slice ra' n1.done.length rcap',.int .i64 n1.vars],.agg #[.slice d0 c.head.length d1,.slice d2 c.body.length d3,.slice d4 c.names.length d5]] u fun e u'=>∃ r,e = .returned r∧Ext u u'∧TryX n1 c k Z r u'):=fun Z u hu hZ=>by
  have hwu:Ext W4 u:=hu.undrew
  refine (Zys u _ _ _ _ _ _ n1 c k hOk hco (hN1.ext hwu) (hcl2.ext hwu)).mono ?_
  intro e u' h
  exact h.toX (fun j hj=>(hZ j hj).2)
 have Hco:=Zac hco
 have HOk:=Zac hOk
 have HNm:=Zac hNm
 have HFw:=Zac hFw
 have HSm:=Zac hSm
 have Hcm:=Zac hcm
 have HCf:Hid (CFew c):=Hcf.out c (Qh Hc.out)
 have HC4:=Zac hC4
 have HK4:=Zac hKw
 have HM4:=Zac hM4
 have hrlt:r.length<r.length+1:=by omega
 clear hW4 hE0 hK4 hC4 hKw hM4 hbx4 hrow4 ho4 y0 y1 y2 y3 y4 hN1 hP4 hcl2 hco hOk hNm hFw hSm hcm
 refine Zor (by kernel_rfl) [.pur (.pointer (some ⟨b,0,none⟩)),.pur (.pointer (some ⟨b,0,none⟩)),.pur (.pointer (some ⟨b,2,none⟩)),.pur (.slice (some ⟨wb,0,none⟩) (r.length+1) wc),.pur (.int .i64 r.length),.pur (.pointer (some ⟨wb,r.length * 5,none⟩)),.pur (.pointer (some ⟨wb,r.length * 5,none⟩)),.pur (.agg #[.slice ga n1.goals.length gcap,.slice va' n1.vals.length vcap',.slice ra' n1.done.length rcap',.int .i64 n1.vars]),
  .pur (.pointer (some ⟨b,0,none⟩)),.pur (.pointer (some ⟨b,0,none⟩)),.pur (.pointer (some ⟨b,0,none⟩)),.pur (.slice (some ⟨lb,0,none⟩) cs.length cc),.pur (.int .i64 k),.pur (.pointer (some ⟨lb,k * 3,none⟩)),.pur (.agg #[.slice d0 c.head.length d1,.slice d2 c.body.length d3,.slice d4 c.names.length d5]),
  .cal,.post (fun v=>v),.post (Zos 0),.post (Zos 1),.alo 62 #[.slice none 0 0,.slice none 0 0,.slice none 0 0,.int .i64 0] 20 (fun v=>Zzm (Zos 0 v)),.sto 19,.post (Zos 1)] 15 (by kernel_rfl) (TryX n1 c k) 39 _ TryX.stable HIc.out ?_ rfl (by decide) ?_
 ·refine ⟨fun vc β u hu => ?_,fun vc β u hu => ?_,fun vc β u hu => ?_,fun vc β u hu => ?_,fun vc β u hu => ?_,fun vc β u hu => ?_,fun vc β u hu => ?_,fun vc β u hu => ?_,fun vc β u hu => ?_,fun vc β u hu => ?_,fun vc β u hu => ?_,fun vc β u hu => ?_,fun vc β u hu => ?_,fun vc β u hu => ?_,fun vc β u hu => ?_,fun vc β u => ?_,?_,?_,?_,fun vc β u => ?_,?_,?_,trivial⟩
  all_goals try (simp [pa,Kd.val,go_sem,hu.up b0,hu.up b2,hu.up c0,hu.up c1,hu.up c2,hu.up c3,hu.up l0,hu.up l1,hu.up l2,hkl]; done)
  all_goals try (simp [pa,Kd.val,go_sem]; done)
  all_goals try (rintro vc β Z u ⟨g1,g2,g3,v1,v2,v3,q1,q2,q3,uu,qq,rfl,_⟩; simp [pa,Kd.val,go_sem,Zos]; done)
  all_goals try (simp [pa,Kd.val,go_sem]; intro h; omega)
  rintro vc β Z u t z sx cl he ⟨g1,g2,g3,v1,v2,v3,q1,q2,q3,uu,qq,rfl,_⟩ hb
  simp at he
  obtain ⟨rfl,rfl,rfl,rfl⟩:=he
  have z0:=Zaa hb 0 _ rfl
  have z1:=Zaa hb 1 _ rfl
  have z2:=Zaa hb 2 _ rfl
  have z3:=Zaa hb 3 _ rfl
  have zf:=fun i=>Zae hb i
  refine ⟨_,?_,Zah (Zah (Zah (Zah hb 0 _) 1 _) 2 _) 3 _,((((Qx (only (β 19)) u).put 0 _).put 1 _).put 2 _).put 3 _⟩
  simp [pa,Kd.val,go_sem,z0,z1,z2,z3,zf,Zos]
 rintro vc β w5 hext5 ⟨g1,g2,g3,v1,v2,v3,q1,q2,q3,uu,qq,rfl,hqq⟩ hbox _
 have hext5:=hext5.undrew
 have hs5:=hext5.size
 obtain ⟨hb0,hbx⟩:=hbox 19 _ _ _ _ rfl
 have hbx':w5.heap[β 19]?=some (.cells #[.slice g1 g2 g3,.slice v1 v2 v3,.slice q1 q2 q3,.int .i64 uu] 62 (0,0)):=hbx
 generalize hbe:β 19=bt at *
 have z0:=Zaa hbx' 0 _ rfl
 have z1:=Zaa hbx' 1 _ rfl
 have z2:=Zaa hbx' 2 _ rfl
 have z3:=Zaa hbx' 3 _ rfl
 have hC5:=HC4.out.ext hext5
 have HK5:=Zac (HK4.out.then (Kept.of_below hext5) (S':=fun j=>W4.heap.size≤j) (fun i hi hh=>by have:=HK4.out.size; omega))
 have hbx5:=hC5.box
 rw [HM4.out] at hbx5
 simp only [CX.cells,Qf] at hbx5
 rw [H0.out] at hbx5
 clear b0 b1 b2 b3 b4 b5 b6 b7 bf c0 c1 c2 c3 l0 l1 l2
 obtain ⟨b0,b1,b2,b3,b4,b5,b6,b7,bf⟩:=box8 hbx5
 have hbl5:=Zab hbx5
 have hbtl:=Zab hbx'
 have Hbx5:=Zac hbx5
 have HC5:=Zac hC5
 have hway4:M4.way=(n,k+1)::r:=by rw [HM4.out]
 have hlen4:M4.tree.length+M4.way.length≤100000:=by
  have h1:=HI.out.len
  have h2:=Ht.out
  rw [Hw1.out] at h1
  rw [HM4.out]
  simp only [Qf] at h1 ⊢
  omega
 have hnx4:∀ y ∈ M4.way,1≤y.2∧y.2≤4000:=fun y hy=>by
  rw [hway4] at hy
  rcases Qp.1 hy with rfl | hy
  ·exact ⟨Nat.succ_le_succ (Qm _),by show k+1≤_; omega⟩
  ·have h1:=(HI.out.way y (by rw [Hw1.out]; simp [hy])).2.2.1
   have h2:=HI.out.used
   rw [Hw1.out] at h2
   exact ⟨h2.2.1 y hy,by omega⟩
 have HL:Hid (∀ u (xx:CX) (mm:SN),CSr u b xx cs a mm→mm.way.length≤200000→(∀ y ∈ mm.way,y.2≤4000)→mm.tree.length+mm.way.length≤200000→Calls Tryd.prog 24 #[.pointer (some ⟨b,0,none⟩)] u fun e w'=>e = .returned (.tuple #[])∧Kept (only b) u w'∧CSr w' b xx cs a (Zcs cs mm)):=fun u xx mm h1 h2 h3 h4=>Zoi u b xx cs a mm h1 h2 h3 hcl h4
 have Hlen4:=Zac hlen4
 have Hnx4:=Zac hnx4
 have Hway4:=Zac hway4
 clear hlen4 hnx4 hway4 hbx hbx' hbx5 hC5 hbox hext5
 simp only [paAll,pa,Kd.val,if_true,Act.put,Zos]
 rw [hbe]
 rcases hqq with ⟨rfl,hq⟩ | ⟨rfl,ch,hq⟩ | ⟨rfl,ch,q0,hq12,hq,rfl,rfl,hg',hv',hr'⟩
 ·have hq0:(tryN n c k).2=0:=by
   rcases hq with h | h
   ·exact absurd (List.eq_nil_of_length_eq_zero (by rw [← HSm.out.gl,h]; rfl)) Hg.out
   ·exact (Zls HOk.out HSm.out Hco.out h).1.symm
  have hmk:Zaw cs m=Zcs cs M4:=by
   unfold Zaw
   rw [Hw1.out]
   simp only [Hc.out]
   rw [if_neg (by omega),if_neg (by omega),HM4.out,Htr.out]
  have HL5:=Zac (HL.out w5 _ M4 HC5.out (by have:=Hlen4.out; omega) (fun y hy=>(Hnx4.out y hy).2) (by have:=Hlen4.out; omega))
  have Hmk:=Zac hmk
  clear hq hq0 hmk HL
  go_wp2_with fail
  refine HL5.out.mono ?_
  rintro e w6 ⟨rfl,hK6,hC6⟩
  have H6:Hid (∃ x',Kept (ownS b ⟨some ⟨lb,0,none⟩,cc,na,nc,some ⟨wb,0,none⟩,wc,va,vl,vc,fa,fl,fc⟩) w w6∧CSr w6 b x' cs a (Zaw cs m)∧Zfh w ⟨some ⟨lb,0,none⟩,cc,na,nc,some ⟨wb,0,none⟩,wc,va,vl,vc,fa,fl,fc⟩ x'):=⟨_,HK5.out.trans (hK6.mono (fun i _ e=>Or.inl e)),by rw [Hmk.out]; exact hC6,⟨fun j hj=>Or.inl hj,rfl,rfl,rfl,rfl⟩⟩
  clear hK6 hC6
  go_wp2
  go_end0
  exact ⟨rfl,H6.out⟩
 ·have hq3:(tryN n c k).2=3:=(Zls HOk.out HSm.out Hco.out hq).1.symm
  obtain ⟨M5,hM5⟩:∃ M5:SN,M5 = { M4 with status:=3 }:=⟨_,rfl⟩
  have hmk:Zaw cs m=Zcs cs M5:=by
   unfold Zaw
   rw [Hw1.out]
   simp only [Hc.out]
   rw [if_pos hq3,hM5,HM4.out,Htr.out]
  have hKs:Kept (only b) w5 (w5.setCell ⟨b,4,none⟩ (.int .i64 3)):=(Qx _ _).put 4 _
  have hC5':CSr (w5.setCell ⟨b,4,none⟩ (.int .i64 3)) b ⟨some ⟨lb,0,none⟩,cc,na,nc,some ⟨wb,0,none⟩,wc,va,vl,vc,fa,fl,fc⟩ cs a M5:=by
   refine HC5.out.upd hKs ?_ ⟨rfl,rfl,rfl,rfl⟩ (by rw [hM5]; exact HC5.out.way) (fun h=>by rw [hM5] at h; simp at h)
   have:=Zah HC5.out.box 4 (.int .i64 3)
   rw [hM5]
   exact this
  have hw5:M5.way=M4.way∧M5.tree=M4.tree:=by rw [hM5]; exact ⟨rfl,rfl⟩
  have HL5:=Zac (HL.out _ _ M5 hC5' (by rw [hw5.1]; have:=Hlen4.out; omega) (fun y hy=>(Hnx4.out y (by rw [← hw5.1]; exact hy)).2) (by rw [hw5.1,hw5.2]; have:=Hlen4.out; omega))
  have Hmk:=Zac hmk
  have HK5':=Zac (HK5.out.trans (hKs.mono (fun i _ e=>Or.inl e)))
  clear hq hq3 hmk HL hC5' hKs hw5 hM5
  go_wp2_with fail
  refine HL5.out.mono ?_
  rintro e w6 ⟨rfl,hK6,hC6⟩
  have H6:Hid (∃ x',Kept (ownS b ⟨some ⟨lb,0,none⟩,cc,na,nc,some ⟨wb,0,none⟩,wc,va,vl,vc,fa,fl,fc⟩) w w6∧CSr w6 b x' cs a (Zaw cs m)∧Zfh w ⟨some ⟨lb,0,none⟩,cc,na,nc,some ⟨wb,0,none⟩,wc,va,vl,vc,fa,fl,fc⟩ x'):=⟨_,HK5'.out.trans (hK6.mono (fun i _ e=>Or.inl e)),by rw [Hmk.out]; exact hC6,⟨fun j hj=>Or.inl hj,rfl,rfl,rfl,rfl⟩⟩
  clear hK6 hC6
  go_wp2
  go_end0
  exact ⟨rfl,H6.out⟩
 ·obtain ⟨e1,e2⟩:=Zls HOk.out HSm.out Hco.out hq
  obtain ⟨hOk2,hSm2⟩:=e2 hq12
  have hk12:(tryN n c k).2=1∨(tryN n c k).2=2:=by rw [← e1]; exact hq12
  have hNm2:=Ybb hq hq12 HNm.out Hcm.out
  have hFw2:=Yal hq hq12 HFw.out HCf.out
  obtain ⟨vs1,hg1,_⟩:=hg'
  obtain ⟨vs2,hv1,_⟩:=hv'
  obtain ⟨vs3,hr1,_⟩:=hr'
  have hN5:NodeIn w5 (.slice g1 ch.goals.length g3) (.slice v1 v2 v3) (.slice q1 q2 q3) ch:=⟨⟨vs1,hg1⟩,⟨vs2,hv1⟩,⟨vs3,hr1⟩⟩
  have hCN:CNode w5 (.slice g1 ch.goals.length g3) (.slice v1 v2 v3) (.slice q1 q2 q3) (.int .i64 ch.vars) (tryN n c k).1:=⟨ch,hN5,rfl,hOk2,hNm2,hFw2,hSm2⟩
  obtain ⟨X,hX⟩:∃ X,X=Lib.decDigits k:=⟨_,rfl⟩
  have hXl:X.length≤24:=by rw [hX]; have:=Zic k; omega
  obtain ⟨T,hT⟩:∃ T,T=m.tree:=⟨_,rfl⟩
  have hTl:T.length≤100000:=by
   have:=Hlen4.out
   rw [HM4.out] at this
   simp only at this
   rw [hT]; omega
  obtain ⟨M5,hM5⟩:∃ M5:SN,M5 = { M4 with tree:=T++X }:=⟨_,rfl⟩
  have hMt:M4.tree=T:=by rw [HM4.out,hT]
  have hmk:Zaw cs m=Zcs cs (Zbw M5 (tryN n c k).1):=by
   unfold Zaw
   rw [Hw1.out]
   simp only [Hc.out]
   rw [if_neg (by omega),if_pos hk12,hM5,HM4.out,Htr.out,hT,hX]
  obtain ⟨w6,hw6⟩:∃ w6,w6=w5.drew.setCell ⟨b,7,none⟩ (.string ⟨(T++X).toArray⟩):=⟨_,rfl⟩
  have hK56:Kept (only b) w5 w6:=by rw [hw6]; exact ((Qx _ _).drew).put 7 _
  have hC6:CSr w6 b ⟨some ⟨lb,0,none⟩,cc,na,nc,some ⟨wb,0,none⟩,wc,va,vl,vc,fa,fl,fc⟩ cs a M5:=by
   refine HC5.out.upd hK56 ?_ ⟨rfl,rfl,rfl,rfl⟩ (by rw [hM5]; exact HC5.out.way) (fun h=>by rw [hM5] at h ⊢; exact HC5.out.found h)
   have:=Zah (w:=w5.drew) HC5.out.box 7 (.string ⟨(T++X).toArray⟩)
   rw [hw6,hM5]
   exact this
  have hCN6:=hCN.keep hK56 HC5.out.off
  have hw5:M5.way=M4.way∧M5.tree=T++X:=by rw [hM5]; exact ⟨rfl,rfl⟩
  have hlen5:M5.tree.length+M5.way.length≤150000:=by
   have:=Hlen4.out
   rw [hw5.1,hw5.2,Qg]
   rw [hMt] at this
   omega
  have hused:(tryN n c k).1.used=Zfd M5.way:=by
   have h2:=HI.out.used
   rw [Hw1.out] at h2
   rw [Zhq hk12,hw5.1,Hway4.out,Zkz,h2.1]
  have hnx5:∀ y ∈ M5.way,1≤y.2∧y.2≤4000:=fun y hy=>Hnx4.out y (by rw [← hw5.1]; exact hy)
  have HEn:Hid (Calls Tryd.prog 23 #[.pointer (some ⟨b,0,none⟩),.agg #[.slice g1 ch.goals.length g3,.slice v1 v2 v3,.slice q1 q2 q3,.int .i64 ch.vars]] w6 fun e w'=>e = .returned (.tuple #[])∧∃ x',Kept (ownS b ⟨some ⟨lb,0,none⟩,cc,na,nc,some ⟨wb,0,none⟩,wc,va,vl,vc,fa,fl,fc⟩) w6 w'∧CSr w' b x' cs a (Zbw M5 (tryN n c k).1)∧Zfh w6 ⟨some ⟨lb,0,none⟩,cc,na,nc,some ⟨wb,0,none⟩,wc,va,vl,vc,fa,fl,fc⟩ x'):=by
   by_cases hgl:(tryN n c k).1.goals=[]
   ·exact Zto w6 b _ cs a M5 _ _ _ _ _ hC6 hCN6 (by omega) hgl hused hnx5 (by rw [hw5.2,Qg]; omega)
   ·exact Zlj w6 b _ cs a M5 _ _ _ _ _ hC6 hCN6 (by omega) hgl (by rw [hw5.2,Qg]; omega)
  have Hbd:Hid ((Zbw M5 (tryN n c k).1).way.length≤200000∧(∀ y ∈ (Zbw M5 (tryN n c k).1).way,y.2≤4000)∧(Zbw M5 (tryN n c k).1).tree.length+(Zbw M5 (tryN n c k).1).way.length≤200000):=by
   show _∧_∧_
   unfold Zbw
   split
   ·simp only [Qg,Qn]
    exact ⟨by omega,fun y hy=>(hnx5 y hy).2,by omega⟩
   ·simp only [Qg,Jt,Qf]
    refine ⟨by omega,fun y hy => ?_,by omega⟩
    rcases Qp.1 hy with rfl | hy
    ·exact Qm _
    ·exact (hnx5 y hy).2
  have HXt:=Zac (Zmc k w5.drew (by omega))
  rw [← hX] at HXt
  have Hmk:=Zac hmk
  have HK56:=Zac hK56
  have hs6:=hK56.size
  have Hw6:=Zac hw6
  have z6:∀ i v,w5.cell? ⟨bt,i,none⟩=some v→w6.cell? ⟨bt,i,none⟩=some v:=fun i v hv=>hK56.cell hv (fun e=>by
   have e:bt=b:=e
   have:W4.heap.size≤bt:=hb0
   omega)
  have z0:=z6 0 _ z0
  have z1:=z6 1 _ z1
  have z2:=z6 2 _ z2
  have z3:=z6 3 _ z3
  have b7':w5.drew.cell? ⟨b,7,none⟩=some (.string ⟨T.toArray⟩):=by rw [hT]; exact b7
  have bf':∀ i,w5.drew.frozen? ⟨b,i,none⟩=false:=bf
  have hbt6:bt<w6.heap.size:=by omega
  clear hq e1 e2 hOk2 hSm2 hk12 hNm2 hFw2 hg1 hv1 hr1 hN5 hCN hX hT hM5 hMt hmk hC6 hCN6 hw5 hlen5 hused hnx5 hK56 hw6 z6 b0 b1 b2 b3 b4 b5 b6 b7 bf
  go_wp2_with fail
  refine Zfg (by kernel_rfl) [.rd 0 2 (fun _ => .pointer (some ⟨b,0,none⟩)),.rd 0 2 (fun _ => .pointer (some ⟨b,0,none⟩)),.rd 0 2 (fun _ => .pointer (some ⟨b,7,none⟩)),.rd 0 1 (fun _ => .string ⟨T.toArray⟩),.rd 0 2 (fun _ => .int .i64 k),.st 0,.rd 1 2 (fun _ => .string ⟨(T++X).toArray⟩),.rd 0 2 (fun _ => .pointer (some ⟨b,0,none⟩)),.rd 0 2 (fun _ => .pointer (some ⟨b,7,none⟩)),.st 1] 2 7 (by kernel_rfl) (TreePh w5.drew b T X) rfl ?_ ?_
  ·refine ⟨⟨trivial,fun vs y _ hl hS => ?_⟩,⟨trivial,fun vs y _ hl hS => ?_⟩,⟨trivial,fun vs y _ hl hS => ?_⟩,⟨trivial,fun vs y _ hl hS => ?_⟩,⟨trivial,fun vs y _ hl hS => ?_⟩,⟨trivial,fun vs y hl hS => ?_⟩,⟨trivial,fun vs y hl0 hl hS => ?_⟩,⟨trivial,fun vs y _ hl hS => ?_⟩,⟨trivial,fun vs y _ hl hS => ?_⟩,⟨trivial,fun vs y hl hS => ?_⟩,trivial⟩
   ·simp [phAll,phA,pa,Ph.kd,Ph.val,Kd.val,go_sem]
   ·simp [phAll,phA,pa,Ph.kd,Ph.val,Kd.val,go_sem]
   ·simp [phAll,phA,pa,Ph.kd,Ph.val,Kd.val,go_sem]
   ·obtain rfl:=hS.at.1 hl
    simp [phAll,phA,pa,Ph.kd,Ph.val,Kd.val,go_sem,b7']
   ·simp [phAll,phA,pa,Ph.kd,Ph.val,Kd.val,go_sem]
   ·obtain rfl:=List.length_eq_zero_iff.1 hl
    obtain rfl:y=w5.drew:=hS
    refine .call 40 #[.int .i64 k] _ (by simp [phAll,phA,pa,Ph.kd,Ph.val,Kd.val,go_sem]) (HXt.out.mono ?_)
    rintro e u ⟨rfl,rfl⟩
    exact ⟨_,rfl,rfl,rfl⟩
   ·have h0:=hS.at.2 hl0
    rw [List.getD_eq_getElem?_getD] at h0
    simp [phAll,phA,pa,Ph.kd,Ph.val,Kd.val,go_sem,h0,Zbp,show ¬ 9223372036854775807<T.length+X.length by omega]
   ·simp [phAll,phA,pa,Ph.kd,Ph.val,Kd.val,go_sem]
   ·simp [phAll,phA,pa,Ph.kd,Ph.val,Kd.val,go_sem]
   ·obtain ⟨v,rfl⟩:=List.length_eq_one_iff.1 hl
    obtain ⟨rfl,hv⟩:=hS
    exact .skip _ (by simp [phAll,phA,pa,Ph.kd,Ph.val,Kd.val,go_sem,b7',bf']) ⟨hv,rfl⟩
  rintro vs y hl hS
  obtain ⟨v,v',rfl⟩:∃ v v',vs=[v,v']:=by
   match vs,hl with
   | [v,v'],_=>exact ⟨v,v',rfl⟩
  obtain ⟨hv,hy⟩:=hS
  rw [← Hw6.out] at hy
  subst hy
  simp only [phAll,phA,paAll,pa,Ph.kd,Ph.val,Kd.val,List.map_cons,List.map_nil,if_true,Act.put,List.setIfInBounds_toArray,List.set_cons_succ,List.set_cons_zero]
  clear hv b7' bf'
  go_wp2_with fail
  refine HEn.out.mono ?_
  rintro e w7 ⟨rfl,x7,hK7,hC7,hN7⟩
  have HL7:=Zac (HL.out w7 x7 _ hC7 Hbd.out.1 Hbd.out.2.1 Hbd.out.2.2)
  have HK7:=Zac hK7
  have HN7:=Zac hN7
  clear hK7 hC7 hN7 HL HEn
  go_wp2_with fail
  refine HL7.out.mono ?_
  rintro e w8 ⟨rfl,hK8,hC8⟩
  have H8:Hid (∃ x',Kept (ownS b ⟨some ⟨lb,0,none⟩,cc,na,nc,some ⟨wb,0,none⟩,wc,va,vl,vc,fa,fl,fc⟩) w w8∧CSr w8 b x' cs a (Zaw cs m)∧Zfh w ⟨some ⟨lb,0,none⟩,cc,na,nc,some ⟨wb,0,none⟩,wc,va,vl,vc,fa,fl,fc⟩ x'):=⟨x7,((HK5.out.trans (HK56.out.mono (fun i _ e=>Or.inl e))).trans HK7.out).trans (hK8.mono (fun i _ e=>Or.inl e)),by rw [Hmk.out]; exact hC8,⟨fun j hj=>by
   rcases HN7.out.1 j hj with h | h
   ·exact Or.inl h
   ·have:=HK5.out.size
    have:=HK56.out.size
    exact Or.inr (by omega),HN7.out.2⟩⟩
  clear hK8 hC8
  go_wp2
  go_end0
  exact ⟨rfl,H8.out⟩
theorem Zwt (n:ND) (c:Cls) (k:Nat):Zfx n c k≠2:=by
 unfold Zfx
 split
 ·omega
 ·split <;> omega
theorem Zef {cs:List Cls} {n:Nat} {s:SN} (h:n=0∨s.status≠0∨s.way=[]∨3000≤s.tries):Zcj cs n s=(s,0):=by
 cases n with
 | zero=>rfl
 | succ n =>
  unfold Zcj
  rw [if_neg]
  rintro ⟨h1,h2,h3⟩
  rcases h with h | h | h | h
  ·omega
  ·exact h h1
  ·exact h2 h
  ·omega
theorem Zyx {cs:List Cls} {n:Nat} {s:SN} (h1:s.status=0) (h2:s.way≠[]) (h3:s.tries<3000):Zcj cs (n+1) s=((Zcj cs n (Zaw cs s)).1,(Zcj cs n (Zaw cs s)).2+1):=by
 rw [Zcj,if_pos ⟨h1,h2,h3⟩]
theorem Zyy {cs:List Cls} {n j:Nat} {m m':SN} (h:m.status≠2∧m.status≠3) (hl:Zcj cs n { m with status:=0 }=((Zcj cs (n - j) m').1,(Zcj cs (n - j) m').2+j)) (hs:Zcj cs (n - j) m'=(m',0)):Zct cs n m=(endN m',j):=by
 unfold Zct
 rw [if_neg (by omega),hl,hs]
 simp
noncomputable def sweN (m:SN):Nat:=open Classical in if m.way=[] then 2 else if 3000≤m.tries then 3 else 0
theorem Yap (w:World) (b:Nat) (x:CX) (cs:List Cls) (a:List (List Sym) × Names) (m:SN) (h:CSr w b x cs a m) :
  Calls Tryd.prog 29 #[.pointer (some ⟨b,0,none⟩)] w fun e w'=>e = .returned (.int .i64 (sweN m))∧w'=w:=by
 have hbx:=h.box
 obtain ⟨ca,cc,na,nc,wa,wc,va,vl,vc,fa,fl,fc⟩:=x
 simp only [CX.cells] at hbx
 obtain ⟨b0,b1,b2,b3,b4,b5,b6,b7,bf⟩:=box8 hbx
 obtain ⟨z,hz⟩:∃ z,z=m.way.length:=⟨_,rfl⟩
 obtain ⟨tr,htr⟩:∃ z,z=m.tries:=⟨_,rfl⟩
 rw [← hz] at b2
 rw [← htr] at b3
 have hbl:=Zab hbx
 by_cases hz0:z=0
 ·have hs:sweN m=2:=by unfold sweN; rw [if_pos (List.eq_nil_of_length_eq_zero (by omega))]
  rw [hs]
  subst hz0
  clear h hbx hz htr hs
  go_enter Tryd.func29,Tryd.ntmps29
  go_wp2
  go_ret
  exact ⟨rfl,rfl⟩
 ·have hw:m.way≠[]:=fun e=>hz0 (by rw [hz,e]; rfl)
  have hz1:((z:Int) == 0)=false:=by rw [Qu]; omega
  by_cases ht:3000≤tr
  ·have hs:sweN m=3:=by unfold sweN; rw [if_neg hw,if_pos (by omega)]
   have ht':(3000:Int)≤(tr:Int):=by omega
   rw [hs]
   clear h hbx hz htr hs hw ht hz0
   go_enter Tryd.func29,Tryd.ntmps29
   go_wp2
   go_ret
   exact ⟨rfl,rfl⟩
  ·have hs:sweN m=0:=by unfold sweN; rw [if_neg hw,if_neg (by omega)]
   have ht':¬ (3000:Int)≤(tr:Int):=by omega
   rw [hs]
   clear h hbx hz htr hs hw ht hz0
   go_enter Tryd.func29,Tryd.ntmps29
   go_wp2
   go_ret
   exact ⟨rfl,rfl⟩
theorem CSr.full {w w':World} {b:Nat} {x:CX} {cs:List Cls} {a:List (List Sym) × Names} {m:SN} (h:CSr w b x cs a m) (hk:Kept (only b) w w') (hb:w'.heap[b]?=some (.cells #[.slice x.ca cs.length x.cc,.slice x.na a.2.length x.nc,.slice none 0 0,.int .i64 m.tries,.int .i64 3,.slice x.va x.vl x.vc,.slice x.fa x.fl x.fc,.string ⟨#[]⟩] 60 (0,0))):CSr w' b { x with wa:=none,wc:=0 } cs a (Zfe m) :=
 h.upd hk hb ⟨rfl,rfl,rfl,rfl⟩ ⟨[],RowL.nil _⟩ (fun h=>by simp [Zfe] at h)
theorem CSr.stat {w w':World} {b:Nat} {x:CX} {cs:List Cls} {a:List (List Sym) × Names} {m:SN} (h:CSr w b x cs a m) (st:Nat) (hst:st≠1) (hk:Kept (only b) w w') (hb:w'.heap[b]?=some (.cells (x.cells cs.length a.2.length m.way.length m.tries st m.tree) 60 (0,0))):CSr w' b x cs a { m with status:=st } :=
 h.upd hk hb ⟨rfl,rfl,rfl,rfl⟩ h.way (fun h=>absurd h hst)
theorem Ztp {m:SN} (h:m.status=0):m = { m with status:=0 }:=by
 obtain ⟨p1,p2,p3,p4,p5⟩:=m
 simp only at h
 subst h
 rfl
theorem Zwu {w:World} {b:Nat} {x x':CX} (h:Zfh w x x') {i:Nat} (hi:i<w.heap.size) (ho:ownS b x' i):ownS b x i:=by
 rcases ho with rfl | ho
 ·exact Or.inl rfl
 ·rcases h.1 i ho with h | h
  ·exact Or.inr h
  ·omega
set_option maxRecDepth 20000 in
theorem Zyz (w:World) (b:Nat) (x:CX) (cs:List Cls) (a:List (List Sym) × Names) (m:SN) (n:Nat) (h:CSr w b x cs a m) (hI:InvN cs a m) (hcs:∀ c ∈ cs,COk c∧CNm c) (hcf:∀ c ∈ cs,CFew c) (hcl:cs.length≤24) (hn:n≤3000) (hm:m.status≠2∧m.status≠3) :
  Calls Tryd.prog 15 #[.pointer (some ⟨b,0,none⟩),.int .i64 n] w fun e w'=>e = .returned (.tuple #[.int .i64 (Zct cs n m).2,.int .i64 0])∧∃ x',Kept (ownS b x) w w'∧CSr w' b x' cs a (Zct cs n m).1∧Zfh w x x':=by
 obtain ⟨st0,hst0⟩:∃ z,z=m.status:=⟨_,rfl⟩
 have hm2:((st0:Int) == 2)=false:=by rw [Qu]; omega
 have hm3:((st0:Int) == 3)=false:=by rw [Qu]; omega
 have hbx:=h.box
 obtain ⟨ca,cc,na,nc,wa,wc,va,vl,vc,fa,fl,fc⟩:=x
 simp only [CX.cells] at hbx
 rw [← hst0] at hbx
 obtain ⟨b0,b1,b2,b3,b4,b5,b6,b7,bf⟩:=box8 hbx
 have hbl:=Zab hbx
 obtain ⟨W0,hW0⟩:∃ W0,W0=((w.setCell ⟨b,4,none⟩ (.int .i64 0)).setCell ⟨b,5,none⟩ (.slice none 0 0)).setCell ⟨b,6,none⟩ (.slice none 0 0):=⟨_,rfl⟩
 have hK0:Kept (only b) w W0:=by rw [hW0]; exact (((Qx _ _).put 4 _).put 5 _).put 6 _
 have hC0:CSr W0 b ⟨ca,cc,na,nc,wa,wc,none,0,0,none,0,0⟩ cs a { m with status:=0 }:=h.upd hK0 (by rw [hW0]; exact Zah (Zah (Zah hbx 4 _) 5 _) 6 _) ⟨rfl,rfl,rfl,rfl⟩ h.way (fun h=>by simp at h)
 have HK0:=Zac (hK0.mono (S':=ownS b ⟨ca,cc,na,nc,wa,wc,va,vl,vc,fa,fl,fc⟩) (fun i _ e=>Or.inl e))
 have HC0:=Zac hC0
 have HI0:=Zac (hI.seek hm.2)
 have HW0:=Zac hW0
 have Hcs:=Zac hcs
 have Hcf:=Zac hcf
 have Hm:=Zac hm
 clear h hI hcs hcf hm hbx hK0 hC0 hW0 hst0
 go_enter Tryd.func15,Tryd.ntmps15
 go_wp2
 rw [← HW0.out]
 go_loopg [6] (n+1) (fun gk mv wr=>∃ (j:Nat) (x':CX) (m':SN),mv = .int .i64 j∧j≤n∧n - j<gk∧Kept (ownS b ⟨ca,cc,na,nc,wa,wc,va,vl,vc,fa,fl,fc⟩) w wr∧CSr wr b x' cs a m'∧Zfh w ⟨ca,cc,na,nc,wa,wc,va,vl,vc,fa,fl,fc⟩ x'∧InvN cs a m'∧Zcj cs n { m with status:=0 }=((Zcj cs (n - j) m').1,(Zcj cs (n - j) m').2+j)∧m'.status≠2)
 case atStart=>exact ⟨0,_,{ m with status:=0 },by go_num,by omega,by omega,HK0.out,HC0.out,⟨fun k hk=>Or.inl hk,rfl,rfl,rfl,rfl⟩,HI0.out,by simp,by simp⟩
 case round =>
  clear b0 b1 b2 b3 b4 b5 b6 b7 bf HK0 HC0 HI0 HW0
  obtain ⟨j,⟨ca1,cc1,na1,nc1,wa1,wc1,va1,vl1,vc1,fa1,fl1,fc1⟩,m',rfl,hjn,hgk,hK,hC,hN,hI,hloop,hst2⟩:=hrel
  obtain ⟨st,hst⟩:∃ z,z=m'.status:=⟨_,rfl⟩
  obtain ⟨tr,htr⟩:∃ z,z=m'.tries:=⟨_,rfl⟩
  obtain ⟨zl,hzl⟩:∃ z,z=m'.way.length:=⟨_,rfl⟩
  have hst3:=hI.st
  have hT:=hI.tries
  have hbx:=hC.box
  simp only [CX.cells] at hbx
  rw [← hst,← htr,← hzl] at hbx
  obtain ⟨b0,b1,b2,b3,b4,b5,b6,b7,bf⟩:=box8 hbx
  have hbl1:=Zab hbx
  have Hm':Hid (st=m'.status∧tr=m'.tries∧zl=m'.way.length):=⟨hst,htr,hzl⟩
  have hstv:st=0∨st=1∨st=3:=by omega
  have hzlb:zl≤100000:=by have:=hI.len; omega
  have HK:=Zac hK
  have HC:=Zac hC
  have HN:=Zac hN
  have HI:=Zac hI
  have Hloop:=Zac hloop
  have Hbx:=Zac hbx
  have Hend:Hid (Zcj cs (n - j) m'=(m',0)→∀ w',(∃ x',Kept (only b) wr w'∧CSr w' b x' cs a (endN m')∧(x'.wa=wa1∨x'.wa=none)∧x'.ca=ca1∧x'.cc=cc1∧x'.na=na1∧x'.nc=nc1)→(Ending.returned (.tuple #[.int .i64 j,.int .i64 0])) = .returned (.tuple #[.int .i64 (Zct cs n m).2,.int .i64 0])∧∃ x',Kept (ownS b ⟨ca,cc,na,nc,wa,wc,va,vl,vc,fa,fl,fc⟩) w w'∧CSr w' b x' cs a (Zct cs n m).1∧Zfh w ⟨ca,cc,na,nc,wa,wc,va,vl,vc,fa,fl,fc⟩ x'):=fun hl w' ⟨x',h1,h2,h3,h4,h5,h6,h7⟩=>by
   rw [Zyy (n:=n) (j:=j) Hm.out hloop hl]
   refine ⟨rfl,x',hK.trans (h1.mono (fun i _ e=>Or.inl e)),h2,⟨fun k hk => ?_,h4.trans hN.2.1,h5.trans hN.2.2.1,h6.trans hN.2.2.2.1,h7.trans hN.2.2.2.2⟩⟩
   rcases h3 with h3 | h3
   ·rw [h3] at hk; exact hN.1 k hk
   ·rw [h3] at hk; obtain ⟨p,hp,_⟩:=hk; simp at hp
  clear hK hC hN hI hloop hbx hst htr hzl hst2 hst3 hT
  by_cases hs0:st=0
  ·subst hs0
   have HM0:Hid (m'.status=0):=Hm'.out.1.symm
   have HSw:=Zac (Yap wr b ⟨ca1,cc1,na1,nc1,wa1,wc1,va1,vl1,vc1,fa1,fl1,fc1⟩ cs a m' HC.out)
   by_cases hlt:j<n
   ·by_cases hz0:zl=0
    ·have HW:Hid (m'.way=[]):=List.eq_nil_of_length_eq_zero (by rw [← Hm'.out.2.2]; exact hz0)
     subst hz0
     have hl0:=Zef (cs:=cs) (n:=n - j) (s:=m') (Or.inr (Or.inr (Or.inl HW.out)))
     have hsw:sweN m'=2:=by unfold sweN; rw [if_pos HW.out]
     rw [hsw] at HSw
     have hK5:Kept (only b) wr (wr.setCell ⟨b,4,none⟩ (.int .i64 2)):=(Qx _ _).put 4 _
     have Hfin:Hid (_∧_):=Hend.out hl0 _ ⟨⟨ca1,cc1,na1,nc1,wa1,wc1,va1,vl1,vc1,fa1,fl1,fc1⟩,hK5,by
      have e:endN m' = { m' with status:=2 }:=by unfold endN; rw [if_neg (by rw [HM0.out]; decide),if_pos HM0.out,if_pos HW.out]
      rw [e]
      exact HC.out.stat 2 (by decide) hK5 (by rw [← Hm'.out.2.1,← Hm'.out.2.2]; exact Zah Hbx.out 4 _),Or.inl rfl,rfl,rfl,rfl,rfl⟩
     clear hl0 hsw hK5 Hend HC HI HN Hloop Hm'
     go_wp2_with fail
     refine HSw.out.mono ?_
     rintro e w1 ⟨rfl,rfl⟩
     go_wp2
     go_ret2
     exact Hfin.out
    ·have hwn:m'.way≠[]:=fun e=>hz0 (by rw [Hm'.out.2.2,e]; rfl)
     have hzi:(0:Int)<(zl:Int):=by omega
     have hz1:((zl:Int) == 0)=false:=by rw [Qu]; omega
     have Hwn:=Zac hwn
     clear hwn hz0
     by_cases ht3:tr<3000
     ·have hgT:(tr:Int)<3000:=by omega
      have HMk:=Zac (Zpw wr b ⟨ca1,cc1,na1,nc1,wa1,wc1,va1,vl1,vc1,fa1,fl1,fc1⟩ cs a m' HC.out HI.out HM0.out Hwn.out (by rw [← Hm'.out.2.1]; exact ht3) Hcs.out Hcf.out hcl)
      obtain ⟨n',k,r,c,hw1,hw2,hw3⟩:=HI.out.head Hwn.out
      obtain ⟨e1,e2,e3,e4⟩:=Zhr hw1 hw2 HM0.out
      have Hinv:Hid (InvN cs a (Zaw cs m')∧(Zaw cs m').status≠2):=⟨HI.out.try' hcl HM0.out hw1 hw2 (by rw [← Hm'.out.2.1]; exact ht3),by rw [e2]; exact Zwt _ _ _⟩
      have Hlp:Hid (Zcj cs n { m with status:=0 }=((Zcj cs (n - (j+1)) (Zaw cs m')).1,(Zcj cs (n - (j+1)) (Zaw cs m')).2+(j+1))):=by
       have h1:=Hloop.out
       rw [show n - j=(n - (j+1))+1 by omega,Zyx HM0.out Hwn.out (by rw [← Hm'.out.2.1]; exact ht3)] at h1
       show _=_
       rw [h1]
       simp; omega
      clear ht3 hw1 hw2 hw3 e1 e2 e3 e4
      go_wp2_with fail
      refine HMk.out.mono ?_
      rintro e w1 ⟨rfl,x1,hK1,hC1,hN1⟩
      have HK1:=Zac hK1
      have HC1:=Zac hC1
      have HN1:=Zac hN1
      clear hK1 hC1 hN1 b0 b1 b2 b3 b4 b5 b6 b7 bf
      go_wp2
      go_roundg (n - j)
      case measure=>omega
      case rel =>
       refine ⟨j+1,x1,Zaw cs m',by go_num,by omega,by omega,HK.out.then HK1.out (fun i hi ho=>Zwu HN.out hi ho),HC1.out,⟨fun i hi => ?_,HN1.out.2.1.trans HN.out.2.1,HN1.out.2.2.1.trans HN.out.2.2.1,HN1.out.2.2.2.1.trans HN.out.2.2.2.1,HN1.out.2.2.2.2.trans HN.out.2.2.2.2⟩,Hinv.out.1,Hlp.out,Hinv.out.2⟩
       rcases HN1.out.1 i hi with h | h
       ·exact HN.out.1 i h
       ·exact Or.inr (Qq HK.out.size h)
     ·have hgT:¬ (tr:Int)<3000:=by omega
      have ht3':3000≤tr:=by omega
      clear ht3
      have hl0:=Zef (cs:=cs) (n:=n - j) (s:=m') (Or.inr (Or.inr (Or.inr (by rw [← Hm'.out.2.1]; exact ht3'))))
      have hsw:sweN m'=3:=by unfold sweN; rw [if_neg Hwn.out,if_pos (by rw [← Hm'.out.2.1]; exact ht3')]
      rw [hsw] at HSw
      have hK5:Kept (only b) wr (((wr.setCell ⟨b,4,none⟩ (.int .i64 3)).setCell ⟨b,2,none⟩ (.slice none 0 0)).setCell ⟨b,7,none⟩ (.string ⟨#[]⟩)):=(((Qx _ _).put 4 _).put 2 _).put 7 _
      have Hfin:Hid (_∧_):=Hend.out hl0 _ ⟨_,hK5,by
       have e:endN m'=Zfe m':=by unfold endN; rw [if_neg (by rw [HM0.out]; decide),if_pos HM0.out,if_neg Hwn.out,if_pos (by rw [← Hm'.out.2.1]; exact ht3')]
       rw [e]
       exact HC.out.full hK5 (by rw [← Hm'.out.2.1]; exact Zah (Zah (Zah Hbx.out 4 _) 2 _) 7 _),Or.inr rfl,rfl,rfl,rfl,rfl⟩
      clear hl0 hsw hK5 Hend HC HI HN Hloop Hm' ht3'
      go_wp2_with fail
      refine HSw.out.mono ?_
      rintro e w1 ⟨rfl,rfl⟩
      go_wp2
      go_ret2
      exact Hfin.out
   ·by_cases hz0:zl=0
    ·have HW:Hid (m'.way=[]):=List.eq_nil_of_length_eq_zero (by rw [← Hm'.out.2.2]; exact hz0)
     subst hz0
     have hl0:=Zef (cs:=cs) (n:=n - j) (s:=m') (Or.inl (by omega))
     have hsw:sweN m'=2:=by unfold sweN; rw [if_pos HW.out]
     rw [hsw] at HSw
     have hK5:Kept (only b) wr (wr.setCell ⟨b,4,none⟩ (.int .i64 2)):=(Qx _ _).put 4 _
     have Hfin:Hid (_∧_):=Hend.out hl0 _ ⟨⟨ca1,cc1,na1,nc1,wa1,wc1,va1,vl1,vc1,fa1,fl1,fc1⟩,hK5,by
      have e:endN m' = { m' with status:=2 }:=by unfold endN; rw [if_neg (by rw [HM0.out]; decide),if_pos HM0.out,if_pos HW.out]
      rw [e]
      exact HC.out.stat 2 (by decide) hK5 (by rw [← Hm'.out.2.1,← Hm'.out.2.2]; exact Zah Hbx.out 4 _),Or.inl rfl,rfl,rfl,rfl,rfl⟩
     clear hl0 hsw hK5 Hend HC HI HN Hloop Hm'
     go_wp2_with fail
     refine HSw.out.mono ?_
     rintro e w1 ⟨rfl,rfl⟩
     go_wp2
     go_ret2
     exact Hfin.out
    ·have hwn:m'.way≠[]:=fun e=>hz0 (by rw [Hm'.out.2.2,e]; rfl)
     have Hwn:=Zac hwn
     clear hwn hz0
     by_cases ht3':3000≤tr
     ·have hl0:=Zef (cs:=cs) (n:=n - j) (s:=m') (Or.inl (by omega))
      have hsw:sweN m'=3:=by unfold sweN; rw [if_neg Hwn.out,if_pos (by rw [← Hm'.out.2.1]; exact ht3')]
      rw [hsw] at HSw
      have hK5:Kept (only b) wr (((wr.setCell ⟨b,4,none⟩ (.int .i64 3)).setCell ⟨b,2,none⟩ (.slice none 0 0)).setCell ⟨b,7,none⟩ (.string ⟨#[]⟩)):=(((Qx _ _).put 4 _).put 2 _).put 7 _
      have Hfin:Hid (_∧_):=Hend.out hl0 _ ⟨_,hK5,by
       have e:endN m'=Zfe m':=by unfold endN; rw [if_neg (by rw [HM0.out]; decide),if_pos HM0.out,if_neg Hwn.out,if_pos (by rw [← Hm'.out.2.1]; exact ht3')]
       rw [e]
       exact HC.out.full hK5 (by rw [← Hm'.out.2.1]; exact Zah (Zah (Zah Hbx.out 4 _) 2 _) 7 _),Or.inr rfl,rfl,rfl,rfl,rfl⟩
      clear hl0 hsw hK5 Hend HC HI HN Hloop Hm' ht3'
      go_wp2_with fail
      refine HSw.out.mono ?_
      rintro e w1 ⟨rfl,rfl⟩
      go_wp2
      go_ret2
      exact Hfin.out
     ·have hl0:=Zef (cs:=cs) (n:=n - j) (s:=m') (Or.inl (by omega))
      have hsw:sweN m'=0:=by unfold sweN; rw [if_neg Hwn.out,if_neg (by rw [← Hm'.out.2.1]; exact ht3')]
      rw [hsw] at HSw
      have hK5:Kept (only b) wr (wr.setCell ⟨b,4,none⟩ (.int .i64 0)):=(Qx _ _).put 4 _
      have Hfin:Hid (_∧_):=Hend.out hl0 _ ⟨⟨ca1,cc1,na1,nc1,wa1,wc1,va1,vl1,vc1,fa1,fl1,fc1⟩,hK5,by
       have e:endN m' = { m' with status:=0 }:=by
        unfold endN
        rw [if_neg (by rw [HM0.out]; decide),if_pos HM0.out,if_neg Hwn.out,if_neg (by rw [← Hm'.out.2.1]; exact ht3')]
        exact Ztp HM0.out
       rw [e]
       exact HC.out.stat 0 (by decide) hK5 (by rw [← Hm'.out.2.1,← Hm'.out.2.2]; exact Zah Hbx.out 4 _),Or.inl rfl,rfl,rfl,rfl,rfl⟩
      clear hl0 hsw hK5 Hend HC HI HN Hloop Hm' ht3'
      go_wp2_with fail
      refine HSw.out.mono ?_
      rintro e w1 ⟨rfl,rfl⟩
      go_wp2
      go_ret2
      exact Hfin.out
  ·have hne':m'.status≠0:=by rw [← Hm'.out.1]; exact hs0
   have hl0:=Zef (cs:=cs) (n:=n - j) (s:=m') (Or.inr (Or.inl hne'))
   rcases hstv with rfl | rfl | rfl
   ·exact absurd rfl hs0
   ·have Hfin:Hid (_∧_):=Hend.out hl0 wr ⟨⟨ca1,cc1,na1,nc1,wa1,wc1,va1,vl1,vc1,fa1,fl1,fc1⟩,Qx _ _,by
     have e:endN m'=m':=by simp [endN,show m'.status=1 from Hm'.out.1.symm]
     rw [e]; exact HC.out,Or.inl rfl,rfl,rfl,rfl,rfl⟩
    clear hs0 hne' hl0 Hend HC HI HN Hloop Hm'
    by_cases hlt:j<n
    all_goals
     go_wp2
     go_ret2
     exact Hfin.out
   ·have hK5:Kept (only b) wr ((wr.setCell ⟨b,2,none⟩ (.slice none 0 0)).setCell ⟨b,7,none⟩ (.string ⟨#[]⟩)):=((Qx _ _).put 2 _).put 7 _
    have Hfin:Hid (_∧_):=Hend.out hl0 _ ⟨_,hK5,by
     have e:endN m'=Zfe m':=by unfold endN; rw [if_pos Hm'.out.1.symm]
     rw [e]
     exact HC.out.full hK5 (by rw [← Hm'.out.2.1]; exact Zah (Zah Hbx.out 2 _) 7 _),Or.inr rfl,rfl,rfl,rfl,rfl⟩
    clear hs0 hne' hl0 hK5 Hend HC HI HN Hloop Hm'
    by_cases hlt:j<n
    all_goals
     go_wp2
     go_ret2
     exact Hfin.out
theorem Zza (w:World) (ua:Option Addr) (uc:Nat) (ks:List Nat) (h:w.ownsRow 0 3 1 (.slice ua ks.length uc) ks.length (ints ks)) (hl:ks.length≤1000) (hk:∀ k ∈ ks,k<24) :
  Calls Tryd.prog 38 #[.slice ua ks.length uc] w fun e w'=>e = .returned (.string ⟨(Zdt [] ks).toArray⟩)∧w'=w:=by
 obtain ⟨F,hF⟩:∃ F,F=Zdt [] ks:=⟨_,rfl⟩
 rw [← hF]
 have hFl:F.length≤200000:=by
  have:=Zsp ks [] (by simp) (fun k hk'=>by have:=hk k hk'; omega)
  rw [← hF] at this
  omega
 obtain ⟨L,hL⟩:∃ L,L=ks.length:=⟨_,rfl⟩
 rw [← hL] at h hl ⊢
 have HU:=Zac h
 have HF:=Zac hF
 have Hk:=Zac hk
 have HL:=Zac hL
 clear h hF hk hL
 go_enter Tryd.func38,Tryd.ntmps38
 go_wp2
 go_loopg [3,8] (L+1) (fun gk tx i wr=>∃ (j:Nat) (dt:List UInt8),i = .int .i64 j∧j≤L∧L - j<gk∧tx = .string ⟨dt.toArray⟩∧wr=w ∧
  dt++Zdt (if j=0 then [] else [46]) (ks.drop j)=F)
 case atStart=>exact ⟨0,[],by go_num,Qm _,by omega,rfl,rfl,by simp [HF.out]⟩
 case round =>
  obtain ⟨j,dt,rfl,hj,hgk,rfl,rfl,hdt⟩:=hrel
  have hdl:dt.length≤200000:=by
   have h1:=congrArg List.length hdt
   simp only [Qg] at h1
   omega
  have Hdt:=Zac hdt
  clear hdt
  by_cases hlt:j<L
  ·have hlt':j<ks.length:=by rw [← HL.out]; exact hlt
   obtain ⟨u,hu⟩:∃ u,ks[j]?=some u:=⟨_,Qb hlt'⟩
   have hdu:ks.drop j=u::ks.drop (j+1):=by
    rw [List.drop_eq_getElem_cons hlt',(Qa.1 hu).2]
   obtain ⟨ub,ucap',ucur,hue,hBu,hub,hucp⟩:=Zat HU.out (by omega)
   simp only [Value.slice.injEq] at hue
   obtain ⟨rfl,_,rfl⟩:=hue
   have z0:wr.cell? ⟨ub,j,none⟩=some (.int .i64 u):=Zai HU.out j _ (by simp only [ints,Qj,hu,Option.map_some])
   have hu24:=Hk.out u (Qh hu)
   have HD:=Zac (Zmc u wr (by omega))
   obtain ⟨X,hX⟩:∃ X,X=Lib.decDigits u:=⟨_,rfl⟩
   rw [← hX] at HD
   have hul1:X.length≤30:=by rw [hX]; have:=Zic u; omega
   by_cases h0:j=0
   ·have hk0:¬ (0:Int)<(j:Int):=by omega
    have Hd0:Hid ((dt++X)++Zdt [46] (ks.drop (j+1))=F):=by
     have h1:=Hdt.out
     rw [hdu,if_pos h0] at h1
     simp only [Zdt] at h1
     show _=_
     rw [← h1,hX]; simp
    have Hstr:=Zac (Zbp dt X)
    clear h0 hu hdu hub Hdt hX hlt'
    go_wp2_with fail
    refine HD.out.mono ?_
    rintro e w1 ⟨rfl,rfl⟩
    go_wp2
    go_roundg (L - j)
    case measure=>omega
    case rel=>exact ⟨j+1,dt++X,by go_num,by omega,by omega,by rw [← Hstr.out],rfl,by simpa using Hd0.out⟩
   ·have hk0:(0:Int)<(j:Int):=by omega
    have Hd0:Hid ((dt++[46]++X)++Zdt [46] (ks.drop (j+1))=F):=by
     have h1:=Hdt.out
     rw [hdu,if_neg h0] at h1
     simp only [Zdt] at h1
     show _=_
     rw [← h1,hX]; simp
    have Hstr:=Zac (Zbp (dt++[46]) X)
    have Hstr1:=Zac (Zbp dt [46])
    clear h0 hu hdu hub Hdt hX hlt'
    go_wp2_with fail
    refine HD.out.mono ?_
    rintro e w1 ⟨rfl,rfl⟩
    go_wp2
    go_roundg (L - j)
    case measure=>omega
    case rel=>exact ⟨j+1,dt++[46]++X,by go_num,by omega,by omega,by rw [← Hstr.out,← Hstr1.out],rfl,by simpa using Hd0.out⟩
  ·have he:j=L:=by omega
   have Hfin:Hid (dt=F):=by
    have h1:=Hdt.out
    rw [he,HL.out,List.drop_length] at h1
    show _=_
    simpa [Zdt] using h1
   clear Hdt he
   go_wp2
   go_ret
   rw [Hfin.out]
   exact ⟨rfl,rfl⟩
theorem Zka (w:World) (b:Nat) (x:CX) (cs:List Cls) (a:List (List Sym) × Names) (m:SN) (h:CSr w b x cs a m) :
  Calls Tryd.prog 16 #[.pointer (some ⟨b,0,none⟩)] w fun e w'=>e = .returned (.int .i64 m.status)∧w'=w:=by
 have hbx:=h.box
 obtain ⟨ca,cc,na,nc,wa,wc,va,vl,vc,fa,fl,fc⟩:=x
 simp only [CX.cells] at hbx
 obtain ⟨b0,b1,b2,b3,b4,b5,b6,b7,bf⟩:=box8 hbx
 have hbl:=Zab hbx
 clear h hbx
 go_enter Tryd.func16,Tryd.ntmps16
 go_wp2
 go_ret
 exact ⟨rfl,rfl⟩
theorem Zkb (w:World) (b:Nat) (x:CX) (cs:List Cls) (a:List (List Sym) × Names) (m:SN) (h:CSr w b x cs a m) :
  Calls Tryd.prog 27 #[.pointer (some ⟨b,0,none⟩)] w fun e w'=>e = .returned (.string ⟨(Zci a m.status m.found m.tree).2.2.toArray⟩)∧w'=w:=by
 have hbx:=h.box
 obtain ⟨ca,cc,na,nc,wa,wc,va,vl,vc,fa,fl,fc⟩:=x
 simp only [CX.cells] at hbx
 obtain ⟨b0,b1,b2,b3,b4,b5,b6,b7,bf⟩:=box8 hbx
 have hbl:=Zab hbx
 obtain ⟨st,hst⟩:∃ z,z=m.status:=⟨_,rfl⟩
 rw [← hst] at b4 ⊢
 clear h hbx hst
 by_cases h2:st=2
 ·subst h2
  have Ht:Hid ((Zci a 2 m.found m.tree).2.2=m.tree):=by show _=_; simp [Zci]
  rw [Ht.out]
  go_enter Tryd.func27,Tryd.ntmps27
  go_wp2
  go_ret
  exact ⟨rfl,rfl⟩
 ·have Ht:Hid ((Zci a st m.found m.tree).2.2=[]):=by
   show _=_
   unfold Zci
   split
   ·rfl
   ·rfl
  rw [Ht.out]
  have hb:((st:Int) != 2)=true:=by rw [bne_iff_ne]; omega
  clear h2 Ht
  go_enter Tryd.func27,Tryd.ntmps27
  go_wp2
  go_ret
  exact ⟨rfl,rfl⟩
theorem Ziu (w:World) (b:Nat) (x:CX) (cs:List Cls) (a:List (List Sym) × Names) (m:SN) (h:CSr w b x cs a m) (hI:InvN cs a m) (hcl:cs.length≤24) :
  Calls Tryd.prog 26 #[.pointer (some ⟨b,0,none⟩)] w fun e w'=>e = .returned (.string ⟨(Zci a m.status m.found m.tree).2.1.toArray⟩)∧w'=w:=by
 have hbx:=h.box
 obtain ⟨ca,cc,na,nc,wa,wc,va,vl,vc,fa,fl,fc⟩:=x
 simp only [CX.cells] at hbx
 obtain ⟨b0,b1,b2,b3,b4,b5,b6,b7,bf⟩:=box8 hbx
 have hbl:=Zab hbx
 by_cases h1:m.status=1
 ·obtain ⟨⟨n,_,hOk,_,hS⟩,ho⟩:=h.found h1
  have hu:=(hI.found h1).2.2
  have hul:m.found.used.length≤1000:=by rw [← hS.used]; have:=hOk.ul; omega
  obtain ⟨g1,g2,he⟩:=Zad ho
  simp only [Value.slice.injEq] at he
  obtain ⟨rfl,hfl,rfl⟩:=he
  rw [hfl] at ho b6
  have HX:=Zac (Zza w fa fc m.found.used ho hul (fun k hk=>by have:=hu k hk; omega))
  have Ht:Hid ((Zci a m.status m.found m.tree).2.1=Zdt [] m.found.used):=by show _=_; simp [Zci,h1,Zhp]
  rw [Ht.out]
  rw [h1] at b4
  clear h hI hbx h1 ho hu hul hOk hS Ht
  go_enter Tryd.func26,Tryd.ntmps26
  go_wp2_with fail
  refine HX.out.mono ?_
  rintro e w1 ⟨rfl,rfl⟩
  go_wp2
  go_ret
  exact ⟨rfl,rfl⟩
 ·obtain ⟨st,hst⟩:∃ z,z=m.status:=⟨_,rfl⟩
  rw [← hst] at b4 h1 ⊢
  have Ht:Hid ((Zci a st m.found m.tree).2.1=[]):=by
   show _=_
   unfold Zci
   rw [if_neg h1]
   split <;> rfl
  rw [Ht.out]
  have hb:((st:Int) != 1)=true:=by rw [bne_iff_ne]; omega
  clear h hI hbx h1 Ht hst
  go_enter Tryd.func26,Tryd.ntmps26
  go_wp2
  go_ret
  exact ⟨rfl,rfl⟩
def OnePh (W:World) (A:Value):List Value→World→Prop
 | [],y=>y=W
 | [v],y=>v=A∧Ext W y
 | _,_=>False
theorem OnePh.at {W:World} {A:Value} {vs:List Value} {y:World} (h:OnePh W A vs y):vs.length≤0→y=W:=by
 match vs,h with
 | [],h=>exact fun _=>h
 | [v],h=>exact fun h=>by simp at h
theorem Zkc (w:World) (b:Nat) (x:CX) (cs:List Cls) (q:ByteArray) (a:List (List Sym) × Names) (m:SN) (h:CSr w b x cs a m) (hI:InvN cs a m) (hask:Zey q=some a) :
  Calls Tryd.prog 25 #[.pointer (some ⟨b,0,none⟩)] w fun e w'=>e = .returned (.string ⟨(Zci a m.status m.found m.tree).1.toArray⟩)∧Ext w w':=by
 have hbx:=h.box
 obtain ⟨ca,cc,na,nc,wa,wc,va,vl,vc,fa,fl,fc⟩:=x
 simp only [CX.cells] at hbx
 obtain ⟨b0,b1,b2,b3,b4,b5,b6,b7,bf⟩:=box8 hbx
 have hbl:=Zab hbx
 by_cases h1:m.status=1
 ·obtain ⟨⟨n,hv,hOk,hNm,hS⟩,ho⟩:=h.found h1
  obtain ⟨_,hvl,_⟩:=hI.found h1
  obtain ⟨_,_,_,_,_,_,_,_,ha8⟩:=Zee hask
  have ha6:=Zwq hask
  have hnl:n.vals.length=a.2.length:=by rw [hS.vl,hvl]
  have hnm:=h.names
  simp only at hnm hv
  have hans:Zdk a.2 n=Zdk a.2 m.found:=by unfold Zdk; rw [hS.valsC hOk]
  have HA:Hid (Calls Tryd.prog 37 #[.slice na a.2.length nc,.slice va vl vc] w.drew fun e w'=>Ext w.drew w'∧e = .returned (.string ⟨(Zdk a.2 n).toArray⟩)):=by
   have hE:Ext w w.drew:=⟨rfl,rfl,rfl,Qe _,fun _ _=>rfl⟩
   exact Zki _ _ _ a.2 n.vals (Zao hnm (fun j hj=>hE.block j (hnm.lt j hj).2)) (hv.ext hE) (Yao hOk hNm (by omega)) hnl.symm (Ztn hOk hNm (by omega) ha6 ha8)
  have Ht:Hid ((Zci a m.status m.found m.tree).1=Zdk a.2 m.found):=by show _=_; simp [Zci,h1]
  rw [Ht.out,← hans]
  obtain ⟨Y,hY⟩:∃ Y,Y=Zdk a.2 n:=⟨_,rfl⟩
  rw [← hY] at HA ⊢
  rw [h1] at b4
  clear h hI hbx h1 ho hOk hNm hS hv hvl ha8 ha6 hnl hnm hans Ht hY hask
  go_enter Tryd.func25,Tryd.ntmps25
  go_wp2_with fail
  refine Zfg (by kernel_rfl) [.rd 0 1 (fun _ => .pointer (some ⟨b,0,none⟩)),.rd 0 1 (fun _ => .pointer (some ⟨b,0,none⟩)),.rd 0 1 (fun _ => .pointer (some ⟨b,1,none⟩)),.rd 0 0 (fun _ => .slice na a.2.length nc),.rd 0 1 (fun _ => .pointer (some ⟨b,0,none⟩)),.rd 0 1 (fun _ => .pointer (some ⟨b,0,none⟩)),.rd 0 1 (fun _ => .pointer (some ⟨b,5,none⟩)),.rd 0 0 (fun _ => .slice va vl vc),.st 0,.rd 1 1 (fun _ => .string ⟨Y.toArray⟩)] 1 7 (by kernel_rfl) (OnePh w.drew (.string ⟨Y.toArray⟩)) rfl ?_ ?_
  ·refine ⟨⟨trivial,fun vs y _ hl hS => ?_⟩,⟨trivial,fun vs y _ hl hS => ?_⟩,⟨trivial,fun vs y _ hl hS => ?_⟩,⟨trivial,fun vs y _ hl hS => ?_⟩,⟨trivial,fun vs y _ hl hS => ?_⟩,⟨trivial,fun vs y _ hl hS => ?_⟩,⟨trivial,fun vs y _ hl hS => ?_⟩,⟨trivial,fun vs y _ hl hS => ?_⟩,⟨trivial,fun vs y hl hS => ?_⟩,⟨trivial,fun vs y hl0 hl hS => ?_⟩,trivial⟩
   ·simp [phAll,phA,pa,Ph.kd,Ph.val,Kd.val,go_sem]
   ·simp [phAll,phA,pa,Ph.kd,Ph.val,Kd.val,go_sem]
   ·simp [phAll,phA,pa,Ph.kd,Ph.val,Kd.val,go_sem]
   ·obtain rfl:=hS.at hl
    simp [phAll,phA,pa,Ph.kd,Ph.val,Kd.val,go_sem,b1]
   ·simp [phAll,phA,pa,Ph.kd,Ph.val,Kd.val,go_sem]
   ·simp [phAll,phA,pa,Ph.kd,Ph.val,Kd.val,go_sem]
   ·simp [phAll,phA,pa,Ph.kd,Ph.val,Kd.val,go_sem]
   ·obtain rfl:=hS.at hl
    simp [phAll,phA,pa,Ph.kd,Ph.val,Kd.val,go_sem,b5]
   ·obtain rfl:=List.length_eq_zero_iff.1 hl
    obtain rfl:y=w.drew:=hS
    refine .call 37 #[.slice na a.2.length nc,.slice va vl vc] _ (by simp [phAll,phA,pa,Ph.kd,Ph.val,Kd.val,go_sem]) (HA.out.mono ?_)
    rintro e u ⟨hE,rfl⟩
    exact ⟨_,rfl,rfl,hE⟩
   ·obtain ⟨v,rfl⟩:=List.length_eq_one_iff.1 (show vs.length=1 by omega)
    obtain ⟨rfl,_⟩:=hS
    simp [phAll,phA,pa,Ph.kd,Ph.val,Kd.val,go_sem]
  rintro vs y hl hS
  obtain ⟨v,rfl⟩:=List.length_eq_one_iff.1 hl
  obtain ⟨hv,hy⟩:=hS
  have Hy:=Zac hy
  simp only [phAll,phA,paAll,pa,Ph.kd,Ph.val,Kd.val,List.map_cons,List.map_nil,if_true,Act.put,List.setIfInBounds_toArray,List.set_cons_succ,List.set_cons_zero]
  clear hv hy b0 b1 b2 b3 b4 b5 b6 b7 bf
  go_wp2
  go_ret
  exact ⟨rfl,Hy.out.undrew⟩
 ·obtain ⟨st,hst⟩:∃ z,z=m.status:=⟨_,rfl⟩
  rw [← hst] at b4 h1 ⊢
  have Ht:Hid ((Zci a st m.found m.tree).1=[]):=by
   show _=_
   unfold Zci
   rw [if_neg h1]
   split <;> rfl
  rw [Ht.out]
  have hb:((st:Int) != 1)=true:=by rw [bne_iff_ne]; omega
  clear h hI hbx h1 Ht hst
  go_enter Tryd.func25,Tryd.ntmps25
  go_wp2
  go_ret
  exact ⟨rfl,Ext.of (Qx _ _)⟩
theorem Zqw {w:World} {B e size n:Nat} {v:Value} {xs:List Value} (h:w.ownsRow B e size v n xs):∀ k,Zbo v k→∃ cl fr,w.heap[k]?=some (.cells cl e fr):=fun k hk=>by
 rcases h.2 with ⟨rfl,_⟩ | ⟨g,cap,cur,rfl,_,hg,_⟩
 ·simp [Zbo,Value.ownBlock] at hk
 ·simp [Zbo,Value.ownBlock] at hk
  subst hk
  exact ⟨_,_,hg⟩
def OfTy (S:Nat→Prop) (w:World) (t:TypeId):Prop:=∀ k,S k→∃ cl fr,w.heap[k]?=some (.cells cl t fr)
theorem OfTy.block {S:Nat→Prop} {w w':World} {t t':TypeId} {k:Nat} {cl:Array Value} {fr:Nat × Nat} (hS:OfTy S w t) (hk:Kept S w w') (h:w.heap[k]?=some (.cells cl t' fr)) (ht:t'≠t):w'.heap[k]?=some (.cells cl t' fr) :=
 (hk.block k (Zab h) (fun hs=>by
  obtain ⟨cl',fr',h1⟩:=hS k hs
  rw [h] at h1
  simp at h1
  exact ht h1.2.1)).trans h
theorem OfTy.row {S:Nat→Prop} {w w':World} {t B e size n:Nat} {v:Value} {xs:List Value} (hS:OfTy S w t) (hk:Kept S w w') (h:w.ownsRow B e size v n xs) (ht:e≠t):w'.ownsRow B e size v n xs :=
 Zao h (fun k hj=>by
  obtain ⟨cl,fr,h1⟩:=Zqw h k hj
  rw [hS.block hk h1 ht,h1])
theorem Zoj {S:Nat→Prop} {w w':World} (h:Ext w w'):Kept S w w':=⟨h.os,h.tape,h.output,h.size,fun k hk _=>h.block k hk⟩
theorem OfTy.terms {S:Nat→Prop} {w w':World} {v:Value} {ls:List (List Sym)} (hS:OfTy S w 9) (hk:Kept S w w') (h:TermsIn w v ls):TermsIn w' v ls:=by
 obtain ⟨vs,h⟩:=h
 exact ⟨vs,hS.row hk h.owns (by decide),fun i l hl=>by
  obtain ⟨x,h1,h2⟩:=h.all i l hl
  exact ⟨x,h1,hS.row hk h2 (by decide)⟩⟩
theorem OfTy.rowL {S:Nat→Prop} {w w':World} {v:Value} {ds:List (ND × Nat)} {xs:List Value} (hS:OfTy S w 9) (hk:Kept S w w') (h:RowL w v ds xs):RowL w' v ds xs :=
 ⟨hS.row hk h.owns (by decide),fun i d hd=>by
  obtain ⟨x0,x1,x2,x3,y0,y1,y2,y3,y4,n,h1,h2⟩:=h.all i d hd
  exact ⟨x0,x1,x2,x3,y0,y1,y2,y3,y4,n,⟨hS.terms hk h1.goals,hS.terms hk h1.vals,hS.terms hk h1.done⟩,h2⟩⟩
theorem CSr.texts {w0 w w':World} {b:Nat} {x0 x:CX} {cs:List Cls} {a:List (List Sym) × Names} {m0 m:SN} {S:Nat→Prop} (h0:CSr w0 b x0 cs a m0) (hK0:Kept (ownS b x0) w0 w) (h:CSr w b x cs a m) (hN:Zfh w0 x0 x) (hk:Kept S w w') (hS:OfTy S w 9) (hge:∀ k,S k→w0.heap.size≤k):CSr w' b x cs a m:=by
 have hK:Kept (ownS b x0) w0 w':=hK0.then hk (fun i hi hs=>absurd (hge i hs) (by omega))
 obtain ⟨xs,h1⟩:=h0.prog
 obtain ⟨ys,h2⟩:=h.way
 obtain ⟨_,e1,e2,e3,e4⟩:=hN
 refine ⟨hS.block hk h.box (by decide),⟨xs,by rw [e1,e2]; exact h0.offS.prog hK h1⟩,by rw [e3,e4]; exact h0.offS.own (by simp [Zcb]) hK h0.names,⟨ys,hS.rowL hk h2⟩,fun hs => ?_⟩
 obtain ⟨⟨n,g1,g2⟩,g3⟩:=h.found hs
 exact ⟨⟨n,hS.terms hk g1,g2⟩,hS.row hk g3 (by decide)⟩
theorem CSr.not {w:World} {b k:Nat} {x:CX} {cs:List Cls} {a:List (List Sym) × Names} {m:SN} {cl:Array Value} {t:TypeId} {fr:Nat × Nat} (h:CSr w b x cs a m) (hb:w.heap[k]?=some (.cells cl t fr)) (h1:t≠60) (h2:t≠81):¬ ownS b x k:=by
 rintro (rfl | hk)
 ·have:=h.box
  rw [hb] at this
  simp at this
  exact h1 this.2.1
 ·obtain ⟨ys,h3⟩:=h.way
  obtain ⟨cl',fr',h4⟩:=Zqw h3.owns k (Zil.2 hk)
  rw [hb] at h4
  simp at h4
  exact h2 h4.2.1
structure AftAt (w0 w:World) (b bt:Nat) (x0 x:CX) (cs:List Cls) (a:List (List Sym) × Names) (m:SN) (c0 c1:Value) (tr st:Nat) (av:Value) (A:List (List UInt8)) (wv:Value) (W:List (List UInt8)):Prop where
 kept:Kept (ownS b x0) w0 w
 sr0:∃ m0,CSr w0 b x0 cs a m0
 sr:CSr w b x cs a m
 new:Zfh w0 x0 x
 inv:InvN cs a m
 fw:Zeq m
 bt0:w0.heap.size≤bt
 box:w.heap[bt]?=some (.cells #[c0,c1,.int .i64 tr,.int .i64 st,.string ⟨#[]⟩] 36 (0,0))
 ans:w.ownsRow w0.heap.size 9 1 av A.length (strs A)
 wts:w.ownsRow w0.heap.size 9 1 wv W.length (strs W)
 ap:∀ k,Zbo av k→¬ Zbo wv k
theorem AftAt.ext {w0 w w':World} {b bt:Nat} {x0 x:CX} {cs:List Cls} {a:List (List Sym) × Names} {m:SN} {c0 c1:Value} {tr st:Nat} {av:Value} {A:List (List UInt8)} {wv:Value} {W:List (List UInt8)} (h:AftAt w0 w b bt x0 x cs a m c0 c1 tr st av A wv W) (e:Ext w w'):AftAt w0 w' b bt x0 x cs a m c0 c1 tr st av A wv W :=
 ⟨h.kept.trans (Zoj e),h.sr0,h.sr.ext e,h.new,h.inv,h.fw,h.bt0,(e.block _ (Zab h.box)).trans h.box,Zao h.ans (fun k hk=>e.block k (h.ans.lt k hk).2),Zao h.wts (fun k hk=>e.block k (h.wts.lt k hk).2),h.ap⟩
theorem AftAt.step {w0 w w':World} {b bt:Nat} {x0 x x':CX} {cs:List Cls} {a:List (List Sym) × Names} {m:SN} {c0 c1:Value} {tr st n:Nat} {av:Value} {A:List (List UInt8)} {wv:Value} {W:List (List UInt8)} (h:AftAt w0 w b bt x0 x cs a m c0 c1 tr st av A wv W) (hcl:cs.length≤24) (hK:Kept (ownS b x) w w') (hC:CSr w' b x' cs a (Zct cs n m).1) (hN:Zfh w x x'):AftAt w0 w' b bt x0 x' cs a (Zct cs n m).1 c0 c1 tr st av A wv W:=by
 refine ⟨h.kept.then hK (fun i hi ho=>Zwu h.new hi ho),h.sr0,hC,⟨fun k hk => ?_,hN.2.1.trans h.new.2.1,hN.2.2.1.trans h.new.2.2.1,hN.2.2.2.1.trans h.new.2.2.2.1,hN.2.2.2.2.trans h.new.2.2.2.2⟩,h.inv.step hcl,Zpj h.fw,h.bt0,?_,h.sr.offS.own (by simp [Zcb]) hK h.ans,h.sr.offS.own (by simp [Zcb]) hK h.wts,h.ap⟩
 ·rcases hN.1 k hk with h1 | h1
  ·exact h.new.1 k h1
  ·exact Or.inr (by have:=h.kept.size; omega)
 ·exact (hK.block bt (Zab h.box) (h.sr.not h.box (by decide) (by decide))).trans h.box
theorem AftAt.put {w0 w w':World} {b bt:Nat} {x0 x:CX} {cs:List Cls} {a:List (List Sym) × Names} {m:SN} {c0 c1 c0' c1':Value} {tr st tr' st':Nat} {av:Value} {A:List (List UInt8)} {wv:Value} {W:List (List UInt8)} (h:AftAt w0 w b bt x0 x cs a m c0 c1 tr st av A wv W) (hK:Kept (only bt) w w')
  (hb:w'.heap[bt]?=some (.cells #[c0',c1',.int .i64 tr',.int .i64 st',.string ⟨#[]⟩] 36 (0,0))):AftAt w0 w' b bt x0 x cs a m c0' c1' tr' st' av A wv W:=by
 have hS:OfTy (only bt) w 36:=fun k e=>by
  have e:k=bt:=e
  subst e
  exact ⟨_,_,h.box⟩
 have hO:OffCode (only bt) w:=fun k e=>by
  obtain ⟨cl,fr,h1⟩:=hS k e
  exact ⟨_,_,_,h1,by simp [Zcb]⟩
 refine ⟨h.kept.then hK (fun i hi e => ?_),h.sr0,h.sr.keep hK hO (fun k hk e => ?_),h.new,h.inv,h.fw,h.bt0,hb,hS.row hK h.ans (by decide),hS.row hK h.wts (by decide),h.ap⟩
 ·have e:i=bt:=e
  have:=h.bt0
  omega
 ·have e:k=bt:=e
  subst e
  exact h.sr.not h.box (by decide) (by decide) hk
theorem AftAt.app1 {w0 w w':World} {b bt:Nat} {x0 x:CX} {cs:List Cls} {a:List (List Sym) × Names} {m:SN} {c0 c1:Value} {tr st:Nat} {av av':Value} {A:List (List UInt8)} {X:List UInt8} {wv:Value} {W:List (List UInt8)} (h:AftAt w0 w b bt x0 x cs a m c0 c1 tr st av A wv W) (hA:Appended w w0.heap.size 9 1 av (A.length+1) (strs A++[.string ⟨X.toArray⟩]) av' w') :
  AftAt w0 w' b bt x0 x cs a m c0 c1 tr st av' (A++[X]) wv W:=by
 have hS:OfTy (Zbo av) w 9:=Zqw h.ans
 have hge:∀ k,Zbo av k→w0.heap.size≤k:=fun k hk=>(h.ans.lt k hk).1
 obtain ⟨m0,h0⟩:=h.sr0
 refine ⟨h.kept.then hA.kept (fun i hi e=>absurd (hge i e) (by omega)),h.sr0,h0.texts h.kept h.sr h.new hA.kept hS hge,h.new,h.inv,h.fw,h.bt0,hS.block hA.kept h.box (by decide),?_,?_,fun k hk hk2 => ?_⟩
 ·have:=hA.owns
  simpa [strs] using this
 ·exact Zao h.wts (fun k hk=>hA.kept.block k (h.wts.lt k hk).2 (fun e=>h.ap k e hk))
 ·rcases hA.where_ with e | ⟨g,e,hg⟩
  ·exact h.ap k (by unfold Zbo at hk ⊢; rw [← e]; exact hk) hk2
  ·unfold Zbo at hk
   rw [e] at hk
   simp at hk
   have:=(h.wts.lt k hk2).2
   omega
theorem AftAt.app2 {w0 w w':World} {b bt:Nat} {x0 x:CX} {cs:List Cls} {a:List (List Sym) × Names} {m:SN} {c0 c1:Value} {tr st:Nat} {av wv':Value} {A:List (List UInt8)} {X:List UInt8} {wv:Value} {W:List (List UInt8)} (h:AftAt w0 w b bt x0 x cs a m c0 c1 tr st av A wv W) (hA:Appended w w0.heap.size 9 1 wv (W.length+1) (strs W++[.string ⟨X.toArray⟩]) wv' w') :
  AftAt w0 w' b bt x0 x cs a m c0 c1 tr st av A wv' (W++[X]):=by
 have hS:OfTy (Zbo wv) w 9:=Zqw h.wts
 have hge:∀ k,Zbo wv k→w0.heap.size≤k:=fun k hk=>(h.wts.lt k hk).1
 obtain ⟨m0,h0⟩:=h.sr0
 refine ⟨h.kept.then hA.kept (fun i hi e=>absurd (hge i e) (by omega)),h.sr0,h0.texts h.kept h.sr h.new hA.kept hS hge,h.new,h.inv,h.fw,h.bt0,hS.block hA.kept h.box (by decide),?_,?_,fun k hk hk2 => ?_⟩
 ·exact Zao h.ans (fun k hk=>hA.kept.block k (h.ans.lt k hk).2 (fun e=>h.ap k hk e))
 ·have:=hA.owns
  simpa [strs] using this
 ·rcases hA.where_ with e | ⟨g,e,hg⟩
  ·exact h.ap k hk (by unfold Zbo at hk2 ⊢; rw [← e]; exact hk2)
  ·unfold Zbo at hk2
   rw [e] at hk2
   simp at hk2
   have:=(h.ans.lt k hk).2
   omega
end Go.Proofs.YtlmjilpjmgjjcabDoor
