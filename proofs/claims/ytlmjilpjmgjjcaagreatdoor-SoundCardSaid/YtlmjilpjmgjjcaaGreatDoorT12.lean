/-
  PROVED HERE: what the program's method 'enter' of a held tree's text does (the conditions stand in each statement).
-/
import Derived.Test.YtlmjilpjmgjjcaaGreatDoorT11
import Derived.Deep.CutRange
set_option linter.unusedSimpArgs false
set_option linter.unusedVariables false
set_option maxRecDepth 10000
set_option maxHeartbeats 4000000
namespace Go.Proofs.YtlmjilpjmgjjcaaGreatDoor
open Go.RowKit
def ltr (Mf:List Nat) (t:List Sym):UInt8:=match t with
 | [s]=>if s.name=[] then UInt8.ofNat (65+Mf.idxOf s.num) else s.name.headD 0
 | _=>0
theorem Zyr (n:Nat) (met:List Nat):met <+: meet n met∧n ∈ meet n met∧(meet n met).idxOf n=met.idxOf n:=by
 unfold meet
 by_cases h:n ∈ met
 ·have:=List.idxOf_lt_length_iff.2 h
  rw [if_neg (by omega)]
  exact ⟨List.prefix_refl _,h,rfl⟩
 ·have h1:met.idxOf n=met.length:=by
   have h2:=List.idxOf_le_length (a:=n) (l:=met)
   have h3:¬ met.idxOf n<met.length:=fun e=>h (List.idxOf_lt_length_iff.1 e)
   omega
  rw [if_pos h1]
  refine ⟨List.prefix_append _ _,by simp,?_⟩
  rw [h1,List.idxOf_append,if_neg h]
  simp
theorem Ynk {a b:List Nat} (h:a <+: b) {n:Nat} (hn:n ∈ a):b.idxOf n=a.idxOf n:=by
 obtain ⟨r,rfl⟩:=h
 rw [List.idxOf_append,if_pos hn]
theorem Zpy:∀ (ts:List (List Sym)) (met:List Nat),(∀ t ∈ ts,F1 t)→met <+: (Zay ts met).2∧(Zay ts met).2.length≤met.length+ts.length:=by
 intro ts
 induction ts with
 | nil=>intro met _; exact ⟨List.prefix_refl _,by simp [Zay]⟩
 | cons t ts ih =>
  intro met hf
  obtain ⟨s,rfl,hs⟩:=hf t (by simp)
  have h:=ih (Zas [s] met).2 (fun x hx=>hf x (by simp [hx]))
  have h1:met <+: (Zas [s] met).2∧(Zas [s] met).2.length≤met.length+1:=by
   simp only [Zas]
   split
   ·refine ⟨(Zyr _ _).1,?_⟩
    unfold meet
    split <;> simp
   ·exact ⟨List.prefix_refl _,by simp⟩
  simp only [Zay,Qf]
  exact ⟨h1.1.trans h.1,by omega⟩
theorem Ybu:∀ (ts:List (List Sym)) (met Mf:List Nat),(∀ t ∈ ts,F1 t)→(Zay ts met).2 <+: Mf→Mf.length≤26 →
  (Zay ts met).1.map (fun t=>Zce t [])=ts.map (fun t=>[ltr Mf t])∧∀ t ∈ ts,∀ v,Occ v t→v ∈ Mf:=by
 intro ts
 induction ts with
 | nil=>intro met Mf _ _ _; exact ⟨rfl,by simp⟩
 | cons t ts ih =>
  intro met Mf hf hM h26
  obtain ⟨s,rfl,hs⟩:=hf t (by simp)
  have hf2:∀ t ∈ ts,F1 t:=fun x hx=>hf x (by simp [hx])
  simp only [Zay] at hM ⊢
  obtain ⟨i1,i2⟩:=ih (Zas [s] met).2 Mf hf2 hM h26
  have hp:=(Zpy ts (Zas [s] met).2 hf2).1.trans hM
  by_cases hn:s.name=[]
  ·have hc:Zas [s] met=([⟨[],met.idxOf s.num,s.args⟩],meet s.num met):=by simp [Zas,hn]
   rw [hc] at hp i1
   simp only at hp
   obtain ⟨m1,m2,m3⟩:=Zyr s.num met
   have e1:=Ynk hp m2
   have hmem:s.num ∈ Mf:=by obtain ⟨r,rfl⟩:=hp; simp [m2]
   have hlt:=List.idxOf_lt_length_iff.2 hmem
   refine ⟨?_,fun x hx v hv => ?_⟩
   ·rw [hc,List.map_cons,List.map_cons,i1]
    congr 1
    simp only [Zce,ltr,hn,hs.args]
    rw [← m3,← e1]
    simp [symC,Zbv,Zey]
    omega
   ·rcases Qp.1 hx with rfl | hx
    ·obtain ⟨u,hu,h1,h2⟩:=hv
     simp at hu
     subst hu
     rw [← h2]
     exact hmem
    ·exact i2 x hx v hv
  ·have hc:Zas [s] met=([s],met):=by simp [Zas,hn]
   rw [hc] at i1
   refine ⟨?_,fun x hx v hv => ?_⟩
   ·rw [hc,List.map_cons,List.map_cons,i1]
    congr 1
    obtain ⟨c,hc3,e⟩:=Ylh (hs.name.resolve_left hn)
    simp only [Zce,ltr,hs.args]
    simp [symC,Zbv,e]
   ·rcases Qp.1 hx with rfl | hx
    ·obtain ⟨u,hu,h1,h2⟩:=hv
     simp at hu
     subst hu
     exact absurd h1 hn
    ·exact i2 x hx v hv
def ansT:List UInt8→List Nat→List UInt8→List UInt8
 | sep,v::vs,b::bs=>sep++(symA v::61::b::ansT [44] vs bs)
 | _,_,_=>[]
def nmV (v:Nat):List UInt8:=[symA v]
theorem Ygu:∀ (vs:List Nat) (ts:List (List Sym)) (bs:List UInt8) (sep:List UInt8),ts.map (fun t=>Zce t [])=bs.map (fun b=>[b])→Zhe sep (vs.map nmV) ts=ansT sep vs bs:=by
 intro vs
 induction vs with
 | nil=>intro ts bs sep _; cases ts <;> cases bs <;> simp [Zhe,ansT]
 | cons v vs ih =>
  intro ts bs sep h
  cases ts with
  | nil =>
   cases bs with
   | nil=>simp [Zhe,ansT]
   | cons b bs=>simp at h
  | cons t ts =>
   cases bs with
   | nil=>simp at h
   | cons b bs =>
    simp only [List.map_cons,List.cons.injEq] at h
    simp only [List.map_cons,Zhe,ansT]
    rw [h.1,ih ts bs [44] h.2]
    rfl
def Zuj (n:Nat) (vs:List Nat) (bs:List UInt8):Prop:=∀ (i v:Nat) (b:UInt8),vs[i]?=some v→bs[i]?=some b→((97≤b.toNat∧b.toNat≤122)→symA (gA n v)=b)∧∀ (k v':Nat) (b':UInt8),k<i→vs[k]?=some v'→bs[k]?=some b'→b=b'→gA n v=gA n v'
theorem Ynl {c:Nat} (h:c<3):97≤(symA c).toNat∧(symA c).toNat≤122:=by
 rcases (by omega:c=0∨c=1∨c=2) with rfl | rfl | rfl <;> decide
theorem Ynm {s:Sym} (hs:ArgS s) (hn:s.name=[]):[s]=vr s.num:=by
 have h2:=hs.args
 cases s
 simp only at hn h2
 subst hn h2
 rfl
theorem Ykf {vals:List (List Sym)} {Mf:List Nat} {n:Nat} {vs:List Nat} (hF:∀ t ∈ vals,F1 t) (hw:∀ t ∈ vals,Wf 1 t) (hl:vs.length=vals.length) (hi:Zuj n vs (vals.map (ltr Mf))):∃ θ,Gnd θ∧vals.map (ap θ)=vs.map (fun v=>cst (gA n v)):=by
 have key:∀ u:Nat,∃ c,c<3∧∀ (i v:Nat),vals[i]?=some (vr u)→vs[i]?=some v→gA n v=c:=by
  intro u
  by_cases h:∃ i:Nat,vals[i]?=some (vr u)
  ·obtain ⟨i,hi0⟩:=h
   have hil:=(Qa.1 hi0).1
   obtain ⟨v0,hv0⟩:∃ v0,vs[i]?=some v0:=⟨_,Qb (by omega)⟩
   refine ⟨gA n v0,Zla _ _,fun j v hj hv => ?_⟩
   have bi:(vals.map (ltr Mf))[i]?=some (ltr Mf (vr u)):=by rw [Qj,hi0]; rfl
   have bj:(vals.map (ltr Mf))[j]?=some (ltr Mf (vr u)):=by rw [Qj,hj]; rfl
   rcases Nat.lt_trichotomy i j with h | h | h
   ·exact (hi j v _ hv bj).2 i v0 _ h hv0 bi rfl
   ·subst h
    rw [hv] at hv0
    simp at hv0
    rw [hv0]
   ·exact ((hi i v0 _ hv0 bi).2 j v _ h hv bj rfl).symm
  ·exact ⟨0,by omega,fun i v hi0 _=>absurd ⟨i,hi0⟩ h⟩
 refine ⟨fun u=>cst (Classical.choose (key u)),fun u=>⟨_,(Classical.choose_spec (key u)).1,rfl⟩,?_⟩
 refine List.ext_getElem? (fun i => ?_)
 rw [Qj,Qj]
 by_cases hil:i<vals.length
 ·obtain ⟨t,ht⟩:∃ t,vals[i]?=some t:=⟨_,Qb hil⟩
  obtain ⟨v,hv⟩:∃ v,vs[i]?=some v:=⟨_,Qb (by omega)⟩
  rw [ht,hv]
  simp only [Option.map_some,Qo]
  have htm:=Qh ht
  obtain ⟨s,rfl,hs⟩:=hF t htm
  by_cases hn:s.name=[]
  ·rw [Ynm hs hn] at ht ⊢
   rw [Zoh,(Classical.choose_spec (key s.num)).2 i v ht hv]
  ·obtain ⟨c,hc,e⟩:=Zwr hs (hw _ htm) hn
   rw [e] at ht ⊢
   have bi:(vals.map (ltr Mf))[i]?=some (symA c):=by rw [Qj,ht]; simp [cst,ltr]
   have h1:=(hi i v _ hv bi).1 (Ynl hc)
   have h2:=Zkp (by have:=Zla n v; omega) (by omega) h1
   rw [h2,cst,Zbb,Zfp]
   simp [ap1]
 ·rw [List.getElem?_eq_none (by omega),List.getElem?_eq_none (by omega)]
  rfl
def addV (out:List Nat) (a:Nat):List Nat:=if a<3∨a ∈ out then out else out++[a]
def askF (out:List Nat) (x:At3):List Nat:=addV (addV out x.2.1) x.2.2
def askV (l:List At3):List Nat:=l.foldl askF []
theorem Ygv {out:List Nat} {a:Nat} (h:∀ v ∈ out,3≤v∧v<6) (ha:a<6):∀ v ∈ addV out a,3≤v∧v<6:=by
 intro v hv
 unfold addV at hv
 split at hv
 ·exact h v hv
 ·rename_i hn
  rcases Qk.1 hv with hv | hv
  ·exact h v hv
  ·simp at hv
   subst hv
   exact ⟨by omega,ha⟩
theorem Zuk {out:List Nat} {i:Nat} (h:∀ v ∈ out,3≤v∧v<6) (hi:i<6):((argT i).syms (out.map nmV)).2=(addV out i).map nmV:=by
 unfold argT addV
 by_cases h3:i<3
 ·rw [if_pos h3,if_pos (Or.inl h3)]
  rfl
 ·rw [if_neg h3]
  show (Zbf (out.map nmV) [symA i]).1=_
  unfold Zbf
  by_cases hm:i ∈ out
  ·have n1:i<3∨i ∈ out:=Or.inr hm
   have n2:[symA i] ∈ out.map nmV:=List.mem_map.2 ⟨i,hm,rfl⟩
   rw [if_pos n1,if_pos n2]
  ·have n1:¬ (i<3∨i ∈ out):=fun e=>by
    rcases e with e | e
    ·exact h3 e
    ·exact hm e
   have n2:[symA i] ∉ out.map nmV:=fun e=>by
    obtain ⟨v,hv,e⟩:=List.mem_map.1 e
    simp only [nmV,List.cons.injEq,and_true] at e
    have:=Zkp (h v hv).2 hi e
    exact hm (this ▸ hv)
   rw [if_neg n1,if_neg n2]
   simp [nmV]
theorem Zoc:∀ (l:List At3) (out:List Nat),(∀ x ∈ l,AtOk x)→(∀ v ∈ out,3≤v∧v<6)→(Zee (l.map atG) (out.map nmV)).2=(l.foldl askF out).map nmV∧∀ v ∈ l.foldl askF out,3≤v∧v<6:=by
 intro l
 induction l with
 | nil=>intro out _ h; exact ⟨rfl,h⟩
 | cons x l ih =>
  intro out ho h
  obtain ⟨P,A,B⟩:=x
  have hx:=ho (P,A,B) (by simp)
  have h1:=Zuk h hx.2.1
  have k1:=Ygv h hx.2.1
  have h2:=Zuk k1 hx.2.2
  have k2:=Ygv k1 hx.2.2
  have e:((atG (P,A,B)).syms (out.map nmV)).2=(askF out (P,A,B)).map nmV:=by
   show ((argT B).syms ((argT A).syms (out.map nmV)).2).2=_
   rw [h1]
   exact h2
  simp only [List.map_cons,Zee,List.foldl_cons]
  rw [e]
  exact ih _ (fun y hy=>ho y (by simp [hy])) k2
theorem Zys (out:List Nat) (a:Nat):(addV out a).length≤out.length+1:=by unfold addV; split <;> simp
theorem Zmk (l:List At3):(askV l).length≤2 * l.length:=by
 have key:∀ (l:List At3) (out:List Nat),(l.foldl askF out).length≤out.length+2 * l.length:=by
  intro l
  induction l with
  | nil=>intro out; simp
  | cons x l ih =>
   intro out
   have:=ih (askF out x)
   have h1:=Zys out x.2.1
   have h2:=Zys (addV out x.2.1) x.2.2
   simp only [List.foldl_cons,Qf]
   unfold askF at this ⊢
   omega
 have:=key l []
 simpa [askV] using this
theorem Zul:∀ (R:List (At3 × List At3)),(∀ r ∈ R,RlOk r)→(Zby (R.map rlG)).length≤40 * R.length:=by
 intro R
 induction R with
 | nil=>intro _; simp [Zby]
 | cons y R ih =>
  intro hl
  have h1:=ih (fun z hz=>hl z (by simp [hz]))
  have h2:=(hl y (by simp)).2.2
  have h3:(clT (rlG y).1 (rlG y).2).length≤40:=by
   show (clT (atG y.1) (y.2.map atG)).length≤40
   have h6:(atG y.1).text.length=6:=Znf _ _ _
   by_cases hb:y.2.map atG=[]
   ·rw [hb]
    simp only [clT,Qg,Qn]
    omega
   ·rw [Zxt _ _ hb]
    have h5:=Zkf y.2
    simp only [Qg,Qf,Jt]
    omega
  simp only [List.map_cons,Zby,List.flatMap_cons,Qg,Qf] at h1 ⊢
  omega
theorem Zpz {R:List (At3 × List At3)} (h:∀ r ∈ R,RlOk r):∀ c ∈ R.map rlG,ClFine c:=fun c hc=>by
 obtain ⟨y,hy,rfl⟩:=List.mem_map.1 hc
 have ho:=h y hy
 refine ⟨Zqz _ _ _ ho.1.1 ho.1.2.1 ho.1.2.2,fun t ht => ?_,by have:=ho.2.2; simp [rlG]; omega⟩
 obtain ⟨z,hz,rfl⟩:=List.mem_map.1 ht
 have:=ho.2.1 z hz
 exact Zqz _ _ _ this.1 this.2.1 this.2.2
theorem Zqa {R:List (At3 × List At3)} (h:∀ r ∈ R,RlOk r) (hl:R.length≤8):Zci ⟨(Zby (R.map rlG)).toArray⟩=some ((R.map rlG).map clOf) :=
 Zne _ (Zpz h) (by simp; omega) (by have:=Zul R h; omega)
theorem Ygw {l:List At3} (h:∀ x ∈ l,AtOk x) (h1:1≤l.length) (h2:l.length≤2):Zep ⟨(Zeq (l.map atG)++[46]).toArray⟩=some (Zee (l.map atG) []):=by
 have h5:=Zkf l
 cases l with
 | nil=>simp at h1
 | cons x l =>
  have hx:∀ y ∈ x::l,(atG y).fine=true:=fun y hy=>by
   have:=h y hy
   exact Zqz _ _ _ this.1 this.2.1 this.2.2
  simp only [Qf] at h2 h5
  refine Zpd (atG x) (l.map atG) (hx x (by simp)) (fun u hu => ?_) (by simp; omega) ?_
  ·obtain ⟨z,hz,rfl⟩:=List.mem_map.1 hu
   exact hx z (by simp [hz])
  ·have:(Zeq ((x::l).map atG)).length≤14:=by omega
   simp only [List.map_cons,Zeq] at this
   simp only [Qg,Qf,Jt]
   omega
def Zoo (vs:List Nat) (bs:List UInt8):List UInt8:=if vs=[] then [121,101,115] else ansT [] vs bs
theorem Ygx {names:Names} {vs:List Nat} {n:ND} (hn:NOk n) (hf:FFn n) (he:names=vs.map nmV) (hl:n.vals.length=vs.length) (h26:vs.length≤26) :
  ∃ Mf:List Nat,Zbp names n=Zoo vs (n.vals.map (ltr Mf))∧∀ t ∈ n.vals,∀ v,Occ v t→v ∈ Mf:=by
 obtain ⟨c1,c2⟩:=Zpy n.vals [] hf.vals
 obtain ⟨d1,d2⟩:=Ybu n.vals [] (Zay n.vals []).2 hf.vals (List.prefix_refl _) (by simp at c2; omega)
 refine ⟨(Zay n.vals []).2,?_,d2⟩
 unfold Zbp Zoo
 rw [he]
 by_cases h0:vs=[]
 ·rw [if_pos h0,if_pos (by rw [h0]; rfl)]
 ·rw [if_neg h0,if_neg (by simpa using h0)]
  exact Ygu vs _ _ [] (by rw [d1,List.map_map]; rfl)
theorem Yos {l:List At3} (hl:∀ x ∈ l,AtOk x):FFn (topN (Zee (l.map atG) [])):=by
 obtain ⟨h3,_⟩:=Ygq l [] hl
 refine ⟨fun g hg => ?_,fun v hv => ?_,fun g hg=>by simp [topN] at hg⟩
 ·simp only [topN,List.mem_map] at hg
  obtain ⟨t,ht,rfl⟩:=hg
  exact h3 t ht
 ·simp only [topN,List.mem_map] at hv
  obtain ⟨i,_,rfl⟩:=hv
  exact Yiu i
theorem Ygy {R:List (At3 × List At3)} (hR:∀ r ∈ R,RlOk r) (hl:R.length≤8):∀ c ∈ (R.map rlG).map clOf,COk c∧FFc c∧ClsM (Zfo R) c:=by
 have hp:=Zqa hR hl
 obtain ⟨_,_,_,hcs,_⟩:=Zej hp
 intro c hc
 have hc2:=hc
 simp only [List.map_map,List.mem_map,Function.comp] at hc2
 obtain ⟨r,hr,rfl⟩:=hc2
 obtain ⟨h1,_⟩:=Yom (hR r hr).1 []
 obtain ⟨h3,_⟩:=Ygq r.2 ((atG r.1).syms []).2 (hR r hr).2.1
 exact ⟨(hcs _ hc).1,⟨h1,h3⟩,Yke (Zrd R hR) hr (hR r hr)⟩
theorem Ykg {l:List At3} (hl:∀ x ∈ l,AtOk x) {M:List Bool} {n:Nat} {θ:Nat→List Sym} (ev:(topN (Zee (l.map atG) [])).vals.map (ap θ)=(askV l).map (fun v=>cst (gA n v))):(∀ g ∈ (topN (Zee (l.map atG) [])).goals,Zon M (ap θ g.1))↔hAll M n l=true:=by
 obtain ⟨e1,e2⟩:=Zoc l [] hl (by simp)
 have hF:Ybt θ (Zee (l.map atG) []).2 n:=by
  intro j i hj hi
  have e1':(Zee (l.map atG) []).2=(askV l).map nmV:=e1
  rw [e1',Qj,Option.map_eq_some_iff] at hi
  obtain ⟨v,hv,e⟩:=hi
  simp only [nmV,List.cons.injEq,and_true] at e
  have hve:=Zkp (e2 v (Qh hv)).2 (by omega) e
  have hvl:=(Qa.1 hv).1
  have h1:=congrArg (fun z=>z[i]?) ev
  simp only [topN,Qj,hv,Option.map_some] at h1
  rw [List.getElem?_range (by rw [e1']; simpa using hvl)] at h1
  simp only [Option.map_some,Qo] at h1
  rw [Zoh] at h1
  rw [h1,hve]
  unfold gA
  rw [if_neg (by omega),Nat.add_sub_cancel_left]
 rw [← Zyq hF M l [] hl (List.prefix_refl _)]
 simp only [topN,List.mem_map]
 constructor
 ·intro h t ht
  exact h (t,0) ⟨t,ht,rfl⟩
 ·rintro h _ ⟨t,ht,rfl⟩
  exact h t ht
theorem Zwt {R:List (At3 × List At3)} (hR:∀ r ∈ R,RlOk r) (hRl:R.length≤8) {l:List At3} (hl:∀ x ∈ l,AtOk x) (h1:1≤l.length) (h2:l.length≤2) (x:ByteArray) :
  ((yesN ⟨(Zby (R.map rlG)).toArray⟩ ⟨(Zeq (l.map atG)++[46]).toArray⟩ x).2.1≠0∧(yesN ⟨(Zby (R.map rlG)).toArray⟩ ⟨(Zeq (l.map atG)++[46]).toArray⟩ x).1=[]∧((yesN ⟨(Zby (R.map rlG)).toArray⟩ ⟨(Zeq (l.map atG)++[46]).toArray⟩ x).2.1=6∨(yesN ⟨(Zby (R.map rlG)).toArray⟩ ⟨(Zeq (l.map atG)++[46]).toArray⟩ x).2.1=7∨(yesN ⟨(Zby (R.map rlG)).toArray⟩ ⟨(Zeq (l.map atG)++[46]).toArray⟩ x).2.1=1)) ∨
  ((yesN ⟨(Zby (R.map rlG)).toArray⟩ ⟨(Zeq (l.map atG)++[46]).toArray⟩ x).2.1=0∧∃ bs:List UInt8,bs.length=(askV l).length∧(yesN ⟨(Zby (R.map rlG)).toArray⟩ ⟨(Zeq (l.map atG)++[46]).toArray⟩ x).1=Zoo (askV l) bs∧∀ n,n<27→Zuj n (askV l) bs→hAll (Zfo R) n l=true):=by
 have hp:=Zqa hR hRl
 have hq:=Ygw hl h1 h2
 have hcs:=Ygy hR hRl
 obtain ⟨_,_,_,hN,_⟩:=Zdx hq
 have hT:=Yos hl
 have hnm:(Zee (l.map atG) []).2=(askV l).map nmV:=(Zoc l [] hl (by simp)).1
 have hal:=Zmk l
 unfold yesN Zdv
 rw [hp,hq]
 simp only
 by_cases hx:400<x.size
 ·rw [if_pos hx]
  left
  simp
 ·rw [if_neg hx]
  cases hnum:Zct x with
  | mk o at' =>
   cases o with
   | none =>
    left
    simp
   | some ks =>
    simp only
    by_cases h0:(Zap ((R.map rlG).map clOf) (topN (Zee (l.map atG) [])) ks 0).2.1=0
    ·right
     rw [if_pos h0]
     obtain ⟨i1,i2,i3,i4⟩:=Zui hcs ks _ 0 hN hT h0
     have hvl:(Zap ((R.map rlG).map clOf) (topN (Zee (l.map atG) [])) ks 0).1.vals.length=(askV l).length:=by
      obtain ⟨θ,_,e,_⟩:=i4 (fun _=>cst 0) (fun _=>⟨0,by omega,rfl⟩)
      have:=congrArg List.length e
      simp only [Ql] at this
      rw [← this]
      simp [topN,hnm]
     obtain ⟨Mf,hA,_⟩:=Ygx i2 i1 hnm hvl (by omega)
     refine ⟨rfl,_,by rw [Ql,hvl],hA,fun n hn hi => ?_⟩
     obtain ⟨θ1,g1,e1⟩:=Ykf i1.vals (fun t ht=>i2.wf t (List.mem_append_right _ (List.mem_append_left _ ht))) hvl.symm hi
     obtain ⟨θ,g,e,hh⟩:=i4 θ1 g1
     exact (Ykg hl (e.trans e1)).1 hh
    ·left
     rw [if_neg h0]
     refine ⟨h0,rfl,Or.inr (Or.inl ?_)⟩
     have key:∀ (ks:List Nat) (n:ND) (i:Nat),(Zap ((R.map rlG).map clOf) n ks i).2.1=0∨(Zap ((R.map rlG).map clOf) n ks i).2.1=7:=by
      intro ks
      induction ks with
      | nil=>intro n i; unfold Zap; split <;> simp
      | cons k ks ih =>
       intro n i
       rw [Zap]
       split
       ·simp
       ·split
        ·simp
        ·split
         ·exact ih _ _
         ·simp
     rcases key ks _ 0 with h | h
     ·exact absurd h h0
     ·exact h
def BldP (w0:World) (v1:Value) (w1:World):List Value→World→Prop
 | [],y=>y=w0
 | v::_,y=>v=v1∧y=w1
structure OutAt (w u:World) (tb A B:Nat) (sv:Value) (out:List Nat):Prop where
 owns:u.ownsRow w.heap.size 3 1 sv out.length (ints out)
 ext:Ext w u
 box:u.heap[tb]?=some (.cells #[.int .i64 A,.int .i64 B] 3 (0,0))
 far:∀ k,Zbn sv k→k≠tb
theorem OutAt.drewN {w u:World} {tb A B:Nat} {sv:Value} {out:List Nat} (h:OutAt w u tb A B sv out) (n:Nat):OutAt w (u.drewN n) tb A B sv out :=
 ⟨Zai h.owns (fun k hk=>rfl),Zdq h.ext n,h.box,h.far⟩
theorem Zwu {l:List Nat} {j v:Nat} (h:l[j]?=some v):(ints l)[j]?=some (.int .i64 v):=by unfold ints; rw [Qj,h]; rfl
set_option maxHeartbeats 8000000 in
theorem Zum (w:World) (a:Option Addr) (c:Nat) (l:List At3) (h:AtomsIn w (.slice a l.length c) l) (hl:l.length≤100):Calls Tryz.prog 46 #[.slice a l.length c] w fun e w'=>∃ (va:Option Addr) (vc:Nat),e = .returned (.slice va (askV l).length vc)∧w'.ownsRow w.heap.size 3 1 (.slice va (askV l).length vc) (askV l).length (ints (askV l))∧Ext w w':=by
 have H:Hid (∀ u,Ext w u→AtomsIn u (.slice a l.length c) l):=fun u hu=>h.ext hu
 have HO:=Zac h.ok
 clear h
 go_enter Tryz.func46,Tryz.ntmps46
 go_wp2
 go_loopw [3,4] (fun sv i u=>∃ (k:Nat) (va:Option Addr) (vc:Nat) (out:List Nat),k≤l.length∧i = .int .i64 k∧out=(l.take k).foldl askF []∧sv = .slice va out.length vc∧u.ownsRow w.heap.size 3 1 (.slice va out.length vc) out.length (ints out)∧Ext w u) (fun _ i _=>l.length - (intOf i).toNat)
 case atStart=>exact ⟨0,none,0,[],Qm _,rfl,rfl,rfl,World.ownsRow_nil _ _ _ _,Below.refl _ _⟩
 case round =>
  obtain ⟨k,va,vc,out,hk,rfl,hout,rfl,hrow,hEu⟩:=hrel
  by_cases hlt:k<l.length
  ·obtain ⟨x,hx⟩:∃ x,l[k]?=some x:=⟨_,Qb hlt⟩
   obtain ⟨P,A,B⟩:=x
   have Hnext:Hid ((l.take (k+1)).foldl askF []=addV (addV out A) B):=Zac (by rw [List.take_add_one,hx,List.foldl_append,← hout]; rfl)
   obtain ⟨g,rfl,hg,d0,d1,d2⟩:=(H.out wr hEu).cells hx
   obtain ⟨o1,o2,o3⟩:=HO.out _ (Qh hx)
   simp only at d0 d1 d2 o1 o2 o3
   have hol:out.length≤2 * k:=by
    have:=Zmk (l.take k)
    rw [List.length_take] at this
    rw [hout]
    show (askV (l.take k)).length≤_
    omega
   obtain ⟨tb,htb⟩:∃ tb,tb=wr.heap.size:=⟨_,rfl⟩
   obtain ⟨U1,hU1⟩:∃ U1,U1=wr.drew.alloc (.cells #[.int .i64 A,.int .i64 B] 3):=⟨_,rfl⟩
   have HO1:Hid (OutAt w U1 tb A B (.slice va out.length vc) out):=by
    have e1:Ext wr U1:=by rw [hU1]; exact (Ext.of (by repeat' (first | with_reducible(first|exact Qx _ _|apply Kept.drew|apply Kept.drewN|apply Qz|refine Qy ?_ ?_ _)|exact fun h=>absurd h (by simp <;> omega))))
    refine ⟨Zai hrow (fun j hj=>e1.block j (hrow.lt j hj).2),Zaw hEu e1,by rw [hU1,htb]; exact heap_alloc_new _ _,fun j hj e=>by have:=(hrow.lt j hj).2; omega⟩
   have HU1:=Zac hU1
   have Htb:=Zac htb
   have HEu:=Zac hEu
   have Hout:=Zac hout
   clear hrow hEu hx hout hU1 htb
   go_wp2_with fail
   refine Zev (by kernel_rfl) [.rd 0 0 (fun _ => .slice (some ⟨g,0,none⟩) l.length c),.rd 0 0 (fun _ => .int .i64 k),.rd 0 0 (fun _ => .pointer (some ⟨g,k * 3,none⟩)),.rd 0 0 (fun _ => .pointer (some ⟨g,k * 3+1,none⟩)),.rd 0 0 (fun _ => .int .i64 A),.rd 0 0 (fun _ => .slice (some ⟨g,0,none⟩) l.length c),.rd 0 0 (fun _ => .int .i64 k),.rd 0 0 (fun _ => .pointer (some ⟨g,k * 3,none⟩)),.rd 0 0 (fun _ => .pointer (some ⟨g,k * 3+2,none⟩)),.rd 0 0 (fun _ => .int .i64 B),.st 0,.rd 1 1 (fun vs=>vs.getD 0 undef)] 1 12 (by kernel_rfl)
    (BldP wr.drew (.slice (some ⟨tb,0,none⟩) 2 2) U1) rfl ?_ ?_
   ·refine ⟨⟨trivial,fun vs y hlo hl hS => ?_⟩,⟨trivial,fun vs y hlo hl hS => ?_⟩,⟨trivial,fun vs y hlo hl hS => ?_⟩,⟨trivial,fun vs y hlo hl hS => ?_⟩,⟨trivial,fun vs y hlo hl hS => ?_⟩,⟨trivial,fun vs y hlo hl hS => ?_⟩,⟨trivial,fun vs y hlo hl hS => ?_⟩,⟨trivial,fun vs y hlo hl hS => ?_⟩,⟨trivial,fun vs y hlo hl hS => ?_⟩,⟨trivial,fun vs y hlo hl hS => ?_⟩,⟨trivial,fun vs y hl hS => ?_⟩,⟨trivial,fun vs y hlo hl hS => ?_⟩,trivial⟩
    all_goals try (obtain rfl:=List.length_eq_zero_iff.1 (Nat.le_zero.1 hl); obtain rfl:y=wr.drew:=hS; simp [phAll,phA,pa,Ph.kd,Ph.val,Kd.val,go_sem,d0,d1,d2,hg,hlt]; done)
    ·obtain rfl:=List.length_eq_zero_iff.1 hl
     obtain rfl:y=wr.drew:=hS
     exact .value _ _ (by simp [phAll,phA,pa,Ph.kd,Ph.val,Kd.val,go_sem]; exact ⟨Htb.out.symm,by rw [HU1.out]; rfl⟩) ⟨rfl,rfl⟩
    ·obtain ⟨v,rfl⟩:=List.length_eq_one_iff.1 (show vs.length=1 by omega)
     simp [phAll,phA,pa,Ph.kd,Ph.val,Kd.val,go_sem]
   rintro vs y hl2 hS
   obtain ⟨v,rfl⟩:=List.length_eq_one_iff.1 hl2
   obtain ⟨rfl,rfl⟩:=hS
   simp only [phAll,phA,paAll,pa,Ph.kd,Ph.val,Kd.val,List.map_cons,List.map_nil,if_true,Act.put,List.setIfInBounds_toArray,List.set_cons_succ,List.set_cons_zero,List.take_succ_cons,List.take_zero,List.getD_cons_zero]
   have HltI:decide ((k:Int)<(l.length:Int))=true:=by simp only [decide_eq_true_eq]; omega
   clear d0 d1 d2 hg
   go_wp2
   go_loopw [3,6] (fun sv i u=>∃ (q:Nat) (va:Option Addr) (vc:Nat) (o1:List Nat),q≤2∧i = .int .i64 q∧o1=([A,B].take q).foldl addV out∧o1.length≤out.length+q∧sv = .slice va o1.length vc∧OutAt w u tb A B (.slice va o1.length vc) o1) (fun _ i _=>2 - (intOf i).toNat)
   case atStart=>exact ⟨0,va,vc,out,by omega,rfl,rfl,by omega,rfl,HO1.out⟩
   case round =>
    obtain ⟨q,va1,vc1,out1,hq,rfl,hout1,hl1,rfl,hO⟩:=hrel
    by_cases hq2:q<2
    ·obtain ⟨t,ht⟩:∃ t,[A,B][q]?=some t:=⟨_,Qb (by simpa using hq2)⟩
     have ht6:t<6:=by
      rcases (by omega:q=0∨q=1) with rfl | rfl
      ·simp at ht; omega
      ·simp at ht; omega
     have Hout2:Hid (([A,B].take (q+1)).foldl addV out=addV out1 t):=Zac (by rw [List.take_add_one,ht,List.foldl_append,← hout1]; rfl)
     have hbt:(#[Value.int .i64 A,Value.int .i64 B])[q]?=some (.int .i64 t):=by
      rcases (by omega:q=0∨q=1) with rfl | rfl
      ·simp at ht; simp [ht]
      ·simp at ht; simp [ht]
     have Hcell:Hid (∀ u:World,u.heap[tb]?=some (.cells #[.int .i64 A,.int .i64 B] 3 (0,0))→u.cell? ⟨tb,q,none⟩=some (.int .i64 t)∧tb<u.heap.size):=fun u hu=>⟨Zaa hu q _ hbt,Zab hu⟩
     obtain ⟨c0,cl⟩:=Hcell.out wr hO.box
     obtain ⟨b3,hb3⟩:∃ b3:Bool,b3=decide ((t:Int)<3):=⟨_,rfl⟩
     have Hb3:Hid (b3=true↔t<3):=by rw [hb3,decide_eq_true_eq]; show _↔_; omega
     have hb3':decide ((t:Int)<3)=b3:=hb3.symm
     have HO2:=Zac hO
     have Hout1:=Zac hout1
     clear hO hbt ht hout1 hb3
     obtain ⟨wq,hwq⟩:∃ wq,wq=wr:=⟨_,rfl⟩
     rw [← hwq] at HO2 c0 cl ⊢
     clear hwq
     clear wr
     have hqd:decide ((q:Int)<2)=true:=by simp only [decide_eq_true_eq]; omega
     go_wp2
     go_loopw [7,8] (fun sv i u=>∃ (j:Nat) (bs:Bool),j≤out1.length∧i = .int .i64 j∧sv = .bool bs∧(bs=true↔(t<3∨t ∈ out1.take j))∧OutAt w u tb A B (.slice va1 out1.length vc1) out1) (fun _ i _=>out1.length - (intOf i).toNat)
     case atStart=>exact ⟨0,b3,Qm _,rfl,rfl,by rw [Hb3.out]; simp,HO2.out⟩
     case round =>
      obtain ⟨j,bs,hj,rfl,rfl,hbs,hO3⟩:=hrel
      have Hbs:=Zac hbs
      have HO3:=Zac hO3
      clear hbs
      by_cases hjl:j<out1.length
      ·obtain ⟨v,hv⟩:∃ v,out1[j]?=some v:=⟨_,Qb hjl⟩
       have htk:t ∈ out1.take (j+1)↔(t ∈ out1.take j∨t=v):=by rw [List.take_add_one,hv]; simp
       obtain ⟨og,hog,hogl,oc⟩:∃ og,va1=some ⟨og,0,none⟩∧og<wr.heap.size∧wr.cell? ⟨og,j,none⟩=some (.int .i64 v):=by
        rcases hO3.owns.2 with ⟨h1,h2⟩ | ⟨og,cap,cur,h1,_⟩
        ·omega
        ·simp only [Value.slice.injEq] at h1
         obtain ⟨rfl,_,rfl⟩:=h1
         exact ⟨og,rfl,(hO3.owns.lt og rfl).2,Zag hO3.owns _ _ (Zwu hv)⟩
       obtain ⟨e0,el⟩:=Hcell.out wr hO3.box
       subst hog
       have Htk:=Zac htk
       clear hO3 hv htk c0 cl
       cases bs with
       | true =>
        go_wp2_with fail
        go_quiet (fail)
        go_wp2
        go_roundw
        case rel=>exact ⟨j+1,true,by omega,by go_num,rfl,by rw [Htk.out]; have:=Hbs.out; simp at this ⊢; rcases this with h | h <;> simp [h],HO3.out.drewN _⟩
        case measure=>simp [intOf]; omega
       | false =>
        obtain ⟨b4,hb4⟩:∃ b4:Bool,((v:Int) == (t:Int))=b4:=⟨_,rfl⟩
        have Hb4:Hid (b4=true↔v=t):=by
         show _↔_
         rw [← hb4,beq_iff_eq]
         omega
        go_wp2_with fail
        go_quiet (fail)
        go_wp2
        go_roundw
        case rel =>
         refine ⟨j+1,b4,by omega,by go_num,rfl,?_,HO3.out.drewN _⟩
         rw [Htk.out,Hb4.out]
         have:=Hbs.out
         simp at this
         constructor
         ·intro e
          exact Or.inr (Or.inr e.symm)
         ·rintro (h | h | h)
          ·omega
          ·exact absurd h this.2
          ·exact h.symm
        case measure=>simp [intOf]; omega
      ·obtain rfl:j=out1.length:=by omega
       rw [List.take_length] at Hbs
       obtain ⟨e0,el⟩:=Hcell.out wr hO3.box
       clear hO3 c0 cl
       cases bs with
       | true =>
        have Ha:Hid (addV out1 t=out1):=Zac (by unfold addV; rw [if_pos (Hbs.out.1 rfl)])
        go_wp2
        go_roundw
        case rel=>exact ⟨q+1,va1,vc1,out1,by omega,by go_num,by rw [Hout2.out,Ha.out],by omega,rfl,HO3.out⟩
        case measure=>simp [intOf]; omega
       | false =>
        have Ha:Hid (addV out1 t=out1++[t]):=Zac (by unfold addV; rw [if_neg (fun e=>by have:=Hbs.out.2 e; simp at this)])
        have HrU:=Zac HO3.out.owns
        have hbw:w.heap.size≤wr.heap.size:=HO3.out.ext.size
        go_wp2_with (at_builtin; go_loud (refine Zal wr rfl (.tmp 55) (.tmp 60) 25 rfl w.heap.size 3 Tryz.infoInt Tryz.underlying25 rfl (by decide) (.slice va1 out1.length vc1) out1.length (ints out1) rfl HrU.out #[.int .i64 t] (N:=wr.heap.size) rfl rfl rfl (Zhn _) ?_ ?_ ?_))
        ·omega
        ·omega
        intro v4 w4 hA4
        obtain ⟨a4,c4,rfl⟩:=Zae hA4.owns
        have Hend:Hid (OutAt w w4 tb A B (.slice a4 (out1++[t]).length c4) (out1++[t])):=by
         have hfar:¬ Zbn (.slice va1 out1.length vc1) tb:=fun e=>HO3.out.far tb e rfl
         have k1:Ext w wr:=HO3.out.ext
         refine ⟨by simpa [ints] using hA4.owns,?_,(hA4.kept.block tb el hfar).trans HO3.out.box,fun j hj e => ?_⟩
         ·exact ⟨hA4.kept.os.trans k1.os,hA4.kept.tape.trans k1.tape,hA4.kept.output.trans k1.output,Qq k1.size hA4.kept.size,fun i hi=>(hA4.kept.block i (by omega) (fun e=>by have:=(HrU.out.lt i e).1; omega)).trans (k1.block i hi)⟩
         ·subst e
          have hj:Zbn (.slice a4 (out1.length+1) c4) j:=by
           have h5:=hj
           simp only [Qg,Qf,Jt] at h5
           exact h5
          rcases hA4.where_ with hw | ⟨g2,hw,hg2⟩
          ·exact hfar (hw.symm.trans hj)
          ·have:some g2=some j:=hw.symm.trans hj
           simp only [Qo] at this
           omega
        clear hA4
        go_wp2
        go_roundw
        case rel=>exact ⟨q+1,a4,c4,out1++[t],by omega,by go_num,by rw [Hout2.out,Ha.out],by simp; omega,by simp,Hend.out⟩
        case measure=>simp [intOf]; omega
    ·obtain rfl:q=2:=by omega
     have Hend:Hid (out1=(l.take (k+1)).foldl askF []):=Zac (by rw [Hnext.out,hout1]; rfl)
     have Ho:=Zac hO
     clear hO hout1
     go_wp2
     go_roundw
     case rel=>exact ⟨k+1,va1,vc1,out1,by omega,by go_num,Hend.out,rfl,Ho.out.owns,Ho.out.ext⟩
     case measure=>simp [intOf]; omega
  ·obtain rfl:k=l.length:=by omega
   have Hf:Hid (out=askV l):=Zac (by rw [hout,List.take_length]; rfl)
   have Hrow:=Zac hrow
   have HEu:=Zac hEu
   clear hrow hEu hout
   go_wp2
   go_ret
   exact ⟨va,vc,by rw [← Hf.out]; rfl,by rw [← Hf.out]; exact Hrow.out,HEu.out⟩
theorem Ygz:∀ (vs:List Nat) (bs:List UInt8),bs.length=vs.length→(ansT [44] vs bs).length=4 * vs.length:=by
 intro vs
 induction vs with
 | nil=>intro bs _; cases bs <;> simp [ansT]
 | cons v vs ih =>
  intro bs h
  cases bs with
  | nil=>simp at h
  | cons b bs =>
   have:=ih bs (by simpa using h)
   simp only [ansT,Qg,Qf,Jt,this]
   omega
theorem Ykh:∀ (vs:List Nat) (bs:List UInt8) (i v:Nat) (b:UInt8),vs[i]?=some v→bs[i]?=some b→(ansT [44] vs bs)[4 * i]?=some 44∧(ansT [44] vs bs)[4 * i+1]?=some (symA v)∧(ansT [44] vs bs)[4 * i+2]?=some 61∧(ansT [44] vs bs)[4 * i+3]?=some b:=by
 intro vs
 induction vs with
 | nil=>intro bs i v b h; simp at h
 | cons x vs ih =>
  intro bs i v b hv hb
  cases bs with
  | nil=>simp at hb
  | cons y bs =>
   cases i with
   | zero =>
    simp at hv hb
    subst hv hb
    simp [ansT]
   | succ i =>
    simp at hv hb
    obtain ⟨h1,h2,h3,h4⟩:=ih bs i v b hv hb
    simp only [ansT,List.cons_append,List.nil_append,show 4 * (i+1)=4 * i+1+1+1+1 by omega,List.getElem?_cons_succ]
    exact ⟨h1,h2,h3,h4⟩
theorem Zyt {vs:List Nat} {bs:List UInt8} (hv:vs≠[]) (hl:bs.length=vs.length):ansT [44] vs bs=44::ansT [] vs bs:=by
 cases vs with
 | nil=>exact absurd rfl hv
 | cons v vs =>
  cases bs with
  | nil=>simp at hl
  | cons b bs=>simp [ansT]
theorem Yot {vs:List Nat} {bs:List UInt8} (hl:bs.length=vs.length) {i v:Nat} {b:UInt8} (hv:vs[i]?=some v) (hb:bs[i]?=some b):(ansT [] vs bs)[4 * i]?=some (symA v)∧(ansT [] vs bs)[4 * i+1]?=some 61∧(ansT [] vs bs)[4 * i+2]?=some b∧(0<i→(ansT [] vs bs)[4 * i - 1]?=some 44):=by
 have hne:vs≠[]:=fun e=>by rw [e] at hv; simp at hv
 obtain ⟨h1,h2,h3,h4⟩:=Ykh vs bs i v b hv hb
 rw [Zyt hne hl] at h1 h2 h3 h4
 simp only [List.getElem?_cons_succ] at h2 h3 h4
 refine ⟨h2,h3,h4,fun h0 => ?_⟩
 rw [show 4 * i=4 * i - 1+1 by omega,List.getElem?_cons_succ] at h1
 exact h1
theorem Ynn {vs:List Nat} {bs:List UInt8} (hv:vs≠[]) (hl:bs.length=vs.length):(ansT [] vs bs).length+1=4 * vs.length:=by
 have:=Ygz vs bs hl
 rw [Zyt hv hl] at this
 simpa using this
theorem Yli {v:Nat} (h:v<6):∃ hk:v<(⟨#[97,98,99,88,89,90]⟩:ByteArray).size,(⟨#[97,98,99,88,89,90]⟩:ByteArray)[v]=symA v:=by
 rcases (by omega:v=0∨v=1∨v=2∨v=3∨v=4∨v=5) with rfl | rfl | rfl | rfl | rfl | rfl <;> exact ⟨by decide,rfl⟩
theorem Yki {s:ByteArray} {k:Nat} (h:k<s.size) {c:UInt8} (hc:s[k]=c):s.extract k (k+1)=⟨[c].toArray⟩:=by
 subst hc
 rw [Lib.extract_eq]
 have hl:k<s.data.toList.length:=by simpa using h
 have e:(s.data.toList.drop k).take (k+1 - k)=[s[k]]:=by
  rw [List.drop_eq_getElem_cons hl,show k+1 - k=1 by omega]
  rfl
 first
  | (rw [e])
  | (congr 1; apply Array.ext'; simpa using e)
  | simp [e]
theorem You (d:Nat) (h:d≤100):IntKind.i64.wrap ((d:Int)+1)=(d:Int)+1∧IntKind.i64.wrap ((d:Int)+2)=(d:Int)+2∧IntKind.i64.wrap ((d:Int)+3)=(d:Int)+3∧IntKind.i64.wrap ((d:Int) - 1)=(d:Int) - 1:=by
 rw [IntKind.wrap_i64,IntKind.wrap_i64,IntKind.wrap_i64,IntKind.wrap_i64]
 omega
theorem Yha {l:List At3} (h:∀ x ∈ l,AtOk x):∀ v ∈ askV l,3≤v∧v<6:=(Zoc l [] h (by simp)).2
set_option maxHeartbeats 8000000 in
theorem Ybv (w:World) (a:Option Addr) (c:Nat) (l:List At3) (h:AtomsIn w (.slice a l.length c) l) (hl:l.length≤2) (bs:List UInt8) (hb:bs.length=(askV l).length):Calls Tryz.prog 26 #[.slice a l.length c,.string ⟨(Zoo (askV l) bs).toArray⟩] w fun e w'=>e = .returned (.tuple #[.string ⟨bs.toArray⟩,.bool true])∧Ext w w':=by
 have HK:=Zac (Zum w a c l h (by omega))
 have hvok:=Yha h.ok
 have hvl:=Zmk l
 obtain ⟨vs,hvs⟩:∃ vs,vs=askV l:=⟨_,rfl⟩
 rw [← hvs] at HK hvok hvl hb ⊢
 have Hvok:=Zac hvok
 clear h hvs hvok
 by_cases h0:vs=[]
 ·subst h0
  have hb0:bs=[]:=List.length_eq_zero_iff.1 (by simpa using hb)
  subst hb0
  have e:Zoo [] []=[121,101,115]:=rfl
  rw [e]
  go_enter Tryz.func26,Tryz.ntmps26
  go_wp2_with fail
  refine HK.out.mono ?_
  rintro e w1 ⟨va,vc,rfl,hrow,hE⟩
  have HE:=Zac hE
  clear hrow hE
  go_wp2
  refine bodyPost_ret (v := .tuple #[.string ⟨#[]⟩,.bool true]) (by simp [results,Tryz.results26,go_sem]) rfl ?_
  exact ⟨rfl,HE.out⟩
 ·obtain ⟨S,hS⟩:∃ S:ByteArray,S=⟨(Zoo vs bs).toArray⟩:=⟨_,rfl⟩
  have hST:S.data.toList=ansT [] vs bs:=by rw [hS]; unfold Zoo; rw [if_neg h0]
  have hSz:S.size+1=4 * vs.length:=by
   have:=Ynn h0 hb
   rw [← hST] at this
   simpa using this
  have hv1:1≤vs.length:=by
   cases vs with
   | nil=>exact absurd rfl h0
   | cons v vs=>simp
  have HB:Hid (∀ (i v p:Nat) (b:UInt8),4 * i=p→vs[i]?=some v→bs[i]?=some b→(∃ h:p<S.size,S[p]=symA v)∧(∃ h:p+1<S.size,S[p+1]=61)∧(p+2<S.size∧S.extract (p+2) (p+3)=⟨[b].toArray⟩)∧(0<i→∃ p1,p1+1=p∧∃ h:p1<S.size,S[p1]=44)):=fun i v p b hp hv hbi=>by
   subst hp
   obtain ⟨k1,k2,k3,k4⟩:=Yot hb hv hbi
   rw [← hST] at k1 k2 k3 k4
   obtain ⟨q1,q2⟩:=Zno k3
   exact ⟨Zno k1,Zno k2,⟨q1,Yki q1 q2⟩,fun hi=>⟨4 * i - 1,by omega,Zno (k4 hi)⟩⟩
  rw [← hS]
  have hI:(S.size:Int)=4 * (vs.length:Int) - 1:=by omega
  have hI2:((S.size:Int) != 4 * (vs.length:Int) - 1)=false:=by simp [hI]
  have hI3:((vs.length:Int) == 0)=false:=by rw [Qu]; omega
  have Hb:=Zac hb
  clear hS hST hSz h0 hb hI
  go_enter Tryz.func26,Tryz.ntmps26
  go_wp2_with fail
  refine HK.out.mono ?_
  rintro e w1 ⟨va,vc,rfl,hrow,hE⟩
  have HE:=Zac hE
  have Hrow:=Zac hrow
  clear hrow hE
  go_wp2
  go_loopw [7,8] (fun ov i u=>∃ k:Nat,k≤vs.length∧i = .int .i64 k∧ov = .string ⟨(bs.take k).toArray⟩∧Ext w1 u) (fun _ i _=>vs.length - (intOf i).toNat)
  case atStart=>exact ⟨0,Qm _,rfl,rfl,Below.refl _ _⟩
  case round =>
   obtain ⟨k,hk,rfl,rfl,hEu⟩:=hrel
   have HEu:=Zac hEu
   by_cases hlt:k<vs.length
   ·obtain ⟨v,hv⟩:∃ v,vs[k]?=some v:=⟨_,Qb hlt⟩
    obtain ⟨b,hbk⟩:∃ b,bs[k]?=some b:=⟨_,Qb (by rw [Hb.out]; exact hlt)⟩
    obtain ⟨p,hp4,hp⟩:∃ p:Nat,4 * k=p∧(4:Int) * (k:Int)=(p:Int):=⟨4 * k,rfl,by omega⟩
    obtain ⟨⟨q1,q2⟩,⟨q3,q4⟩,⟨q5,q7⟩,q6⟩:=HB.out k v p b hp4 hv hbk
    have hv6:=(Hvok.out v (Qh hv)).2
    obtain ⟨s1,s2⟩:=Yli hv6
    obtain ⟨g,hgs,hg,d0⟩:∃ g,va=some ⟨g,0,none⟩∧g<wr.heap.size∧wr.cell? ⟨g,k,none⟩=some (.int .i64 v):=by
     have hr2:=Zai Hrow.out (fun j hj=>hEu.block j (Hrow.out.lt j hj).2)
     rcases hr2.2 with ⟨h1,h2⟩ | ⟨g,cap,cur,h1,_⟩
     ·omega
     ·simp only [Value.slice.injEq] at h1
      obtain ⟨rfl,_,rfl⟩:=h1
      exact ⟨g,rfl,(hr2.lt g rfl).2,Zag hr2 _ _ (Zwu hv)⟩
    subst hgs
    have Hs:Hid ((⟨(bs.take k).toArray⟩:ByteArray)++⟨[b].toArray⟩=⟨(bs.take (k+1)).toArray⟩):=Zac (by rw [Zbi,List.take_add_one,hbk]; rfl)
    have n1:(((symA v).toNat:Int) != ((symA v).toNat:Int))=false:=by simp
    have hbs:(bs.take k).length≤12:=by simp; omega
    by_cases hk0:k=0
    ·subst hk0
     obtain rfl:p=0:=by omega
     clear hEu hv hbk q6
     go_wp2_with fail
     go_quiet (fail)
     go_wp2
     exact ⟨⟨1,hv1,rfl,congrArg Value.string Hs.out,Zdq HEu.out _⟩,by simp [intOf]; omega⟩
    ·obtain ⟨p1,hp1,z1,z2⟩:=q6 (by omega)
     have hkp:(0:Int)<(k:Int):=by omega
     have hkpd:decide ((0:Int)<(k:Int))=true:=by simp only [decide_eq_true_eq]; omega
     have hpp:(p:Int) - 1=(p1:Int):=by omega
     have Hp1:=Zac hp1
     have hv6':¬ (6:Int)≤(v:Int):=by omega
     have hpb:p≤50:=by omega
     obtain ⟨wr1,wr2,wr3,wr4⟩:=You p (by omega)
     rw [hpp] at wr4
     have hkn:decide (0<k)=true:=by simp only [decide_eq_true_eq]; omega
     have f1:¬ ((S.size:Int)≤(p:Int)):=by omega
     have f2:¬ ((S.size:Int)≤(p:Int)+1):=by omega
     have f3:¬ ((S.size:Int)≤(p1:Int)):=by omega
     have f4:¬ ((p:Int)+1<0):=by omega
     have f5:((p:Int)+1).toNat=p+1:=by omega
     have f6:((p:Int)+2).toNat=p+2:=by omega
     have f7:((p:Int)+3).toNat=p+3:=by omega
     have f8:¬ ((p:Int)+2<0):=by omega
     have f9:¬ ((p:Int)+3<0):=by omega
     have fa:(0:Int)≤(p:Int)+1:=by omega
     have fb:(p:Int)+1<(S.size:Int):=by omega
     clear hEu hv hbk q6 hp1 hp4
     go_wp2_with fail
     go_quiet (fail)
     go_wp2
     exact ⟨⟨k+1,by omega,by go_num,congrArg Value.string Hs.out,Zdq HEu.out _⟩,by simp [intOf]; omega⟩
   ·obtain rfl:k=vs.length:=by omega
    have Hf:Hid (bs.take vs.length=bs):=Zac (by rw [← Hb.out,List.take_length])
    clear hEu
    go_wp2
    refine bodyPost_ret (v := .tuple #[.string ⟨(bs.take vs.length).toArray⟩,.bool true]) (by simp [results,Tryz.results26,go_sem]) rfl ?_
    exact ⟨by rw [Hf.out],Zaw HE.out HEu.out⟩
def Yhb (n:Nat) (vs:List Nat) (bs:List UInt8) (m:Nat):Prop:=∀ (i v:Nat) (b:UInt8),i<m→vs[i]?=some v→bs[i]?=some b→((97≤b.toNat∧b.toNat≤122)→symA (gA n v)=b)∧∀ (k v':Nat) (b':UInt8),k<i→vs[k]?=some v'→bs[k]?=some b'→b=b'→gA n v=gA n v'
theorem Yhc {n:Nat} {vs:List Nat} {bs:List UInt8} (h:Yhb n vs bs vs.length):Zuj n vs bs:=fun i v b hv hb=>h i v b (Qa.1 hv).1 hv hb
theorem Ybw {n:Nat} {vs:List Nat} {bs:List UInt8} {m v:Nat} {b:UInt8} (h:Yhb n vs bs m) (hv:vs[m]?=some v) (hb:bs[m]?=some b) (h1:(97≤b.toNat∧b.toNat≤122)→symA (gA n v)=b) (h2:∀ (k v':Nat) (b':UInt8),k<m→vs[k]?=some v'→bs[k]?=some b'→b=b'→gA n v=gA n v'):Yhb n vs bs (m+1):=fun i v' b' hi hv' hb'=>by
 by_cases e:i<m
 ·exact h i v' b' e hv' hb'
 ·obtain rfl:i=m:=by omega
  rw [hv] at hv'
  rw [hb] at hb'
  simp only [Qo] at hv' hb'
  subst hv' hb'
  exact ⟨h1,h2⟩
def Yhd (n:Nat) (vs:List Nat) (bs:List UInt8) (w:World) (e:Ending) (w':World):Prop:=∃ r:Bool,e = .returned (.bool r)∧(r=true↔Zuj n vs bs)∧Ext w w'
set_option maxHeartbeats 8000000 in
theorem Zun (w:World) (a:Option Addr) (c:Nat) (l:List At3) (h:AtomsIn w (.slice a l.length c) l) (hl:l.length≤2) (bs:List UInt8) (hb:bs.length=(askV l).length) (n:Nat):Calls Tryz.prog 29 #[.slice a l.length c,.string ⟨bs.toArray⟩,gval n] w (Yhd n (askV l) bs w):=by
 unfold gval
 obtain ⟨W0,hW0⟩:∃ W0,W0=w.alloc (.cells #[.int .i64 (gv n 0),.int .i64 (gv n 1),.int .i64 (gv n 2)] 56):=⟨_,rfl⟩
 have HE0:Hid (Ext w W0):=by rw [hW0]; exact (Ext.of (by repeat' (first | with_reducible(first|exact Qx _ _|apply Kept.drew|apply Kept.drewN|apply Qz|refine Qy ?_ ?_ _)|exact fun h=>absurd h (by simp <;> omega))))
 have HB:Hid (W0.heap[w.heap.size]?=some (.cells #[.int .i64 (gv n 0),.int .i64 (gv n 1),.int .i64 (gv n 2)] 56 (0,0))):=by rw [hW0]; exact heap_alloc_new _ _
 have HW0:=Zac hW0
 have HK:=Zac (Zum W0 a c l (h.ext HE0.out) (by omega))
 have hvok:=Yha h.ok
 have hvl:=Zmk l
 obtain ⟨vs,hvs⟩:∃ vs,vs=askV l:=⟨_,rfl⟩
 rw [← hvs] at HK hvok hvl hb ⊢
 have Hvok:=Zac hvok
 have Hb:=Zac hb
 obtain ⟨S,hS⟩:∃ S:ByteArray,S=⟨bs.toArray⟩:=⟨_,rfl⟩
 have HSb:Hid (∀ (i:Nat) (b:UInt8),bs[i]?=some b→∃ h:i<S.size,S[i]=b):=fun i b hi=>Zno (by rw [hS]; exact hi)
 rw [← hS]
 have HOf:Hid (∀ (v:Nat) (u:World),v<6→Calls Tryz.prog 44 #[.agg #[.int .i64 (gv n 0),.int .i64 (gv n 1),.int .i64 (gv n 2)],.int .i64 v] u fun e w'=>e = .returned (.int .i64 (gA n v))∧Ext u w'):=fun v u hv=>Ztb n v hv u
 clear h hvs hvok hW0 hS hb
 go_enter Tryz.func29,Tryz.ntmps29
 go_wp2_with fail
 rw [← HW0.out]
 refine HK.out.mono ?_
 rintro e w1 ⟨va,vc,rfl,hrow,hE1⟩
 have HE1:=Zac hE1
 have HBu:Hid (∀ u,Ext w1 u→u.cell? ⟨w.heap.size,0,none⟩=some (.int .i64 (gv n 0))∧u.cell? ⟨w.heap.size,1,none⟩=some (.int .i64 (gv n 1))∧u.cell? ⟨w.heap.size,2,none⟩=some (.int .i64 (gv n 2))∧(∀ i,u.frozen? ⟨w.heap.size,i,none⟩=false)∧w.heap.size<u.heap.size):=fun u hu=>by
  have b1:=((Zaw HE1.out hu).block _ (Zab HB.out)).trans HB.out
  exact ⟨Zaa b1 0 _ rfl,Zaa b1 1 _ rfl,Zaa b1 2 _ rfl,fun i=>Zad b1 i,Zab b1⟩
 have HVu:Hid (∀ u,Ext w1 u→∀ (k v:Nat),vs[k]?=some v→∃ g,va=some ⟨g,0,none⟩∧g<u.heap.size∧u.cell? ⟨g,k,none⟩=some (.int .i64 v)):=fun u hu k v hv=>by
  have hr2:=Zai hrow (fun j hj=>hu.block j (hrow.lt j hj).2)
  rcases hr2.2 with ⟨h1,h2⟩ | ⟨g,cap,cur,h1,_⟩
  ·have:=(Qa.1 hv).1
   omega
  ·simp only [Value.slice.injEq] at h1
   obtain ⟨rfl,_,rfl⟩:=h1
   exact ⟨g,rfl,(hr2.lt g rfl).2,Zag hr2 _ _ (Zwu hv)⟩
 clear hrow hE1
 go_wp2
 go_loopw [8] (fun i u=>∃ k:Nat,k≤vs.length∧i = .int .i64 k∧Yhb n vs bs k∧Ext w1 u) (fun i _=>vs.length - (intOf i).toNat)
 case atStart=>exact ⟨0,Qm _,rfl,fun i v b hi=>by omega,Below.refl _ _⟩
 case round =>
  obtain ⟨k,hk,rfl,hI,hEu⟩:=hrel
  have HI:=Zac hI
  have HEu:=Zac hEu
  clear hI
  by_cases hlt:k<vs.length
  ·obtain ⟨v,hv⟩:∃ v,vs[k]?=some v:=⟨_,Qb hlt⟩
   obtain ⟨b,hbk⟩:∃ b,bs[k]?=some b:=⟨_,Qb (by rw [Hb.out]; exact hlt)⟩
   have hv6:=(Hvok.out v (Qh hv)).2
   obtain ⟨g,hgs,hg,d0⟩:=HVu.out wr hEu k v hv
   subst hgs
   obtain ⟨p0,p1,p2,pf,l1⟩:=HBu.out wr hEu
   obtain ⟨z1,z2⟩:=HSb.out k b hbk
   have hx:=Zla n v
   have HO:=Zac (fun u=>HOf.out v u hv6)
   obtain ⟨x,ex⟩:∃ x,x=gA n v:=⟨_,rfl⟩
   rw [← ex] at HO hx
   have Hx:=Zac ex
   have Hv:=Zac hv
   have Hbk:=Zac hbk
   obtain ⟨y1,y2⟩:=Yli (v:=x) (by omega)
   clear hEu ex hv hbk
   go_wp2_with fail
   refine Zfc (by kernel_rfl) [.pur (.agg #[.int .i64 (gv n 0),.int .i64 (gv n 1),.int .i64 (gv n 2)]),.pur (.slice (some ⟨g,0,none⟩) vs.length vc),.pur (.int .i64 k),.pur (.pointer (some ⟨g,k,none⟩)),.pur (.int .i64 v),.cal,.post (fun z=>z)] 5 7 (by kernel_rfl)
    (fun z u=>z = .int .i64 x∧Ext wr u) (fun z u=>z = .int .i64 x∧Ext wr u) 44 #[.agg #[.int .i64 (gv n 0),.int .i64 (gv n 1),.int .i64 (gv n 2)],.int .i64 v] ?_ ?_ rfl (by decide) (Or.inr ⟨by decide,fun _ _ h=>h⟩) ?_
   ·refine (HO.out _).mono ?_
    rintro e u ⟨rfl,he⟩
    exact ⟨_,rfl,rfl,Zaw (Zfh (Below.refl _ _)) he⟩
   ·refine ⟨fun vc => ?_,fun vc => ?_,fun vc => ?_,fun vc => ?_,fun vc => ?_,fun vc => ?_,?_,trivial⟩
    all_goals try (simp [pa,Kd.val,go_sem,p0,p1,p2,pf,l1,d0,hg,hlt]; done)
    all_goals
     intro vc u hR
     simp [pa,Kd.val,go_sem]
   rintro vv w2 ⟨rfl,hE2⟩
   have HE2:Hid (Ext w1 w2):=Zaw HEu.out hE2
   clear hE2
   simp only [paAll,pa,Kd.val,if_true,Act.put,List.setIfInBounds_toArray,List.set_cons_succ,List.set_cons_zero]
   go_upto_region 6 with fail
   go_cut [43] from 26 to 66 (fun cv wx=>∃ r6:Bool,cv = .bool r6∧(r6=true↔((97≤b.toNat∧b.toNat≤122)∧¬ symA x=b))∧Ext w2 wx)
   case first =>
    have hkS:¬ ((S.size:Int)≤(k:Int)):=by omega
    by_cases h1:97≤b.toNat
    ·have a1:decide (97≤b.toNat)=true:=by simpa using h1
     have a2:decide ((97:Int)≤(b.toNat:Int))=true:=by simp only [decide_eq_true_eq]; omega
     by_cases h2:b.toNat≤122
     ·have a3:decide (b.toNat≤122)=true:=by simpa using h2
      have a4:decide ((b.toNat:Int)≤122)=true:=by simp only [decide_eq_true_eq]; omega
      by_cases h3:symA x=b
      ·have a5:(((symA x).toNat:Int) != (b.toNat:Int))=false:=by rw [h3]; simp
       have Hd:Hid (∀ q,Ext w2 (w2.drewN q)):=fun q=>Zdq (Below.refl _ _) q
       have H3:=Zac h3
       clear h3
       go_quiet (fail)
       go_wp2
       go_meet
       exact ⟨false,rfl,by simp [H3.out],Hd.out _⟩
      ·have a5:(((symA x).toNat:Int) != (b.toNat:Int))=true:=by
        simp only [bne_iff_ne,ne_eq,Int.natCast_inj]
        exact fun e=>h3 (UInt8.toNat_inj.1 e)
       have Hd:Hid (∀ q,Ext w2 (w2.drewN q)):=fun q=>Zdq (Below.refl _ _) q
       go_quiet (fail)
       go_wp2
       go_meet
       exact ⟨true,rfl,by simp [h1,h2,h3],Hd.out _⟩
     ·have a3:decide (b.toNat≤122)=false:=by simpa using h2
      have a4:decide ((b.toNat:Int)≤122)=false:=by simp only [decide_eq_false_iff_not]; omega
      have Hd:Hid (∀ q,Ext w2 (w2.drewN q)):=fun q=>Zdq (Below.refl _ _) q
      go_quiet (fail)
      go_wp2
      go_meet
      exact ⟨false,rfl,by simp [h2],Hd.out _⟩
    ·have a1:decide (97≤b.toNat)=false:=by simpa using h1
     have a2:decide ((97:Int)≤(b.toNat:Int))=false:=by simp only [decide_eq_false_iff_not]; omega
     have Hd:Hid (∀ q,Ext w2 (w2.drewN q)):=fun q=>Zdq (Below.refl _ _) q
     go_quiet (fail)
     go_wp2
     go_meet
     exact ⟨false,rfl,by simp [h1],Hd.out _⟩
   case rest =>
    obtain ⟨r6,rfl,hr6,hE3⟩:=hcut
    have Hr6:=Zac hr6
    have HE3:Hid (Ext w1 wc):=Zaw HE2.out hE3
    clear hr6 hE3
    cases r6 with
    | true =>
     have Hno:Hid (¬ Zuj n vs bs):=fun hN=>by
      obtain ⟨h1,h2⟩:=Hr6.out.1 rfl
      have:=(hN k v b Hv.out Hbk.out).1 h1
      rw [← Hx.out] at this
      exact h2 this
     go_wp2
     go_ret
     exact ⟨false,rfl,⟨fun e=>by simp at e,fun hN=>absurd hN Hno.out⟩,Zaw HE0.out (Zaw HE1.out HE3.out)⟩
    | false =>
     have Hlow:Hid ((97≤b.toNat∧b.toNat≤122)→symA (gA n v)=b):=fun h1=>by
      rw [← Hx.out]
      exact Classical.byContradiction (fun h2=>by have:=Hr6.out.2 ⟨h1,h2⟩; simp at this)
     obtain ⟨wi,hwi⟩:∃ wi,wi=wc:=⟨_,rfl⟩
     rw [← hwi] at HE3 ⊢
     clear hwi
     go_wp2
     go_loopw [10] (fun i u=>∃ j:Nat,j≤k∧i = .int .i64 j∧(∀ (q v':Nat) (b':UInt8),q<j→vs[q]?=some v'→bs[q]?=some b'→b=b'→gA n v=gA n v')∧Ext w1 u) (fun i _=>k - (intOf i).toNat)
     case atStart=>exact ⟨0,Qm _,rfl,fun q v' b' hq=>by omega,HE3.out⟩
     case round =>
      obtain ⟨j,hj,rfl,hJ,hEj⟩:=hrel
      have HJ:=Zac hJ
      have HEj:=Zac hEj
      clear hJ
      by_cases hjk:j<k
      ·obtain ⟨v',hv'⟩:∃ v',vs[j]?=some v':=⟨_,Qb (by omega)⟩
       obtain ⟨b',hbj⟩:∃ b',bs[j]?=some b':=⟨_,Qb (by rw [Hb.out]; omega)⟩
       have hv6':=(Hvok.out v' (Qh hv')).2
       obtain ⟨g',hgs',hg',d0'⟩:=HVu.out wr hEj j v' hv'
       simp only [Qo,Addr.mk.injEq,and_true] at hgs'
       subst hgs'
       obtain ⟨p0',p1',p2',pf',l1'⟩:=HBu.out wr hEj
       obtain ⟨z1',z2'⟩:=HSb.out j b' hbj
       have HOj:=Zac (fun u=>HOf.out v' u hv6')
       obtain ⟨y,ey⟩:∃ y,y=gA n v':=⟨_,rfl⟩
       rw [← ey] at HOj
       have Hy:=Zac ey
       have Hv':=Zac hv'
       have Hbj:=Zac hbj
       have hjv:j<vs.length:=by omega
       clear hEj ey hv' hbj d0 p0 p1 p2 pf l1 hg
       go_wp2_with fail
       refine Zfc (by kernel_rfl) [.pur (.agg #[.int .i64 (gv n 0),.int .i64 (gv n 1),.int .i64 (gv n 2)]),.pur (.slice (some ⟨g,0,none⟩) vs.length vc),.pur (.int .i64 j),.pur (.pointer (some ⟨g,j,none⟩)),.pur (.int .i64 v'),.cal,.post (fun z=>z)] 5 7 (by kernel_rfl)
        (fun z u=>z = .int .i64 y∧Ext wr u) (fun z u=>z = .int .i64 y∧Ext wr u) 44 #[.agg #[.int .i64 (gv n 0),.int .i64 (gv n 1),.int .i64 (gv n 2)],.int .i64 v'] ?_ ?_ rfl (by decide) (Or.inr ⟨by decide,fun _ _ h=>h⟩) ?_
       ·refine (HOj.out _).mono ?_
        rintro e u ⟨rfl,he⟩
        exact ⟨_,rfl,rfl,Zaw (Zfh (Below.refl _ _)) he⟩
       ·refine ⟨fun vc => ?_,fun vc => ?_,fun vc => ?_,fun vc => ?_,fun vc => ?_,fun vc => ?_,?_,trivial⟩
        all_goals try (simp [pa,Kd.val,go_sem,p0',p1',p2',pf',l1',d0',hg',hjv]; done)
        all_goals
         intro vc u hR
         simp [pa,Kd.val,go_sem]
       rintro vv w4 ⟨rfl,hE4⟩
       have HE4:Hid (Ext w1 w4):=Zaw HEj.out hE4
       clear hE4
       simp only [paAll,pa,Kd.val,if_true,Act.put,List.setIfInBounds_toArray,List.set_cons_succ,List.set_cons_zero]
       by_cases hbb:b=b'
       ·have c1:(((b:UInt8).toNat:Int) == ((b':UInt8).toNat:Int))=true:=by rw [hbb]; simp
        by_cases hxy:x=y
        ·have c2:((x:Int) != (y:Int))=false:=by rw [hxy]; simp
         have Hxy:=Zac hxy
         have Hbb:=Zac hbb
         clear hxy hbb
         go_wp2_with fail
         go_quiet (fail)
         go_wp2
         refine ⟨⟨j+1,by omega,by go_num,fun q v2 b2 hq hv2 hb2 hbq => ?_,Zdq HE4.out _⟩,by simp [intOf]; omega⟩
         by_cases hqj:q<j
         ·exact HJ.out q v2 b2 hqj hv2 hb2 hbq
         ·obtain rfl:q=j:=by omega
          rw [Hv'.out] at hv2
          simp only [Qo] at hv2
          rw [← hv2,← Hx.out,← Hy.out]
          exact Hxy.out
        ·have c2:((x:Int) != (y:Int))=true:=by simp only [bne_iff_ne,ne_eq,Int.natCast_inj]; exact hxy
         have Hno:Hid (¬ Zuj n vs bs):=fun hN=>by
          have:=(hN k v b Hv.out Hbk.out).2 j v' b' hjk Hv'.out Hbj.out hbb
          rw [← Hx.out,← Hy.out] at this
          exact hxy this
         clear hxy hbb
         go_wp2_with fail
         go_quiet (fail)
         go_wp2
         go_ret
         exact ⟨false,rfl,⟨fun e=>by simp at e,fun hN=>absurd hN Hno.out⟩,Zaw HE0.out (Zaw HE1.out (Zdq HE4.out _))⟩
       ·have c1:(((b:UInt8).toNat:Int) == ((b':UInt8).toNat:Int))=false:=by
         rw [Qu]
         intro e
         exact hbb (UInt8.toNat_inj.1 (by omega))
        have Hbb:=Zac hbb
        clear hbb
        go_wp2_with fail
        go_quiet (fail)
        go_wp2
        refine ⟨⟨j+1,by omega,by go_num,fun q v2 b2 hq hv2 hb2 hbq => ?_,Zdq HE4.out _⟩,by simp [intOf]; omega⟩
        by_cases hqj:q<j
        ·exact HJ.out q v2 b2 hqj hv2 hb2 hbq
        ·obtain rfl:q=j:=by omega
         rw [Hbj.out] at hb2
         simp only [Qo] at hb2
         exact absurd (hbq.trans hb2.symm) Hbb.out
      ·obtain rfl:j=k:=by omega
       have Hnx:Hid (Yhb n vs bs (j+1)):=Ybw HI.out Hv.out Hbk.out Hlow.out HJ.out
       clear hEj
       go_wp2
       exact ⟨⟨j+1,by omega,by go_num,Hnx.out,HEj.out⟩,by simp [intOf]; omega⟩
  ·obtain rfl:k=vs.length:=by omega
   clear hEu
   go_wp2
   go_ret
   exact ⟨true,rfl,⟨fun _=>Yhc HI.out,fun _=>rfl⟩,Zaw HE0.out (Zaw HE1.out HEu.out)⟩
set_option maxHeartbeats 8000000 in
theorem Zwv (w:World) (b:Nat) (m:List Bool) (hm:ModelIn w b m) (a:Option Addr) (c:Nat) (l:List At3) (h:AtomsIn w (.slice a l.length c) l) (hl:l.length≤2) (bs:List UInt8) (hb:bs.length=(askV l).length) (hall:∀ n,n<27→Zuj n (askV l) bs→hAll m n l=true):Calls Tryz.prog 21 #[.pointer (some ⟨b,0,none⟩),.slice a l.length c,.string ⟨(Zoo (askV l) bs).toArray⟩] w fun e w'=>e = .returned (.bool true)∧Ext w w':=by
 have HV:=Zac (Ybv w a c l h hl bs hb)
 have HIn:Hid (∀ (n:Nat) (u:World),Ext w u→Calls Tryz.prog 29 #[.slice a l.length c,.string ⟨bs.toArray⟩,.agg #[.int .i64 (gv n 0),.int .i64 (gv n 1),.int .i64 (gv n 2)]] u (Yhd n (askV l) bs u)):=fun n u hu=>Zun u a c l (h.ext hu) hl bs hb n
 have HAl:Hid (∀ (n:Nat) (u:World),Ext w u→Calls Tryz.prog 28 #[.pointer (some ⟨b,0,none⟩),.slice a l.length c,.agg #[.int .i64 (gv n 0),.int .i64 (gv n 1),.int .i64 (gv n 2)]] u fun e w'=>e = .returned (.bool (hAll m n l))∧Ext u w'):=fun n u hu=>Yeh u b m (hm.ext hu) a c l (h.ext hu) (by omega) n
 have Hall:=Zac hall
 obtain ⟨S,hS⟩:∃ S:ByteArray,S=⟨(Zoo (askV l) bs).toArray⟩:=⟨_,rfl⟩
 rw [← hS] at HV ⊢
 obtain ⟨V,hV⟩:∃ V:ByteArray,V=⟨bs.toArray⟩:=⟨_,rfl⟩
 rw [← hV] at HV HIn
 clear hm h hall hS hV hb
 go_enter Tryz.func21,Tryz.ntmps21
 go_wp2_with fail
 refine HV.out.mono ?_
 rintro e w1 ⟨rfl,hE1⟩
 have HE1:=Zac hE1
 clear hE1
 go_wp2
 go_loopw [9] (fun i u=>∃ n:Nat,n≤27∧i = .int .i64 n∧Ext w u) (fun i _=>27 - (intOf i).toNat)
 case atStart=>exact ⟨0,by omega,rfl,HE1.out⟩
 case round =>
  obtain ⟨n,hn,rfl,hEu⟩:=hrel
  have HEu:=Zac hEu
  clear hEu
  by_cases hn27:n<27
  ·have HGv:=Zac (Zta n hn27 wr)
   unfold gval at HGv
   go_wp2_with fail
   refine HGv.out.mono ?_
   rintro e w2 ⟨rfl,hE2⟩
   obtain ⟨U,hU⟩:∃ U,U=w2.alloc (.cells #[.int .i64 (gv n 0),.int .i64 (gv n 1),.int .i64 (gv n 2)] 56):=⟨_,rfl⟩
   have HE2:Hid (Ext w U):=Zaw HEu.out (Zaw hE2 (by rw [hU]; exact (Ext.of (by repeat' (first | with_reducible(first|exact Qx _ _|apply Kept.drew|apply Kept.drewN|apply Qz|refine Qy ?_ ?_ _)|exact fun h=>absurd h (by simp <;> omega))))))
   have HB:Hid (U.heap[w2.heap.size]?=some (.cells #[.int .i64 (gv n 0),.int .i64 (gv n 1),.int .i64 (gv n 2)] 56 (0,0))):=by rw [hU]; exact heap_alloc_new _ _
   have HU:=Zac hU
   clear hE2 hU
   go_wp2_with fail
   rw [← HU.out]
   refine (HIn.out n U HE2.out).mono ?_
   rintro e w3 ⟨r,rfl,hr,hE3⟩
   have HE3:Hid (Ext w w3):=Zaw HE2.out hE3
   have b3:=(hE3.block _ (Zab HB.out)).trans HB.out
   obtain ⟨p0,p1,p2,pf⟩:=box3 b3
   have l1:=Zab b3
   have Hr:=Zac hr
   clear hr hE3 b3
   go_wp2_with fail
   refine (HAl.out n w3 HE3.out).mono ?_
   rintro e w4 ⟨rfl,hE4⟩
   have HE4:Hid (Ext w w4):=Zaw HE3.out hE4
   obtain ⟨s,hs⟩:∃ s,s=hAll m n l:=⟨_,rfl⟩
   rw [← hs]
   have Hok:Hid (r=true→s=true):=fun e=>by rw [hs]; exact Hall.out n hn27 (Hr.out.1 e)
   clear hE4 hs p0 p1 p2 pf l1
   cases r with
   | false =>
    go_wp2
    exact ⟨⟨n+1,by omega,by go_num,HE4.out⟩,by simp [intOf]; omega⟩
   | true =>
    obtain rfl:s=true:=Hok.out rfl
    go_wp2
    exact ⟨⟨n+1,by omega,by go_num,HE4.out⟩,by simp [intOf]; omega⟩
  ·obtain rfl:n=27:=by omega
   go_wp2
   go_ret
   exact ⟨rfl,HEu.out⟩
def Zkq (l:List UInt8) (p:Nat):UInt8:=(l[p]?).getD 0
theorem Ykj {s:ByteArray} {p:Nat} (h:p<s.size):Zkq s.data.toList p=s[p]:=by unfold Zkq; rw [Ymb h]; rfl
theorem Ykk {s:ByteArray} {p:Nat} (h:s.size≤p):Zkq s.data.toList p=0:=by
 unfold Zkq
 rw [List.getElem?_eq_none (by simpa using h)]
 rfl
theorem Zyu {l:List UInt8} {p:Nat} {c:UInt8} (hc:c≠0):Zkq l p=c↔l[p]?=some c:=by
 unfold Zkq
 cases l[p]? with
 | none=>simp; exact fun h=>hc h.symm
 | some d=>simp
theorem Zuo (s:ByteArray) (p:Nat) (w:World) (hs:s.size≤100000) (hp:p≤100000):Calls Tryz.prog 136 #[.string s,.int .i64 p] w fun e w'=>e = .returned (.int .u8 (Zkq s.data.toList p).toNat)∧w'=w:=by
 by_cases h:p<s.size
 ·have Hb:=Zac (Ykj h)
  have h1:¬ ((s.size:Int)≤(p:Int)):=by omega
  go_enter Tryz.func136,Tryz.ntmps136
  go_wp2
  go_ret
  exact ⟨by rw [Hb.out]; rfl,rfl⟩
 ·have Hb:=Zac (Ykk (Nat.le_of_not_lt h))
  have h1:((s.size:Int)≤(p:Int)):=by omega
  go_enter Tryz.func136,Tryz.ntmps136
  go_wp2
  go_ret
  exact ⟨by rw [Hb.out]; rfl,rfl⟩
theorem Zww (w:World) (b:Nat) (o:Int) (due:Bool) (hb:w.heap[b]?=some (.cells #[.int .i64 o,.bool due] 173 (0,0))):Calls Tryz.prog 101 #[.pointer (some ⟨b,0,none⟩)] w fun e w'=>e = .returned (.bool (!due && (o == 0)))∧w'=w:=by
 obtain ⟨b0,b1,bf⟩:=box2 hb
 have hbl:=Zab hb
 clear hb
 cases due with
 | true =>
  go_enter Tryz.func101,Tryz.ntmps101
  go_wp2
  go_ret
  exact ⟨rfl,rfl⟩
 | false =>
  go_enter Tryz.func101,Tryz.ntmps101
  go_wp2
  go_ret
  exact ⟨rfl,rfl⟩
def Zfe (l:List UInt8) (p o:Nat) (due:Bool):Nat × Nat × Bool :=
 if due=true then (if Zkq l p=33 then (p+1,o,false) else if Zkq l p=40 then (p+1,o+1,false) else (p,o,true))
 else if Zkq l p=41 then (p+1,o - 1,false) else (p+(Zak (l.drop p)).2,o,decide (0<(Zak (l.drop p)).2))
def Zin (l:List UInt8) (p o:Nat) (due:Bool) (b:Nat) (w:World) (e:Ending) (w':World):Prop:=e = .returned (.int .i64 (Zfe l p o due).1)∧Kept (only b) w w'∧w'.heap[b]?=some (.cells #[.int .i64 (Zfe l p o due).2.1,.bool (Zfe l p o due).2.2] 173 (0,0))
theorem Yhe (s:ByteArray) (p o:Nat) (due:Bool) (b:Nat) (w:World) (hs:s.size≤20000) (hp:p≤20000) (ho:o≤20000) (ho1:due=false→0<o) (hb:w.heap[b]?=some (.cells #[.int .i64 o,.bool due] 173 (0,0))) :
  Calls Tryz.prog 102 #[.pointer (some ⟨b,0,none⟩),.string s,.int .i64 p] w (Zin s.data.toList p o due b w):=by
 obtain ⟨b0,b1,bf⟩:=box2 hb
 have hbl:=Zab hb
 have Hb:=Zac hb
 have HB:=Zac (Zuo s p w (by omega) (by omega))
 obtain ⟨c,hc⟩:∃ c,c=Zkq s.data.toList p:=⟨_,rfl⟩
 rw [← hc] at HB
 clear hb
 cases due with
 | true =>
  by_cases h33:c=33
  ·have Hfin:Hid (Zfe s.data.toList p o true=(p+1,o,false)):=by show _=_; unfold Zfe; rw [if_pos rfl,if_pos (by rw [← hc]; exact h33)]
   have k1:((c.toNat:Int) != 33)=false:=by rw [h33]; rfl
   have k2:((c.toNat:Int) == 40)=false:=by rw [h33]; rfl
   clear hc h33 ho1
   go_enter Tryz.func102,Tryz.ntmps102
   go_wp2_with fail
   refine HB.out.mono ?_
   rintro e w1 ⟨rfl,rfl⟩
   go_wp2
   go_ret
   unfold Zin
   rw [Hfin.out]
   exact ⟨by simp,(Qx _ _).put 1 _,Zaf Hb.out 1 _⟩
  ·have k1:((c.toNat:Int) != 33)=true:=by rw [bne_iff_ne]; exact Yim h33
   by_cases h40:c=40
   ·have Hfin:Hid (Zfe s.data.toList p o true=(p+1,o+1,false)):=by show _=_; unfold Zfe; rw [if_pos rfl,if_neg (by rw [← hc]; exact h33),if_pos (by rw [← hc]; exact h40)]
    have k2:((c.toNat:Int) != 40)=false:=by rw [h40]; rfl
    have k3:((c.toNat:Int) == 40)=true:=by rw [h40]; rfl
    clear hc h33 h40 ho1
    go_enter Tryz.func102,Tryz.ntmps102
    go_wp2_with fail
    refine HB.out.mono ?_
    rintro e w1 ⟨rfl,rfl⟩
    go_wp2
    go_ret
    unfold Zin
    rw [Hfin.out]
    exact ⟨by simp,((Qx _ _).put 0 _).put 1 _,Zaf (Zaf Hb.out 0 _) 1 _⟩
   ·have Hfin:Hid (Zfe s.data.toList p o true=(p,o,true)):=by show _=_; unfold Zfe; rw [if_pos rfl,if_neg (by rw [← hc]; exact h33),if_neg (by rw [← hc]; exact h40)]
    have k2:((c.toNat:Int) != 40)=true:=by rw [bne_iff_ne]; exact Yim h40
    clear hc h33 h40 ho1
    go_enter Tryz.func102,Tryz.ntmps102
    go_wp2_with fail
    refine HB.out.mono ?_
    rintro e w1 ⟨rfl,rfl⟩
    go_wp2
    go_ret
    unfold Zin
    rw [Hfin.out]
    exact ⟨rfl,Qx _ _,Hb.out⟩
 | false =>
  have ho2:=ho1 rfl
  by_cases h41:c=41
  ·have Hfin:Hid (Zfe s.data.toList p o false=(p+1,o - 1,false)):=by show _=_; unfold Zfe; rw [if_neg (by simp),if_pos (by rw [← hc]; exact h41)]
   have k1:((c.toNat:Int) == 41)=true:=by rw [h41]; rfl
   clear hc h41 ho1
   go_enter Tryz.func102,Tryz.ntmps102
   go_wp2_with fail
   refine HB.out.mono ?_
   rintro e w1 ⟨rfl,rfl⟩
   go_wp2
   go_ret
   unfold Zin
   rw [Hfin.out]
   refine ⟨by simp,(Qx _ _).put 0 _,?_⟩
   rw [show ((p+1,o - 1,false):Nat × Nat × Bool).2.1=o - 1 from rfl,show ((o - 1:Nat):Int)=(o:Int) - 1 by omega]
   exact Zaf Hb.out 0 _
  ·obtain ⟨N,hN⟩:∃ N,N=(Zak (s.data.toList.drop p)).2:=⟨_,rfl⟩
   have Hfin:Hid (Zfe s.data.toList p o false=(p+N,o,decide (0<N))):=by show _=_; unfold Zfe; rw [if_neg (by simp),if_neg (by rw [← hc]; exact h41),← hN]
   have k1:((c.toNat:Int) == 41)=false:=by rw [Qu]; exact Yim h41
   have HA:=Zac (Yga s p w (by omega) (by omega))
   obtain ⟨V,hV⟩:∃ V,V=(Zak (s.data.toList.drop p)).1:=⟨_,rfl⟩
   rw [← hN,← hV] at HA
   clear hc h41 ho1 hN hV
   go_enter Tryz.func102,Tryz.ntmps102
   go_wp2_with fail
   refine HB.out.mono ?_
   rintro e w1 ⟨rfl,rfl⟩
   go_wp2_with fail
   refine HA.out.mono ?_
   rintro e w1 ⟨rfl,rfl⟩
   by_cases h0:0<N
   ·have h2:(p:Int)<(p:Int)+(N:Int):=by omega
    go_wp2
    go_ret
    unfold Zin
    rw [Hfin.out]
    refine ⟨by simp,(Qx _ _).put 1 _,?_⟩
    rw [show ((p+N,o,decide (0<N)):Nat × Nat × Bool).2.2=true from decide_eq_true h0]
    exact Zaf Hb.out 1 _
   ·obtain rfl:N=0:=by omega
    go_wp2
    go_ret
    unfold Zin
    rw [Hfin.out]
    refine ⟨by simp,(Qx _ _).put 1 _,?_⟩
    exact Zaf Hb.out 1 _
def Zwx (l:List UInt8) (w:World) (e:Ending) (w':World):Prop:=Ext w w'∧e = .returned (match Zfl l with | none => .agg #[.int .i64 0,.int .i64 0] | some p => .agg #[.int .i64 6,.int .i64 p])
theorem Ybx {l:List UInt8} {f p o:Nat} {due:Bool} (h:l.length≤p):Zcy l (f+1) p o due=if due=true∨0<o then some p else none:=by
 unfold Zcy
 rw [List.getElem?_eq_none h]
theorem Zup {l:List UInt8} {f p:Nat} (h:p<l.length):Zcy l (f+1) p 0 false=some p:=by
 unfold Zcy
 rw [Qb h]
 simp
theorem Zwy {l:List UInt8} {f p o:Nat} {due:Bool} (h:p<l.length) (ho:due=false→0<o):Zcy l (f+1) p o due=if (Zfe l p o due).1=p then some p else Zcy l f (Zfe l p o due).1 (Zfe l p o due).2.1 (Zfe l p o due).2.2:=by
 have hb:Zkq l p=l[p]:=by unfold Zkq; rw [Qb h]; rfl
 rw [Zcy,Zfe,Qb h,hb]
 simp only
 cases due with
 | true =>
  simp only [if_true]
  split
  ·simp
  ·split
   ·simp
   ·simp
 | false =>
  have:=ho rfl
  simp only [Bool.false_eq_true,if_false]
  rw [if_neg (by omega)]
  split
  ·simp
  ·by_cases h0:(Zak (l.drop p)).2=0
   ·simp [h0]
   ·rw [if_neg h0,if_neg (by simp only; omega)]
    simp [show 0<(Zak (l.drop p)).2 by omega]
theorem Ykl {l:List UInt8} {p o:Nat} {due:Bool} (h:p<l.length) (ho:o≤p):p≤(Zfe l p o due).1∧(Zfe l p o due).1≤l.length∧((Zfe l p o due).1≠p→(Zfe l p o due).2.1≤(Zfe l p o due).1):=by
 have hn:=Zdt (l.drop p)
 simp only [List.length_drop] at hn
 unfold Zfe
 split
 ·split
  ·exact ⟨Nat.le_succ _,h,fun _=>by show o≤p+1; omega⟩
  ·split
   ·exact ⟨Nat.le_succ _,h,fun _=>by show o+1≤p+1; omega⟩
   ·exact ⟨Qe _,Nat.le_of_lt h,fun h=>absurd rfl h⟩
 ·split
  ·exact ⟨Nat.le_succ _,h,fun _=>by show o - 1≤p+1; omega⟩
  ·exact ⟨Nat.le_add_right _ _,by show p+_≤_; omega,fun _=>by show o≤p+_; omega⟩
theorem Zeb {w w1 w2:World} {b:Nat} (h:Ext w w1) (hk:Kept (only b) w1 w2) (hb:w.heap.size≤b):Ext w w2 :=
 h.trans (hk.below h.size (fun k e=>by have e:k=b:=e; omega))
theorem Zru (s:ByteArray) (w:World) (hs:s.size≤20000):Calls Tryz.prog 81 #[.string s] w (Zwx s.data.toList w):=by
 have hsl:s.data.toList.length=s.size:=by simp
 obtain ⟨l,hl⟩:∃ l,l=s.data.toList:=⟨_,rfl⟩
 have HT:=Zac (fun p o due b u (h1:p≤20000) (h2:o≤20000) h3 h4=>Yhe s p o due b u hs h1 h2 h3 h4)
 rw [← hl] at hsl HT ⊢
 have HW:=Zac (fun u b o due hb=>Zww u b o due hb)
 have Hsl:=Zac hsl
 clear hsl
 go_enter Tryz.func81,Tryz.ntmps81
 go_wp2
 go_loopg [4] (s.size+1) (fun gk av wr=>∃ (p o f:Nat) (due:Bool),av = .int .i64 p∧p≤s.size∧s.size - p<gk∧o≤p∧s.size<f+p∧Zcy l f p o due=Zfl l∧Ext w wr∧wr.heap[w.heap.size]?=some (.cells #[.int .i64 0,.int .i64 0] 91 (0,0))∧wr.heap[w.heap.size+1]?=some (.cells #[.int .i64 o,.bool due] 173 (0,0)))
 case atStart=>exact ⟨0,0,s.size+1,true,by go_num,by omega,by omega,by omega,by omega,by unfold Zfl; rw [Hsl.out],(Ext.of (by repeat' (first | with_reducible(first|exact Qx _ _|apply Kept.drew|apply Kept.drewN|apply Qz|refine Qy ?_ ?_ _)|exact fun h=>absurd h (by simp <;> omega)))),Zau (heap_alloc_new w _) _,Zdm (by simp) _⟩
 case round =>
  obtain ⟨p,o,f,due,rfl,hp,hgk,hop,hf,hsh,hE,hb0,hb1⟩:=hrel
  obtain ⟨f,rfl⟩:∃ f',f=f'+1:=⟨f - 1,by omega⟩
  have hs1:=Zab hb1
  have HWr:=Zac (HW.out wr _ o due hb1)
  by_cases hgo:p<s.size∧¬ (due=false∧o=0)
  ·obtain ⟨hlt,hnw⟩:=hgo
   have how:due=false→0<o:=fun h=>Nat.pos_of_ne_zero (fun h'=>hnw ⟨h,h'⟩)
   have hw0:(!due && ((o:Int) == 0))=false:=by
    cases due with
    | true=>rfl
    | false =>
     have:=how rfl
     simp
     omega
   rw [hw0] at HWr
   have HTr:=Zac (HT.out p o due (w.heap.size+1) wr (by omega) (by omega) how hb1)
   rw [Zwy (by rw [Hsl.out]; exact hlt) how] at hsh
   obtain ⟨p2,hp2⟩:∃ p2,p2=(Zfe l p o due).1:=⟨_,rfl⟩
   obtain ⟨o2,ho2⟩:∃ o2,o2=(Zfe l p o due).2.1:=⟨_,rfl⟩
   obtain ⟨d2,hd2⟩:∃ d2,d2=(Zfe l p o due).2.2:=⟨_,rfl⟩
   unfold Zin at HTr
   rw [← hp2,← ho2,← hd2] at hsh HTr
   have hbd:=Ykl (l:=l) (p:=p) (o:=o) (due:=due) (by rw [Hsl.out]; exact hlt) hop
   rw [← hp2,← ho2,Hsl.out] at hbd
   obtain ⟨hbd1,hbd2,hbd3⟩:=hbd
   have Hsh:=Zac hsh
   have HE:=Zac hE
   have Hb0:=Zac hb0
   have hlt':(p:Int)<(s.size:Int):=by omega
   clear hsh hE hb0 hb1 hw0 hp2 ho2 hd2
   go_wp2_with fail
   refine HWr.out.mono ?_
   rintro e w1 ⟨rfl,rfl⟩
   go_wp2_with fail
   refine HTr.out.mono ?_
   rintro e w2 ⟨rfl,hK2,hb2⟩
   have hb0':=(hK2.block w.heap.size (by omega) (fun e=>by have e:w.heap.size=w.heap.size+1:=e; omega)).trans Hb0.out
   have HE2:Hid (Ext w w2):=Zeb HE.out hK2 (by omega)
   by_cases he:p2=p
   ·have Hn:Hid (Zfl l=some p):=by show _=_; rw [← Hsh.out,if_pos he]
    subst he
    obtain ⟨c0,c1,cf⟩:=box2 hb0'
    have hlb:=Zab hb0'
    clear hb0' hK2 hb2
    go_wp2
    refine bodyPost_ret (v := .agg #[.int .i64 6,.int .i64 p2]) (by simp [results,Tryz.results81,go_sem,c0,c1,cf]) rfl ?_
    exact ⟨Zeb HE2.out (((Qx _ _).put 0 _).put 1 _) (Qe _),by rw [Hn.out]⟩
   ·have he2:((p2:Int) == (p:Int))=false:=by rw [Qu]; omega
    have Hn:Hid (Zcy l f p2 o2 d2=Zfl l):=by show _=_; rw [← Hsh.out,if_neg he]
    have Hb0':=Zac hb0'
    have Hb2:=Zac hb2
    have ho3:=hbd3 he
    clear hb0' hK2 hb2 Hsh
    go_wp2
    go_roundg (s.size - p)
    case measure=>omega
    case rel=>exact ⟨p2,o2,f,d2,rfl,hbd2,by omega,ho3,by omega,Hn.out,HE2.out,Hb0'.out,Hb2.out⟩
  ·have hend:¬ (((!(!due && ((o:Int) == 0))) && decide ((p:Int)<(s.size:Int)))=true):=fun h=>by
    rw [Bool.and_eq_true,decide_eq_true_iff] at h
    refine hgo ⟨by omega,fun ⟨h1,h2⟩ => ?_⟩
    rw [h1,h2] at h
    simp at h
   obtain ⟨c0,c1,cf⟩:=box2 hb0
   have HE:=Zac hE
   have hlb:=Zab hb0
   by_cases hlt:p<s.size
   ·have hwh:due=false∧o=0:=by
     by_cases h:due=false∧o=0
     ·exact h
     ·exact absurd ⟨hlt,h⟩ hgo
    obtain ⟨rfl,rfl⟩:=hwh
    have Hn:Hid (Zfl l=some p):=by show _=_; rw [← hsh]; exact Zup (by rw [Hsl.out]; exact hlt)
    have hlt':(p:Int)<(s.size:Int):=by omega
    clear hsh hE hb0 hb1 hend hgo
    go_wp2_with fail
    refine HWr.out.mono ?_
    rintro e w1 ⟨rfl,rfl⟩
    go_wp2
    refine bodyPost_ret (v := .agg #[.int .i64 6,.int .i64 p]) (by simp [results,Tryz.results81,go_sem,c0,c1,cf]) rfl ?_
    exact ⟨Zeb HE.out (((Qx _ _).put 0 _).put 1 _) (Qe _),by rw [Hn.out]⟩
   ·have hlt':¬ (p:Int)<(s.size:Int):=by omega
    have hn:=Ybx (l:=l) (f:=f) (p:=p) (o:=o) (due:=due) (by rw [Hsl.out]; omega)
    rw [hsh] at hn
    by_cases hwh:due=false∧o=0
    ·obtain ⟨rfl,rfl⟩:=hwh
     have Hn:Hid (Zfl l=none):=by show _=_; rw [hn]; simp
     clear hsh hE hb0 hb1 hend hgo hn
     go_wp2_with fail
     refine HWr.out.mono ?_
     rintro e w1 ⟨rfl,rfl⟩
     go_wp2_with fail
     refine HWr.out.mono ?_
     rintro e w1 ⟨rfl,rfl⟩
     go_wp2
     refine bodyPost_ret (v := .agg #[.int .i64 0,.int .i64 0]) (by simp [results,Tryz.results81,go_sem,c0,c1,cf]) rfl ?_
     exact ⟨Zeb HE.out (((Qx _ _).put 0 _).put 1 _) (Qe _),by rw [Hn.out]⟩
    ·have Hn:Hid (Zfl l=some p):=by
      show _=_
      rw [hn,if_pos]
      by_cases h:due=true
      ·exact Or.inl h
      ·refine Or.inr (Nat.pos_of_ne_zero (fun h'=>hwh ⟨by simpa using h,h'⟩))
     have hw0:(!due && ((o:Int) == 0))=false:=by
      cases due with
      | true=>rfl
      | false =>
       simp
       intro h
       exact hwh ⟨rfl,by omega⟩
     rw [hw0] at HWr
     clear hsh hE hb0 hb1 hend hgo hn hw0 hwh
     go_wp2_with fail
     refine HWr.out.mono ?_
     rintro e w1 ⟨rfl,rfl⟩
     go_wp2_with fail
     refine HWr.out.mono ?_
     rintro e w1 ⟨rfl,rfl⟩
     go_wp2
     refine bodyPost_ret (v := .agg #[.int .i64 6,.int .i64 p]) (by simp [results,Tryz.results81,go_sem,c0,c1,cf]) rfl ?_
     exact ⟨Zeb HE.out (((Qx _ _).put 0 _).put 1 _) (Qe _),by rw [Hn.out]⟩
def HoTy (t:TypeId):Prop:=t=142∨t=235∨t=9
def FrT (w w':World):Prop:=∀ (k:Nat) (cl:Array Value) (t:TypeId) (fr:Nat × Nat),w.heap[k]?=some (.cells cl t fr)→¬ HoTy t→w'.heap[k]?=some (.cells cl t fr)
theorem FrT.trans {w1 w2 w3:World} (h:FrT w1 w2) (h':FrT w2 w3):FrT w1 w3:=fun k cl t fr e ht=>h' k cl t fr (h k cl t fr e ht) ht
theorem FrT.of_ext {w w':World} (h:Ext w w'):FrT w w':=fun k cl t fr e _=>(h.block k (Zab e)).trans e
theorem FrT.of_kept {S:Nat→Prop} {w w':World} (h:Kept S w w') (hS:∀ k,S k→∃ cl t fr,w.heap[k]?=some (.cells cl t fr)∧HoTy t):FrT w w':=fun k cl t fr e ht=>(h.block k (Zab e) (fun hs=>by
 obtain ⟨cl',t',fr',h1,h2⟩:=hS k hs
 rw [h1] at e
 simp at e
 exact ht (e.2.1 ▸ h2))).trans e
theorem FrT.own {w w':World} {B:Nat} {e:TypeId} {size n:Nat} {v:Value} {xs:List Value} (hF:FrT w w') (he:¬ HoTy e) (h:w.ownsRow B e size v n xs):w'.ownsRow B e size v n xs :=
 Zai h (fun k hj=>by
  rcases h.2 with ⟨rfl,_⟩ | ⟨g,cap,cur,rfl,_,hg,_⟩
  ·simp [Value.ownBlock] at hj
  ·simp [Value.ownBlock] at hj
   subst hj
   rw [hF _ _ _ _ hg he,hg])
theorem FrT.terms {w w':World} {v:Value} {ls:List (List Sym)} (hF:FrT w w') (h:TermsIn w v ls):TermsIn w' v ls:=by
 obtain ⟨vs,h⟩:=h
 exact ⟨vs,hF.own (by simp [HoTy]) h.owns,fun i l hl=>by
  obtain ⟨x,h1,h2⟩:=h.all i l hl
  exact ⟨x,h1,hF.own (by simp [HoTy]) h2⟩⟩
theorem CNode.fr {w w':World} {gv vv rv uv:Value} {n0:ND} (h:CNode w gv vv rv uv n0) (hF:FrT w w'):CNode w' gv vv rv uv n0:=by
 obtain ⟨n,h1,h2⟩:=h
 exact ⟨n,⟨hF.terms h1.goals,hF.terms h1.vals,hF.terms h1.done⟩,h2⟩
structure RowH (B:Nat) (w:World) (v:Value) (ds:List (ND × Nat)) (xs:List Value):Prop where
 owns:w.ownsRow B 235 5 v ds.length xs
 all:∀ (i:Nat) (d:ND × Nat),ds[i]?=some d→∃ x0 x1 x2 x3,xs[i * 5]?=some x0∧xs[i * 5+1]?=some x1∧xs[i * 5+2]?=some x2∧xs[i * 5+3]?=some x3∧xs[i * 5+4]?=some (.int .i64 d.2)∧CNode w x0 x1 x2 x3 d.1
theorem RowH.keep {B:Nat} {w w':World} {v:Value} {ds:List (ND × Nat)} {xs:List Value} (h:RowH B w v ds xs) (hF:FrT w w') (ho:∀ k,v.ownBlock=some k→w'.heap[k]?=w.heap[k]?):RowH B w' v ds xs :=
 ⟨Zai h.owns ho,fun i d hd=>by
  obtain ⟨x0,x1,x2,x3,y0,y1,y2,y3,y4,g⟩:=h.all i d hd
  exact ⟨x0,x1,x2,x3,y0,y1,y2,y3,y4,g.fr hF⟩⟩
theorem RowH.pop {B:Nat} {w:World} {g n cap:Nat} {ds:List (ND × Nat)} {d:ND × Nat} {xs:List Value} (h:RowH B w (.slice (some ⟨g,0,none⟩) (n+1) cap) (ds++[d]) xs) (hn:ds.length=n):RowH B w (.slice (some ⟨g,0,none⟩) n cap) ds (xs.take (n * 5)):=by
 have ho:=h.owns
 rw [Qg,Qn,hn] at ho
 refine ⟨by rw [hn]; exact Ztm ho,fun i x hx => ?_⟩
 have hi:=(Qa.1 hx).1
 obtain ⟨x0,x1,x2,x3,y0,y1,y2,y3,y4,g⟩:=h.all i x (by rw [Qc hi]; exact hx)
 exact ⟨x0,x1,x2,x3,by rw [List.getElem?_take_of_lt (by omega)]; exact y0,by rw [List.getElem?_take_of_lt (by omega)]; exact y1,by rw [List.getElem?_take_of_lt (by omega)]; exact y2,by rw [List.getElem?_take_of_lt (by omega)]; exact y3,by rw [List.getElem?_take_of_lt (by omega)]; exact y4,g⟩
structure CHo (w0 w:World) (b:Nat) (cv nv:Value) (s:ByteArray) (p:Nat) (way:List (ND × Nat)) (A:List (List UInt8)) (wa:Option Addr) (wc:Nat) (aa:Option Addr) (ac:Nat):Prop where
 ext:Ext w0 w
 low:w0.heap.size≤b
 box:w.heap[b]?=some (.cells #[cv,nv,.string s,.int .i64 p,.slice wa way.length wc,.slice aa A.length ac] 142 (0,0))
 row:∃ ys,RowH w0.heap.size w (.slice wa way.length wc) way.reverse ys
 ans:w.ownsRow w0.heap.size 9 1 (.slice aa A.length ac) A.length (strs A)
def HoIn (w0 w:World) (b:Nat) (cv nv:Value) (s:ByteArray) (p:Nat) (way:List (ND × Nat)) (A:List (List UInt8)):Prop:=∃ wa wc aa ac,CHo w0 w b cv nv s p way A wa wc aa ac
theorem Zfr {w:World} {B e size n:Nat} {v:Value} {xs:List Value} {b:Nat} {cl:Array Value} {t:TypeId} {fr:Nat × Nat} (h:w.ownsRow B e size v n xs) (hb:w.heap[b]?=some (.cells cl t fr)) (ht:e≠t):∀ k,v.ownBlock=some k→k≠b:=fun k hj e'=>by
 subst e'
 rcases h.2 with ⟨rfl,_⟩ | ⟨g,cap,cur,rfl,_,hg,_⟩
 ·simp [Value.ownBlock] at hj
 ·simp [Value.ownBlock] at hj
  subst hj
  rw [hg] at hb
  simp at hb
  exact ht hb.2.1
theorem CHo.grow {w0 w w':World} {b:Nat} {cv nv:Value} {s:ByteArray} {p:Nat} {way:List (ND × Nat)} {A:List (List UInt8)} {wa:Option Addr} {wc:Nat} {aa:Option Addr} {ac:Nat} (h:CHo w0 w b cv nv s p way A wa wc aa ac) (e:Ext w w'):CHo w0 w' b cv nv s p way A wa wc aa ac:=by
 obtain ⟨ys,h2⟩:=h.row
 exact ⟨h.ext.trans (e.mono h.ext.size),h.low,(e.block _ (Zab h.box)).trans h.box,⟨ys,h2.keep (FrT.of_ext e) (fun k hk=>e.block k (h2.owns.lt k hk).2)⟩,Zai h.ans (fun k hk=>e.block k (h.ans.lt k hk).2)⟩
theorem CHo.upd {w0 w w':World} {b:Nat} {cv nv:Value} {s:ByteArray} {p p':Nat} {way way':List (ND × Nat)} {A:List (List UInt8)} {wa wa':Option Addr} {wc wc':Nat} {aa:Option Addr} {ac:Nat} (h:CHo w0 w b cv nv s p way A wa wc aa ac) (hk:Kept (only b) w w') (hbox:w'.heap[b]?=some (.cells #[cv,nv,.string s,.int .i64 p',.slice wa' way'.length wc',.slice aa A.length ac] 142 (0,0)))
  (hrow:∃ ys,RowH w0.heap.size w (.slice wa' way'.length wc') way'.reverse ys):CHo w0 w' b cv nv s p' way' A wa' wc' aa ac∧FrT w w':=by
 obtain ⟨ys,h2⟩:=hrow
 have hF:FrT w w':=FrT.of_kept hk (fun k e=>by
  have e:k=b:=e
  subst e
  exact ⟨_,_,_,h.box,by simp [HoTy]⟩)
 refine ⟨⟨Zeb h.ext hk h.low,h.low,hbox,⟨ys,h2.keep hF (fun k hj=>hk.block k (h2.owns.lt k hj).2 (Zfr h2.owns h.box (by decide) k hj))⟩,Zai h.ans (fun k hj=>hk.block k (h.ans.lt k hj).2 (Zfr h.ans h.box (by decide) k hj))⟩,hF⟩
theorem Zrv (w0 w:World) (b:Nat) (cv nv:Value) (s:ByteArray) (p:Nat) (way:List (ND × Nat)) (A:List (List UInt8)) (c:UInt8) (hc:c≠0) (h:HoIn w0 w b cv nv s p way A) (hs:s.size≤20000) (hp:p≤s.size) :
  Calls Tryz.prog 137 #[.pointer (some ⟨b,0,none⟩),.int .u8 c.toNat] w fun e w'=>FrT w w'∧((s.data.toList[p]?=some c∧e = .returned (.bool true)∧HoIn w0 w' b cv nv s (p+1) way A)∨(s.data.toList[p]?≠some c∧e = .returned (.bool false)∧HoIn w0 w' b cv nv s p way A)):=by
 obtain ⟨wa,wc,aa,ac,h⟩:=h
 obtain ⟨b0,b1,b2,b3,b4,b5,bf⟩:=box6 h.box
 have hbl:=Zab h.box
 have H:=Zac h
 have HB:=Zac (fun u=>Zuo s p u (by omega) (by omega))
 by_cases he:s.data.toList[p]?=some c
 ·rw [(Zyu hc).2 he] at HB
  have k1:((c.toNat:Int) != (c.toNat:Int))=false:=by simp
  clear h
  go_enter Tryz.func137,Tryz.ntmps137
  go_wp2_with fail
  go_quiet ((go_at_call 136; exact Calls.quiet_of_same (HB.out _)))
  go_wp2
  go_ret
  obtain ⟨g1,g2⟩:=H.out.upd (p':=p+1) (((Qx (only b) w).drewN nq).put 3 (.int .i64 ((p:Int)+1))) (Zaf (w:=w.drewN nq) H.out.box 3 _) H.out.row
  exact ⟨g2,Or.inl ⟨he,rfl,_,_,_,_,g1⟩⟩
 ·obtain ⟨d,hd⟩:∃ d,d=Zkq s.data.toList p:=⟨_,rfl⟩
  rw [← hd] at HB
  have k1:((d.toNat:Int) != (c.toNat:Int))=true:=by
   rw [bne_iff_ne]
   exact Yim (fun e=>he ((Zyu hc).1 (hd ▸ e)))
  clear h hd
  go_enter Tryz.func137,Tryz.ntmps137
  go_wp2_with fail
  go_quiet ((go_at_call 136; exact Calls.quiet_of_same (HB.out _)))
  go_wp2
  go_ret
  have hE:Ext w (w.drewN nq):=Ext.of ((Qx _ w).drewN _)
  exact ⟨FrT.of_ext hE,Or.inr ⟨he,rfl,_,_,_,_,H.out.grow hE⟩⟩
theorem Yby (w0 w:World) (b:Nat) (cv nv:Value) (s:ByteArray) (p:Nat) (d:ND × Nat) (r:List (ND × Nat)) (A:List (List UInt8)) (h:HoIn w0 w b cv nv s p (d::r) A) (hs:s.size≤20000) (hp:p≤s.size) (hr:r.length≤20000) :
  Calls Tryz.prog 139 #[.pointer (some ⟨b,0,none⟩)] w fun e w'=>FrT w w'∧((s.data.toList[p]?=some 41∧e = .returned (.bool true)∧HoIn w0 w' b cv nv s (p+1) r A)∨(s.data.toList[p]?≠some 41∧e = .returned (.bool false)∧HoIn w0 w' b cv nv s p (d::r) A)):=by
 have HP:=Zac (Zrv w0 w b cv nv s p (d::r) A 41 (by decide) h hs hp)
 obtain ⟨wa,wc,aa,ac,h⟩:=h
 have hbx:=h.box
 simp only [Qf] at hbx
 obtain ⟨b0,b1,b2,b3,b4,b5,bf⟩:=box6 hbx
 have hbl:=Zab hbx
 have hgd:decide ((r.length:Int)<0)=false:=by rw [decide_eq_false_iff_not]; omega
 simp only [show ((41:UInt8).toNat:Int)=41 from rfl] at HP
 clear h hbx
 go_enter Tryz.func139,Tryz.ntmps139
 go_wp2_with fail
 refine HP.out.mono ?_
 rintro e w1 ⟨hF1,⟨hc,rfl,h1⟩ | ⟨hc,rfl,h1⟩⟩
 ·obtain ⟨wa1,wc1,aa1,ac1,h1⟩:=h1
  have hbx1:=h1.box
  simp only [Qf] at hbx1
  clear b0 b1 b2 b3 b4 b5 bf
  obtain ⟨b0,b1,b2,b3,b4,b5,bf⟩:=box6 hbx1
  obtain ⟨ys,hrow⟩:=h1.row
  simp only [Qf,List.reverse_cons] at hrow
  have ho:=hrow.owns
  rw [Qg,List.length_reverse,Qn] at ho
  obtain ⟨wb,wcap,wcur,hwe,_,hwb,hwcap⟩:=Zao ho (by omega)
  simp only [Value.slice.injEq] at hwe
  obtain ⟨rfl,_,rfl⟩:=hwe
  have hpop:=Zac (hrow.pop List.length_reverse)
  have hbl1:=Zab hbx1
  have H1:=Zac h1
  have HF1:=Zac hF1
  have Hbx1:=Zac hbx1
  have Hc:=Zac hc
  clear h1 hbx1 hrow ho hwb hF1 hc HP
  go_wp2
  go_ret
  obtain ⟨g1,g2⟩:=H1.out.upd (way':=r) ((Qx (only b) w1).put 4 (.slice (some ⟨wb,0,none⟩) r.length wc1)) (Zaf Hbx1.out 4 _) ⟨_,hpop.out⟩
  exact ⟨HF1.out.trans g2,Or.inl ⟨Hc.out,rfl,_,_,_,_,g1⟩⟩
 ·have H1:=Zac h1
  have HF1:=Zac hF1
  have Hc:=Zac hc
  clear h1 hF1 hc HP
  go_wp2
  go_ret
  exact ⟨HF1.out,Or.inr ⟨Hc.out,rfl,H1.out⟩⟩
def Yhf (w0 w:World) (b:Nat) (cv nv:Value) (s:ByteArray) (M:HM) (e:Ending) (w':World):Prop:=FrT w w'∧e = .returned (.bool M.ok)∧HoIn w0 w' b cv nv s M.at' M.way M.ans
theorem HoIn.grow {w0 w w':World} {b:Nat} {cv nv:Value} {s:ByteArray} {p:Nat} {way:List (ND × Nat)} {A:List (List UInt8)} (h:HoIn w0 w b cv nv s p way A) (e:Ext w w'):HoIn w0 w' b cv nv s p way A:=by
 obtain ⟨wa,wc,aa,ac,h⟩:=h
 exact ⟨wa,wc,aa,ac,h.grow e⟩
theorem CHo.answer {w0 w w1:World} {b:Nat} {cv nv:Value} {s:ByteArray} {p:Nat} {way:List (ND × Nat)} {A:List (List UInt8)} {wa:Option Addr} {wc:Nat} {aa aa':Option Addr} {ac ac':Nat} {Y:List UInt8} (h:CHo w0 w b cv nv s p way A wa wc aa ac)
  (ha:Appended w w0.heap.size 9 1 (.slice aa A.length ac) (A.length+1) (strs A++[.string ⟨Y.toArray⟩]) (.slice aa' (A.length+1) ac') w1) :
  w1.heap[b]?=w.heap[b]?∧CHo w0 (w1.setCell ⟨b,5,none⟩ (.slice aa' (A.length+1) ac')) b cv nv s p way (A++[Y]) wa wc aa' ac'∧FrT w (w1.setCell ⟨b,5,none⟩ (.slice aa' (A.length+1) ac')):=by
 obtain ⟨ys,h2⟩:=h.row
 have hn:=Zfr h.ans h.box (by decide)
 have hb1:w1.heap[b]?=w.heap[b]?:=ha.kept.block b (Zab h.box) (fun e=>hn b e rfl)
 have hF1:FrT w w1:=FrT.of_kept ha.kept (fun k e=>by
  rcases h.ans.2 with ⟨e',_⟩ | ⟨g,cap,cur,e',_,hg,_⟩
  ·rw [e'] at e; simp [Zbn,Value.ownBlock] at e
  ·rw [e'] at e
   simp [Zbn,Value.ownBlock] at e
   subst e
   exact ⟨_,_,_,hg,by simp [HoTy]⟩)
 have hrow1:RowH w0.heap.size w1 (.slice wa way.length wc) way.reverse ys:=h2.keep hF1 (fun k hj=>ha.kept.block k (h2.owns.lt k hj).2 (fun e=>by
  rcases h.ans.2 with ⟨e',_⟩ | ⟨g,cap,cur,e',_,hg,_⟩
  ·rw [e'] at e; simp [Zbn,Value.ownBlock] at e
  ·rw [e'] at e
   simp [Zbn,Value.ownBlock] at e
   subst e
   exact Zfr h2.owns hg (by decide) _ hj rfl))
 have hE1:Ext w0 w1:=h.ext.trans (ha.kept.below h.ext.size (fun k e=>(h.ans.lt k e).1))
 have hbx1:=hb1.trans h.box
 have hK:Kept (only b) w1 (w1.setCell ⟨b,5,none⟩ (.slice aa' (A.length+1) ac')):=(Qx _ _).put 5 _
 have hF2:FrT w1 (w1.setCell ⟨b,5,none⟩ (.slice aa' (A.length+1) ac')):=FrT.of_kept hK (fun k e=>by
  have e:k=b:=e
  subst e
  exact ⟨_,_,_,hbx1,by simp [HoTy]⟩)
 have hl:(A++[Y]).length=A.length+1:=by simp
 have hs:strs (A++[Y])=strs A++[.string ⟨Y.toArray⟩]:=by simp [strs]
 refine ⟨hb1,⟨Zeb hE1 hK h.low,h.low,by rw [hl]; exact Zaf hbx1 5 _,⟨ys,hrow1.keep hF2 (fun k hj=>hK.block k (hrow1.owns.lt k hj).2 (Zfr hrow1.owns hbx1 (by decide) k hj))⟩,?_⟩,hF1.trans hF2⟩
 rw [hl,hs]
 exact Zai ha.owns (fun k hj=>hK.block k (ha.owns.lt k hj).2 (Zfr ha.owns hbx1 (by decide) k hj))
theorem Zwz (w0 w:World) (b:Nat) (cv nv:Value) (s:ByteArray) (p:Nat) (way:List (ND × Nat)) (A:List (List UInt8)) (names:Names) (gv vv rv uv:Value) (n:ND) (h:HoIn w0 w b cv nv s p way A) (hn:CNode w gv vv rv uv n) (hg:n.goals=[]) (hnv:w0.ownsRow 0 9 1 nv names.length (strs names)) (hvl:n.vals.length=names.length) (hs6:names.length≤60) (hns:∀ x ∈ names,x.length≤8) (hs:s.size≤20000) (hp:p≤s.size) (hA:A.length≤20000) :
  Calls Tryz.prog 103 #[.pointer (some ⟨b,0,none⟩),.agg #[gv,vv,rv,uv]] w (Yhf w0 w b cv nv s (Zco names s.data.toList n p way A)):=by
 obtain ⟨ga,gc,va',vl',vc',ra,rl,rc,u,rfl,rfl,rfl,rfl,hu4⟩:=hn.shape
 obtain ⟨W,hW⟩:∃ W,W=w.alloc (.cells #[.slice ga n.goals.length gc,.slice va' vl' vc',.slice ra rl rc,.int .i64 u] 87):=⟨_,rfl⟩
 have hEW:Ext w W:=by rw [hW]; exact (Ext.of (by repeat' (first | with_reducible(first|exact Qx _ _|apply Kept.drew|apply Kept.drewN|apply Qz|refine Qy ?_ ?_ _)|exact fun h=>absurd h (by simp <;> omega))))
 have hbW:W.heap[w.heap.size]?=some (.cells #[.slice ga n.goals.length gc,.slice va' vl' vc',.slice ra rl rc,.int .i64 u] 87 (0,0)):=by rw [hW]; exact heap_alloc_new w _
 have HP:=Zac (Zrv w0 W b cv nv s p way A 33 (by decide) (h.grow hEW) hs hp)
 have hm:Zco names s.data.toList n p way A=if s.data.toList[p]?=some 33 then ⟨true,p+1,way,A++[Zbp names n]⟩ else ⟨false,p,way,A⟩:=by unfold Zco; rw [if_pos hg]
 obtain ⟨Y,hY⟩:∃ Y,Y=Zbp names n:=⟨_,rfl⟩
 rw [← hY] at hm
 obtain ⟨M,hM⟩:∃ M,M=Zco names s.data.toList n p way A:=⟨_,rfl⟩
 rw [← hM] at hm ⊢
 have Hm:=Zac hm
 have hbl:b<w.heap.size:=by
  obtain ⟨_,_,_,_,h⟩:=h
  exact Zab h.box
 have Hn:=Zac hn
 have HEW:=Zac hEW
 have HbW:=Zac hbW
 simp only [show ((33:UInt8).toNat:Int)=33 from rfl] at HP
 rw [hg,Jt] at hW HbW ⊢
 have HW:=Zac hW
 have Hnv:=Zac hnv
 obtain ⟨na,nc,rfl⟩:=Zae hnv
 clear h hn hm hEW hbW hW hg hnv hM
 go_enter Tryz.func103,Tryz.ntmps103
 go_wp2_with fail
 rw [← HW.out]
 refine HP.out.mono ?_
 rintro e w1 ⟨hF1,⟨hc,rfl,h1⟩ | ⟨hc,rfl,h1⟩⟩
 ·obtain ⟨wa1,wc1,aa1,ac1,h1⟩:=h1
  obtain ⟨b0,b1,b2,b3,b4,b5,bf⟩:=box6 h1.box
  have hx1:=hF1 _ _ _ _ HbW.out (by simp [HoTy])
  have v1:=Zaa hx1 1 _ rfl
  have hbl1:=Zab h1.box
  obtain ⟨n1,hN,hU,hOk,hNm,hFw,hS⟩:=(Hn.out.ext HEW.out).fr hF1
  have hnl:n1.vals.length=names.length:=by rw [hS.vl,hvl]
  have hans:Zbp names n1=Zbp names n:=by unfold Zbp; rw [hS.valsC hOk]
  have hnv1:=Zai Hnv.out (fun j hj=>h1.ext.block j (Hnv.out.lt j hj).2)
  have HA:Hid (Calls Tryz.prog 70 #[.slice na names.length nc,.slice va' vl' vc'] w1.drew fun e w'=>Ext w1.drew w'∧e = .returned (.string ⟨(Zbp names n).toArray⟩)):=by
   have hE:Ext w1 w1.drew:=⟨rfl,rfl,rfl,Qe _,fun _ _=>rfl⟩
   rw [← hans]
   exact Zgy _ _ _ names n1.vals (Zai hnv1 (fun j hj=>hE.block j (hnv1.lt j hj).2)) (hN.vals.ext hE) (Zwn hOk hNm (by omega)) hnl.symm (Zlj hOk hNm (by omega) hs6 hns)
  rw [← hY] at HA
  have Hm1:Hid (M=⟨true,p+1,way,A++[Y]⟩):=by show _=_; rw [Hm.out,if_pos hc]
  have H1:=Zac h1
  have HF1:=Zac ((FrT.of_ext HEW.out).trans hF1)
  clear h1 hF1 hx1 hN hU hOk hNm hFw hS hnl hans hnv1 hY HP hns
  go_wp2_with fail
  refine Zev (by kernel_rfl) [.rd 0 1 (fun _ => .pointer (some ⟨b,0,none⟩)),.rd 0 1 (fun _ => .pointer (some ⟨b,0,none⟩)),.rd 0 1 (fun _ => .pointer (some ⟨b,1,none⟩)),.rd 0 0 (fun _ => .slice na names.length nc),.rd 0 1 (fun _ => .pointer (some ⟨w.heap.size,1,none⟩)),.rd 0 0 (fun _ => .slice va' vl' vc'),.st 0,.rd 1 1 (fun _ => .string ⟨Y.toArray⟩)] 1 7 (by kernel_rfl) (OnePh w1.drew (.string ⟨Y.toArray⟩)) rfl ?_ ?_
  ·refine ⟨⟨trivial,fun vs y _ hl hS => ?_⟩,⟨trivial,fun vs y _ hl hS => ?_⟩,⟨trivial,fun vs y _ hl hS => ?_⟩,⟨trivial,fun vs y _ hl hS => ?_⟩,⟨trivial,fun vs y _ hl hS => ?_⟩,⟨trivial,fun vs y _ hl hS => ?_⟩,⟨trivial,fun vs y hl hS => ?_⟩,⟨trivial,fun vs y hl0 hl hS => ?_⟩,trivial⟩
   ·simp [phAll,phA,pa,Ph.kd,Ph.val,Kd.val,go_sem]
   ·simp [phAll,phA,pa,Ph.kd,Ph.val,Kd.val,go_sem]
   ·simp [phAll,phA,pa,Ph.kd,Ph.val,Kd.val,go_sem]
   ·obtain rfl:=hS.at hl
    simp [phAll,phA,pa,Ph.kd,Ph.val,Kd.val,go_sem,b1]
   ·simp [phAll,phA,pa,Ph.kd,Ph.val,Kd.val,go_sem]
   ·obtain rfl:=hS.at hl
    simp [phAll,phA,pa,Ph.kd,Ph.val,Kd.val,go_sem,v1]
   ·obtain rfl:=List.length_eq_zero_iff.1 hl
    obtain rfl:y=w1.drew:=hS
    refine .call 70 #[.slice na names.length nc,.slice va' vl' vc'] _ (by simp [phAll,phA,pa,Ph.kd,Ph.val,Kd.val,go_sem]) (HA.out.mono ?_)
    rintro e u ⟨hE,rfl⟩
    exact ⟨_,rfl,rfl,hE⟩
   ·obtain ⟨v,rfl⟩:=List.length_eq_one_iff.1 (show vs.length=1 by omega)
    obtain ⟨rfl,_⟩:=hS
    simp [phAll,phA,pa,Ph.kd,Ph.val,Kd.val,go_sem]
  rintro vs y hl hS
  obtain ⟨v,rfl⟩:=List.length_eq_one_iff.1 hl
  obtain ⟨hv,hy⟩:=hS
  have hy2:=hy.undrew
  have h2:=H1.out.grow hy2
  have HF2:=Zac (HF1.out.trans (FrT.of_ext hy2))
  clear b0 b1 b2 b3 b4 b5 bf v1
  obtain ⟨b0,b1,b2,b3,b4,b5,bf⟩:=box6 h2.box
  have hbl2:=Zab h2.box
  have H2:=Zac h2
  simp only [phAll,phA,paAll,pa,Ph.kd,Ph.val,Kd.val,List.map_cons,List.map_nil,if_true,Act.put,List.setIfInBounds_toArray,List.set_cons_succ,List.set_cons_zero]
  clear hv hy hy2 h2
  go_wp2_with (at_builtin; go_loud (refine Zal y rfl (.tmp 24) (.tmp 26) 47 rfl w0.heap.size 9 Tryz.infoStr Tryz.underlying47 rfl (by decide) (.slice aa1 A.length ac1) A.length (strs A) rfl H2.out.ans #[.string ⟨Y.toArray⟩] rfl (by omega) rfl (by simp [Value.oneCell']) ?_ ?_ ?_))
  ·omega
  ·have:=H2.out.ext.size
   omega
  intro v' w2 hap
  obtain ⟨ga2,gc2,rfl⟩:=Zae hap.owns
  obtain ⟨hb2,hC2,hF3⟩:=H2.out.answer hap
  have hbx2:=hb2.trans H2.out.box
  have c5:=Zaa hbx2 5 _ rfl
  have cf:=fun i=>Zad hbx2 i
  have HC2:=Zac hC2
  have HF3:=Zac hF3
  have hbl3:=Zab hbx2
  clear hap hb2 hC2 hF3 hbx2 b0 b1 b2 b3 b4 b5 bf
  go_wp2
  go_ret
  rw [Hm1.out]
  exact ⟨HF2.out.trans HF3.out,rfl,_,_,_,_,HC2.out⟩
 ·have H1:=Zac h1
  have HF1:=Zac ((FrT.of_ext HEW.out).trans hF1)
  have Hm1:Hid (M=⟨false,p,way,A⟩):=by show _=_; rw [Hm.out,if_neg hc]
  clear h1 hF1 hc HP
  go_wp2
  go_ret
  rw [Hm1.out]
  exact ⟨HF1.out,rfl,H1.out⟩
theorem Tryz.infoLevelT:(Tryz.prog.info? 235).map (fun i=>(i.zero,i.size,i.bytes))=some (some (.agg #[.slice none 0 0,.slice none 0 0,.slice none 0 0,.int .i64 0,.int .i64 0]),5,88):=by kernel_rfl
theorem RowH.step {B:Nat} {w w':World} {cv cv':Value} {ds:List (ND × Nat)} {xs:List Value} {x0 x1 x2 x3:Value} {n:ND} {k:Nat} (h:RowH B w cv ds xs) (hn:CNode w x0 x1 x2 x3 n) (hF:FrT w w') (ho:w'.ownsRow B 235 5 cv' (ds.length+1) (xs++[x0,x1,x2,x3,.int .i64 k])) :
  RowH B w' cv' (ds++[(n,k)]) (xs++[x0,x1,x2,x3,.int .i64 k]):=by
 have hxl:=h.owns.1
 refine ⟨by simpa using ho,fun i d hd => ?_⟩
 rcases Nat.lt_or_ge i ds.length with hi | hi
 ·rw [Qc hi] at hd
  obtain ⟨p0,p1,p2,p3,y0,y1,y2,y3,y4,g⟩:=h.all i d hd
  exact ⟨p0,p1,p2,p3,by rw [Qc (by omega)]; exact y0,by rw [Qc (by omega)]; exact y1,by rw [Qc (by omega)]; exact y2,by rw [Qc (by omega)]; exact y3,by rw [Qc (by omega)]; exact y4,g.fr hF⟩
 ·have e:i=ds.length:=by
   have:=(Qa.1 hd).1
   simp at this; omega
  subst e
  rw [Qd (Qe _)] at hd
  simp at hd
  subst hd
  exact ⟨x0,x1,x2,x3,by rw [Qd (by omega)]; simp [hxl],by rw [Qd (by omega),show ds.length * 5+1 - xs.length=1 by omega]; rfl,by rw [Qd (by omega),show ds.length * 5+2 - xs.length=2 by omega]; rfl,by rw [Qd (by omega),show ds.length * 5+3 - xs.length=3 by omega]; rfl,by rw [Qd (by omega),show ds.length * 5+4 - xs.length=4 by omega]; rfl,hn.fr hF⟩
theorem CHo.push {w0 w w1:World} {b:Nat} {cv nv:Value} {s:ByteArray} {p:Nat} {way:List (ND × Nat)} {A:List (List UInt8)} {wa wa':Option Addr} {wc wc':Nat} {aa:Option Addr} {ac:Nat} {n:ND} {x0 x1 x2 x3:Value} {ys:List Value} (h:CHo w0 w b cv nv s p way A wa wc aa ac) (h2:RowH w0.heap.size w (.slice wa way.length wc) way.reverse ys) (hn:CNode w x0 x1 x2 x3 n)
  (ha:Appended w w0.heap.size 235 5 (.slice wa way.length wc) (way.length+1) (ys++[x0,x1,x2,x3,.int .i64 0]) (.slice wa' (way.length+1) wc') w1) :
  w1.heap[b]?=w.heap[b]?∧CHo w0 (w1.setCell ⟨b,4,none⟩ (.slice wa' (way.length+1) wc')) b cv nv s p ((n,0)::way) A wa' wc' aa ac∧FrT w (w1.setCell ⟨b,4,none⟩ (.slice wa' (way.length+1) wc')):=by
 have hn':=Zfr h2.owns h.box (by decide)
 have hb1:w1.heap[b]?=w.heap[b]?:=ha.kept.block b (Zab h.box) (fun e=>hn' b e rfl)
 have hF1:FrT w w1:=FrT.of_kept ha.kept (fun k e=>by
  rcases h2.owns.2 with ⟨e',_⟩ | ⟨g,cap,cur,e',_,hg,_⟩
  ·rw [e'] at e; simp [Zbn,Value.ownBlock] at e
  ·rw [e'] at e
   simp [Zbn,Value.ownBlock] at e
   subst e
   exact ⟨_,_,_,hg,by simp [HoTy]⟩)
 have hrow1:=h2.step (k:=0) hn hF1 (by rw [List.length_reverse]; exact ha.owns)
 have hans1:w1.ownsRow w0.heap.size 9 1 (.slice aa A.length ac) A.length (strs A):=Zai h.ans (fun k hj=>ha.kept.block k (h.ans.lt k hj).2 (fun e=>by
  rcases h2.owns.2 with ⟨e',_⟩ | ⟨g,cap,cur,e',_,hg,_⟩
  ·rw [e'] at e; simp [Zbn,Value.ownBlock] at e
  ·rw [e'] at e
   simp [Zbn,Value.ownBlock] at e
   subst e
   exact Zfr h.ans hg (by decide) _ hj rfl))
 have hE1:Ext w0 w1:=h.ext.trans (ha.kept.below h.ext.size (fun k e=>(h2.owns.lt k e).1))
 have hbx1:=hb1.trans h.box
 have hK:Kept (only b) w1 (w1.setCell ⟨b,4,none⟩ (.slice wa' (way.length+1) wc')):=(Qx _ _).put 4 _
 have hF2:FrT w1 (w1.setCell ⟨b,4,none⟩ (.slice wa' (way.length+1) wc')):=FrT.of_kept hK (fun k e=>by
  have e:k=b:=e
  subst e
  exact ⟨_,_,_,hbx1,by simp [HoTy]⟩)
 exact ⟨hb1,⟨Zeb hE1 hK h.low,h.low,Zaf hbx1 4 _,⟨_,by rw [List.reverse_cons]; exact hrow1.keep hF2 (fun k hj=>hK.block k (hrow1.owns.lt k hj).2 (Zfr hrow1.owns hbx1 (by decide) k hj))⟩,Zai hans1 (fun k hj=>hK.block k (hans1.lt k hj).2 (Zfr hans1 hbx1 (by decide) k hj))⟩,hF1.trans hF2⟩
theorem Zxa (w0 w:World) (b:Nat) (cv nv:Value) (s:ByteArray) (p:Nat) (way:List (ND × Nat)) (A:List (List UInt8)) (names:Names) (gv vv rv uv:Value) (n:ND) (h:HoIn w0 w b cv nv s p way A) (hn:CNode w gv vv rv uv n) (hg:n.goals≠[]) (hs:s.size≤20000) (hp:p≤s.size) (hwl:way.length≤20000) :
  Calls Tryz.prog 103 #[.pointer (some ⟨b,0,none⟩),.agg #[gv,vv,rv,uv]] w (Yhf w0 w b cv nv s (Zco names s.data.toList n p way A)):=by
 obtain ⟨ga,gc,va',vl',vc',ra,rl,rc,u,rfl,rfl,rfl,rfl,hu4⟩:=hn.shape
 have hgl:0<n.goals.length:=List.length_pos_iff.2 hg
 obtain ⟨z,hz⟩:∃ z,z=n.goals.length:=⟨_,rfl⟩
 rw [← hz] at hgl hn ⊢
 obtain ⟨W,hW⟩:∃ W,W=w.alloc (.cells #[.slice ga z gc,.slice va' vl' vc',.slice ra rl rc,.int .i64 u] 87):=⟨_,rfl⟩
 have hEW:Ext w W:=by rw [hW]; exact (Ext.of (by repeat' (first | with_reducible(first|exact Qx _ _|apply Kept.drew|apply Kept.drewN|apply Qz|refine Qy ?_ ?_ _)|exact fun h=>absurd h (by simp <;> omega))))
 have hbW:W.heap[w.heap.size]?=some (.cells #[.slice ga z gc,.slice va' vl' vc',.slice ra rl rc,.int .i64 u] 87 (0,0)):=by rw [hW]; exact heap_alloc_new w _
 have HP:=Zac (Zrv w0 W b cv nv s p way A 40 (by decide) (h.grow hEW) hs hp)
 have hm:Zco names s.data.toList n p way A=if s.data.toList[p]?=some 40 then ⟨true,p+1,(n,0)::way,A⟩ else ⟨false,p,way,A⟩:=by unfold Zco; rw [if_neg hg]
 obtain ⟨M,hM⟩:∃ M,M=Zco names s.data.toList n p way A:=⟨_,rfl⟩
 rw [← hM] at hm ⊢
 have Hm:=Zac hm
 have hbl:b<w.heap.size:=by
  obtain ⟨_,_,_,_,h⟩:=h
  exact Zab h.box
 have Hn:=Zac hn
 have HEW:=Zac hEW
 have HbW:=Zac hbW
 simp only [show ((40:UInt8).toNat:Int)=40 from rfl] at HP
 have HW:=Zac hW
 have hzi:(0:Int)<(z:Int):=by omega
 have hzb:((z:Int) == 0)=false:=by rw [Qu]; omega
 clear h hn hm hEW hbW hW hg hM hz
 go_enter Tryz.func103,Tryz.ntmps103
 go_wp2_with fail
 rw [← HW.out]
 refine HP.out.mono ?_
 rintro e w1 ⟨hF1,⟨hc,rfl,h1⟩ | ⟨hc,rfl,h1⟩⟩
 ·obtain ⟨wa1,wc1,aa1,ac1,h1⟩:=h1
  have hx1:=hF1 _ _ _ _ HbW.out (by simp [HoTy])
  have hbx1:=h1.box
  obtain ⟨L,hL⟩:∃ L,L=way.length:=⟨_,rfl⟩
  rw [← hL] at hbx1 hwl
  obtain ⟨b0,b1,b2,b3,b4,b5,bf⟩:=box6 hbx1
  have k0:=Zaa hx1 0 _ rfl
  have k1:=Zaa hx1 1 _ rfl
  have k2:=Zaa hx1 2 _ rfl
  have k3:=Zaa hx1 3 _ rfl
  have hbl1:=Zab h1.box
  have hxl1:=Zab hx1
  obtain ⟨ys,hrow⟩:=h1.row
  have hCn:=(Hn.out.ext HEW.out).fr hF1
  have hEd:Ext w1 (w1.drewN 1):=Ext.of ((Qx _ w1).drewN _)
  have hod:(w1.drewN 1).ownsRow w0.heap.size 235 5 (.slice wa1 L wc1) L ys:=by
   have:=(hrow.keep (FrT.of_ext hEd) (fun k hk=>hEd.block k (hrow.owns.lt k hk).2)).owns
   rw [List.length_reverse,← hL] at this
   exact this
  have h0s:=h1.ext.size
  have Hfin:Hid (∀ w2 wa2 wc2,Appended (w1.drewN 1) w0.heap.size 235 5 (.slice wa1 L wc1) (L+1) (ys++[.slice ga z gc,.slice va' vl' vc',.slice ra rl rc,.int .i64 u,.int .i64 0]) (.slice wa2 (L+1) wc2) w2→w2.heap[b]?=w1.heap[b]?∧Yhf w0 w b cv nv s M (.returned (.bool true)) (w2.setCell ⟨b,4,none⟩ (.slice wa2 (L+1) wc2))):=fun w2 wa2 wc2 hap=>by
   have hd:=h1.grow hEd
   rw [hL] at hap ⊢
   obtain ⟨g1,g2,g3⟩:=hd.push (hrow.keep (FrT.of_ext hEd) (fun k hk=>hEd.block k (hrow.owns.lt k hk).2)) (hCn.ext hEd) hap
   refine ⟨g1,?_⟩
   rw [Hm.out,if_pos hc]
   exact ⟨(((FrT.of_ext HEW.out).trans hF1).trans (FrT.of_ext hEd)).trans g3,rfl,_,_,_,_,g2⟩
  have Hod:=Zac hod
  have Hbx1:=Zac hbx1
  clear h1 hF1 hx1 hbx1 hrow hCn hEd hod HP hL
  go_wp2_with fail
  go_region_law (refine Zcs (w1.drewN 1) rfl (.tmp 37) (.tmp 40) 140 rfl w0.heap.size 235 Tryz.infoLevelT Tryz.underlying140 rfl (by decide) (.slice wa1 L wc1) L ys rfl Hod.out #[.slice ga z gc,.slice va' vl' vc',.slice ra rl rc,.int .i64 u,.int .i64 0] rfl (by show _=w1.heap.size; omega) rfl Zug (by omega) (by show _≤w1.heap.size; omega) rfl ?_; intro v' w2 hap; obtain ⟨wa2,wc2,rfl⟩:=Zae hap.owns; obtain ⟨hb2,hfin⟩:=Hfin.out _ _ _ hap; have hb3:=hb2.trans Hbx1.out; have d2:=Zaa hb3 4 _ rfl; have df:=fun i=>Zad hb3 i; have H2:=Zac hfin; clear hap hb2 hb3 hfin)
  all_goals
   go_wp2
   go_ret
   exact H2.out
 ·have H1:=Zac h1
  have HF1:=Zac ((FrT.of_ext HEW.out).trans hF1)
  have Hm1:Hid (M=⟨false,p,way,A⟩):=by show _=_; rw [Hm.out,if_neg hc]
  clear h1 hF1 hc HP
  go_wp2
  go_ret
  rw [Hm1.out]
  exact ⟨HF1.out,rfl,H1.out⟩
end Go.Proofs.YtlmjilpjmgjjcaaGreatDoor
