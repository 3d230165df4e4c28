/-
  PROVED HERE: plain facts: made rules, laid out in three ways, are read as the same clauses and written as the same text (no memory; the conditions stand in each statement).
-/
import Derived.Test.YtlmjilpjmgjjcaaDoorT4
import Derived.BigQuiet
import Derived.Deep.QuietTactic
import Derived.Deep.RegionWith
import Derived.Deep.CutRange
import Derived.Lib.ItoaLen
import Derived.Shelf.LaysM
import Derived.Shelf.Strconv.Itoa3
import Derived.Lib.AppendIntMem
import Derived.Lib.Strings
set_option linter.unusedSimpArgs false
set_option linter.unusedVariables false
set_option maxRecDepth 10000
set_option maxHeartbeats 4000000
namespace Go.Proofs.YtlmjilpjmgjjcaaDoor
theorem Yaz:∀ (f:Nat) {l:List Sym},IsT f l→Wf 1 l:=by
 intro f
 induction f with
 | zero=>intro l h; exact h.elim
 | succ f ih =>
  intro l h
  rcases h with ⟨n,rfl⟩ | ⟨nm,ls,h1,rfl,h2⟩
  ·exact Zzh n
  ·refine ⟨by omega,fun e=>absurd e h1,fun _=>rfl,?_⟩
   have:=Zjz (fun l hl=>ih (h2 l hl))
   simpa using this
theorem Ydq:∀ (l:List Sym) (k k':Nat),scan l k=some k'→∀ i,k≤i→i<k'→Occ i l:=by
 intro l
 induction l with
 | nil=>intro k k' h i h1 h2; simp [scan] at h; omega
 | cons s l ih =>
  intro k k' h i h1 h2
  simp only [scan] at h
  have up:Occ i l→Occ i (s::l):=fun ⟨t,ht,e1,e2⟩=>⟨t,by simp [ht],e1,e2⟩
  split at h
  ·rename_i hn
   split at h
   ·exact up (ih _ _ h i h1 h2)
   ·split at h
    ·rename_i hk
     rcases Nat.lt_or_ge k i with h3 | h3
     ·exact up (ih _ _ h i h3 h2)
     ·exact ⟨s,by simp,hn,by omega⟩
    ·simp at h
  ·exact up (ih _ _ h i h1 h2)
theorem Ztm {f:Nat}:∀ {g:Nat} {ts:List Tok} {names:Names} {acc:List (List Sym)} {q},Zci f g ts names acc=some q→acc.length<q.1.length:=by
 intro g
 induction g with
 | zero=>intro ts names acc q h; simp [Zci] at h
 | succ g ih =>
  intro ts names acc q h
  rw [Zci] at h
  cases hq:Zce f ts names with
  | none=>rw [hq] at h; simp at h
  | some r =>
   rw [hq] at h
   simp only at h
   cases hr:r.2.1 with
   | nil=>rw [hr] at h; simp at h
   | cons x rest =>
    rw [hr] at h
    simp only at h
    split at h
    ·simp at h; subst h; simp
    ·have:=ih h; simp at this; omega
def Ygd (c:Cls):Prop:=∃ k1,scan c.head 0=some k1∧scan c.body.flatten k1=some c.n
theorem Zri (ts:List Tok) (c:Cls × List Tok) (hw:Worded ts) (h:Zcs ts=some c):Ygd c.1:=by
 rw [Zcs] at h
 cases hp:Zce 1000 ts [] with
 | none=>rw [hp] at h; simp at h
 | some r =>
  rw [hp] at h
  simp only at h
  obtain ⟨i1,i2⟩:=Zlz 1000 ts [] r hw hp
  obtain ⟨n,_,_,hn,_⟩:=Zfu 1000 ts [] r hp
  have hw1:Worded r.2.1:=by rw [hn]; exact hw.drop n
  cases hr:r.2.1 with
  | nil=>rw [hr] at h; simp at h
  | cons y ys =>
   rw [hr] at h hw1
   simp only at h
   split at h
   ·rw [Option.map_eq_some_iff] at h
    obtain ⟨q,hq,rfl⟩:=h
    obtain ⟨g1,g2,g3⟩:=Zgl 1000 r.2.2.length 1000 ys r.2.2 [] q hw1.tail (by simp) rfl hq
    exact ⟨_,i2,g2⟩
   ·simp at h
    subst h
    exact ⟨_,i2,rfl⟩
theorem Zxh:∀ (g:Nat) (ts:List Tok) (acc cs:List Cls),Worded ts→(∀ c ∈ acc,Ygd c)→Zee g ts acc=some cs→∀ c ∈ cs,Ygd c:=by
 intro g
 induction g with
 | zero=>intro ts acc cs _ _ h; simp [Zee] at h
 | succ g ih =>
  intro ts acc cs hw ha h
  cases ts with
  | nil=>simp [Zee] at h
  | cons t ts =>
   rw [Zee] at h
   split at h
   ·simp at h; subst h; exact ha
   ·cases hc:Zcs (t::ts) with
    | none=>rw [hc] at h; simp at h
    | some c =>
     rw [hc] at h
     simp only at h
     obtain ⟨_,g2⟩:=Zma _ c hw hc
     have g1:=Zri _ c hw hc
     refine ih c.2 (acc++[c.1]) cs g2 ?_ h
     intro x hx
     simp at hx
     rcases hx with hx | rfl
     ·exact ha x hx
     ·exact g1
theorem Zrj (s:ByteArray) (hs:s.size≤800) (h0:(runs s false).1=0):∃ cs,Zee 1000 (Zal s) []=some cs∧(runs s false).2.2.clauses=cs:=by
 obtain ⟨r1,_,r3⟩:=Zcq s false
 have hl:=Zds s
 have hok:okk (Zal s) (Zbu false):=r1.symm.trans h0
 obtain ⟨cs,i,ex,h1,h2,h3,h4⟩:=Zuv 1000 (Zal s) (Zbu false) [] (st0 false) (by omega) (by omega) hok (Zls _ _) rfl rfl rfl rfl ⟨rfl,rfl,rfl,rfl,rfl,rfl,rfl,rfl⟩
 rw [show (Zal s).take i=toks s.data.toList 0 from Yae (Zia _ _) h2] at h4
 rw [List.nil_append] at h3
 subst h3
 refine ⟨cs,h1,?_⟩
 rw [r3 h0,h4]
 rfl
theorem Zdu {s:ByteArray} {cs:List Cls} (h:Zcp s=some cs):s.size≤800∧(runs s false).1=0∧(runs s false).2.2.clauses=cs∧(∀ c ∈ cs,COk c∧CNm c)∧cs.length≤24:=by
 unfold Zcp at h
 split at h
 ·simp at h
 ·split at h
  ·simp at h
  ·rename_i hs he
   have hs:s.size≤800:=by omega
   obtain ⟨r1,_,_⟩:=Zcq s false
   have h0:(runs s false).1=0:=by rw [r1]; omega
   obtain ⟨cs',e1,e2⟩:=Zrj s hs h0
   rw [e1] at h
   simp at h
   subst h
   have hB:SB (runs s false).2.2:=(SB.start false).run h0
   have hg:=Zqo 1000 (Zal s) [] cs' (Zda s) (by simp) e1
   have hgn:=Zxh 1000 (Zal s) [] cs' (Zda s) (by simp) e1
   refine ⟨hs,h0,e2,fun c hc => ?_,by rw [← e2]; exact hB.clsn⟩
   obtain ⟨g1,g2,_⟩:=hg c hc
   obtain ⟨k1,n1,n2⟩:=hgn c hc
   obtain ⟨b1,b2,b3⟩:=hB.cls c (by rw [e2]; exact hc)
   obtain ⟨c1,c2,c3⟩:=hB.cn c (by rw [e2]; exact hc)
   obtain ⟨x1,x2,x3⟩:=Zdf _ _ _ n1
   obtain ⟨y1,y2,y3⟩:=Zdf _ _ _ n2
   have hfl:c.body.flatten.length≤180:=by
    have key:∀ ls:List (List Sym),(∀ t ∈ ls,t.length≤30)→ls.flatten.length≤30 * ls.length:=by
     intro ls
     induction ls with
     | nil=>intro _; simp
     | cons t ts ih =>
      intro h
      have h1:=h t (by simp)
      have h2:=ih (fun y hy=>h y (by simp [hy]))
      simp only [List.flatten_cons,Qg,Qf]; omega
    have:=key c.body b2
    omega
   refine ⟨⟨Yaz 1000 g1,fun t ht=>Yaz 1000 (g2 t ht),?_,?_,by omega,b1,b2,b3⟩,fun x hx=>Qq (c1 x hx) (by omega),fun t ht x hx=>Qq (c2 t ht x hx) (by omega)⟩
   ·rintro v ⟨x,hx,e1,e2⟩
    have:=x3 x hx e1
    omega
   ·rintro t ht v ⟨x,hx,e1,e2⟩
    have:=y3 x (List.mem_flatten.2 ⟨t,ht,hx⟩) e1
    omega
theorem Zfh {s:ByteArray} {a:List (List Sym) × Names} (h:Zeb s=some a):s.size≤120∧(runs s true).1=0∧(runs s true).2.2.clauses=[⟨[],a.1,a.2⟩]∧NOk (topN a)∧NNm (topN a)∧a.1.length≤6∧a.1≠[]∧a.2.length≤121∧(∀ x ∈ a.2,x.length≤8):=by
 unfold Zeb at h
 split at h
 ·simp at h
 ·split at h
  ·simp at h
  ·rename_i hs he
   have hs:s.size≤120:=by omega
   obtain ⟨r1,_,_⟩:=Zcq s true
   have h0:(runs s true).1=0:=by rw [r1]; omega
   obtain ⟨q,e1,e2,_⟩:=Zej s hs h0
   rw [e1] at h
   simp at h
   subst h
   have hB:SB (runs s true).2.2:=(SB.start true).run h0
   obtain ⟨g1,g2,_⟩:=Zgl 1000 0 1000 (Zal s) [] [] q (Zda s) (by simp) rfl e1
   obtain ⟨b1,b2,b3⟩:=hB.cls ⟨[],q.1,q.2.2⟩ (by rw [e2]; simp)
   obtain ⟨c1,c2,c3⟩:=hB.cn ⟨[],q.1,q.2.2⟩ (by rw [e2]; simp)
   obtain ⟨x1,x2,x3⟩:=Zdf _ _ _ g2
   have hl:=Zds s
   have hM:=Zip (M:=120) 1000 (Zal s) [] [] q (fun t ht=>Qq (Zhl s t ht) hs) (by simp) e1
   have hM1:=hM.1
   simp only [List.flatten_nil,Qt] at hM1
   simp only at b2 b3 c2 c3
   have hwf:∀ t ∈ q.1,Wf 1 t:=fun t ht=>Yaz 1000 (g1 t ht)
   have hne:q.1≠[]:=by
    intro e
    have:=Ztm e1
    rw [e] at this
    simp at this
   refine ⟨hs,h0,e2,⟨?_,?_,?_,by simp [topN],?_,by simp [topN]; omega,by simp [topN],by simp [topN],by simp [topN]; omega,by simp [topN]; omega⟩,?_,b3,hne,by simp only; omega,c3⟩
   ·intro t ht
    simp only [ND.terms,topN,List.map_map,List.map_nil,Qs,Qk,List.mem_map,Function.comp] at ht
    rcases ht with ⟨u,hu,rfl⟩ | ⟨i,_,rfl⟩
    ·exact hwf u hu
    ·exact Zzh i
   ·intro t ht v hv
    simp only [ND.terms,topN,List.map_map,List.map_nil,Qs,Qk,List.mem_map,Function.comp,List.mem_range] at ht
    show v<q.2.2.length
    rcases ht with ⟨u,hu,rfl⟩ | ⟨i,hi,rfl⟩
    ·obtain ⟨x,hx,e3,e4⟩:=hv
     have:=x3 x (List.mem_flatten.2 ⟨_,hu,hx⟩) e3
     omega
    ·have:=Zzf.1 hv; omega
   ·intro g hg
    simp only [topN,List.mem_map] at hg
    obtain ⟨t,ht,rfl⟩:=hg
    exact ⟨b2 t ht,by simp [topN]⟩
   ·intro t ht
    simp only [topN,List.mem_map,List.mem_range] at ht
    obtain ⟨i,hi,rfl⟩:=ht
    obtain ⟨x,hx,e3,e4⟩:=Ydq _ _ _ g2 i (Qm _) hi
    obtain ⟨u,hu,hxu⟩:=List.mem_flatten.1 hx
    obtain ⟨p,r,e5⟩:=List.append_of_mem hxu
    have hargs:=Zsz (hwf u hu) x hxu e3
    have ex:x=⟨[],i,0⟩:=by
     cases x
     simp only at e3 e4 hargs
     subst e3 e4 hargs
     rfl
    refine ⟨(u,0),by simp only [topN,Qs,List.mem_map]; exact ⟨u,hu,rfl⟩,p,r,?_⟩
    show u=p++vr i++r
    rw [e5,ex]; simp [vr]
   ·intro t ht
    simp only [ND.terms,topN,List.map_map,List.map_nil,Qs,Qk,List.mem_map,Function.comp] at ht
    rcases ht with ⟨u,hu,rfl⟩ | ⟨i,_,rfl⟩
    ·exact fun x hx=>Qq (c2 u hu x hx) (by omega)
    ·exact Zrh i
end Go.Proofs.YtlmjilpjmgjjcaaDoor
namespace Go.Proofs.YtlmjilpjmgjjcaaDoor
open Go.RowKit
theorem Zrk {l:List Sym} (hl:l.length≤1000) (hw:Wf 1 l) (hn:∀ s ∈ l,s.name.length≤4096) {seen:List Nat} (hs:seen.length+l.length≤4000) :
  (Zbm (Zav l seen).1 []).length≤4100 * l.length∧(Zav l seen).2.length≤seen.length+l.length:=by
 have hT:=Yhn 1000 hl hw
 obtain ⟨h1,h2⟩:=Zta hT seen
 have:=Zlh 1000 l hT hn seen hs
 rw [h1,h2] at this
 omega
theorem Yba:∀ (names:Names) (ts:List (List Sym)) (sep:List UInt8) (seen:List Nat),(∀ x ∈ names,x.length≤4096)→(∀ t ∈ ts,Wf 1 t∧t.length≤1000∧∀ s ∈ t,s.name.length≤4096)→sep.length≤1→seen.length+ts.flatten.length≤4000 →
  (Zih sep names (Zay ts seen).1).length≤4098 * names.length+4100 * ts.flatten.length:=by
 intro names
 induction names with
 | nil=>intro ts sep seen _ _ _ _; cases ts <;> simp [Zay,Zih]
 | cons x xs ih =>
  intro ts sep seen h1 h2 h3 h4
  cases ts with
  | nil=>simp [Zay,Zih]
  | cons t ts =>
   obtain ⟨t1,t2,t3⟩:=h2 t (by simp)
   simp only [List.flatten_cons,Qg] at h4 ⊢
   obtain ⟨c1,c2⟩:=Zrk t2 t1 t3 (seen:=seen) (by omega)
   have h:=ih ts [44] (Zav t seen).2 (fun y hy=>h1 y (by simp [hy])) (fun y hy=>h2 y (by simp [hy])) (by simp) (by omega)
   have hx:=h1 x (by simp)
   simp only [Zay,Zih,Qg,Qf]
   omega
theorem Ybb {n:ND} {c:Cls} {k:Nat} (h:(tryN n c k).2=1∨(tryN n c k).2=2):(tryN n c k).1.vals.length=n.vals.length:=by
 by_cases hex:∃ r:ND × Nat,∃ m,NOk m∧Same m n∧Out m c k r.2 r.1
 ·have e:tryN n c k=Classical.choose hex:=by unfold tryN; rw [dif_pos hex]
  obtain ⟨m,_,hS,g,gs,_,ho⟩:=Classical.choose_spec hex
  rw [e] at h ⊢
  rcases ho with ⟨h0,_⟩ | ⟨h0,_⟩ | ⟨σ,_,_,_,h4⟩
  ·omega
  ·omega
  ·rw [h4]; simp [Zax,hS.vl]
 ·have e:tryN n c k=(⟨[],[],[],[],0⟩,0):=by unfold tryN; rw [dif_neg hex]
  rw [e] at h
  simp at h
theorem Zjl {n:ND} {c:Cls} {k:Nat} (h:(tryN n c k).2=1∨(tryN n c k).2=2):(tryN n c k).1.used=n.used++[k]:=by
 by_cases hex:∃ r:ND × Nat,∃ m,NOk m∧Same m n∧Out m c k r.2 r.1
 ·have e:tryN n c k=Classical.choose hex:=by unfold tryN; rw [dif_pos hex]
  obtain ⟨m,_,hS,g,gs,_,ho⟩:=Classical.choose_spec hex
  rw [e] at h ⊢
  rcases ho with ⟨h0,_⟩ | ⟨h0,_⟩ | ⟨σ,_,_,_,h4⟩
  ·omega
  ·omega
  ·rw [h4]; simp [Zax,hS.used]
 ·have e:tryN n c k=(⟨[],[],[],[],0⟩,0):=by unfold tryN; rw [dif_neg hex]
  rw [e] at h
  simp at h
theorem Zxi:∀ (ks:List Nat) (sep:List UInt8),sep.length≤1→(∀ k ∈ ks,k≤99)→(Zfq sep ks).length≤101 * ks.length:=by
 intro ks
 induction ks with
 | nil=>intro sep _ _; simp [Zfq]
 | cons k ks ih =>
  intro sep hs hk
  have h1:=ih [46] (by simp) (fun j hj=>hk j (by simp [hj]))
  have h2:=hk k (by simp)
  have h3:=Zjv k
  simp only [Zfq,Qg,Qf]
  omega
mutual
inductive TreeR (cs:List Cls):ND→List UInt8→Prop
 | leaf (n:ND) (h:n.goals=[]):TreeR cs n [33]
 | node (n:ND) (t:List UInt8) (h:n.goals≠[]) (hp:Part cs n cs.length t):TreeR cs n ([40]++t++[41])
inductive Part (cs:List Cls):ND→Nat→List UInt8→Prop
 | zero (n:ND):Part cs n 0 []
 | miss (n:ND) (k:Nat) (t:List UInt8) (c:Cls) (h:Part cs n k t) (hc:cs[k]?=some c) (hq:(tryN n c k).2=0):Part cs n (k+1) t
 | kid (n:ND) (k:Nat) (t u:List UInt8) (c:Cls) (h:Part cs n k t) (hc:cs[k]?=some c) (hq:(tryN n c k).2=1∨(tryN n c k).2=2) (hu:TreeR cs (tryN n c k).1 u):Part cs n (k+1) (t++Lib.decDigits k++u)
end
structure SN where
 way:List (ND × Nat)
 tries:Nat
 status:Nat
 found:ND
 tree:List UInt8
def Zdr (cs:List Cls):List (ND × Nat)→List UInt8→List (ND × Nat) × List UInt8
 | (n,k)::r,t=>if cs.length≤k then Zdr cs r (t++[41]) else ((n,k)::r,t)
 | [],t=>([],t)
noncomputable def Zcd (s:SN) (n:ND):SN:=open Classical in if n.goals=[] then { s with tree:=s.tree++[33],status:=1,found:=n } else { s with way:=(n,0)::s.way,tree:=s.tree++[40] }
noncomputable def Zdb (cs:List Cls) (s:SN):SN := { s with way:=(Zdr cs s.way s.tree).1,tree:=(Zdr cs s.way s.tree).2 }
noncomputable def Zaq (cs:List Cls) (s:SN):SN:=match s.way with
 | []=>s
 | (n,k)::r=>match cs[k]? with
  | none=>s
  | some c=>Zdb cs (if (tryN n c k).2=3 then { s with way:=(n,k+1)::r,tries:=s.tries+1,status:=3 }
    else if (tryN n c k).2=1∨(tryN n c k).2=2 then Zcd { s with way:=(n,k+1)::r,tries:=s.tries+1,tree:=s.tree++Lib.decDigits k } (tryN n c k).1
    else { s with way:=(n,k+1)::r,tries:=s.tries+1 })
def PH (cs:List Cls) (top:ND):List (ND × Nat)→ND→Nat→List UInt8→Prop
 | [],n,k,T=>n=top∧n.goals≠[]∧k≤cs.length∧∃ t,Part cs n k t∧T=[40]++t
 | x::r,n,k,T=>n.goals≠[]∧k≤cs.length∧∃ t j' c T',x.2=j'+1∧cs[j']?=some c∧((tryN x.1 c j').2=1∨(tryN x.1 c j').2=2)∧n=(tryN x.1 c j').1∧PH cs top r x.1 j' T'∧Part cs n k t∧T=T'++Lib.decDigits j'++([40]++t)
def PW (cs:List Cls) (top:ND):List (ND × Nat)→List UInt8→Prop
 | [],T=>TreeR cs top T
 | (n,k)::r,T=>PH cs top r n k T
theorem PW.part {cs:List Cls} {top n:ND} {k:Nat} {r:List (ND × Nat)} {T:List UInt8} (h:PW cs top ((n,k)::r) T):n.goals≠[]∧k≤cs.length∧∃ t0 t,Part cs n k t∧T=t0++([40]++t)∧∀ k' t',Part cs n k' t'→k'≤cs.length→PW cs top ((n,k')::r) (t0++([40]++t')):=by
 cases r with
 | nil =>
  obtain ⟨h1,h2,h3,t,h4,h5⟩:=h
  exact ⟨h2,h3,[],t,h4,by simpa using h5,fun k' t' hp hk=>⟨h1,h2,hk,t',hp,by simp⟩⟩
 | cons m r =>
  obtain ⟨m,j⟩:=m
  obtain ⟨h1,h2,t,j',c,T',h3,h4,h5,h6,h7,h8,h9⟩:=h
  exact ⟨h1,h2,T'++Lib.decDigits j',t,h8,h9,fun k' t' hp hk=>⟨h1,hk,t',j',c,T',h3,h4,h5,h6,h7,hp,rfl⟩⟩
theorem PW.miss {cs:List Cls} {top n:ND} {k:Nat} {r:List (ND × Nat)} {T:List UInt8} {c:Cls} (h:PW cs top ((n,k)::r) T) (hc:cs[k]?=some c) (hq:(tryN n c k).2=0):PW cs top ((n,k+1)::r) T:=by
 obtain ⟨h1,h2,t0,t,h3,h4,h5⟩:=h.part
 rw [h4]
 exact h5 (k+1) t (.miss n k t c h3 hc hq) (by have:=(Qa.1 hc).1; omega)
theorem PW.kid {cs:List Cls} {top n:ND} {k:Nat} {r:List (ND × Nat)} {T u:List UInt8} {c:Cls} (h:PW cs top ((n,k)::r) T) (hc:cs[k]?=some c) (hq:(tryN n c k).2=1∨(tryN n c k).2=2) (hu:TreeR cs (tryN n c k).1 u):PW cs top ((n,k+1)::r) (T++Lib.decDigits k++u):=by
 obtain ⟨h1,h2,t0,t,h3,h4,h5⟩:=h.part
 rw [h4]
 have:=h5 (k+1) (t++Lib.decDigits k++u) (.kid n k t u c h3 hc hq hu) (by have:=(Qa.1 hc).1; omega)
 simpa using this
theorem PW.down {cs:List Cls} {top n:ND} {k:Nat} {r:List (ND × Nat)} {T:List UInt8} {c:Cls} (h:PW cs top ((n,k)::r) T) (hc:cs[k]?=some c) (hq:(tryN n c k).2=1∨(tryN n c k).2=2) (hg:(tryN n c k).1.goals≠[]):PW cs top (((tryN n c k).1,0)::(n,k+1)::r) (T++Lib.decDigits k++[40]) :=
 ⟨hg,Qm _,[],k,c,T,rfl,hc,hq,rfl,h,.zero _,by simp⟩
theorem PW.up {cs:List Cls} {top n:ND} {k:Nat} {r:List (ND × Nat)} {T:List UInt8} (h:PW cs top ((n,k)::r) T) (hk:cs.length≤k):PW cs top r (T++[41]):=by
 cases r with
 | nil =>
  obtain ⟨h1,h2,h3,t,h4,h5⟩:=h
  have e:k=cs.length:=by omega
  subst e h1 h5
  exact .node n t h2 h4
 | cons m r =>
  obtain ⟨m,j⟩:=m
  obtain ⟨h1,h2,t,j',c,T',h3,h4,h5,h6,h7,h8,h9⟩:=h
  have e:k=cs.length:=by omega
  simp only at h3 h5 h6 h7
  subst e h3 h6 h9
  have h7':PW cs top ((m,j')::r) T':=h7
  have:=h7'.kid h4 h5 (.node _ t h1 h8)
  simpa using this
theorem PW.leave {cs:List Cls} {top:ND}:∀ {way:List (ND × Nat)} {T:List UInt8},PW cs top way T→PW cs top (Zdr cs way T).1 (Zdr cs way T).2:=by
 intro way
 induction way with
 | nil=>intro T h; exact h
 | cons x r ih =>
  obtain ⟨n,k⟩:=x
  intro T h
  unfold Zdr
  split
  ·rename_i hk
   exact ih (h.up hk)
  ·exact h
theorem Zme (n:ND) (c:Cls) (k:Nat):(tryN n c k).2=0∨(tryN n c k).2=1∨(tryN n c k).2=2∨(tryN n c k).2=3:=by
 by_cases hex:∃ r:ND × Nat,∃ m,NOk m∧Same m n∧Out m c k r.2 r.1
 ·have e:tryN n c k=Classical.choose hex:=by unfold tryN; rw [dif_pos hex]
  obtain ⟨m,_,_,g,gs,_,ho⟩:=Classical.choose_spec hex
  rw [e]
  rcases ho with ⟨h0,_⟩ | ⟨h0,_⟩ | ⟨σ,_,_,h3,_⟩
  ·exact Or.inl h0
  ·exact Or.inr (Or.inr (Or.inr h0))
  ·rw [h3]
   unfold Zfn
   split
   ·simp
   ·split <;> simp
 ·have e:tryN n c k=(⟨[],[],[],[],0⟩,0):=by unfold tryN; rw [dif_neg hex]
  rw [e]; simp
theorem PW.try' {cs:List Cls} {top:ND} {s:SN} (h:PW cs top s.way s.tree) (hf:(Zaq cs s).status≠3):PW cs top (Zaq cs s).way (Zaq cs s).tree:=by
 unfold Zaq at hf ⊢
 cases hw:s.way with
 | nil=>rw [hw] at hf h; simpa [hw] using h
 | cons x r =>
  obtain ⟨n,k⟩:=x
  rw [hw] at hf h
  simp only at hf ⊢
  cases hc:cs[k]? with
  | none=>rw [hc] at hf; simp only [hw]; exact h
  | some c =>
   rw [hc] at hf
   simp only at hf ⊢
   by_cases h3:(tryN n c k).2=3
   ·rw [if_pos h3] at hf
    exact absurd rfl hf
   ·rw [if_neg h3]
    by_cases h12:(tryN n c k).2=1∨(tryN n c k).2=2
    ·rw [if_pos h12]
     by_cases hg:(tryN n c k).1.goals=[]
     ·simp only [Zcd,if_pos hg,Zdb]
      have h':PW cs top ((n,k)::r) s.tree:=h
      exact (h'.kid hc h12 (.leaf _ hg)).leave
     ·simp only [Zcd,if_neg hg,Zdb]
      have h':PW cs top ((n,k)::r) s.tree:=h
      exact (h'.down hc h12 hg).leave
    ·rw [if_neg h12]
     simp only [Zdb]
     have h0:(tryN n c k).2=0:=by have:=Zme n c k; omega
     have h':PW cs top ((n,k)::r) s.tree:=h
     exact (h'.miss hc h0).leave
theorem Ybc {w:World} {B:Nat} {e:TypeId} {s g n cap:Nat} {xs:List Value} (h:w.ownsRow B e s (.slice (some ⟨g,0,none⟩) (n+1) cap) (n+1) xs) :
  w.ownsRow B e s (.slice (some ⟨g,0,none⟩) n cap) n (xs.take (n * s)):=by
 have hm:(n+1) * s=n * s+s:=Nat.succ_mul n s
 refine ⟨by have:=h.1; rw [List.length_take]; omega,?_⟩
 rcases h.2 with ⟨h1,_⟩ | ⟨g',cap',cur,h1,hb,hg,hn,hc,hs,ht⟩
 ·simp at h1
 ·simp at h1
  obtain ⟨rfl,rfl⟩:=h1
  refine .inr ⟨g,cap,cur,rfl,hb,hg,by omega,hc,hs,?_⟩
  rw [← ht,List.take_take]
  congr 1
  omega
def Zhq (N:Nat):List (ND × Nat)→List (ND × Nat)
 | []=>[]
 | x::r=>if N≤x.2 then Zhq N r else x::r
theorem Zdv (cs:List Cls):∀ (way:List (ND × Nat)) (t:List UInt8),(Zdr cs way t).1=Zhq cs.length way:=by
 intro way
 induction way with
 | nil=>intro t; rfl
 | cons x r ih =>
  obtain ⟨n,k⟩:=x
  intro t
  simp only [Zdr,Zhq]
  split
  ·exact ih _
  ·rfl
theorem Zns {N:Nat}:∀ {way:List (ND × Nat)} {x:ND × Nat} {r:List (ND × Nat)},Zhq N way=x::r→x.2<N:=by
 intro way
 induction way with
 | nil=>intro x r h; simp [Zhq] at h
 | cons y s ih =>
  intro x r h
  simp only [Zhq] at h
  split at h
  ·exact ih h
  ·rename_i hn
   simp at h
   rw [← h.1]; omega
theorem Znt (N:Nat) (way:List (ND × Nat)):Zhq N (Zhq N way)=Zhq N way:=by
 cases h:Zhq N way with
 | nil=>rfl
 | cons x r =>
  have:=Zns h
  simp only [Zhq]
  rw [if_neg (by omega)]
noncomputable def Zdh (a:List (List Sym) × Names) (st:Nat) (found:ND) (T:List UInt8):List UInt8 × List UInt8 × List UInt8 :=
 if st=1 then (Zgv a.2 found,Zla found,[]) else if st=2 then ([],[],T) else ([],[],[])
noncomputable def Zmf (n:ND) (c:Cls) (k:Nat) (r:List (ND × Nat)):List (ND × Nat):=if (tryN n c k).2=1 then ((tryN n c k).1,0)::(n,k+1)::r else (n,k+1)::r
noncomputable def Zhr (n:ND) (c:Cls) (k:Nat):Nat:=if (tryN n c k).2=2 then 1 else if (tryN n c k).2=3 then 3 else 0
theorem Zie {n:ND} {c:Cls} {k:Nat} (h:(tryN n c k).2=1∨(tryN n c k).2=2):(tryN n c k).2=2↔(tryN n c k).1.goals=[]:=by
 by_cases hex:∃ r:ND × Nat,∃ m,NOk m∧Same m n∧Out m c k r.2 r.1
 ·have e:tryN n c k=Classical.choose hex:=by unfold tryN; rw [dif_pos hex]
  obtain ⟨m,_,hS,g,gs,_,ho⟩:=Classical.choose_spec hex
  rw [e] at h ⊢
  rcases ho with ⟨h0,_⟩ | ⟨h0,_⟩ | ⟨σ,_,_,h3,h4⟩
  ·omega
  ·omega
  ·rw [h3,← h4] at h
   rw [h3,← h4]
   unfold Zfn at h ⊢
   split at h
   ·omega
   ·rename_i ho
    rw [if_neg ho]
    split
    ·rename_i hg; simp [hg]
    ·rename_i hg; simp [hg]
 ·have e:tryN n c k=(⟨[],[],[],[],0⟩,0):=by unfold tryN; rw [dif_neg hex]
  rw [e] at h
  simp at h
def Zgn (way:List (ND × Nat)):List Nat:=(way.map (fun x=>x.2 - 1)).reverse
theorem Znu (n:ND) (k:Nat) (r:List (ND × Nat)):Zgn ((n,k+1)::r)=Zgn r++[k]:=by simp [Zgn]
def UsedW:List (ND × Nat)→Prop
 | []=>True
 | x::r=>x.1.used=Zgn r∧(∀ y ∈ r,1≤y.2)∧UsedW r
theorem UsedW.trim {N:Nat}:∀ {way:List (ND × Nat)},UsedW way→UsedW (Zhq N way):=by
 intro way
 induction way with
 | nil=>intro h; exact h
 | cons x r ih =>
  intro h
  simp only [Zhq]
  split
  ·exact ih h.2.2
  ·exact h
theorem Zrl {N:Nat}:∀ {way:List (ND × Nat)} {x:ND × Nat},x ∈ Zhq N way→x ∈ way:=by
 intro way
 induction way with
 | nil=>intro x h; exact h
 | cons y r ih =>
  intro x h
  simp only [Zhq] at h
  split at h
  ·exact List.mem_cons_of_mem _ (ih h)
  ·exact h
theorem Znv (cs:List Cls):∀ (way:List (ND × Nat)) (t:List UInt8),(Zdr cs way t).2.length+(Zdr cs way t).1.length=t.length+way.length:=by
 intro way
 induction way with
 | nil=>intro t; rfl
 | cons x r ih =>
  obtain ⟨n,k⟩:=x
  intro t
  simp only [Zdr]
  split
  ·rw [ih]; simp; omega
  ·rfl
structure InvN (cs:List Cls) (a:List (List Sym) × Names) (s:SN):Prop where
 way:∀ x ∈ s.way,x.1.goals≠[]∧x.1.vals.length=a.2.length∧x.2≤cs.length∧∀ k ∈ x.1.used,k<cs.length
 used:UsedW s.way
 tree:s.status≠3→PW cs (topN a) s.way s.tree
 trim:Zhq cs.length s.way=s.way
 found:s.status=1→s.found.goals=[]∧s.found.vals.length=a.2.length∧∀ k ∈ s.found.used,k<cs.length
 len:s.tree.length+s.way.length≤2+26 * s.tries
 tries:s.tries≤3000
 no:s.status=2→s.way=[]
 st:s.status≤3
theorem Zjm {cs:List Cls} {s:SN} {n:ND} {k:Nat} {r:List (ND × Nat)} {c:Cls} (hw:s.way=(n,k)::r) (hc:cs[k]?=some c) (h0:s.status=0) :
  (Zaq cs s).way=Zhq cs.length (Zmf n c k r)∧(Zaq cs s).status=Zhr n c k∧(Zaq cs s).tries=s.tries+1∧(Zhr n c k=1→(Zaq cs s).found=(tryN n c k).1):=by
 have hk:=Zme n c k
 unfold Zaq
 rw [hw]
 simp only [hc]
 by_cases h3:(tryN n c k).2=3
 ·rw [if_pos h3]
  simp [Zdb,Zdv,Zmf,Zhr,h3]
 ·rw [if_neg h3]
  by_cases h12:(tryN n c k).2=1∨(tryN n c k).2=2
  ·rw [if_pos h12]
   by_cases hg:(tryN n c k).1.goals=[]
   ·have h2:=(Zie h12).2 hg
    simp [Zdb,Zcd,hg,Zdv,Zmf,Zhr,h2]
   ·have h2:(tryN n c k).2≠2:=fun h=>hg ((Zie h12).1 h)
    have h1:(tryN n c k).2=1:=by omega
    simp [Zdb,Zcd,hg,Zdv,Zmf,Zhr,h1,h0]
  ·rw [if_neg h12]
   have h00:(tryN n c k).2=0:=by omega
   simp [Zdb,Zdv,Zmf,Zhr,h00,h0]
theorem Zrm {cs:List Cls} {s:SN} {n:ND} {k:Nat} {r:List (ND × Nat)} {c:Cls} (hw:s.way=(n,k)::r) (hc:cs[k]?=some c) (hk:k<24):(Zaq cs s).tree.length+(Zaq cs s).way.length≤s.tree.length+s.way.length+26:=by
 have hd:(Lib.decDigits k).length≤24:=by
  have:=Zjv k
  omega
 unfold Zaq
 rw [hw]
 simp only [hc,Zdb,Znv]
 split
 ·simp
 ·split
  ·unfold Zcd
   split
   ·simp; omega
   ·simp; omega
  ·simp
theorem InvN.try' {cs:List Cls} {a:List (List Sym) × Names} {s:SN} (h:InvN cs a s) (hcl:cs.length≤24) (h0:s.status=0) {n:ND} {k:Nat} {r:List (ND × Nat)} {c:Cls} (hw:s.way=(n,k)::r) (hc:cs[k]?=some c) (ht:s.tries<3000):InvN cs a (Zaq cs s):=by
 obtain ⟨e1,e2,e3,e4⟩:=Zjm hw hc h0
 have hkk:=Zme n c k
 have hklt:=(Qa.1 hc).1
 obtain ⟨w1,w2,w3,w4⟩:=h.way (n,k) (by rw [hw]; simp)
 have hu:=h.used
 rw [hw] at hu
 have hr:∀ x ∈ r,x.1.goals≠[]∧x.1.vals.length=a.2.length∧x.2≤cs.length∧∀ k ∈ x.1.used,k<cs.length:=fun x hx=>h.way x (by rw [hw]; simp [hx])
 have hchild:(tryN n c k).2=1∨(tryN n c k).2=2→(tryN n c k).1.vals.length=a.2.length∧∀ j ∈ (tryN n c k).1.used,j<cs.length:=fun hq=>by
  refine ⟨by rw [Ybb hq]; exact w2,fun j hj => ?_⟩
  rw [Zjl hq] at hj
  rcases Qk.1 hj with hj | hj
  ·exact w4 j hj
  ·simp at hj; omega
 refine ⟨?_,?_,?_,?_,?_,?_,?_,?_,?_⟩
 ·intro x hx
  rw [e1] at hx
  have hx:=Zrl hx
  unfold Zmf at hx
  split at hx
  ·rename_i h1
   rcases Qp.1 hx with rfl | hx
   ·have h2:¬ (tryN n c k).1.goals=[]:=fun hg=>by have:=(Zie (Or.inl h1)).2 hg; omega
    exact ⟨h2,(hchild (Or.inl h1)).1,Qm _,(hchild (Or.inl h1)).2⟩
   ·rcases Qp.1 hx with rfl | hx
    ·exact ⟨w1,w2,by show k+1≤_; omega,w4⟩
    ·exact hr x hx
  ·rcases Qp.1 hx with rfl | hx
   ·exact ⟨w1,w2,by show k+1≤_; omega,w4⟩
   ·exact hr x hx
 ·rw [e1]
  apply UsedW.trim
  unfold Zmf
  split
  ·rename_i h1
   exact ⟨by rw [Znu,Zjl (Or.inl h1),hu.1],fun y hy=>by
    rcases Qp.1 hy with rfl | hy
    ·exact Nat.succ_le_succ (Qm _)
    ·exact hu.2.1 y hy,hu.1,hu.2⟩
  ·exact ⟨hu.1,hu.2⟩
 ·intro h3
  exact PW.try' (h.tree (by omega)) h3
 ·rw [e1,Znt]
 ·intro h1
  rw [e2] at h1
  rw [e4 h1]
  have hq2:(tryN n c k).2=2:=by
   unfold Zhr at h1
   split at h1
   ·assumption
   ·split at h1 <;> omega
  exact ⟨(Zie (Or.inr hq2)).1 hq2,(hchild (Or.inr hq2)).1,(hchild (Or.inr hq2)).2⟩
 ·have:=Zrm hw hc (by omega)
  have:=h.len
  omega
 ·omega
 ·intro h2
  rw [e2] at h2
  unfold Zhr at h2
  split at h2
  ·omega
  ·split at h2 <;> omega
 ·rw [e2]
  unfold Zhr
  split
  ·omega
  ·split <;> omega
noncomputable def Zbz (cs:List Cls):Nat→SN→SN × Nat
 | 0,s=>(s,0)
 | n+1,s=>open Classical in if s.status=0∧s.way≠[]∧s.tries<3000 then ((Zbz cs n (Zaq cs s)).1,(Zbz cs n (Zaq cs s)).2+1) else (s,0)
def Zgf (s:SN):SN := { s with way:=[],tree:=[],status:=3 }
noncomputable def endN (s:SN):SN:=open Classical in if s.status=3 then Zgf s else if s.status=0 then (if s.way=[] then { s with status:=2 } else if 3000≤s.tries then Zgf s else s) else s
noncomputable def Zbb (cs:List Cls) (n:Nat) (s:SN):SN × Nat:=if s.status=2∨s.status=3 then (s,0) else (endN (Zbz cs n { s with status:=0 }).1,(Zbz cs n { s with status:=0 }).2)
theorem InvN.full {cs:List Cls} {a:List (List Sym) × Names} {s:SN} (h:InvN cs a s):InvN cs a (Zgf s) :=
 ⟨fun x hx=>by simp [Zgf] at hx,trivial,fun h3=>absurd rfl h3,rfl,fun h1=>by simp [Zgf] at h1,by simp [Zgf],h.tries,fun _=>rfl,by simp [Zgf]⟩
theorem InvN.end' {cs:List Cls} {a:List (List Sym) × Names} {s:SN} (h:InvN cs a s):InvN cs a (endN s):=by
 unfold endN
 split
 ·exact h.full
 ·split
  ·rename_i h3 h0
   split
   ·rename_i hw
    exact ⟨h.way,h.used,fun _=>h.tree (by omega),h.trim,fun h1=>by simp at h1,h.len,h.tries,fun _=>hw,by simp⟩
   ·split
    ·exact h.full
    ·exact h
  ·exact h
theorem InvN.seek {cs:List Cls} {a:List (List Sym) × Names} {s:SN} (h:InvN cs a s) (h3:s.status≠3):InvN cs a { s with status:=0 } :=
 ⟨h.way,h.used,fun _=>h.tree h3,h.trim,fun h1=>by simp at h1,h.len,h.tries,fun h2=>by simp at h2,by simp⟩
theorem InvN.head {cs:List Cls} {a:List (List Sym) × Names} {s:SN} (h:InvN cs a s) (hw:s.way≠[]):∃ n k r c,s.way=(n,k)::r∧cs[k]?=some c∧n.goals≠[]:=by
 cases e:s.way with
 | nil=>exact absurd e hw
 | cons x r =>
  obtain ⟨n,k⟩:=x
  have ht:=h.trim
  rw [e] at ht
  have hk:=Zns ht
  exact ⟨n,k,r,_,rfl,Qb hk,(h.way (n,k) (by rw [e]; simp)).1⟩
theorem InvN.loop {cs:List Cls} {a:List (List Sym) × Names} (hcl:cs.length≤24):∀ {n:Nat} {s:SN},InvN cs a s→InvN cs a (Zbz cs n s).1:=by
 intro n
 induction n with
 | zero=>intro s h; exact h
 | succ n ih =>
  intro s h
  unfold Zbz
  split
  ·rename_i hc
   obtain ⟨n',k,r,c,h1,h2,h3⟩:=h.head hc.2.1
   exact ih (h.try' hcl hc.1 h1 h2 hc.2.2)
  ·exact h
theorem InvN.step {cs:List Cls} {a:List (List Sym) × Names} (hcl:cs.length≤24) {n:Nat} {s:SN} (h:InvN cs a s):InvN cs a (Zbb cs n s).1:=by
 unfold Zbb
 split
 ·exact h
 ·rename_i h3
  exact ((h.seek (by omega)).loop hcl).end'
noncomputable def newN (cs:List Cls) (a:List (List Sym) × Names):SN:=Zdb cs (Zcd ⟨[],0,0,⟨[],[],[],[],0⟩,[]⟩ (topN a))
theorem Zfi {a:List (List Sym) × Names} (h:a.1≠[]):(topN a).goals≠[]:=by simpa [topN] using h
theorem InvN.new (cs:List Cls) {a:List (List Sym) × Names} (ha:a.1≠[]):InvN cs a (newN cs a):=by
 have hg:=Zfi ha
 have hp:PW cs (topN a) [(topN a,0)] [40]:=⟨rfl,hg,Qm _,[],.zero _,by simp⟩
 unfold newN Zcd
 rw [if_neg hg]
 refine ⟨?_,?_,?_,?_,?_,?_,?_,?_,?_⟩
 ·intro x hx
  simp only [Zdb,Zdv] at hx
  have hx:=Zrl hx
  simp at hx
  subst hx
  exact ⟨hg,by simp [topN],Qm _,fun k hk=>by simp [topN] at hk⟩
 ·simp only [Zdb,Zdv]
  exact UsedW.trim ⟨rfl,fun y hy=>by simp at hy,trivial⟩
 ·intro _
  exact hp.leave
 ·simp only [Zdb,Zdv]
  exact Znt _ _
 ·intro h; simp [Zdb] at h
 ·simp only [Zdb,Znv]
  simp
 ·simp [Zdb]
 ·intro h; simp [Zdb] at h
 ·simp [Zdb]
def Zfa (s:SN):Prop:=s.status=1→s.found.used≠[]
theorem Zrn {s:SN} {n:ND} (h:s.status≠1) (hn:n.used≠[]):Zfa (Zcd s n):=by
 unfold Zcd
 split
 ·exact fun _=>hn
 ·exact fun e=>absurd e h
theorem Zxj {cs:List Cls} {s:SN} (h0:s.status=0):Zfa (Zaq cs s):=by
 unfold Zaq
 split
 ·exact fun e=>by omega
 ·split
  ·exact fun e=>by omega
  ·rename_i n k r _ c hc
   show Zfa (Zdb cs _)
   have hl:∀ u:SN,Zfa u→Zfa (Zdb cs u):=fun u h e=>h e
   apply hl
   split
   ·exact fun e=>by simp at e
   ·split
    ·rename_i h12
     exact Zrn (by simp only; omega) (by rw [Zjl h12]; simp)
    ·exact fun e=>by simp only at e; omega
theorem Ztn {cs:List Cls}:∀ {n:Nat} {s:SN},Zfa s→Zfa (Zbz cs n s).1:=by
 intro n
 induction n with
 | zero=>intro s h; exact h
 | succ n ih =>
  intro s h
  unfold Zbz
  split
  ·rename_i hc
   exact ih (Zxj hc.1)
  ·exact h
theorem Zto {cs:List Cls} {n:Nat} {s:SN} (h:Zfa s):Zfa (Zbb cs n s).1:=by
 unfold Zbb
 split
 ·exact h
 ·have h1:Zfa (Zbz cs n { s with status:=0 }).1:=Ztn (fun e=>by simp at e)
  show Zfa (endN _)
  unfold endN
  split
  ·exact fun e=>by simp [Zgf] at e
  ·split
   ·split
    ·exact fun e=>by simp at e
    ·split
     ·exact fun e=>by simp [Zgf] at e
     ·exact h1
   ·exact h1
def Zve (s:SN):Prop:=s.status=0→s.way≠[]∧s.tries<3000
theorem Yge {cs:List Cls} {n:Nat} {s:SN} (h:Zve s):Zve (Zbb cs n s).1:=by
 unfold Zbb
 split
 ·exact h
 ·show Zve (endN _)
  unfold endN
  split
  ·exact fun e=>by simp [Zgf] at e
  ·split
   ·split
    ·exact fun e=>by simp at e
    ·split
     ·exact fun e=>by simp [Zgf] at e
     ·rename_i h1 h2
      exact fun _=>⟨h1,by omega⟩
   ·rename_i h1
    exact fun e=>absurd e h1
theorem Ydr {cs:List Cls}:∀ {n:Nat} {s:SN},(Zbz cs n s).2≤n:=by
 intro n
 induction n with
 | zero=>intro s; simp [Zbz]
 | succ n ih=>intro s; unfold Zbz; split <;> simp [ih]
theorem Zpk {cs:List Cls} {n:Nat} {s:SN}:(Zbb cs n s).2≤n:=by
 unfold Zbb
 split
 ·simp
 ·exact Ydr
theorem Zxk {cs:List Cls}:∀ {n:Nat} {s:SN},(Zbz cs n s).2<n→¬ ((Zbz cs n s).1.status=0∧(Zbz cs n s).1.way≠[]∧(Zbz cs n s).1.tries<3000):=by
 intro n
 induction n with
 | zero=>intro s h; omega
 | succ n ih =>
  intro s h
  unfold Zbz at h ⊢
  split at h
  ·rename_i hc
   rw [if_pos hc]
   exact ih (by simpa using h)
  ·rename_i hc
   rw [if_neg hc]
   exact hc
theorem Zxl {cs:List Cls} {n:Nat} {s:SN} (h:(Zbb cs n s).2<n):(Zbb cs n s).1.status≠0:=by
 unfold Zbb at h ⊢
 split at h
 ·rename_i hc
  rw [if_pos hc]
  simp only; omega
 ·rename_i hc
  rw [if_neg hc]
  have h1:=Zxk h
  simp only
  unfold endN
  split
  ·simp [Zgf]
  ·split
   ·rename_i h3 h0
    split
    ·simp
    ·split
     ·simp [Zgf]
     ·rename_i hw ht
      exact absurd ⟨h0,hw,by omega⟩ h1
   ·rename_i h0
    exact h0
theorem Zkc {cs:List Cls} {n:Nat} {s:SN} (hn:0<n) (hs:s.status≠2∧s.status≠3) (h:(Zbb cs n s).1.status=0∨(Zbb cs n s).1.status=1):(Zbb cs n s).2≠0:=by
 intro h0
 unfold Zbb at h h0
 rw [if_neg (by omega)] at h h0
 simp only at h h0
 obtain ⟨m,rfl⟩:∃ m,n=m+1:=⟨n - 1,by omega⟩
 unfold Zbz at h h0
 split at h
 ·rename_i hc
  rw [if_pos hc] at h0
  simp at h0
 ·rename_i hc
  simp only at h
  unfold endN at h
  simp only at h hc
  rw [if_neg (by omega),if_pos trivial] at h
  split at h
  ·simp at h
  ·rename_i hw
   split at h
   ·simp [Zgf] at h
   ·rename_i ht
    exact hc ⟨trivial,hw,by omega⟩
theorem Zro (k:Nat):Lib.decDigits k≠[]:=by
 rw [Lib.decDigits]
 split <;> simp
theorem Zxm {names:Names} {n:ND} (h:n.vals.length=names.length):Zgv names n≠[]:=by
 unfold Zgv
 split
 ·simp
 ·rename_i hn
  have hl:=Zfc n.vals []
  cases names with
  | nil=>exact absurd rfl hn
  | cons x xs =>
   cases hc:(Zay n.vals []).1 with
   | nil=>rw [hc] at hl; simp at hl h; omega
   | cons t ts=>simp [Zih]
theorem Ztp {n:ND} (h:n.used≠[]):Zla n≠[]:=by
 unfold Zla
 cases hu:n.used with
 | nil=>exact absurd hu h
 | cons k ks =>
  simp only [Zfq]
  intro e
  have h1:=List.append_eq_nil_iff.1 e
  exact Zro k (List.append_eq_nil_iff.1 h1.2).1
theorem Yds {cs:List Cls} {n:ND} {t:List UInt8} (h:TreeR cs n t):t≠[]:=by
 cases h <;> simp
theorem Zkd {cs:List Cls} {a:List (List Sym) × Names} {s:SN} (hI:InvN cs a s) (hF:Zfa s) :
  ((Zdh a s.status s.found s.tree).1=[]↔s.status≠1)∧((Zdh a s.status s.found s.tree).2.1=[]↔s.status≠1)∧((Zdh a s.status s.found s.tree).2.2=[]↔s.status≠2):=by
 unfold Zdh
 by_cases h1:s.status=1
 ·rw [if_pos h1]
  have ha:=Zxm (hI.found h1).2.1
  have hw:=Ztp (hF h1)
  simp [h1,ha,hw]
 ·rw [if_neg h1]
  by_cases h2:s.status=2
  ·rw [if_pos h2]
   have ht:=hI.tree (by omega)
   rw [hI.no h2] at ht
   have:=Yds ht
   simp [h1,h2,this]
  ·rw [if_neg h2]
   simp [h1,h2]
structure Tr where
 ans:List (List UInt8)
 wts:List (List UInt8)
 tries:Nat
 status:Nat
def Zdk (size left:Nat):Nat:=if left<size then left else size
noncomputable def addN (a:List (List Sym) × Names) (t:Tr) (r:SN × Nat):Tr :=
 if r.1.status=1 then ⟨t.ans++[(Zdh a r.1.status r.1.found r.1.tree).1],t.wts++[(Zdh a r.1.status r.1.found r.1.tree).2.1],t.tries+r.2,r.1.status⟩ else ⟨t.ans,t.wts,t.tries+r.2,r.1.status⟩
noncomputable def aftN (cs:List Cls) (a:List (List Sym) × Names) (tries size:Nat):Nat→SN→Tr→SN × Tr
 | 0,m,t=>(m,t)
 | f+1,m,t=>if t.tries<tries then
   (if (Zbb cs (Zdk size (tries - t.tries)) m).1.status=2∨(Zbb cs (Zdk size (tries - t.tries)) m).1.status=3 then ((Zbb cs (Zdk size (tries - t.tries)) m).1,addN a t (Zbb cs (Zdk size (tries - t.tries)) m))
    else aftN cs a tries size f (Zbb cs (Zdk size (tries - t.tries)) m).1 (addN a t (Zbb cs (Zdk size (tries - t.tries)) m)))
   else (m,t)
structure AlikeL (cs ds:List Cls):Prop where
 len:cs.length=ds.length
 at':∀ (k:Nat) (c d:Cls),cs[k]?=some c→ds[k]?=some d→Zvb c d
theorem Ybd {α:Type} (l:List α) (f g:α→Cls) (h:∀ x ∈ l,Zvb (f x) (g x)):AlikeL (l.map f) (l.map g):=by
 refine ⟨by simp,fun k c d hc hd => ?_⟩
 rw [Qj,Option.map_eq_some_iff] at hc hd
 obtain ⟨x,hx,rfl⟩:=hc
 obtain ⟨y,hy,rfl⟩:=hd
 rw [hx] at hy
 cases hy
 exact h x (Qh hx)
theorem Zrp {cs ds:List Cls} (h:cs.length=ds.length):∀ (w:List (ND × Nat)) (t:List UInt8),Zdr cs w t=Zdr ds w t:=by
 intro w
 induction w with
 | nil=>intro t; rfl
 | cons x r ih =>
  intro t
  obtain ⟨n,k⟩:=x
  simp only [Zdr,h,ih]
theorem Zmg {cs ds:List Cls} (h:cs.length=ds.length) (s:SN):Zdb cs s=Zdb ds s:=by
 unfold Zdb
 rw [Zrp h]
theorem Zmx {cs ds:List Cls} (h:AlikeL cs ds) (s:SN):Zaq cs s=Zaq ds s:=by
 have hl:=h.len
 unfold Zaq
 cases hw:s.way with
 | nil=>rfl
 | cons x r =>
  obtain ⟨n,k⟩:=x
  simp only
  cases hc:cs[k]? with
  | none =>
   have hd:ds[k]?=none:=by
    rw [List.getElem?_eq_none_iff] at hc ⊢
    omega
   rw [hd]
  | some c =>
   obtain ⟨d,hd⟩:∃ d,ds[k]?=some d:=by
    obtain ⟨hk,_⟩:=Qa.1 hc
    exact ⟨_,Qb (by omega)⟩
   rw [hd]
   simp only
   rw [Zxd (h.at' k c d hc hd),Zmg hl]
theorem Ztq {cs ds:List Cls} (h:AlikeL cs ds):∀ (n:Nat) (s:SN),Zbz cs n s=Zbz ds n s:=by
 intro n
 induction n with
 | zero=>intro s; rfl
 | succ n ih =>
  intro s
  simp only [Zbz]
  rw [Zmx h,ih]
theorem Ztr {cs ds:List Cls} (h:AlikeL cs ds) (n:Nat) (s:SN):Zbb cs n s=Zbb ds n s:=by
 unfold Zbb
 rw [Ztq h]
theorem Zxn {cs ds:List Cls} (h:AlikeL cs ds) (a:List (List Sym) × Names):newN cs a=newN ds a:=by
 unfold newN
 rw [Zmg h.len]
theorem Zxo {cs ds:List Cls} (h:AlikeL cs ds) (a:List (List Sym) × Names) (tries size:Nat):∀ (f:Nat) (m:SN) (t:Tr),aftN cs a tries size f m t=aftN ds a tries size f m t:=by
 intro f
 induction f with
 | zero=>intro m t; rfl
 | succ f ih =>
  intro m t
  simp only [aftN]
  rw [Ztr h,ih]
theorem Zvf {w:World} {B e size n:Nat} {v:Value} {xs:List Value} (h:w.ownsRow B e size v n xs):∀ k,Zbt v k→∃ cl fr,w.heap[k]?=some (.cells cl e fr):=fun k hk=>by
 rcases h.2 with ⟨rfl,_⟩ | ⟨g,cap,cur,rfl,_,hg,_⟩
 ·simp [Zbt,Value.ownBlock] at hk
 ·simp [Zbt,Value.ownBlock] at hk
  subst hk
  exact ⟨_,_,hg⟩
def OfTy (S:Nat→Prop) (w:World) (t:TypeId):Prop:=∀ k,S k→∃ cl fr,w.heap[k]?=some (.cells cl t fr)
theorem OfTy.block {S:Nat→Prop} {w w':World} {t t':TypeId} {k:Nat} {cl:Array Value} {fr:Nat × Nat} (hS:OfTy S w t) (hk:Kept S w w') (h:w.heap[k]?=some (.cells cl t' fr)) (ht:t'≠t):w'.heap[k]?=some (.cells cl t' fr) :=
 (hk.block k (Zab h) (fun hs=>by
  obtain ⟨cl',fr',h1⟩:=hS k hs
  rw [h] at h1
  simp at h1
  exact ht h1.2.1)).trans h
theorem OfTy.row {S:Nat→Prop} {w w':World} {t B e size n:Nat} {v:Value} {xs:List Value} (hS:OfTy S w t) (hk:Kept S w w') (h:w.ownsRow B e size v n xs) (ht:e≠t):w'.ownsRow B e size v n xs :=
 Zak h (fun k hj=>by
  obtain ⟨cl,fr,h1⟩:=Zvf h k hj
  rw [hS.block hk h1 ht,h1])
def symA (i:Nat):UInt8:=[97,98,99,88,89,90].getD i 0
def symP (i:Nat):UInt8:=[112,113,114].getD i 0
def argT (i:Nat):GT:=if i<3 then .n [symA i] else .v [symA i]
def atT (P A B:Nat):GT := .g [symP P] (argT A) (argT B)
theorem Zjn (i:Nat):(argT i).text=[symA i]:=by unfold argT; split <;> rfl
theorem Ybe (i:Nat):(argT i).size=1:=by unfold argT; split <;> rfl
theorem Zts (i:Nat) (h:i<6):(argT i).ok=true:=by
 rcases (by omega:i=0∨i=1∨i=2∨i=3∨i=4∨i=5) with rfl | rfl | rfl | rfl | rfl | rfl <;> decide +kernel
theorem Zld (P A B:Nat) (hP:P<3) (hA:A<6) (hB:B<6):(atT P A B).fine=true:=by
 have hw:Zfr Zdi [symP P]=true:=by rcases (by omega:P=0∨P=1∨P=2) with rfl | rfl | rfl <;> decide +kernel
 unfold GT.fine
 rw [Bool.and_eq_true,Bool.and_eq_true]
 exact ⟨rfl,by simp only [atT,GT.ok]; rw [hw,Zts A hA,Zts B hB]; rfl,by rw [decide_eq_true_eq]; simp only [atT,GT.size,Ybe]; omega⟩
theorem Zmh (P A B:Nat):(atT P A B).text.length=6:=by simp [atT,GT.text,Zjn]
theorem cut_p (P:Nat) (h:P<3):(⟨#[112,113,114]⟩:ByteArray).extract P (P+1)=⟨[symP P].toArray⟩:=by
 rcases (by omega:P=0∨P=1∨P=2) with rfl | rfl | rfl <;> rw [Lib.extract_eq] <;> rfl
theorem Yhr (A:Nat) (h:A<6):(⟨#[97,98,99,88,89,90]⟩:ByteArray).extract A (A+1)=⟨[symA A].toArray⟩:=by
 rcases (by omega:A=0∨A=1∨A=2∨A=3∨A=4∨A=5) with rfl | rfl | rfl | rfl | rfl | rfl <;> rw [Lib.extract_eq] <;> rfl
theorem Ybf (P A B:Nat):(⟨(atT P A B).text.toArray⟩:ByteArray)=⟨[symP P].toArray⟩++⟨#[40]⟩++⟨[symA A].toArray⟩++⟨#[44]⟩++⟨[symA B].toArray⟩++⟨#[41]⟩:=by
 show _=⟨[symP P].toArray⟩++(⟨[40].toArray⟩:ByteArray)++⟨[symA A].toArray⟩++(⟨[44].toArray⟩:ByteArray)++⟨[symA B].toArray⟩++(⟨[41].toArray⟩:ByteArray)
 rw [Zaw,Zaw,Zaw,Zaw,Zaw]
 simp [atT,GT.text,Zjn]
theorem Znw (P A B:Nat) (hP:P<3) (hA:A<6) (hB:B<6) (w:World):Calls Tryd.prog 16 #[.agg #[.int .i64 P,.int .i64 A,.int .i64 B]] w fun e w'=>e = .returned (.string ⟨(atT P A B).text.toArray⟩)∧Ext w w':=by
 have e1:=cut_p P hP
 have e2:=Yhr A hA
 have e3:=Yhr B hB
 have He:=Zac (Ybf P A B)
 go_enter Tryd.func16,Tryd.ntmps16
 go_wp2_with fail
 go_quiet (fail)
 go_wp2
 go_ret
 exact ⟨by rw [He.out,← e1,← e2,← e3]; rfl,(Ext.of (by repeat' (first | with_reducible(first|exact Qx _ _|apply Kept.drew|apply Kept.drewN|apply Qz|refine Qy ?_ ?_ _)|exact fun h=>absurd h (by simp <;> omega))))⟩
def Zec:List GT→List UInt8
 | []=>[]
 | t::r=>Zcb t r
theorem Ybg:∀ (r:List GT) (t u:GT),Zcb t (r++[u])=Zcb t r++(44::u.text):=by
 intro r
 induction r with
 | nil=>intro t u; rfl
 | cons x r ih=>intro t u; simp [Zcb,ih]
theorem Zxp {l:List GT} (h:l≠[]) (u:GT):Zec (l++[u])=Zec l++(44::u.text):=by
 cases l with
 | nil=>exact absurd rfl h
 | cons t r=>exact Ybg r t u
def atC (x:Nat × Nat × Nat):List Value:=[.int .i64 x.1,.int .i64 x.2.1,.int .i64 x.2.2]
def atG (x:Nat × Nat × Nat):GT:=atT x.1 x.2.1 x.2.2
def AtOk (x:Nat × Nat × Nat):Prop:=x.1<3∧x.2.1<6∧x.2.2<6
structure AtomsIn (w:World) (v:Value) (l:List (Nat × Nat × Nat)):Prop where
 owns:w.ownsRow 0 48 3 v l.length (l.flatMap atC)
 ok:∀ x ∈ l,AtOk x
theorem AtomsIn.ext {w w':World} {v:Value} {l:List (Nat × Nat × Nat)} (h:AtomsIn w v l) (e:Ext w w'):AtomsIn w' v l:=⟨Zak h.owns (fun k hk=>e.block k (h.owns.lt k hk).2),h.ok⟩
theorem Ydt:∀ (l:List (Nat × Nat × Nat)) (k:Nat) (x:Nat × Nat × Nat),l[k]?=some x→(l.flatMap atC)[k * 3]?=some (.int .i64 x.1)∧(l.flatMap atC)[k * 3+1]?=some (.int .i64 x.2.1)∧(l.flatMap atC)[k * 3+2]?=some (.int .i64 x.2.2):=by
 intro l
 induction l with
 | nil=>intro k x h; simp at h
 | cons y l ih =>
  intro k x h
  cases k with
  | zero=>simp at h; subst h; simp [atC]
  | succ k =>
   simp at h
   have:=ih k x h
   simp only [List.flatMap_cons]
   rw [Qd (by simp [atC]; omega),Qd (by simp [atC]; omega),Qd (by simp [atC]; omega)]
   simpa [atC,show (k+1) * 3 - 3=k * 3 by omega,show (k+1) * 3+1 - 3=k * 3+1 by omega,show (k+1) * 3+2 - 3=k * 3+2 by omega] using this
theorem AtomsIn.cells {w:World} {a:Option Addr} {c:Nat} {l:List (Nat × Nat × Nat)} (h:AtomsIn w (.slice a l.length c) l) {k:Nat} {x:Nat × Nat × Nat} (hx:l[k]?=some x):∃ g,a=some ⟨g,0,none⟩∧g<w.heap.size∧w.cell? ⟨g,k * 3,none⟩=some (.int .i64 x.1)∧w.cell? ⟨g,k * 3+1,none⟩=some (.int .i64 x.2.1)∧w.cell? ⟨g,k * 3+2,none⟩=some (.int .i64 x.2.2):=by
 have hk:=(Qa.1 hx).1
 rcases h.owns.2 with ⟨h1,h2⟩ | ⟨g,cap,cur,h1,_⟩
 ·omega
 ·simp only [Value.slice.injEq] at h1
  obtain ⟨rfl,_,rfl⟩:=h1
  obtain ⟨y0,y1,y2⟩:=Ydt l k x hx
  exact ⟨g,rfl,(h.owns.lt g rfl).2,Zag h.owns _ _ y0,Zag h.owns _ _ y1,Zag h.owns _ _ y2⟩
theorem Zks (w:World) (a:Option Addr) (c:Nat) (l:List (Nat × Nat × Nat)) (h:AtomsIn w (.slice a l.length c) l) (hl:l.length≤100):Calls Tryd.prog 7 #[.slice a l.length c] w fun e w'=>e = .returned (.string ⟨(Zec (l.map atG)++[46]).toArray⟩)∧Ext w w':=by
 have H:Hid (∀ u,Ext w u→AtomsIn u (.slice a l.length c) l):=fun u hu=>h.ext hu
 have HO:=Zac h.ok
 have HT:=Zac (fun P A B (hP:P<3) (hA:A<6) (hB:B<6) u=>Znw P A B hP hA hB u)
 clear h
 go_enter Tryd.func7,Tryd.ntmps7
 go_wp2
 go_loopw [3,4] (fun sv i u=>∃ (k:Nat) (J:List UInt8),k≤l.length∧i = .int .i64 k∧sv = .string ⟨J.toArray⟩∧J=Zec ((l.take k).map atG)∧J.length≤7 * k∧Ext w u) (fun _ i _=>l.length - (intOf i).toNat)
 case atStart=>exact ⟨0,[],Qm _,rfl,rfl,rfl,by simp,Below.refl _ _⟩
 case round =>
  obtain ⟨k,J,hk,rfl,rfl,hJ,hjl,hEu⟩:=hrel
  have HJ:=Zac hJ
  clear hJ
  have HEu:=Zac hEu
  by_cases hlt:k<l.length
  ·obtain ⟨x,hx⟩:∃ x,l[k]?=some x:=⟨_,Qb hlt⟩
   obtain ⟨g,rfl,hg,d0,d1,d2⟩:=(H.out wr hEu).cells hx
   obtain ⟨o1,o2,o3⟩:=HO.out x (Qh hx)
   have htk:(l.take (k+1)).map atG=(l.take k).map atG++[atG x]:=by rw [List.take_add_one,hx]; simp
   have HTx:=Zac (HT.out x.1 x.2.1 x.2.2 o1 o2 o3)
   have hal:(atT x.1 x.2.1 x.2.2).text.length=6:=Zmh _ _ _
   have hx6:(atG x).text.length=6:=hal
   by_cases h0:k=0
   ·subst h0
    have Hs:Hid (∃ J',J'=Zec ((l.take (0+1)).map atG)∧(⟨J.toArray⟩:ByteArray)++⟨(atT x.1 x.2.1 x.2.2).text.toArray⟩=⟨J'.toArray⟩∧J'.length≤7):=by
     refine ⟨(atG x).text,?_,?_,by omega⟩
     ·rw [htk]
      simp [Zec,Zcb]
     ·rw [HJ.out,Zaw]
      simp [Zec,atG]
    clear hEu hx htk
    go_wp2_with fail
    refine (HTx.out _).mono ?_
    rintro e w3 ⟨rfl,hE3⟩
    have HE3:=Zac (HEu.out.trans (hE3.mono HEu.out.size))
    clear hE3
    go_wp2
    go_roundw
    case rel =>
     obtain ⟨J',j1,j2,j3⟩:=Hs.out
     exact ⟨0+1,J',by omega,by go_num,by rw [j2],j1,by omega,HE3.out⟩
    case measure=>simp [intOf]; omega
   ·have hne:(l.take k).map atG≠[]:=by
     intro e
     have:=congrArg List.length e
     simp only [Ql,List.length_take,Qt] at this
     omega
    have Hs:Hid (∃ J',J'=Zec ((l.take (k+1)).map atG)∧(⟨J.toArray⟩:ByteArray)++⟨#[44]⟩++⟨(atT x.1 x.2.1 x.2.2).text.toArray⟩=⟨J'.toArray⟩∧J'.length≤7 * (k+1)):=by
     refine ⟨J++(44::(atG x).text),?_,?_,by simp only [Qg,Qf]; omega⟩
     ·rw [htk,Zxp hne,HJ.out]
     ·show (⟨J.toArray⟩:ByteArray)++⟨[44].toArray⟩++⟨(atT x.1 x.2.1 x.2.2).text.toArray⟩=_
      rw [Zaw,Zaw]
      simp [atG]
    have hpos:(0:Int)<(k:Int):=by omega
    clear hEu hx htk hne
    go_wp2_with fail
    refine (HTx.out _).mono ?_
    rintro e w3 ⟨rfl,hE3⟩
    have HE3:=Zac (HEu.out.trans (hE3.mono HEu.out.size))
    clear hE3
    go_wp2
    go_roundw
    case rel =>
     obtain ⟨J',j1,j2,j3⟩:=Hs.out
     exact ⟨k+1,J',by omega,by go_num,by rw [j2],j1,j3,HE3.out⟩
    case measure=>simp [intOf]; omega
  ·obtain rfl:k=l.length:=by omega
   have Hs:Hid ((⟨(Zec (l.map atG)++[46]).toArray⟩:ByteArray)=⟨J.toArray⟩++⟨#[46]⟩):=by
    show _=⟨J.toArray⟩++(⟨[46].toArray⟩:ByteArray)
    rw [Zaw,HJ.out,List.take_length]
   clear hEu
   go_wp2
   go_ret
   exact ⟨by rw [Hs.out]; rfl,HEu.out⟩
def Zpl (c:Int) (n:Nat):Nat:=((if c<0 then -(c+1) else c) % (n:Int)).toNat
theorem Ydu (c:Int) (n:Nat) (hn:0<n):Zpl c n<n:=by
 have h1:=Int.emod_nonneg (if c<0 then -(c+1) else c) (show (n:Int)≠0 by omega)
 have h2:=Int.emod_lt_of_pos (if c<0 then -(c+1) else c) (show (0:Int)<n by omega)
 unfold Zpl
 omega
theorem Ydv (c:Int) (n:Nat) (w:World) (hc : -9223372036854775808≤c∧c<9223372036854775808) (hn:0<n∧n<1000000) :
  Calls Tryd.prog 30 #[.int .i64 c,.int .i64 n] w fun e w'=>e = .returned (.int .i64 (Zpl c n))∧w'=w:=by
 have hn0:¬ (n:Int)=0:=by omega
 obtain ⟨hc1,hc2⟩:=hc
 obtain ⟨hn1,hn2⟩:=hn
 by_cases h0:c<0
 ·have e : -((c+1).tmod n)=(Zpl c n:Int):=by
   unfold Zpl
   rw [if_pos h0,← Int.neg_tmod,Int.tmod_eq_emod_of_nonneg (by omega),Int.toNat_of_nonneg (Int.emod_nonneg _ hn0)]
  go_enter Tryd.func30,Tryd.ntmps30
  go_wp2
  go_ret
  exact ⟨by first | rfl | (rw [← e]; rfl) | simp [e],rfl⟩
 ·have e:c.tmod n=(Zpl c n:Int):=by
   unfold Zpl
   rw [if_neg h0,Int.tmod_eq_emod_of_nonneg (by omega),Int.toNat_of_nonneg (Int.emod_nonneg _ hn0)]
  have e':c % n=(Zpl c n:Int):=by rw [← e,Int.tmod_eq_emod_of_nonneg (by omega)]
  go_enter Tryd.func30,Tryd.ntmps30
  go_wp2
  go_ret
  exact ⟨by first | rfl | (rw [← e]; rfl) | (rw [← e']; rfl) | simp [e,e'],rfl⟩
structure RawAt (w:World) (B b:Nat) (ra:Option Addr) (rl rc:Nat) (at':Nat):Prop where
 le:B≤b
 box:w.heap[b]?=some (.cells #[.slice ra rl rc,.int .i64 at'] 25 (0,0))
 far:at'≤rl
 len:rl≤9223372036854775807
 cells:∀ i,i<rl→∃ (k off:Nat) (c:Int),ra=some ⟨k,off,none⟩∧k<B∧w.cell? ⟨k,off+i,none⟩=some (.int .i64 c) ∧ -9223372036854775808≤c∧c<9223372036854775808
def RawIn (w:World) (B b:Nat) (ra:Option Addr) (rl rc:Nat):Prop:=∃ at',RawAt w B b ra rl rc at'
theorem RawAt.put {w w':World} {B b:Nat} {ra:Option Addr} {rl rc at' at2:Nat} (h:RawAt w B b ra rl rc at') (hK:Kept (only b) w w') (hb:w'.heap[b]?=some (.cells #[.slice ra rl rc,.int .i64 at2] 25 (0,0))) (h2:at2≤rl):RawAt w' B b ra rl rc at2:=by
 refine ⟨h.le,hb,h2,h.len,fun i hi => ?_⟩
 obtain ⟨k,off,c,h1,h3,h4,h5⟩:=h.cells i hi
 exact ⟨k,off,c,h1,h3,hK.cell h4 (fun e=>by have e:k=b:=e; have:=h.le; omega),h5⟩
theorem Zde (w:World) (B b:Nat) (ra:Option Addr) (rl rc:Nat) (h:RawIn w B b ra rl rc) (n:Nat) (hn:0<n∧n≤100) :
  Calls Tryd.prog 14 #[.pointer (some ⟨b,0,none⟩),.int .i64 n] w fun e w'=>∃ v:Nat,v<n∧e = .returned (.int .i64 v)∧Kept (only b) w w'∧RawIn w' B b ra rl rc:=by
 obtain ⟨p,h⟩:=h
 have c0:=Zaa h.box 0 _ rfl
 have c1:=Zaa h.box 1 _ rfl
 have hb:=Zab h.box
 have hf:=fun i=>Zae h.box i
 have hfar:=h.far
 have hlen:=h.len
 have HR:=Zac h
 by_cases hlt:p<rl
 ·obtain ⟨k,off,c,rfl,hk,hc,hc1,hc2⟩:=h.cells p hlt
  have hkb:k<w.heap.size:=by have:=h.le; omega
  have HP:=Zac (fun u=>Ydv c n u ⟨hc1,hc2⟩ ⟨hn.1,by omega⟩)
  have hpl:=Ydu c n hn.1
  obtain ⟨v,hv⟩:∃ v,v=Zpl c n:=⟨_,rfl⟩
  rw [← hv] at HP hpl
  have hI:¬ (rl:Int)≤(p:Int):=by omega
  have hI2:decide ((rl:Int)≤(p:Int))=false:=by simpa using hI
  clear h hv
  go_enter Tryd.func14,Tryd.ntmps14
  go_wp2_with fail
  go_quiet (fail)
  go_wp2_with fail
  have d0:(w.drewN nq).cell? ⟨b,0,none⟩=some (.slice (some ⟨k,off,none⟩) rl rc):=c0
  have d1:(w.drewN nq).cell? ⟨b,1,none⟩=some (.int .i64 p):=c1
  have dc:(w.drewN nq).cell? ⟨k,off+p,none⟩=some (.int .i64 c):=hc
  have df:∀ i,(w.drewN nq).frozen? ⟨b,i,none⟩=false:=hf
  have db:b<(w.drewN nq).heap.size:=hb
  have HK:Hid (Kept (only b) w (w.drewN nq)):=(Qx _ _).drewN nq
  have HB:Hid ((w.drewN nq).heap[b]?=some (.cells #[.slice (some ⟨k,off,none⟩) rl rc,.int .i64 p] 25 (0,0))):=HR.out.box
  clear c0 c1 hc hf hb hkb
  generalize w.drewN nq=W at d0 d1 dc df db HK HB ⊢
  go_quiet ((go_at_call 30; exact Calls.quiet_of_same (HP.out _)))
  go_wp2
  go_ret
  have hKe:∀ u:Value,Kept (only b) W (W.setCell ⟨b,1,none⟩ u):=fun u=>(Qx _ _).put 1 u
  refine ⟨v,hpl,rfl,?_,p+1,?_⟩
  ·exact HK.out.trans (by repeat (first | with_reducible exact Qx _ _ | with_reducible apply Kept.drewN | with_reducible apply Kept.put))
  ·refine HR.out.put (HK.out.trans (by repeat (first | with_reducible exact Qx _ _ | with_reducible apply Kept.drewN | with_reducible apply Kept.put))) ?_ (by omega)
   exact Zai HB.out 1 _
 ·have hI:(rl:Int)≤(p:Int):=by omega
  have hI2:decide ((rl:Int)≤(p:Int))=true:=by simpa using hI
  clear h
  go_enter Tryd.func14,Tryd.ntmps14
  go_wp2_with fail
  go_quiet (fail)
  go_wp2
  go_ret
  exact ⟨0,hn.1,rfl,(Qx _ _).drewN _,p,HR.out.put ((Qx _ _).drewN _) HR.out.box hfar⟩
theorem Zpm {S:Nat→Prop} {w w':World} (h:Ext w w'):Kept S w w':=⟨h.os,h.tape,h.output,h.size,fun k hk _=>h.block k hk⟩
theorem RawIn.keep {S:Nat→Prop} {w w':World} {B b:Nat} {ra:Option Addr} {rl rc:Nat} (h:RawIn w B b ra rl rc) (hk:Kept S w w') (hb:¬ S b) (hB:∀ k,S k→B≤k):RawIn w' B b ra rl rc:=by
 obtain ⟨p,h⟩:=h
 refine ⟨p,h.le,(hk.block b (Zab h.box) hb).trans h.box,h.far,h.len,fun i hi => ?_⟩
 obtain ⟨k,off,c,h1,h2,h3,h4⟩:=h.cells i hi
 exact ⟨k,off,c,h1,h2,hk.cell h3 (fun e=>by have:=hB k e; omega),h4⟩
theorem RawIn.ext {w w':World} {B b:Nat} {ra:Option Addr} {rl rc:Nat} (h:RawIn w B b ra rl rc) (e:Ext w w'):RawIn w' B b ra rl rc :=
 h.keep (S:=fun _=>False) ⟨e.os,e.tape,e.output,e.size,fun k hk _=>e.block k hk⟩ (fun h=>h) (fun _ h=>h.elim)
theorem Zmi (w:World) (B b:Nat) (ra:Option Addr) (rl rc:Nat) (h:RawIn w B b ra rl rc) (p:Nat) (hp:p<3):Calls Tryd.prog 15 #[.pointer (some ⟨b,0,none⟩),.int .i64 p] w fun e w'=>∃ x:Nat × Nat × Nat,AtOk x∧x.1=p∧e = .returned (.agg #[.int .i64 x.1,.int .i64 x.2.1,.int .i64 x.2.2])∧Kept (only b) w w'∧RawIn w' B b ra rl rc:=by
 have hbl:b<w.heap.size:=by obtain ⟨q,h⟩:=h; exact Zab h.box
 have HT:=Zac (Zde (w.alloc (.cells #[.int .i64 0,.int .i64 0,.int .i64 0] 48)) B b ra rl rc (h.ext (Ext.of (by repeat' (first | with_reducible(first|exact Qx _ _|apply Kept.drew|apply Kept.drewN|apply Qz|refine Qy ?_ ?_ _)|exact fun h=>absurd h (by simp <;> omega))))) 6 ⟨by omega,by omega⟩)
 clear h
 go_enter Tryd.func15,Tryd.ntmps15
 go_wp2_with fail
 refine HT.out.mono ?_
 rintro e w1 ⟨A,hA,rfl,hK,hR⟩
 have HT2:=Zac (Zde w1 B b ra rl rc hR 6 ⟨by omega,by omega⟩)
 have HK:=Zac hK
 clear hK hR HT
 go_wp2_with fail
 refine HT2.out.mono ?_
 rintro e w2 ⟨C,hC,rfl,hK2,hR2⟩
 have hbx:w2.heap[w.heap.size]?=some (.cells #[.int .i64 0,.int .i64 0,.int .i64 0] 48 (0,0)):=((HK.out.trans hK2).block _ (by simp) (fun e=>by have e:w.heap.size=b:=e; omega)).trans (heap_alloc_new w _)
 have c0:=Zaa hbx 0 _ rfl
 have c1:=Zaa hbx 1 _ rfl
 have c2:=Zaa hbx 2 _ rfl
 have cf:=fun i=>Zae hbx i
 have cl:=Zab hbx
 have HK2:=Zac (HK.out.trans hK2)
 have Hfin:Hid (∀ Z,Kept (fun k=>k=w.heap.size) w2 Z→Kept (only b) w Z∧RawIn Z B b ra rl rc):=fun Z hZ=>by
  have hB:B≤w.heap.size:=by obtain ⟨q,h⟩:=hR2; have:=h.le; omega
  refine ⟨?_,hR2.keep hZ (fun e=>by omega) (fun k e=>by omega)⟩
  have k1:Kept (only b) w w2:=((Qx (only b) w).alloc _).trans HK2.out
  exact k1.then hZ (fun i hi e=>by omega)
 clear hK2 hR2 hbx HT2
 go_wp2
 refine bodyPost_ret (v := .agg #[.int .i64 p,.int .i64 A,.int .i64 C]) (by simp [results,Tryd.results15,go_sem,c0,c1,c2,cf,cl]) rfl ?_
 refine ⟨(p,A,C),⟨hp,hA,hC⟩,rfl,rfl,?_⟩
 refine Hfin.out _ ?_
 repeat (first | with_reducible exact Qx _ _ | with_reducible apply Kept.drew | with_reducible refine Qy ?_ (fun _=>by simp) _)
theorem Tryd.infoAtom:(Tryd.prog.info? 48).map (fun i=>(i.zero,i.size,i.bytes))=some (some (.agg #[.int .i64 0,.int .i64 0,.int .i64 0]),3,24):=by kernel_rfl
theorem Ydw (w:World) (B b:Nat) (ra:Option Addr) (rl rc:Nat) (h:RawIn w B b ra rl rc):Calls Tryd.prog 5 #[.pointer (some ⟨b,0,none⟩)] w fun e w'=>∃ (a:Option Addr) (c:Nat) (l:List (Nat × Nat × Nat)),1≤l.length∧l.length≤2∧e = .returned (.slice a l.length c)∧AtomsIn w' (.slice a l.length c) l∧(∀ k,Zbt (.slice a l.length c) k→w.heap.size≤k)∧Kept (only b) w w'∧RawIn w' B b ra rl rc:=by
 have hbl:b<w.heap.size∧B≤b:=by obtain ⟨q,h⟩:=h; exact ⟨Zab h.box,h.le⟩
 have HT:=Zac (Zde w B b ra rl rc h 2 ⟨by omega,by omega⟩)
 clear h
 go_enter Tryd.func5,Tryd.ntmps5
 go_wp2_with fail
 refine HT.out.mono ?_
 rintro e w1 ⟨v,hv,rfl,hK,hR⟩
 have HK:Hid (Kept (only b) w w1∧RawIn w1 B b ra rl rc):=⟨hK,hR⟩
 obtain ⟨n,hn,hn2,hn1⟩:∃ n:Nat,(1:Int)+(v:Int)=(n:Int)∧n≤2∧1≤n:=⟨1+v,by omega,by omega,by omega⟩
 clear hK hR HT
 go_wp2
 go_loopw [3,4] (fun sv i u=>∃ (k:Nat) (a:Option Addr) (c:Nat) (l:List (Nat × Nat × Nat)),k+l.length=n∧i = .int .i64 k∧sv = .slice a l.length c∧u.ownsRow w.heap.size 48 3 (.slice a l.length c) l.length (l.flatMap atC)∧(∀ x ∈ l,AtOk x)∧Kept (only b) w u∧RawIn u B b ra rl rc) (fun _ i _=>(intOf i).toNat)
 case atStart=>exact ⟨n,none,0,[],by simp,rfl,rfl,World.ownsRow_nil _ _ _ _,by simp,HK.out.1,HK.out.2⟩
 case round =>
  obtain ⟨k,a,c,l,hkl,rfl,rfl,hrow,hok,hKu,hRu⟩:=hrel
  have Hrow:=Zac hrow
  have Hok:=Zac hok
  have HKu:=Zac hKu
  by_cases h0:k=0
  ·subst h0
   have HRu:=Zac hRu
   clear hrow hok hKu hRu
   go_wp2
   go_ret
   exact ⟨a,c,l,by omega,by omega,rfl,⟨Zbd Hrow.out (Qm _),Hok.out⟩,fun j hj=>(Hrow.out.lt j hj).1,HKu.out,HRu.out⟩
  ·have hpos:(0:Int)<(k:Int):=by omega
   have HT2:=Zac (Zde wr B b ra rl rc hRu 3 ⟨by omega,by omega⟩)
   clear hrow hok hKu hRu
   go_wp2_with fail
   refine HT2.out.mono ?_
   rintro e w2 ⟨p,hp,rfl,hK2,hR2⟩
   have HA:=Zac (Zmi w2 B b ra rl rc hR2 p hp)
   have HK2:=Zac hK2
   clear hK2 hR2 HT2
   go_wp2_with fail
   refine HA.out.mono ?_
   rintro e w3 ⟨x,hx,hxp,rfl,hK3,hR3⟩
   have HK3:Hid (Kept (only b) w w3):=(HKu.out.trans HK2.out).trans hK3
   have hs3:=HK3.out.size
   have HK23:Hid (Kept (only b) wr w3):=HK2.out.trans hK3
   obtain ⟨U,hU⟩:∃ U,U=w3.alloc (.cells #[.int .i64 x.1,.int .i64 x.2.1,.int .i64 x.2.2] 48):=⟨_,rfl⟩
   have hEU:Ext w3 U:=by rw [hU]; exact (Ext.of (by repeat' (first | with_reducible(first|exact Qx _ _|apply Kept.drew|apply Kept.drewN|apply Qz|refine Qy ?_ ?_ _)|exact fun h=>absurd h (by simp <;> omega))))
   have HrU:Hid (U.ownsRow w.heap.size 48 3 (.slice a l.length c) l.length (l.flatMap atC)):=Zak Hrow.out (fun j hj=>(hEU.block j (by have:=(Hrow.out.lt j hj).2; have:=HK23.out.size; omega)).trans (HK23.out.block j (Hrow.out.lt j hj).2 (fun e=>by have e:j=b:=e; have:=(Hrow.out.lt j hj).1; omega)))
   have HRU:=Zac (hR3.ext hEU)
   have hsU:=hEU.size
   have Hx:=Zac hx
   have HU:=Zac hU
   have HEU:=Zac hEU
   clear hK3 hR3 hEU HA hxp hx
   go_wp2_with (at_builtin; rw [← HU.out]; go_loud (refine Zan U rfl (.tmp 19) (.tmp 21) 28 rfl w.heap.size 48 Tryd.infoAtom Tryd.underlying28 rfl (by decide) (.slice a l.length c) l.length (l.flatMap atC) rfl HrU.out #[.int .i64 x.1,.int .i64 x.2.1,.int .i64 x.2.2] rfl (by rw [HU.out]; simp) rfl (by simp [Value.oneCell']) ?_ ?_ ?_))
   ·omega
   ·omega
   intro v4 w4 hA4
   rw [← HU.out] at hA4
   obtain ⟨a4,c4,rfl⟩:=Zad hA4.owns
   have Hend:Hid (w4.ownsRow w.heap.size 48 3 (.slice a4 (l++[x]).length c4) (l++[x]).length ((l++[x]).flatMap atC)∧Kept (only b) w w4∧RawIn w4 B b ra rl rc):=by
    refine ⟨by simpa [atC] using hA4.owns,?_,HRU.out.keep (S:=Zbt (.slice a l.length c)) hA4.kept (fun e=>by have:=(HrU.out.lt b e).1; omega) (fun j e=>by have:=(HrU.out.lt j e).1; omega)⟩
    exact (HK3.out.trans (Zpm HEU.out)).then hA4.kept (fun i hi e=>by have:=(HrU.out.lt i e).1; omega)
   clear hA4
   go_wp2
   go_roundw
   case rel =>
    have hk1:((k - 1:Nat):Int)=(k:Int) - 1:=by omega
    refine ⟨k - 1,a4,c4,l++[x],by simp; omega,by rw [hk1],by simp,Hend.out.1,fun y hy => ?_,Hend.out.2.1,Hend.out.2.2⟩
    rcases Qk.1 hy with hy | hy
    ·exact Hok.out y hy
    ·simp at hy
     subst hy
     exact Hx.out
   case measure=>simp [intOf]; omega
abbrev At3:=Nat × Nat × Nat
def RlOk (x:At3 × List At3):Prop:=AtOk x.1∧(∀ y ∈ x.2,AtOk y)∧x.2.length≤2
def rlG (x:At3 × List At3):GT × List GT:=(atG x.1,x.2.map atG)
structure RulesIn (w:World) (v:Value) (R:List (At3 × List At3)) (xs:List Value):Prop where
 owns:w.ownsRow 0 51 4 v R.length xs
 all:∀ (k:Nat) (x:At3 × List At3),R[k]?=some x→∃ (a:Option Addr) (c:Nat),xs[k * 4]?=some (.int .i64 x.1.1)∧xs[k * 4+1]?=some (.int .i64 x.1.2.1)∧xs[k * 4+2]?=some (.int .i64 x.1.2.2)∧xs[k * 4+3]?=some (.slice a x.2.length c)∧AtomsIn w (.slice a x.2.length c) x.2∧AtOk x.1∧x.2.length≤6
theorem RulesIn.ext {w w':World} {v:Value} {R:List (At3 × List At3)} {xs:List Value} (h:RulesIn w v R xs) (e:Ext w w'):RulesIn w' v R xs :=
 ⟨Zak h.owns (fun k hk=>e.block k (h.owns.lt k hk).2),fun k x hx=>by
  obtain ⟨a,c,y0,y1,y2,y3,y4,y5⟩:=h.all k x hx
  exact ⟨a,c,y0,y1,y2,y3,y4.ext e,y5⟩⟩
theorem Zrq (P:List (GT × List GT)) (c:GT × List GT):Zcl (P++[c])=Zcl P++clT c.1 c.2:=by simp [Zcl]
theorem Ydx (a:GT) (b:List GT) (h:b≠[]):clT a b=a.text++([58,45]++(Zec b++[46])):=by
 cases b with
 | nil=>exact absurd rfl h
 | cons t r=>rfl
theorem Ybh:∀ (l:List At3),(Zec (l.map atG)).length≤7 * l.length:=by
 have key:∀ (r:List At3) (x:At3),(Zcb (atG x) (r.map atG)).length≤7 * (r.length+1):=by
  intro r
  induction r with
  | nil=>intro x; have:(atG x).text.length=6:=Zmh _ _ _; simp [Zcb,this]
  | cons y r ih =>
   intro x
   have h6:(atG x).text.length=6:=Zmh _ _ _
   have:=ih y
   simp only [List.map_cons,Zcb,Qg,Qf] at this ⊢
   omega
 intro l
 cases l with
 | nil=>simp [Zec]
 | cons x r=>simpa [Zec] using key r x
theorem Zpn (w:World) (a:Option Addr) (c:Nat) (R:List (At3 × List At3)) (xs:List Value) (h:RulesIn w (.slice a R.length c) R xs) (hl:R.length≤100):Calls Tryd.prog 6 #[.slice a R.length c] w fun e w'=>e = .returned (.string ⟨(Zcl (R.map rlG)).toArray⟩)∧Ext w w':=by
 have H:Hid (∀ u,Ext w u→RulesIn u (.slice a R.length c) R xs):=fun u hu=>h.ext hu
 have HT:=Zac (fun P A B (hP:P<3) (hA:A<6) (hB:B<6) u=>Znw P A B hP hA hB u)
 have HL:=Zac (fun (u:World) (a:Option Addr) (c:Nat) (l:List At3) (h:AtomsIn u (.slice a l.length c) l) (hl:l.length≤100)=>Zks u a c l h hl)
 clear h
 go_enter Tryd.func6,Tryd.ntmps6
 go_wp2
 go_loopw [3,4] (fun sv i u=>∃ (k:Nat) (J:List UInt8),k≤R.length∧i = .int .i64 k∧sv = .string ⟨J.toArray⟩∧J=Zcl ((R.take k).map rlG)∧J.length≤60 * k∧Ext w u) (fun _ i _=>R.length - (intOf i).toNat)
 case atStart=>exact ⟨0,[],Qm _,rfl,rfl,rfl,by simp,Below.refl _ _⟩
 case round =>
  obtain ⟨k,J,hk,rfl,rfl,hJ,hjl,hEu⟩:=hrel
  have HJ:=Zac hJ
  have HEu:=Zac hEu
  clear hJ
  by_cases hlt:k<R.length
  ·obtain ⟨x,hx⟩:∃ x,R[k]?=some x:=⟨_,Qb hlt⟩
   obtain ⟨xh,xb⟩:=x
   have hRu:=H.out wr hEu
   obtain ⟨ba,bc,y0,y1,y2,y3,hAt,⟨o1,o2,o3⟩,hb6⟩:=hRu.all k _ hx
   simp only at y0 y1 y2 y3 hAt o1 o2 o3 hb6
   obtain ⟨g,hgs,hg⟩:∃ g,a=some ⟨g,0,none⟩∧g<wr.heap.size:=by
    rcases hRu.owns.2 with ⟨h1,h2⟩ | ⟨g,cap,cur,h1,_⟩
    ·omega
    ·simp only [Value.slice.injEq] at h1
     obtain ⟨e,_,rfl⟩:=h1
     subst e
     exact ⟨g,rfl,(hRu.owns.lt g rfl).2⟩
   subst hgs
   have d0:=Zag hRu.owns _ _ y0
   have d1:=Zag hRu.owns _ _ y1
   have d2:=Zag hRu.owns _ _ y2
   have htk:(R.take (k+1)).map rlG=(R.take k).map rlG++[rlG (xh,xb)]:=by rw [List.take_add_one,hx]; simp
   have HTx:=Zac (HT.out xh.1 xh.2.1 xh.2.2 o1 o2 o3)
   have hal:(atT xh.1 xh.2.1 xh.2.2).text.length=6:=Zmh _ _ _
   have hx6:(atG xh).text.length=6:=hal
   have hjb:=Ybh xb
   have HRu:=Zac hRu
   have Hy3:=Zac y3
   have HAt:=Zac hAt
   clear hEu hx hRu y0 y1 y2 y3 hAt
   go_wp2_with fail
   refine (HTx.out _).mono ?_
   rintro e w3 ⟨rfl,hE3⟩
   have HE3:Hid (Ext w w3):=HEu.out.trans (hE3.mono HEu.out.size)
   have f3:w3.cell? ⟨g,k * 4+3,none⟩=some (.slice ba xb.length bc):=Zag (HRu.out.ext hE3).owns _ _ Hy3.out
   have hg3:g<w3.heap.size:=by have:=hE3.size; omega
   have HAt3:=Zac (HAt.out.ext hE3)
   clear hE3 d0 d1 d2
   by_cases hb0:xb.length=0
   ·obtain rfl:xb=[]:=List.eq_nil_of_length_eq_zero hb0
    have Hs:Hid (∃ J',J'=Zcl ((R.take (k+1)).map rlG)∧(⟨J.toArray⟩:ByteArray)++⟨(atT xh.1 xh.2.1 xh.2.2).text.toArray⟩++⟨#[46]⟩=⟨J'.toArray⟩∧J'.length≤60 * (k+1)):=by
     refine ⟨J++((atG xh).text++[46]),?_,?_,by simp only [Qg,Qn]; omega⟩
     ·rw [htk,Zrq,HJ.out]
      rfl
     ·show (⟨J.toArray⟩:ByteArray)++⟨(atT xh.1 xh.2.1 xh.2.2).text.toArray⟩++⟨[46].toArray⟩=_
      rw [Zaw,Zaw]
      simp [atG]
    clear htk hb0
    go_wp2
    go_roundw
    case rel =>
     obtain ⟨J',j1,j2,j3⟩:=Hs.out
     exact ⟨k+1,J',by omega,by go_num,by rw [j2],j1,j3,HE3.out⟩
    case measure=>simp [intOf]; omega
   ·have hne:xb.map atG≠[]:=fun e=>hb0 (by simpa using congrArg List.length e)
    have hb0':((xb.length:Int) == 0)=false:=by rw [Qu]; omega
    have Hs:Hid (∃ J',J'=Zcl ((R.take (k+1)).map rlG)∧(⟨J.toArray⟩:ByteArray)++⟨(atT xh.1 xh.2.1 xh.2.2).text.toArray⟩++⟨#[58,45]⟩++⟨(Zec (xb.map atG)++[46]).toArray⟩=⟨J'.toArray⟩∧J'.length≤60 * (k+1)):=by
     refine ⟨J++((atG xh).text++([58,45]++(Zec (xb.map atG)++[46]))),?_,?_,by simp only [Qg,Qn,Qf,Qt]; omega⟩
     ·rw [htk,Zrq,HJ.out]
      simp only [rlG]
      rw [Ydx _ _ hne]
     ·show (⟨J.toArray⟩:ByteArray)++⟨(atT xh.1 xh.2.1 xh.2.2).text.toArray⟩++⟨[58,45].toArray⟩++⟨(Zec (xb.map atG)++[46]).toArray⟩=_
      rw [Zaw,Zaw,Zaw]
      simp [atG]
    have HLx:=Zac (HL.out w3 ba bc xb HAt3.out (by omega))
    have hjl6:(Zec (xb.map atG)++[46]).length≤60:=by simp only [Qg,Qn]; omega
    obtain ⟨V,hV⟩:∃ V,V=Zec (xb.map atG)++[46]:=⟨_,rfl⟩
    rw [← hV] at Hs HLx hjl6
    clear htk hb0 hne hV hjb
    go_wp2_with fail
    refine HLx.out.mono ?_
    rintro e w4 ⟨rfl,hE4⟩
    have HE4:=Zac (HE3.out.trans (hE4.mono HE3.out.size))
    clear hE4
    go_wp2
    go_roundw
    case rel =>
     obtain ⟨J',j1,j2,j3⟩:=Hs.out
     exact ⟨k+1,J',by omega,by go_num,by rw [j2],j1,j3,HE4.out⟩
    case measure=>simp [intOf]; omega
  ·obtain rfl:k=R.length:=by omega
   have Hs:Hid (J=Zcl (R.map rlG)):=by rw [show (R.map rlG)=((R.take R.length).map rlG) by rw [List.take_length]]; exact HJ.out
   clear hEu
   go_wp2
   go_ret
   exact ⟨by rw [← Hs.out]; rfl,HEu.out⟩
def Ztt:Prop:=∀ (s:ByteArray) (w:World),s.size≤maxLen→Calls Tryd.prog 9 #[.string s] w fun e w'=>e = .returned (.tuple #[.string ⟨(Zcu s).1.toArray⟩,.int .i64 (Zcu s).2.1,.int .i64 (Zcu s).2.2])∧Below w.heap.size w w'
def Ybi:Prop:=∀ (s:ByteArray) (w:World),s.size≤maxLen→Calls Tryd.prog 10 #[.string s] w fun e w'=>e = .returned (.tuple #[.string ⟨(Zem s).1.toArray⟩,.int .i64 (Zem s).2.1,.int .i64 (Zem s).2.2])∧Below w.heap.size w w'
theorem Zmj (s:ByteArray) (w:World) (er pl:Nat) (her:er≠0) (h:Calls Tryd.prog 17 #[.string s] w fun e w'=>e = .returned (.tuple #[.slice none 0 0,.agg #[.int .i64 er,.int .i64 pl]])∧Below w.heap.size w w') :
  Calls Tryd.prog 9 #[.string s] w fun e w'=>e = .returned (.tuple #[.string ⟨#[]⟩,.int .i64 er,.int .i64 pl])∧Below w.heap.size w w':=by
 have H:=Zac h
 have he':((er:Int) != 0)=true:=by rw [bne_iff_ne]; omega
 clear h her
 go_enter Tryd.func9,Tryd.ntmps9
 go_wp2_with fail
 refine H.out.mono ?_
 rintro e w1 ⟨rfl,hb⟩
 have Hb:=Zac hb
 clear hb
 go_wp2_with fail
 go_quiet (fail)
 go_wp2
 go_ret3
 exact ⟨rfl,(Hb.out.alloc Hb.out.size _).trans ⟨rfl,rfl,rfl,Qe _,fun _ _=>rfl⟩⟩
theorem Zrr (s:ByteArray) (w:World) (er pl:Nat) (her:er≠0) (h:Calls Tryd.prog 19 #[.string s] w fun e w'=>e = .returned (.tuple #[.agg #[.slice none 0 0,.slice none 0 0,.slice none 0 0],.agg #[.int .i64 er,.int .i64 pl]])∧Below w.heap.size w w') :
  Calls Tryd.prog 10 #[.string s] w fun e w'=>e = .returned (.tuple #[.string ⟨#[]⟩,.int .i64 er,.int .i64 pl])∧Below w.heap.size w w':=by
 have H:=Zac h
 have he':((er:Int) != 0)=true:=by rw [bne_iff_ne]; omega
 clear h her
 go_enter Tryd.func10,Tryd.ntmps10
 go_wp2_with fail
 refine H.out.mono ?_
 rintro e w1 ⟨rfl,hb⟩
 have Hb:=Zac hb
 clear hb
 go_wp2_with fail
 go_quiet (fail)
 go_wp2
 go_ret3
 exact ⟨rfl,((Hb.out.alloc Hb.out.size _).alloc (Hb.out.alloc Hb.out.size _).size _).trans ⟨rfl,rfl,rfl,Qe _,fun _ _=>rfl⟩⟩
theorem Zxq (s:ByteArray) (w:World) (F:List UInt8) (h:Calls Tryd.prog 17 #[.string s] w fun e w'=>Below w.heap.size w w'∧∃ v,e = .returned (.tuple #[v,.agg #[.int .i64 0,.int .i64 0]])∧(∃ a n x,v = .slice a n x) ∧
   ∀ o,Calls Tryd.prog 18 #[v] (w'.alloc o) fun e w''=>e = .returned (.string ⟨F.toArray⟩)∧Below w'.heap.size w' w'') :
  Calls Tryd.prog 9 #[.string s] w fun e w'=>e = .returned (.tuple #[.string ⟨F.toArray⟩,.int .i64 0,.int .i64 0])∧Below w.heap.size w w':=by
 have H:=Zac h
 clear h
 go_enter Tryd.func9,Tryd.ntmps9
 go_wp2_with fail
 refine H.out.mono ?_
 rintro e w1 ⟨hb,v,rfl,⟨a,n,x,rfl⟩,hT⟩
 have Hb:=Zac hb
 have HT:=Zac hT
 clear hb hT
 go_wp2_with fail
 refine (HT.out _).mono ?_
 rintro e w2 ⟨rfl,hb2⟩
 have Hb2:=Zac hb2
 clear hb2
 go_wp2
 go_ret3
 exact ⟨rfl,Hb.out.trans (Hb2.out.mono Hb.out.size)⟩
theorem Ydy (s:ByteArray) (w:World) (F:List UInt8) (h:Calls Tryd.prog 19 #[.string s] w fun e w'=>Below w.heap.size w w'∧∃ hv bv vv,e = .returned (.tuple #[.agg #[hv,bv,vv],.agg #[.int .i64 0,.int .i64 0]])∧(∃ a n x,hv = .slice a n x)∧(∃ a n x,bv = .slice a n x)∧(∃ a n x,vv = .slice a n x) ∧
   ∀ o p,Calls Tryd.prog 20 #[.agg #[hv,bv,vv]] ((w'.alloc o).alloc p) fun e w''=>e = .returned (.string ⟨F.toArray⟩)∧Below w'.heap.size w' w'') :
  Calls Tryd.prog 10 #[.string s] w fun e w'=>e = .returned (.tuple #[.string ⟨F.toArray⟩,.int .i64 0,.int .i64 0])∧Below w.heap.size w w':=by
 have H:=Zac h
 clear h
 go_enter Tryd.func10,Tryd.ntmps10
 go_wp2_with fail
 refine H.out.mono ?_
 rintro e w1 ⟨hb,hv,bv,vv,rfl,⟨a1,n1,x1,rfl⟩,⟨a2,n2,x2,rfl⟩,⟨a3,n3,x3,rfl⟩,hT⟩
 have Hb:=Zac hb
 have HT:=Zac hT
 clear hb hT
 go_wp2_with fail
 refine (HT.out _ _).mono ?_
 rintro e w2 ⟨rfl,hb2⟩
 have Hb2:=Zac hb2
 clear hb2
 go_wp2
 go_ret3
 exact ⟨rfl,Hb.out.trans (Hb2.out.mono Hb.out.size)⟩
theorem Zhs:Ztt:=by
 intro s w hm
 by_cases hs:800<s.size
 ·rw [Zcu,if_pos hs]
  exact Zmj s w 1 0 (by omega) (Zjg s w hm hs)
 ·obtain ⟨r1,r2,_⟩:=Zcq s false
  by_cases h0:(runs s false).1=0
  ·obtain ⟨cs,f1,f2,f3,f4,f5⟩:=Zkr s (by omega) h0
   rw [Zcu,if_neg hs,if_neg (by rw [← r1]; simp [h0]),f1]
   refine Zxq s w _ ((Zkk s w (by omega)).mono ?_)
   rintro e w' ⟨hb,hc⟩
   rcases hc with ⟨hc,_⟩ | ⟨_,v,B,Sa,Sb,xs,rfl,hrow⟩
   ·exact absurd h0 hc
   ·refine ⟨hb,v,rfl,?_,fun o => ?_⟩
    ·obtain ⟨a,x,rfl⟩:=Zad hrow.1
     exact ⟨a,_,x,rfl⟩
    ·have ht:=Zlx (w'.alloc o) B Sa Sb v _ xs (hrow.fresh ((Qx _ w').alloc o)) f3 f4 (by rw [f2]; exact f5)
     refine ht.mono ?_
     rintro e w2 ⟨rfl,hb2⟩
     refine ⟨by rw [f2],((Below.refl _ w').alloc (Qe _) o).trans (hb2.mono (by simp))⟩
  ·rw [Zcu,if_neg hs,if_pos (by rw [← r1]; exact h0)]
   refine Zmj s w _ _ (by rw [← r1]; exact h0) ((Zkk s w (by omega)).mono ?_)
   rintro e w' ⟨hb,hc⟩
   rcases hc with ⟨hc,rfl⟩ | ⟨hc,_⟩
   ·rw [← r1,← r2 h0]
    exact ⟨rfl,hb⟩
   ·exact absurd hc h0
theorem Znx:Ybi:=by
 intro s w hm
 by_cases hs:120<s.size
 ·rw [Zem,if_pos hs]
  exact Zrr s w 1 0 (by omega) (Zlw s w hm hs)
 ·obtain ⟨r1,r2,_⟩:=Zcq s true
  have hcl:(runs s true).1=0→∃ c cs,(runs s true).2.2.clauses=c::cs:=fun h0=>by
   obtain ⟨q,_,f2,_⟩:=Zej s (by omega) h0
   exact ⟨_,_,f2⟩
  by_cases h0:(runs s true).1=0
  ·obtain ⟨q,f1,f2,f3,f4,f5,f6⟩:=Zej s (by omega) h0
   rw [Zem,if_neg hs,if_neg (by rw [← r1]; simp [h0]),f1]
   refine Ydy s w _ ((Zkb s w (by omega) hcl).mono ?_)
   rintro e w' ⟨hb,hc⟩
   rcases hc with ⟨hc,_⟩ | ⟨_,hv,bv,vv,B,Sa,vs,c,cs,rfl,hcs,hh,hnm,hrow⟩
   ·exact absurd h0 hc
   ·rw [f2] at hcs
    simp only [List.cons.injEq] at hcs
    obtain ⟨rfl,_⟩:=hcs
    have hvv:∃ a n x,vv = .slice a n x:=by
     obtain ⟨a,x,rfl⟩:=Zad hnm
     exact ⟨a,_,x,rfl⟩
    refine ⟨hb,hv,bv,vv,rfl,hh,?_,hvv,fun o p => ?_⟩
    ·obtain ⟨a,x,rfl⟩:=Zad hrow.1
     exact ⟨a,_,x,rfl⟩
    ·have ht:=Zow ((w'.alloc o).alloc p) B Sa hv bv vv q.1 vs hh hvv (hrow.fresh (((Qx _ w').alloc o).alloc p)) f4 f5 f6
     refine ht.mono ?_
     rintro e w2 ⟨rfl,hb2⟩
     refine ⟨by rw [f3],(((Below.refl _ w').alloc (Qe _) o).alloc (by simp) p).trans (hb2.mono (by simp; omega))⟩
  ·rw [Zem,if_neg hs,if_pos (by rw [← r1]; exact h0)]
   refine Zrr s w _ _ (by rw [← r1]; exact h0) ((Zkb s w (by omega) hcl).mono ?_)
   rintro e w' ⟨hb,hc⟩
   rcases hc with ⟨hc,rfl⟩ | ⟨hc,_⟩
   ·rw [← r1,← r2 h0]
    exact ⟨rfl,hb⟩
   ·exact absurd hc h0
def xyz:Names:=[[88],[89],[90]]
def l16:List Names:=[[],[[88]],[[89]],[[90]],[[88],[89]],[[88],[90]],[[89],[88]],[[89],[90]],[[90],[88]],[[90],[89]],[[88],[89],[90]],[[88],[90],[89]],[[89],[88],[90]],[[89],[90],[88]],[[90],[88],[89]],[[90],[89],[88]]]
def rho (M:Names) (s:List UInt8):List UInt8:=Zdy ((M++xyz.filter (fun x => !(M.contains x))).idxOf s)
theorem Ygf:∀ M ∈ l16,∀ a ∈ xyz,∀ b ∈ xyz,rho M a=rho M b→a=b:=by decide +kernel
theorem Zgy:∀ M ∈ l16,∀ a ∈ xyz,Zfr Zeu (rho M a)=true∧(rho M a).length=1∧(rho M a).count 10=0:=by decide +kernel
theorem Ydz:∀ M ∈ l16,∀ s ∈ xyz,(Zba M s).1 ∈ l16:=by decide +kernel
def rho1 (s:List UInt8):List UInt8:=s++[49]
theorem Zpo:Zxc rho1 xyz:=fun a _ b _ e=>List.append_cancel_right e
theorem Zet:∀ a ∈ xyz,Zfr Zeu (rho1 a)=true∧(rho1 a).length=2:=by decide +kernel
theorem Zrs (N:Names) (s:List UInt8):N <+: (Zba N s).1:=by
 unfold Zba
 split
 ·exact List.prefix_refl _
 ·exact List.prefix_append _ _
theorem Ygg {N M:Names} {s:List UInt8} (h:(Zba N s).1 <+: M):rho M s=Zdy (Zba N s).2:=by
 obtain ⟨r,rfl⟩:=h
 unfold rho
 congr 1
 generalize xyz.filter _=Z
 unfold Zba
 by_cases h:s ∈ N
 ·rw [if_pos h]
  simp only
  rw [Qi,List.idxOf_append,if_pos h]
 ·rw [if_neg h]
  simp only
  rw [Qi,Qi,List.idxOf_append,if_neg h]
  simp
theorem Zvg (t:GT):∀ N,N <+: (t.syms N).2:=by
 induction t with
 | v s=>intro N; exact Zrs N s
 | n s=>intro N; exact List.prefix_refl _
 | f s t ih=>intro N; exact ih N
 | g s t u iht ihu=>intro N; exact (iht N).trans (ihu _)
theorem Zrt:∀ (l:List GT) (N:Names),N <+: (Zcx l N).2:=by
 intro l
 induction l with
 | nil=>intro N; exact List.prefix_refl _
 | cons t l ih=>intro N; exact (Zvg t N).trans (ih _)
theorem Zif (i:Nat) (h:i<6):∀ x ∈ (argT i).vars,x ∈ xyz:=by
 rcases (by omega:i=0∨i=1∨i=2∨i=3∨i=4∨i=5) with rfl | rfl | rfl | rfl | rfl | rfl <;> decide
theorem Zmk {x:At3} (h:AtOk x):∀ y ∈ (atG x).vars,y ∈ xyz:=by
 intro y hy
 rcases Qk.1 hy with hy | hy
 ·exact Zif _ h.2.1 y hy
 ·exact Zif _ h.2.2 y hy
theorem Zvh (t:GT):∀ N,(∀ x ∈ t.vars,x ∈ xyz)→N ∈ l16→(t.syms N).2 ∈ l16:=by
 induction t with
 | v s=>intro N hv hN; exact Ydz N hN s (hv s (by simp [GT.vars]))
 | n s=>intro N hv hN; exact hN
 | f s t ih=>intro N hv hN; exact ih N hv hN
 | g s t u iht ihu=>intro N hv hN; exact ihu _ (fun x hx=>hv x (by simp [GT.vars,hx])) (iht N (fun x hx=>hv x (by simp [GT.vars,hx])) hN)
theorem Zru:∀ (l:List GT) (N:Names),(∀ t ∈ l,∀ x ∈ t.vars,x ∈ xyz)→N ∈ l16→(Zcx l N).2 ∈ l16:=by
 intro l
 induction l with
 | nil=>intro N _ hN; exact hN
 | cons t l ih=>intro N hv hN; exact ih _ (fun u hu=>hv u (by simp [hu])) (Zvh t N (hv t (by simp)) hN)
theorem Ybj (i:Nat) (hi:i<6) (N M:Names) (h:((argT i).syms N).2 <+: M):∃ a:Sym,((argT i).syms N).1=[a]∧a.args=0∧symC a=((argT i).ren (rho M)).text:=by
 unfold argT at h ⊢
 split
 ·rename_i h3
  refine ⟨⟨[symA i],0,0⟩,rfl,rfl,?_⟩
  simp [symC,GT.ren,GT.text]
 ·rename_i h3
  rw [if_neg h3] at h
  exact ⟨_,rfl,rfl,by simp only [symC,GT.ren,GT.text]; rw [if_pos trivial]; exact (Ygg h).symm⟩
theorem Zpp {x:At3} (hx:AtOk x) (N M:Names) (h:((atG x).syms N).2 <+: M):Zbm ((atG x).syms N).1 []=((atG x).ren (rho M)).text:=by
 obtain ⟨P,A,B⟩:=x
 have hB:((argT B).syms ((argT A).syms N).2).2 <+: M:=h
 obtain ⟨a,e1,e2,e3⟩:=Ybj A hx.2.1 N M ((Zvg _ _).trans hB)
 obtain ⟨b,e4,e5,e6⟩:=Ybj B hx.2.2 _ M hB
 show Zbm (⟨[symP P],0,2⟩::(((argT A).syms N).1++((argT B).syms ((argT A).syms N).2).1)) []=[symP P]++(40::(((argT A).ren (rho M)).text++(44::(((argT B).ren (rho M)).text++[41]))))
 rw [e1,e4,← e3,← e6]
 simp [Zbm,Zbq,e2,e5,symC]
theorem Zvi (M:Names):∀ (r:List At3) (x:At3) (N:Names),AtOk x→(∀ y ∈ r,AtOk y)→(Zcx ((x::r).map atG) N).2 <+: M→Zeh [] (Zcx ((x::r).map atG) N).1=styB GT.text [44,32] ((atG x).ren (rho M)) ((r.map atG).map (GT.ren (rho M))):=by
 intro r
 induction r with
 | nil =>
  intro x N hx _ h
  simp only [List.map_cons,List.map_nil,Zcx,Zeh,styB,List.nil_append,Qs]
  exact Zpp hx N M h
 | cons y r ih =>
  intro x N hx hr h
  have h2:(Zcx ((y::r).map atG) ((atG x).syms N).2).2 <+: M:=h
  have e:=ih y _ (hr y (by simp)) (fun z hz=>hr z (by simp [hz])) h2
  have e1:=Zpp hx N M ((Zrt _ _).trans h2)
  have e3:∀ (l:List Sym) (ls:List (List Sym)),Zeh [44,32] (l::ls)=[44,32]++Zeh [] (l::ls):=fun l ls=>rfl
  simp only [List.map_cons,Zcx] at e ⊢
  rw [Zeh,e3,e,e1]
  rfl
def clW (x:At3 × List At3):GT × List GT:=Zgm (rho (clOf (rlG x)).names) (rlG x)
theorem Ygh {x:At3 × List At3} (h:RlOk x):Zig (clOf (rlG x))++[10]=styT GT.text [44,32] [32,58,45,32] [46,10] (clW x).1 (clW x).2:=by
 obtain ⟨hd,b⟩:=x
 obtain ⟨h1,h2,h3⟩:=h
 simp only at h1 h2 h3
 have e1:=Zpp h1 [] (clOf (rlG (hd,b))).names (Zrt _ _)
 cases b with
 | nil =>
  unfold Zig
  rw [if_pos (show (clOf (rlG (hd,[]))).body=[] from rfl)]
  show Zbm ((atG hd).syms []).1 []++[46]++[10]=((atG hd).ren _).text++[46,10]
  rw [e1]
  simp
 | cons y r =>
  have e2:=Zvi (clOf (rlG (hd,y::r))).names r y ((atG hd).syms []).2 (h2 y (by simp)) (fun z hz=>h2 z (by simp [hz])) (List.prefix_refl _)
  unfold Zig
  rw [if_neg (show ¬ (clOf (rlG (hd,y::r))).body=[] from by simp [clOf,rlG,Zcx])]
  show Zbm ((atG hd).syms []).1 []++([32,58,45,32]++(Zeh [] (Zcx ((y::r).map atG) ((atG hd).syms []).2).1++[46]))++[10]=((atG hd).ren _).text++([32,58,45,32]++(styB GT.text [44,32] ((atG y).ren _) ((r.map atG).map (GT.ren _))++[46,10]))
  rw [e1,e2]
  simp
theorem Zxr (cs:List Cls):Zgk cs=cs.flatMap (fun c=>Zig c++[10]):=by
 induction cs with
 | nil=>rfl
 | cons c cs ih=>rw [Zgk,List.flatMap_cons,ih]; simp
theorem Zgz {s:ByteArray} {cs:List Cls} (h:Zcp s=some cs):Zcu s=(Zgk cs,0,0)∧Zgk cs=cs.flatMap Zdt:=by
 obtain ⟨h1,h2,h3,_⟩:=Zdu h
 obtain ⟨cs',f1,f2,_⟩:=Zkr s h1 h2
 unfold Zcp at h
 unfold Zcu
 split at h
 ·simp at h
 ·split at h
  ·simp at h
  ·rename_i g1 g2
   rw [f1] at h
   simp at h
   subst h
   rw [if_neg g1,if_neg g2,f1]
   rw [h3] at f2
   exact ⟨by rw [f2],f2⟩
theorem Zml {s:ByteArray} {a:List (List Sym) × Names} (h:Zeb s=some a):Zem s=(Zeh [] a.1++[46],0,0):=by
 obtain ⟨h1,h2,_⟩:=Zfh h
 obtain ⟨q,f1,f2,f3,_⟩:=Zej s h1 h2
 unfold Zeb at h
 unfold Zem
 split at h
 ·simp at h
 ·split at h
  ·simp at h
  ·rename_i g1 g2
   rw [f1] at h
   simp at h
   subst h
   rw [if_neg g1,if_neg g2,f1,f3]
theorem Zle {at':GT→List UInt8} {cm ar dt:List UInt8} {L:Nat} (a:GT) (b:List GT) (h2:b.length≤2) (ha:(at' a).length≤L) (hb:∀ u ∈ b,(at' u).length≤L):(styT at' cm ar dt a b).length≤3 * L+cm.length+ar.length+dt.length:=by
 rcases b with _ | ⟨x,_ | ⟨y,_ | ⟨z,r⟩⟩⟩
 ·simp only [styT,Qg]; omega
 ·have:=hb x (by simp)
  simp only [styT,styB,Qg]; omega
 ·have:=hb x (by simp)
  have:=hb y (by simp)
  simp only [styT,styB,Qg]; omega
 ·simp at h2
theorem Zha {α:Type} (f:α→List UInt8) (K:Nat):∀ (l:List α),(∀ x ∈ l,(f x).length≤K)→(l.flatMap f).length≤K * l.length:=by
 intro l
 induction l with
 | nil=>intro _; simp
 | cons x l ih =>
  intro h
  have:=ih (fun y hy=>h y (by simp [hy]))
  have:=h x (by simp)
  rw [List.flatMap_cons,Qg,Qf,Nat.mul_add]
  omega
theorem Ztu {x:At3 × List At3} (h:RlOk x):ClFine (rlG x):=by
 refine ⟨Zld _ _ _ h.1.1 h.1.2.1 h.1.2.2,fun t ht => ?_,by have:=h.2.2; simp [rlG]; omega⟩
 obtain ⟨y,hy,rfl⟩:=List.mem_map.1 ht
 have:=h.2.1 y hy
 exact Zld _ _ _ this.1 this.2.1 this.2.2
theorem Zey {x:At3 × List At3} (h:RlOk x):(∀ y ∈ (rlG x).1.vars,y ∈ xyz)∧∀ t ∈ (rlG x).2,∀ y ∈ t.vars,y ∈ xyz:=by
 refine ⟨Zmk h.1,fun t ht => ?_⟩
 obtain ⟨y,hy,rfl⟩:=List.mem_map.1 ht
 exact Zmk (h.2.1 y hy)
theorem Zvj {x:At3 × List At3} (h:RlOk x):(clOf (rlG x)).names ∈ l16 :=
 Zru _ _ (Zey h).2 (Zvh _ _ (Zey h).1 (by decide))
theorem Zfj {x:At3} (hx:AtOk x) {ρ:List UInt8→List UInt8} {L:Nat} (h:∀ a ∈ xyz,(ρ a).length≤L) (hL:1≤L):((atG x).ren ρ).text.length≤4+2 * L:=by
 have key:∀ i,i<6→((argT i).ren ρ).text.length≤L:=fun i hi=>by
  unfold argT
  split
  ·simpa [GT.ren,GT.text] using hL
  ·rename_i h3
   have:=Zif i hi [symA i] (by unfold argT; rw [if_neg h3]; simp [GT.vars])
   simpa [GT.ren,GT.text] using h _ this
 obtain ⟨P,A,B⟩:=x
 have k1:=key A hx.2.1
 have k2:=key B hx.2.2
 show ([symP P]++(40::(((argT A).ren ρ).text++(44::(((argT B).ren ρ).text++[41]))))).length≤_
 simp only [Qg,Qf,Qt]
 omega
theorem Zhb (x:At3):(atG x).text.length=6:=Zmh _ _ _
def Yhs (c:UInt8):Bool:=c == 40 || c == 41 || c == 44 || c == 46
def spB (c:UInt8):List UInt8:=(if Yhs c || c == 58 then [10] else [])++([c]++((if decide (88≤c.toNat∧c.toNat≤90) then [49] else [])++(if Yhs c || c == 45 then [32] else [])))
def spT (s:List UInt8):List UInt8:=32::s.flatMap spB
theorem Yfi (i:Nat) (h:i<6):spB (symA i)=((argT i).ren rho1).text:=by
 rcases (by omega:i=0∨i=1∨i=2∨i=3∨i=4∨i=5) with rfl | rfl | rfl | rfl | rfl | rfl <;> decide +kernel
theorem sp_p (i:Nat) (h:i<3):spB (symP i)=[symP i]:=by
 rcases (by omega:i=0∨i=1∨i=2) with rfl | rfl | rfl <;> decide +kernel
theorem sp_at {x:At3} (hx:AtOk x):(atG x).text.flatMap spB=[symP x.1]++([10,40,32]++(((argT x.2.1).ren rho1).text++([10,44,32]++(((argT x.2.2).ren rho1).text++[10,41,32])))):=by
 obtain ⟨P,A,B⟩:=x
 show ([symP P]++(40::((argT A).text++(44::((argT B).text++[41]))))).flatMap spB=_
 rw [Zjn,Zjn]
 simp only [List.cons_append,List.nil_append,List.flatMap_cons,List.flatMap_nil]
 rw [sp_p P hx.1,Yfi A hx.2.1,Yfi B hx.2.2,show spB 40=[10,40,32] by decide +kernel,show spB 44=[10,44,32] by decide +kernel,show spB 41=[10,41,32] by decide +kernel]
 simp
theorem Yht {ρ:List UInt8→List UInt8} (hρ:∀ a ∈ xyz,Zfr Zeu (ρ a)=true) (i:Nat) (h:i<6) (r:List UInt8) (hr:Zbe r=0):kt (((argT i).ren ρ).text++r)=ktG ((argT i).ren ρ)++kt r :=
 Zte (Yaw (Zts i h) (fun x hx=>hρ x (Zif i h x hx))) hr
theorem Zvk {x:At3} (hx:AtOk x):Zqx (fun t=>t.text.flatMap spB) (fun t=>ktG (t.ren rho1)) (atG x):=by
 intro r hr
 have hok:=Yaw (ρ:=rho1) (GT.fine_iff (Zld x.1 x.2.1 x.2.2 hx.1 hx.2.1 hx.2.2)).2.1 (fun y hy=>(Zet y (Zmk hx y hy)).1)
 have hk:∀ r,Zbe r=0→kt (((atG x).ren rho1).text++r)=ktG ((atG x).ren rho1)++kt r:=fun r hr=>Zte hok hr
 have hw:Zfr Zdi [symP x.1]=true:=by
  have:=hx.1
  rcases (by omega:x.1=0∨x.1=1∨x.1=2) with h | h | h <;> rw [h] <;> decide +kernel
 have hwa:=fun i (h:i<6) r (hr:Zbe r=0)=>Yht (ρ:=rho1) (fun a ha=>(Zet a ha).1) i h r hr
 have e1:kt (((atG x).ren rho1).text++r)=⟨1,[symP x.1],0⟩::⟨40,[40],0⟩::(ktG ((argT x.2.1).ren rho1)++⟨44,[44],0⟩::(ktG ((argT x.2.2).ren rho1)++⟨41,[41],0⟩::kt r)):=by
  obtain ⟨P,A,B⟩:=x
  show kt (([symP P]++(40::(((argT A).ren rho1).text++(44::(((argT B).ren rho1).text++[41])))))++r)=_
  simp only [Qi,List.cons_append,List.nil_append]
  rw [show symP P::40::(((argT A).ren rho1).text++44::(((argT B).ren rho1).text++41::r))=[symP P]++40::(((argT A).ren rho1).text++44::(((argT B).ren rho1).text++41::r)) from rfl]
  rw [Yar hw (Or.inl ⟨rfl,rfl⟩) (Zao _ _ (by decide +kernel)),Zex (by simp),hwa A hx.2.1 _ (Zao _ _ (by decide +kernel)),Zex (by simp),hwa B hx.2.2 _ (Zao _ _ (by decide +kernel)),Zex (by simp)]
  rfl
 show kt ((atG x).text.flatMap spB++r)=ktG ((atG x).ren rho1)++kt r
 rw [← hk r hr,e1,sp_at hx]
 simp only [Qi,List.cons_append,List.nil_append]
 rw [show symP x.1::10::40::32::(((argT x.2.1).ren rho1).text++10::44::32::(((argT x.2.2).ren rho1).text++10::41::32::r))=[symP x.1]++10::40::32::(((argT x.2.1).ren rho1).text++10::44::32::(((argT x.2.2).ren rho1).text++10::41::32::r)) from rfl]
 rw [Yar hw (Or.inl ⟨rfl,rfl⟩) (Zao _ _ (by decide +kernel)),Zcn (by decide),Zex (by simp),Zcn (by decide),hwa _ hx.2.1 _ (Zao _ _ (by decide +kernel)),Zcn (by decide),Zex (by simp),Zcn (by decide),hwa _ hx.2.2 _ (Zao _ _ (by decide +kernel)),Zcn (by decide),Zex (by simp),Zcn (by decide)]
 rfl
theorem Ybk:∀ (r:List GT) (t:GT),(Zcb t r).flatMap spB=styB (fun t=>t.text.flatMap spB) [10,44,32] t r:=by
 intro r
 induction r with
 | nil=>intro t; rfl
 | cons u r ih =>
  intro t
  simp only [Zcb,styB,List.flatMap_append,List.flatMap_cons,ih u]
  rw [show spB 44=[10,44,32] by decide +kernel]
theorem sp_cl (a:GT) (b:List GT):(clT a b).flatMap spB=styT (fun t=>t.text.flatMap spB) [10,44,32] [10,58,45,32] [10,46,32] a b:=by
 cases b with
 | nil =>
  simp only [clT,styT,List.flatMap_append,List.flatMap_cons,List.flatMap_nil,Qs]
  rw [show spB 46=[10,46,32] by decide +kernel]
 | cons t r =>
  simp only [clT,styT,List.flatMap_append,List.flatMap_cons,List.flatMap_nil,Qs,Ybk]
  rw [show spB 46=[10,46,32] by decide +kernel,show spB 58=[10,58] by decide +kernel,show spB 45=[45,32] by decide +kernel]
  simp
theorem Zrv (ρ:List UInt8→List UInt8):∀ (r:List GT) (t:GT),Ztf (fun t=>ktG (t.ren ρ)) t r=Ztf ktG (t.ren ρ) (r.map (GT.ren ρ)):=by
 intro r
 induction r with
 | nil=>intro t; rfl
 | cons u r ih=>intro t; simp only [Ztf,List.map_cons,ih u]
theorem Yea (ρ:List UInt8→List UInt8) (c:GT × List GT):styK (fun t=>ktG (t.ren ρ)) c.1 c.2=styK ktG (Zgm ρ c).1 (Zgm ρ c).2:=by
 obtain ⟨a,b⟩:=c
 cases b with
 | nil=>rfl
 | cons t r=>simp only [Zgm,styK,List.map_cons,Zrv]
theorem Ztv (c:UInt8):(spB c).length≤3:=by
 have:=Zdc (p:=fun c=>decide ((spB c).length≤3)) (by decide +kernel) c
 simpa using this
theorem Yeb (R:List (At3 × List At3)) (hR:∀ x ∈ R,RlOk x) (h8:R.length≤8):∃ cs ds a,Zcp ⟨(Zcl (R.map rlG)).toArray⟩=some cs∧Zcp ⟨(spT (Zcl (R.map rlG))).toArray⟩=some ds∧AlikeL cs ds∧cs.length=R.length ∧
  Zcu ⟨(Zcl (R.map rlG)).toArray⟩=(a,0,0)∧Zcu ⟨(spT (Zcl (R.map rlG))).toArray⟩=(a,0,0)∧Zcu ⟨a.toArray⟩=(a,0,0)∧a.count 10=R.length∧a.length≤800:=by
 have lmul:∀ K n:Nat,n≤K * R.length→n≤K * 8:=fun K n h=>Qq h (Nat.mul_le_mul_left K h8)
 -- as it was made
 have hP:∀ c ∈ R.map rlG,ClFine c:=fun c hc=>by
  obtain ⟨x,hx,rfl⟩:=List.mem_map.1 hc
  exact Ztu (hR x hx)
 have hPl:(Zcl (R.map rlG)).length≤22 * R.length:=by
  have:=Zha (fun c:GT × List GT=>clT c.1 c.2) 22 (R.map rlG) (fun c hc=>by
   obtain ⟨x,hx,rfl⟩:=List.mem_map.1 hc
   have:=Zle (at':=GT.text) (cm:=[44]) (ar:=[58,45]) (dt:=[46]) (L:=6) (rlG x).1 (rlG x).2 (by simpa [rlG] using (hR x hx).2.2) (Nat.le_of_eq (Zhb _)) (fun u hu=>by
    obtain ⟨y,_,rfl⟩:=List.mem_map.1 hu
    exact Nat.le_of_eq (Zhb _))
   rw [Zpf] at this
   simpa using this)
  simpa [Zcl] using this
 have e0:=Ziv (R.map rlG) hP (by simp; omega) (by have:=lmul _ _ hPl; omega)
 -- with Zco
 have hP1:∀ c ∈ (R.map rlG).map (Zgm rho1),ClFine c:=fun c hc=>by
  obtain ⟨c',hc',rfl⟩:=List.mem_map.1 hc
  obtain ⟨x,hx,rfl⟩:=List.mem_map.1 hc'
  exact Znp (Ztu (hR x hx)) (fun y hy=>(Zet y ((Zey (hR x hx)).1 y hy)).1) (fun t ht y hy=>(Zet y ((Zey (hR x hx)).2 t ht y hy)).1)
 have hP1l:(Zcl ((R.map rlG).map (Zgm rho1))).length≤28 * R.length:=by
  have:=Zha (fun c:GT × List GT=>clT c.1 c.2) 28 ((R.map rlG).map (Zgm rho1)) (fun c hc=>by
   obtain ⟨c',hc',rfl⟩:=List.mem_map.1 hc
   obtain ⟨x,hx,rfl⟩:=List.mem_map.1 hc'
   have:=Zle (at':=GT.text) (cm:=[44]) (ar:=[58,45]) (dt:=[46]) (L:=8) (Zgm rho1 (rlG x)).1 (Zgm rho1 (rlG x)).2 (by simpa [rlG,Zgm] using (hR x hx).2.2) (Zfj (L:=2) (hR x hx).1 (fun a ha=>by rw [(Zet a ha).2]; omega) (by omega)) (fun u hu=>by
    obtain ⟨u',hu',rfl⟩:=List.mem_map.1 hu
    obtain ⟨y,hy,rfl⟩:=List.mem_map.1 hu'
    exact Zfj (L:=2) ((hR x hx).2.1 y hy) (fun a ha=>by rw [(Zet a ha).2]; omega) (by omega))
   rw [Zpf] at this
   simpa using this)
  simpa [Zcl] using this
 have hk1:kt (spT (Zcl (R.map rlG)))=kt (Zcl ((R.map rlG).map (Zgm rho1))):=by
  rw [Yav _ hP1]
  unfold spT
  rw [Zcn (by decide)]
  have e:(Zcl (R.map rlG)).flatMap spB=(R.map rlG).flatMap (fun c=>styT (fun t=>t.text.flatMap spB) [10,44,32] [10,58,45,32] [10,46,32] c.1 c.2):=by
   unfold Zcl
   rw [List.flatMap_assoc]
   exact Zff (fun c _=>sp_cl c.1 c.2)
  rw [e,Zth sty1 (K:=fun t=>ktG (t.ren rho1)) _ (fun c hc=>by
   obtain ⟨x,hx,rfl⟩:=List.mem_map.1 hc
   refine ⟨Zvk (hR x hx).1,fun u hu => ?_⟩
   obtain ⟨y,hy,rfl⟩:=List.mem_map.1 hu
   exact Zvk ((hR x hx).2.1 y hy))]
  simp only [List.flatMap_map]
  exact Zff (fun x _=>Yea rho1 (rlG x))
 have hsl:(spT (Zcl (R.map rlG))).length≤1+3 * (22 * R.length):=by
  have:=Zha spB 3 (Zcl (R.map rlG)) (fun c _=>Ztv c)
  simp only [spT,Qf]
  omega
 have e1:Zcp ⟨(spT (Zcl (R.map rlG))).toArray⟩=some (((R.map rlG).map (Zgm rho1)).map clOf):=by
  rw [Zqw hk1 (by omega) (by omega)]
  exact Ziv _ hP1 (by simp; omega) (by omega)
 -- as Program Yag it
 have hA1:Zgk ((R.map rlG).map clOf)=R.flatMap (fun x=>styT GT.text [44,32] [32,58,45,32] [46,10] (clW x).1 (clW x).2):=by
  rw [Zxr,List.flatMap_map,List.flatMap_map]
  exact Zff (fun x hx=>Ygh (hR x hx))
 have hP2:∀ c ∈ R.map clW,ClFine c:=fun c hc=>by
  obtain ⟨x,hx,rfl⟩:=List.mem_map.1 hc
  have hM:=Zvj (hR x hx)
  exact Znp (Ztu (hR x hx)) (fun y hy=>(Zgy _ hM y ((Zey (hR x hx)).1 y hy)).1) (fun t ht y hy=>(Zgy _ hM y ((Zey (hR x hx)).2 t ht y hy)).1)
 have hwl:∀ x ∈ R,((clW x).1.text.length≤6)∧∀ u ∈ (clW x).2,u.text.length≤6:=fun x hx=>by
  have hM:=Zvj (hR x hx)
  refine ⟨Zfj (L:=1) (hR x hx).1 (fun a ha=>by rw [(Zgy _ hM a ha).2.1]; omega) (by omega),fun u hu => ?_⟩
  obtain ⟨u',hu',rfl⟩:=List.mem_map.1 hu
  obtain ⟨y,hy,rfl⟩:=List.mem_map.1 hu'
  exact Zfj (L:=1) ((hR x hx).2.1 y hy) (fun a ha=>by rw [(Zgy _ hM a ha).2.1]; omega) (by omega)
 have hw2:∀ x ∈ R,(clW x).2.length≤2:=fun x hx=>by simpa [clW,Zgm,rlG] using (hR x hx).2.2
 have hP2l:(Zcl (R.map clW)).length≤22 * R.length:=by
  have:=Zha (fun c:GT × List GT=>clT c.1 c.2) 22 (R.map clW) (fun c hc=>by
   obtain ⟨x,hx,rfl⟩:=List.mem_map.1 hc
   have:=Zle (at':=GT.text) (cm:=[44]) (ar:=[58,45]) (dt:=[46]) (L:=6) (clW x).1 (clW x).2 (hw2 x hx) (hwl x hx).1 (hwl x hx).2
   rw [Zpf] at this
   simpa using this)
  simpa [Zcl] using this
 have hAl:(Zgk ((R.map rlG).map clOf)).length≤26 * R.length:=by
  rw [hA1]
  exact Zha _ 26 R (fun x hx=>by
   have:=Zle (at':=GT.text) (cm:=[44,32]) (ar:=[32,58,45,32]) (dt:=[46,10]) (L:=6) (clW x).1 (clW x).2 (hw2 x hx) (hwl x hx).1 (hwl x hx).2
   simpa using this)
 have hk2:kt (Zgk ((R.map rlG).map clOf))=kt (Zcl (R.map clW)):=by
  rw [Yav _ hP2,hA1]
  have:=Zth sty2 (at':=GT.text) (K:=ktG) (R.map clW) (fun c h=>⟨Zfg (GT.fine_iff (hP2 c h).head).2.1,fun u hu=>Zfg (GT.fine_iff ((hP2 c h).body u hu)).2.1⟩)
  rw [List.flatMap_map] at this
  exact this
 have e2:Zcp ⟨(Zgk ((R.map rlG).map clOf)).toArray⟩=some ((R.map clW).map clOf):=by
  rw [Zqw hk2 (by omega) (by omega)]
  exact Ziv _ hP2 (by simp; omega) (by omega)
 have hal1:AlikeL ((R.map rlG).map clOf) (((R.map rlG).map (Zgm rho1)).map clOf):=by
  rw [List.map_map (l:=R.map rlG)]
  refine Ybd _ _ _ (fun c hc => ?_)
  obtain ⟨x,hx,rfl⟩:=List.mem_map.1 hc
  show Zvb (clOf (rlG x)) (clOf (Zgm rho1 (rlG x)))
  rw [Zpg Zpo _ (Zey (hR x hx)).1 (Zey (hR x hx)).2]
  exact ⟨rfl,rfl,by simp [Cls.n]⟩
 have hw1:(((R.map rlG).map (Zgm rho1)).map clOf).flatMap Zdt=((R.map rlG).map clOf).flatMap Zdt:=by
  simp only [List.flatMap_map]
  refine Zff (fun x hx => ?_)
  rw [Zpg Zpo _ (Zey (hR x hx)).1 (Zey (hR x hx)).2]
  rfl
 have hw3:((R.map clW).map clOf).flatMap Zdt=((R.map rlG).map clOf).flatMap Zdt:=by
  simp only [List.flatMap_map]
  refine Zff (fun x hx => ?_)
  unfold clW
  rw [Zpg (Ygf _ (Zvj (hR x hx))) _ (Zey (hR x hx)).1 (Zey (hR x hx)).2]
  rfl
 have r0:=Zgz e0
 have r1:=Zgz e1
 have r2:=Zgz e2
 refine ⟨_,_,Zgk ((R.map rlG).map clOf),e0,e1,hal1,by simp,r0.1,?_,?_,?_,by omega⟩
 ·rw [r1.1,r1.2,hw1,← r0.2]
 ·rw [r2.1,r2.2,hw3,← r0.2]
 ·rw [hA1]
  have hc0:∀ x ∈ R,(clW x).1.text.count 10=0∧∀ u ∈ (clW x).2,u.text.count 10=0:=fun x hx=>by
   have hM:=Zvj (hR x hx)
   have key:∀ y:At3,AtOk y→((atG y).ren (rho (clOf (rlG x)).names)).text.count 10=0:=fun y hy=>by
    have karg:∀ i,i<6→((argT i).ren (rho (clOf (rlG x)).names)).text.count 10=0:=fun i hi=>by
     by_cases h3:i<3
     ·have:(argT i).ren (rho (clOf (rlG x)).names) = .n [symA i]:=by unfold argT; rw [if_pos h3]; rfl
      rw [this]
      rcases (by omega:i=0∨i=1∨i=2) with rfl | rfl | rfl <;> decide
     ·have hv:=Zif i hi [symA i] (by unfold argT; rw [if_neg h3]; simp [GT.vars])
      have:(argT i).ren (rho (clOf (rlG x)).names) = .v (rho (clOf (rlG x)).names [symA i]):=by unfold argT; rw [if_neg h3]; rfl
      rw [this]
      exact (Zgy _ hM _ hv).2.2
    obtain ⟨P,A,B⟩:=y
    have kp:([symP P]:List UInt8).count 10=0:=by
     have:=hy.1
     simp only at this
     rcases (by omega:P=0∨P=1∨P=2) with rfl | rfl | rfl <;> decide
    have k1:=karg A hy.2.1
    have k2:=karg B hy.2.2
    show ([symP P]++([40]++(((argT A).ren _).text++([44]++(((argT B).ren _).text++[41]))))).count 10=0
    rw [List.count_append,List.count_append,List.count_append,List.count_append,List.count_append,kp,k1,k2]
    decide
   refine ⟨key _ (hR x hx).1,fun u hu => ?_⟩
   obtain ⟨u',hu',rfl⟩:=List.mem_map.1 hu
   obtain ⟨y,hy,rfl⟩:=List.mem_map.1 hu'
   exact key y ((hR x hx).2.1 y hy)
  have hone:∀ x ∈ R,(styT GT.text [44,32] [32,58,45,32] [46,10] (clW x).1 (clW x).2).count 10=1:=fun x hx=>by
   obtain ⟨h1,h2⟩:=hc0 x hx
   have h3:=hw2 x hx
   generalize (clW x).1=a at h1
   generalize (clW x).2=b at h2 h3
   rcases b with _ | ⟨u,_ | ⟨v,_ | ⟨z,r⟩⟩⟩
   ·simp only [styT,List.count_append,h1]
    decide
   ·simp only [styT,styB,List.count_append,h1,h2 u (by simp)]
    decide
   ·simp only [styT,styB,List.count_append,h1,h2 u (by simp),h2 v (by simp)]
    decide
   ·simp at h3
  clear hal1 hw1 hw3 r0 r1 r2 e0 e1 e2 hk1 hk2 hP hPl hP1 hP1l hsl hA1 hP2 hwl hw2 hP2l hAl hc0 lmul h8 hR
  induction R with
  | nil=>rfl
  | cons x R ih=>rw [List.flatMap_cons,List.count_append,hone x (by simp),ih (fun y hy=>hone y (by simp [hy])),Qf]; omega
theorem Ygi (l:List At3) (hl:∀ x ∈ l,AtOk x) (h1:1≤l.length) (h2:l.length≤2):∃ a u,Zeb ⟨(Zec (l.map atG)++[46]).toArray⟩=some a∧Zem ⟨(Zec (l.map atG)++[46]).toArray⟩=(u,0,0)∧Zem ⟨(spT (Zec (l.map atG)++[46])).toArray⟩=(u,0,0)∧(Zec (l.map atG)++[46]).length≤u.length∧u.length≤120:=by
 obtain ⟨x,r,rfl⟩:∃ x r,l=x::r:=by
  cases l with
  | nil=>simp at h1
  | cons x r=>exact ⟨x,r,rfl⟩
 have hf:∀ y,AtOk y→(atG y).fine=true:=fun y hy=>Zld _ _ _ hy.1 hy.2.1 hy.2.2
 have hx:=hl x (by simp)
 have hr:∀ y ∈ r,AtOk y:=fun y hy=>hl y (by simp [hy])
 have hr1:r.length≤1:=by simpa using h2
 have hfr:∀ u ∈ r.map atG,u.fine=true:=fun u hu=>by
  obtain ⟨y,hy,rfl⟩:=List.mem_map.1 hu
  exact hf y (hr y hy)
 have hql:(Zcb (atG x) (r.map atG)++[46]).length=7 * (r.length+1):=by
  rcases r with _ | ⟨y,_ | ⟨z,r⟩⟩
  ·simp [Zcb,Zhb]
  ·simp [Zcb,Zhb]
  ·simp at hr1
 have e0:=Zno (atG x) (r.map atG) (hf x hx) hfr (by simp; omega) (by omega)
 -- with Zco
 have hf1:∀ y,AtOk y→((atG y).ren rho1).fine=true:=fun y hy=>Zph (hf y hy) (fun z hz=>(Zet z (Zmk hy z hz)).1)
 have hfr1:∀ u ∈ (r.map atG).map (GT.ren rho1),u.fine=true:=fun u hu=>by
  obtain ⟨u',hu',rfl⟩:=List.mem_map.1 hu
  obtain ⟨y,hy,rfl⟩:=List.mem_map.1 hu'
  exact hf1 y (hr y hy)
 have hl1:∀ y,AtOk y→((atG y).ren rho1).text.length≤8:=fun y hy=>Zfj (L:=2) hy (fun a ha=>by rw [(Zet a ha).2]; omega) (by omega)
 have hq1l:(Zcb ((atG x).ren rho1) ((r.map atG).map (GT.ren rho1))++[46]).length≤20:=by
  have:=hl1 x hx
  rcases r with _ | ⟨y,_ | ⟨z,r⟩⟩
  ·simp [Zcb]; omega
  ·have:=hl1 y (hr y (by simp))
   simp [Zcb]; omega
  ·simp at hr1
 have hk:kt (spT (Zcb (atG x) (r.map atG)++[46]))=kt (Zcb ((atG x).ren rho1) ((r.map atG).map (GT.ren rho1))++[46]):=by
  unfold spT
  rw [Zcn (by decide),List.flatMap_append,Ybk,show ([46]:List UInt8).flatMap spB=[10,46,32] by decide +kernel]
  rw [Ztg sty1 (K:=fun t=>ktG (t.ren rho1)) _ _ _ (Zvk hx) (fun u hu=>by
   obtain ⟨y,hy,rfl⟩:=List.mem_map.1 hu
   exact Zvk (hr y hy)) (Zao _ _ (by decide +kernel)),Zrv,← Zqy]
  rw [Ztg sty0 (K:=ktG) _ _ _ (Zfg (GT.fine_iff (hf1 x hx)).2.1) (fun u hu=>Zfg (GT.fine_iff (hfr1 u hu)).2.1) (Zao _ _ (by decide +kernel))]
  exact congrArg (_ ++ ·) ((sty1.d []).trans (sty0.d []).symm)
 have hsl:(spT (Zcb (atG x) (r.map atG)++[46])).length≤1+3 * (7 * (r.length+1)):=by
  have:=Zha spB 3 (Zcb (atG x) (r.map atG)++[46]) (fun c _=>Ztv c)
  simp only [spT,Qf]
  omega
 have e1:Zeb ⟨(spT (Zcb (atG x) (r.map atG)++[46])).toArray⟩=some (Zcx ((atG x).ren rho1::(r.map atG).map (GT.ren rho1)) []):=by
  rw [Ydm hk (by omega) (by omega)]
  exact Zno _ _ (hf1 x hx) hfr1 (by simp; omega) (by omega)
 have hvr:∀ t ∈ (x::r).map atG,∀ y ∈ t.vars,y ∈ xyz:=fun t ht=>by
  obtain ⟨y,hy,rfl⟩:=List.mem_map.1 ht
  exact Zmk (hl y hy)
 have hb:=(Zrb Zpo ((x::r).map atG) [] hvr (by simp)).1
 simp only [List.map_nil] at hb
 have hbc:=Zvi (Zcx ((x::r).map atG) []).2 r x [] hx hr (List.prefix_refl _)
 have hM:=Zru ((x::r).map atG) [] hvr (by decide)
 have hlw:∀ y,AtOk y→((atG y).ren (rho (Zcx ((x::r).map atG) []).2)).text.length=6:=fun y hy=>by
  have k1:=Zfj (ρ:=rho (Zcx ((x::r).map atG) []).2) (L:=1) hy (fun a ha=>by rw [(Zgy _ hM a ha).2.1]; omega) (by omega)
  have key:∀ i,i<6→1≤((argT i).ren (rho (Zcx ((x::r).map atG) []).2)).text.length:=fun i hi=>by
   by_cases h3:i<3
   ·have:(argT i).ren (rho (Zcx ((x::r).map atG) []).2) = .n [symA i]:=by unfold argT; rw [if_pos h3]; rfl
    rw [this]
    simp [GT.text]
   ·have:(argT i).ren (rho (Zcx ((x::r).map atG) []).2) = .v (rho (Zcx ((x::r).map atG) []).2 [symA i]):=by unfold argT; rw [if_neg h3]; rfl
    have hv:=Zif i hi [symA i] (by unfold argT; rw [if_neg h3]; simp [GT.vars])
    rw [this]
    exact Nat.le_of_eq (Zgy _ hM _ hv).2.1.symm
  obtain ⟨P,A,B⟩:=y
  have k2:=key A hy.2.1
  have k3:=key B hy.2.2
  have k4:((atG (P,A,B)).ren (rho (Zcx ((x::r).map atG) []).2)).text.length=4+((argT A).ren (rho (Zcx ((x::r).map atG) []).2)).text.length+((argT B).ren (rho (Zcx ((x::r).map atG) []).2)).text.length:=by
   show ([symP P]++(40::(((argT A).ren _).text++(44::(((argT B).ren _).text++[41]))))).length=_
   simp only [Qg,Qf,Qt]
   omega
  omega
 have r0:=Zml e0
 have r1:=Zml e1
 have hul:(Zeh [] (Zcx ((x::r).map atG) []).1++[46]).length=6 * (r.length+1)+2 * r.length+1:=by
  rw [hbc]
  have k1:=hlw x hx
  generalize rho (Zcx ((x::r).map atG) []).2=ρ at k1 hlw ⊢
  rcases r with _ | ⟨y,_ | ⟨z,r⟩⟩
  ·simp [styB,k1]
  ·have k2:=hlw y (hr y (by simp))
   simp [styB,k1,k2]
  ·simp at hr1
 refine ⟨_,_,e0,r0,?_,?_,?_⟩
 ·rw [show Zec ((x::r).map atG)=Zcb (atG x) (r.map atG) from rfl,r1]
  rw [show (atG x).ren rho1::(r.map atG).map (GT.ren rho1)=((x::r).map atG).map (GT.ren rho1) from rfl,hb]
  rfl
 ·have:(Zec ((x::r).map atG)++[46]).length=7 * (r.length+1):=hql
  rw [this]
  show _≤(Zeh [] (Zcx ((x::r).map atG) []).1++[46]).length
  omega
 ·show (Zeh [] (Zcx ((x::r).map atG) []).1++[46]).length≤120
  omega
end Go.Proofs.YtlmjilpjmgjjcaaDoor
