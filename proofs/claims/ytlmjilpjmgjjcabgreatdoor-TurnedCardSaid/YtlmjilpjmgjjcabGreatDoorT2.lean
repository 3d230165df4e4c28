/-
  PROVED HERE: plain facts: what the program's 'Next' finds are the text's tokens; what holds of its reader behind so many tokens (the conditions stand in each statement).
-/
import Derived.Test.YtlmjilpjmgjjcabGreatDoorT1
import Derived.BigRegion
import Derived.Deep.RegionLaw
import Derived.Deep.RegionLawGrows
set_option linter.unusedSimpArgs false
set_option linter.unusedVariables false
set_option maxRecDepth 10000
set_option maxHeartbeats 4000000
namespace Go.Proofs.YtlmjilpjmgjjcabGreatDoor
open Go.RowKit
theorem Zyp {p:List Tok→Names→Option (List Sym × List Tok × Names)} {M:Nat}
  (hp:∀ ts names r,(∀ t ∈ ts,t.text.length≤M)→p ts names=some r→r.1.length+r.2.1.length≤ts.length∧(∀ s ∈ r.1,s.name.length≤M)∧(∀ t ∈ r.2.1,t.text.length≤M)) :
  ∀ (g:Nat) (ts:List Tok) (names:Names) (acc:List (List Sym)) r,(∀ t ∈ ts,t.text.length≤M)→(∀ s ∈ acc.flatten,s.name.length≤M)→Zeo p g ts names acc=some r →
   r.1.flatten.length+r.2.1.length≤acc.flatten.length+ts.length∧(∀ s ∈ r.1.flatten,s.name.length≤M)∧(∀ t ∈ r.2.1,t.text.length≤M):=by
 intro g
 induction g with
 | zero=>intro ts names acc r _ _ h; simp [Zeo] at h
 | succ g ih =>
  intro ts names acc r hM hA h
  cases ts with
  | nil=>simp [Zeo] at h
  | cons t ts =>
   rw [Zeo] at h
   split at h
   ·simp at h; subst h
    exact ⟨by simp,hA,fun t ht=>hM t (by simp [ht])⟩
   ·split at h
    ·simp at h
    ·rename_i q hq
     obtain ⟨h1,h2,h3⟩:=hp _ _ _ (fun t ht=>hM t (by simp [ht])) hq
     obtain ⟨h4,h5,h6⟩:=ih _ _ _ _ h3 (fun s hs=>by
      simp only [List.flatten_append,List.flatten_cons,List.flatten_nil,Qs,Qk] at hs
      rcases hs with hs | hs
      ·exact hA s hs
      ·exact h2 s hs) h
     refine ⟨?_,h5,h6⟩
     simp only [List.flatten_append,List.flatten_cons,List.flatten_nil,Qs,Qg,Qf] at h4 ⊢
     omega
theorem Zyq {M:Nat}:∀ (f:Nat) (ts:List Tok) (names:Names) r,(∀ t ∈ ts,t.text.length≤M)→Zda f ts names=some r→r.1.length+r.2.1.length≤ts.length∧(∀ s ∈ r.1,s.name.length≤M)∧(∀ t ∈ r.2.1,t.text.length≤M):=by
 intro f
 induction f with
 | zero=>intro ts names r _ h; simp [Zda] at h
 | succ f ih =>
  intro ts names r hM h
  cases ts with
  | nil=>simp [Zda] at h
  | cons t ts =>
   rw [Zda] at h
   split at h
   ·simp at h; subst h
    exact ⟨by simp; omega,by simp,fun t ht=>hM t (by simp [ht])⟩
   ·cases ts with
    | nil=>simp [Zju] at h
    | cons u us =>
     rw [Zju] at h
     split at h
     ·simp at h; subst h
      exact ⟨by simp; omega,by simp; exact hM t (by simp),fun t ht=>hM t (by simp at ht ⊢; exact Or.inr ht)⟩
     ·rw [Option.map_eq_some_iff] at h
      obtain ⟨q,hq,rfl⟩:=h
      obtain ⟨h1,h2,h3⟩:=Zyp ih _ _ _ _ _ (fun t ht=>hM t (List.mem_cons_of_mem _ ht)) (by simp) hq
      refine ⟨by simp at h1 ⊢; omega,?_,h3⟩
      intro s hs
      simp only [Qp] at hs
      rcases hs with rfl | hs
      ·exact hM t (by simp)
      ·exact h2 s hs
theorem Zmq {M f:Nat}:∀ (g:Nat) (ts:List Tok) (names:Names) (acc:List (List Sym)) r,(∀ t ∈ ts,t.text.length≤M)→(∀ s ∈ acc.flatten,s.name.length≤M)→Zdh f g ts names acc=some r →
   r.1.flatten.length+r.2.1.length≤acc.flatten.length+ts.length∧(∀ s ∈ r.1.flatten,s.name.length≤M)∧(∀ t ∈ r.2.1,t.text.length≤M):=by
 intro g
 induction g with
 | zero=>intro ts names acc r _ _ h; simp [Zdh] at h
 | succ g ih =>
  intro ts names acc r hM hA h
  rw [Zdh] at h
  split at h
  ·simp at h
  ·rename_i q hq
   obtain ⟨h1,h2,h3⟩:=Zyq f _ _ _ hM hq
   have hA':∀ s ∈ (acc++[q.1]).flatten,s.name.length≤M:=fun s hs=>by
    simp only [List.flatten_append,List.flatten_cons,List.flatten_nil,Qs,Qk] at hs
    rcases hs with hs | hs
    ·exact hA s hs
    ·exact h2 s hs
   split at h
   ·simp at h
   ·rename_i x rest hx
    rw [hx] at h1 h3
    split at h
    ·simp at h; subst h
     refine ⟨?_,hA',fun t ht=>h3 t (by simp [ht])⟩
     simp only [List.flatten_append,List.flatten_cons,List.flatten_nil,Qs,Qg,Qf] at h1 ⊢
     omega
    ·obtain ⟨h4,h5,h6⟩:=ih _ _ _ _ (fun t ht=>h3 t (by simp [ht])) hA' h
     refine ⟨?_,h5,h6⟩
     simp only [List.flatten_append,List.flatten_cons,List.flatten_nil,Qs,Qg,Qf] at h1 h4 ⊢
     omega
def Zeq (ts:List Tok):Option (Cls × List Tok) :=
 match Zda 1000 ts [] with
 | none=>none
 | some r=>match r.2.1 with
  | []=>none
  | x::rest=>if x.kind=3 then (Zdh 1000 1000 rest r.2.2 []).map (fun q=>(⟨r.1,q.1,q.2.2⟩,q.2.1)) else some (⟨r.1,[],r.2.2⟩,rest)
def Zhj:Nat→List Tok→List Cls→Option (List Cls)
 | 0,_,_=>none
 | _+1,[],_=>none
 | g+1,t::ts,acc =>
  if t.kind=4 then some acc
  else match Zeq (t::ts) with
   | none=>none
   | some r=>Zhj g r.2 (acc++[r.1])
abbrev CC:=Cls
structure RS where
 query:Bool
 next:Nat
 inBody:Bool
 atom:List Sym
 opn:List Nat
 head:List Sym
 body:List (List Sym)
 vars:Names
 clauses:List CC
structure RV where
 a:Value
 o:Value
 h:Value
 b:Value
 v:Value
 c:Value
def Zbw (s:Sym):List Value:=[.string ⟨s.name.toArray⟩,.int .i64 s.num,.int .i64 s.args]
def Zaj (l:List Sym):List Value:=l.flatMap Zbw
theorem Zaz (l:List Sym) (k:Nat) (t:Sym) (h:l[k]?=some t) (j:Nat) (hj:j<3):(Zaj l)[k * 3+j]?=(Zbw t)[j]?:=by
 induction l generalizing k with
 | nil=>simp at h
 | cons a l ih =>
  cases k with
  | zero =>
   simp at h; subst h
   show (Zbw a++Zaj l)[_]?=_
   rw [Qc (by simp [Zbw]; omega)]
   simp
  | succ k =>
   show (Zbw a++Zaj l)[_]?=_
   rw [Qd (by simp [Zbw]; omega)]
   rw [← ih k (by simpa using h)]
   congr 1
   simp [Zbw]
   omega
def Zdd (st:RS) (V:RV):Array Value:=#[.bool st.query,.int .i64 st.next,.bool st.inBody,V.a,V.o,V.h,V.b,V.v,V.c]
structure ROpen (w:World) (B rb:Nat) (st:RS) (V:RV):Prop where
 blk:w.heap[rb]?=some (.cells (Zdd st V) 121 (0,0))
 atom:w.ownsRow B 102 3 V.a st.atom.length (Zaj st.atom)
 opn:w.ownsRow B 3 1 V.o st.opn.length (ints st.opn.reverse)
 body:∃ x c,V.b = .slice x st.body.length c
 cls:∃ x c,V.c = .slice x st.clauses.length c
theorem ROpen.facts {w:World} {B rb:Nat} {st:RS} {V:RV} (h:ROpen w B rb st V) :
  w.cell? ⟨rb,0,none⟩=some (.bool st.query)∧w.cell? ⟨rb,1,none⟩=some (.int .i64 st.next)∧w.cell? ⟨rb,2,none⟩=some (.bool st.inBody)∧w.cell? ⟨rb,3,none⟩=some V.a∧w.cell? ⟨rb,4,none⟩=some V.o ∧
  w.cell? ⟨rb,5,none⟩=some V.h∧w.cell? ⟨rb,6,none⟩=some V.b∧w.cell? ⟨rb,7,none⟩=some V.v∧w.cell? ⟨rb,8,none⟩=some V.c :=
 ⟨Zaa h.blk 0 _ rfl,Zaa h.blk 1 _ rfl,Zaa h.blk 2 _ rfl,Zaa h.blk 3 _ rfl,Zaa h.blk 4 _ rfl,Zaa h.blk 5 _ rfl,Zaa h.blk 6 _ rfl,Zaa h.blk 7 _ rfl,Zaa h.blk 8 _ rfl⟩
def Zfo (st:RS):Int:=match st.opn with
 | [] => -1
 | n::_=>if st.atom.length≤n then -1 else n
theorem Zmr (w:World) (B rb:Nat) (st:RS) (V:RV) (h:ROpen w B rb st V) (hl:st.opn.length≤4096) (ha:st.atom.length≤4096) :
  Calls Tryz.prog 105 #[.pointer (some ⟨rb,0,none⟩)] w fun e w'=>e = .returned (.int .i64 (Zfo st))∧∃ n,w'=w.drewN n:=by
 obtain ⟨c0,c1,c2,c3,c4,c5,c6,c7,c8⟩:=h.facts
 obtain ⟨aa,acap,hva⟩:=Zad h.atom
 obtain ⟨oa,ocap,hvo⟩:=Zad h.opn
 rw [hva] at c3
 rw [hvo] at c4
 cases hst:st.opn with
 | nil =>
  have Ho:Hid (Zfo st = -1):=by show _=_; simp [Zfo,hst]
  simp only [hst,Jt] at c4
  clear hva hvo hst h
  go_enter Tryz.func105,Tryz.ntmps105
  go_wp2
  go_ret
  rw [Ho.out]
  exact ⟨rfl,0,rfl⟩
 | cons n r =>
  have hrl:r.length+1≤4096:=by rw [hst] at hl; simpa using hl
  have hop:=h.opn
  rw [hst,hvo,hst] at hop
  obtain ⟨g,gcap,gcur,he,hBg,hg,hcap⟩:=Zao hop (by simp)
  simp only [Value.slice.injEq] at he
  obtain ⟨rfl,_,rfl⟩:=he
  have cg:w.cell? ⟨g,r.length,none⟩=some (.int .i64 n):=Zai hop r.length _ (by simp [ints])
  simp only [hst,Qf] at c4
  simp only [Qf] at hcap
  have hlen0:(((r.length:Nat):Int)+1 == 0)=false:=by rw [Qu]; omega
  by_cases hn:st.atom.length≤n
  ·have Ho:Hid (Zfo st = -1):=by show _=_; simp [Zfo,hst,hn]
   clear hva hvo hst h hop hg
   go_enter Tryz.func105,Tryz.ntmps105
   go_wp2_with fail
   go_quiet (fail)
   go_wp2
   go_ret
   rw [Ho.out]
   exact ⟨rfl,_,rfl⟩
  ·have Ho:Hid (Zfo st=n):=by show _=_; simp [Zfo,hst,hn]
   clear hva hvo hst h hop hg
   go_enter Tryz.func105,Tryz.ntmps105
   go_wp2_with fail
   go_quiet (fail)
   go_wp2
   go_ret
   rw [Ho.out]
   exact ⟨rfl,_,rfl⟩
theorem nb (kd k:Nat):((kd:Int) == (k:Int))=(kd == k):=by
 rw [Bool.eq_iff_iff,beq_iff_eq,beq_iff_eq]; omega
def Zky (st:RS):Nat:=match st.opn with
 | []=>0
 | n::_=>match st.atom[n]? with
  | none=>0
  | some s=>s.args
def Zbt (st:RS) (kd:Nat):Bool:=if st.opn.isEmpty then (if st.inBody then (kd == 5 || kd == 6) else (kd == 7 || kd == 6)) else (kd == 5 || kd == 4)
def Zbh (st:RS) (kd:Nat):Bool :=
 if st.next=0∨st.next=1 then kd == 1 else if st.next=2 then (kd == 1 || kd == 2) else if st.next=3 then (kd == 3 || Zbt st kd) else if st.next=4 then Zbt st kd else false
def Zfh (st:RS):Bool :=
 if st.next=0 then decide (24≤st.clauses.length) else if st.next=1 then decide (6≤st.body.length) else if st.next=2 then (decide (30≤st.atom.length) || decide (4≤Zky st)) else false
def Zbv (st:RS) (kd len:Nat):Nat:=if Zbh st kd=false then 2 else if (kd=1∨kd=2)∧(8<len∨Zfh st=true) then 3 else 0
structure RBd (st:RS):Prop where
 opn:st.opn.length≤4096
 atom:st.atom.length≤4096
 body:st.body.length≤4096
 cls:st.clauses.length≤4096
 args:∀ s ∈ st.atom,s.args≤4096
theorem Yfw (w:World) (B rb:Nat) (st:RS) (V:RV) (h:ROpen w B rb st V) (hb:RBd st) :
  Calls Tryz.prog 104 #[.pointer (some ⟨rb,0,none⟩)] w fun e w'=>e = .returned (.int .i64 (Zky st))∧∃ n,w'=w.drewN n:=by
 obtain ⟨c0,c1,c2,c3,c4,c5,c6,c7,c8⟩:=h.facts
 obtain ⟨aa,acap,hva⟩:=Zad h.atom
 rw [hva] at c3
 have Hown:=Zac (Zmr w B rb st V h hb.opn hb.atom)
 by_cases ho:Zfo st = -1
 ·have Ha:Hid (Zky st=0):=by
   show _=_
   cases hst:st.opn with
   | nil=>simp [Zky,hst]
   | cons n r =>
    have hle:st.atom.length≤n:=by
     unfold Zfo at ho
     rw [hst] at ho
     simp only at ho
     split at ho
     ·assumption
     ·omega
    simp [Zky,hst,List.getElem?_eq_none hle]
  have Ho:=Zac ho
  clear ho h hva
  go_enter Tryz.func104,Tryz.ntmps104
  go_wp2_with fail
  refine Hown.out.mono ?_
  rintro e w1 ⟨rfl,n,rfl⟩
  rw [Ho.out]
  go_wp2
  go_ret
  rw [Ha.out]
  exact ⟨rfl,n,rfl⟩
 ·obtain ⟨k,r,hst,hk⟩:∃ k r,st.opn=k::r∧k<st.atom.length:=by
   unfold Zfo at ho
   split at ho
   ·exact absurd rfl ho
   ·rename_i k r hn
    split at ho
    ·exact absurd rfl ho
    ·exact ⟨k,r,hn,by omega⟩
  obtain ⟨s,hs⟩:∃ s,st.atom[k]?=some s:=⟨_,Qb hk⟩
  have Ha:Hid (Zky st=s.args):=by show _=_; simp [Zky,hst,hs]
  have Ho:Hid (Zfo st=k):=by show _=_; simp [Zfo,hst]; omega
  have hat:=h.atom
  rw [hva] at hat
  obtain ⟨g,gcap,gcur,he,hBg,hg,hcap⟩:=Zao hat (by omega)
  simp only [Value.slice.injEq] at he
  obtain ⟨rfl,_,rfl⟩:=he
  have cg:w.cell? ⟨g,k * 3+2,none⟩=some (.int .i64 s.args):=Zai hat _ _ (by rw [Zaz _ k s hs 2 (by omega)]; rfl)
  have hla:=hb.atom
  clear ho h hva hat hst hs hg
  go_enter Tryz.func104,Tryz.ntmps104
  go_wp2_with fail
  refine Hown.out.mono ?_
  rintro e w1 ⟨rfl,n,rfl⟩
  rw [Ho.out]
  go_wp2
  go_ret
  rw [Ha.out]
  exact ⟨rfl,n,rfl⟩
theorem Zyr (w:World) (B rb:Nat) (st:RS) (V:RV) (kd:Nat) (h:ROpen w B rb st V) (hb:RBd st) :
  Calls Tryz.prog 103 #[.pointer (some ⟨rb,0,none⟩),.int .i64 kd] w fun e w'=>e = .returned (.bool (Zbt st kd))∧w'=w:=by
 obtain ⟨c0,c1,c2,c3,c4,c5,c6,c7,c8⟩:=h.facts
 obtain ⟨oa,ocap,hvo⟩:=Zad h.opn
 have hl:=hb.opn
 rw [hvo] at c4
 clear h hvo
 have e4:=nb kd 4
 have e5:=nb kd 5
 have e6:=nb kd 6
 have e7:=nb kd 7
 cases hst:st.opn with
 | nil =>
  simp only [hst,Jt] at c4
  cases hib:st.inBody
  ·rw [hib] at c2
   have Hf:Hid (Zbt st kd=(kd == 7 || kd == 6)):=by show _=_; simp [Zbt,hst,hib]
   rw [Hf.out,← e7,← e6]
   clear e4 e5 e6 e7 hst hib
   cases t1:((kd:Int) == (7:Nat))
   all_goals
    have t1':((kd:Int) == 7)=_:=t1
    go_enter Tryz.func103,Tryz.ntmps103
    go_wp2
    go_ret
    exact ⟨rfl,rfl⟩
  ·rw [hib] at c2
   have Hf:Hid (Zbt st kd=(kd == 5 || kd == 6)):=by show _=_; simp [Zbt,hst,hib]
   rw [Hf.out,← e5,← e6]
   clear e4 e5 e6 e7 hst hib
   cases t1:((kd:Int) == (5:Nat))
   all_goals
    have t1':((kd:Int) == 5)=_:=t1
    go_enter Tryz.func103,Tryz.ntmps103
    go_wp2
    go_ret
    exact ⟨rfl,rfl⟩
 | cons n r =>
  have Hf:Hid (Zbt st kd=(kd == 5 || kd == 4)):=by show _=_; simp [Zbt,hst]
  rw [Hf.out,← e5,← e4]
  have hrl:r.length+1≤4096:=by rw [hst] at hl; simpa using hl
  simp only [hst,Qf] at c4
  clear e4 e5 e6 e7 hst
  cases t1:((kd:Int) == (5:Nat))
  all_goals
   have t1':((kd:Int) == 5)=_:=t1
   go_enter Tryz.func103,Tryz.ntmps103
   go_wp2
   go_ret
   exact ⟨rfl,rfl⟩
theorem Ycd (w:World) (B rb:Nat) (st:RS) (V:RV) (kd:Nat) (h:ROpen w B rb st V) (hb:RBd st) (hn:st.next≤5) :
  Calls Tryz.prog 82 #[.pointer (some ⟨rb,0,none⟩),.int .i64 kd] w fun e w'=>e = .returned (.bool (Zbh st kd))∧w'=w:=by
 obtain ⟨c0,c1,c2,c3,c4,c5,c6,c7,c8⟩:=h.facts
 have HF:=Zac (Zyr w B rb st V kd h hb)
 have e1:=nb kd 1
 have e2:=nb kd 2
 have e3:=nb kd 3
 clear h hb c0 c2 c3 c4 c5 c6 c7 c8
 have hs:st.next=0∨st.next=1∨st.next=2∨st.next=3∨st.next=4∨st.next=5:=by omega
 rcases hs with hs | hs | hs | hs | hs | hs
 ·rw [hs] at c1
  have Hf:Hid (Zbh st kd=(kd == 1)):=by show _=_; simp [Zbh,hs]
  rw [Hf.out]
  rw [← e1]
  clear hs e1 e2 e3
  go_enter Tryz.func82,Tryz.ntmps82
  go_wp2
  go_ret
  exact ⟨rfl,rfl⟩
 ·rw [hs] at c1
  have Hf:Hid (Zbh st kd=(kd == 1)):=by show _=_; simp [Zbh,hs]
  rw [Hf.out]
  rw [← e1]
  clear hs e1 e2 e3
  go_enter Tryz.func82,Tryz.ntmps82
  go_wp2
  go_ret
  exact ⟨rfl,rfl⟩
 ·rw [hs] at c1
  have Hf:Hid (Zbh st kd=(kd == 1 || kd == 2)):=by show _=_; simp [Zbh,hs]
  rw [Hf.out]
  rw [← e1,← e2]
  clear hs e1 e2 e3
  cases t1:((kd:Int) == (1:Nat))
  all_goals
   have t1':((kd:Int) == 1)=_:=t1
   go_enter Tryz.func82,Tryz.ntmps82
   go_wp2
   go_ret
   exact ⟨rfl,rfl⟩
 ·rw [hs] at c1
  have Hf:Hid (Zbh st kd=(kd == 3 || Zbt st kd)):=by show _=_; simp [Zbh,hs]
  rw [Hf.out]
  rw [← e3]
  clear hs e1 e2 e3
  cases t1:((kd:Int) == (3:Nat))
  all_goals
   have t1':((kd:Int) == 3)=_:=t1
   go_enter Tryz.func82,Tryz.ntmps82
   go_wp2_with (go_at_call 103; refine HF.out.mono ?_; rintro e w' ⟨rfl,rfl⟩)
   go_ret
   exact ⟨rfl,rfl⟩
 ·rw [hs] at c1
  have Hf:Hid (Zbh st kd=Zbt st kd):=by show _=_; simp [Zbh,hs]
  rw [Hf.out]
  clear hs e1 e2 e3
  go_enter Tryz.func82,Tryz.ntmps82
  go_wp2_with (go_at_call 103; refine HF.out.mono ?_; rintro e w' ⟨rfl,rfl⟩)
  go_ret
  exact ⟨rfl,rfl⟩
 ·rw [hs] at c1
  have Hf:Hid (Zbh st kd=false):=by show _=_; simp [Zbh,hs]
  rw [Hf.out]
  clear hs e1 e2 e3
  go_enter Tryz.func82,Tryz.ntmps82
  go_wp2
  go_ret
  exact ⟨rfl,rfl⟩
theorem Yfx (w:World) (B rb:Nat) (st:RS) (V:RV) (h:ROpen w B rb st V) (hb:RBd st) (hn:st.next≤5) :
  Calls Tryz.prog 83 #[.pointer (some ⟨rb,0,none⟩)] w fun e w'=>e = .returned (.bool (Zfh st))∧∃ n,w'=w.drewN n:=by
 obtain ⟨c0,c1,c2,c3,c4,c5,c6,c7,c8⟩:=h.facts
 have HA:=Zac (Yfw w B rb st V h hb)
 obtain ⟨aa,acap,hva⟩:=Zad h.atom
 obtain ⟨ba,bcap,hvb⟩:=h.body
 obtain ⟨ca,ccap,hvc⟩:=h.cls
 rw [hva] at c3
 rw [hvb] at c6
 rw [hvc] at c8
 have l1:=hb.atom
 have l2:=hb.body
 have l3:=hb.cls
 clear h hb hva hvb hvc
 have hs:st.next=0∨st.next=1∨st.next=2∨(st.next≠0∧st.next≠1∧st.next≠2):=by omega
 rcases hs with hs | hs | hs | hs
 ·rw [hs] at c1
  have Hf:Hid (Zfh st=decide (24≤st.clauses.length)):=by show _=_; simp [Zfh,hs]
  clear hs
  go_enter Tryz.func83,Tryz.ntmps83
  go_wp2
  go_ret
  rw [Hf.out]
  exact ⟨Zfq (by rw [Bool.eq_iff_iff]; simp; try omega),0,rfl⟩
 ·rw [hs] at c1
  have Hf:Hid (Zfh st=decide (6≤st.body.length)):=by show _=_; simp [Zfh,hs]
  clear hs
  go_enter Tryz.func83,Tryz.ntmps83
  go_wp2
  go_ret
  rw [Hf.out]
  exact ⟨Zfq (by rw [Bool.eq_iff_iff]; simp; try omega),0,rfl⟩
 ·rw [hs] at c1
  by_cases h30:(30:Int)≤(st.atom.length:Int)
  ·have Hf:Hid (Zfh st=true):=by show _=_; simp [Zfh,hs]; left; omega
   clear hs
   go_enter Tryz.func83,Tryz.ntmps83
   go_wp2
   go_ret
   rw [Hf.out]
   exact ⟨rfl,0,rfl⟩
  ·have Hf:Hid (Zfh st=decide (4≤Zky st)):=by show _=_; simp [Zfh,hs]; omega
   have hd:decide ((30:Int)≤(st.atom.length:Int))=false:=by simpa using h30
   clear hs
   go_enter Tryz.func83,Tryz.ntmps83
   go_wp2_with (go_at_call 104; refine HA.out.mono ?_; rintro e w' ⟨rfl,n,rfl⟩)
   go_ret
   rw [Hf.out]
   exact ⟨Zfq (by rw [Bool.eq_iff_iff]; simp; try omega),_,rfl⟩
 ·have t0:((st.next:Int) == 0)=false:=by rw [Qu]; omega
  have t1:((st.next:Int) == 1)=false:=by rw [Qu]; omega
  have t2:((st.next:Int) == 2)=false:=by rw [Qu]; omega
  have Hf:Hid (Zfh st=false):=by show _=_; simp [Zfh,hs]
  clear hs
  go_enter Tryz.func83,Tryz.ntmps83
  go_wp2
  go_ret
  rw [Hf.out]
  exact ⟨rfl,0,rfl⟩
end Go.Proofs.YtlmjilpjmgjjcabGreatDoor
namespace Go.Proofs.YtlmjilpjmgjjcabGreatDoor
open Go.RowKit
set_option linter.unusedSimpArgs false
set_option linter.unusedVariables false
theorem ROpen.later {S:Nat→Prop} {w w':World} {B rb:Nat} {st:RS} {V:RV} (h:ROpen w B rb st V) (hk:Kept S w w') (h1:¬ S rb) (h2:∀ k,V.a.ownBlock=some k→¬ S k) (h3:∀ k,V.o.ownBlock=some k→¬ S k):ROpen w' B rb st V :=
 ⟨(hk.block rb (Zab h.blk) h1).trans h.blk,hk.owns h.atom h2,hk.owns h.opn h3,h.body,h.cls⟩
theorem Yce (w:World) (B rb:Nat) (st:RS) (V:RV) (kd p q:Nat) (h:ROpen w B rb st V) (hb:RBd st) (hn:st.next≤5) (hpq:p≤q) (hq:q≤4096) :
  Calls Tryz.prog 67 #[.pointer (some ⟨rb,0,none⟩),.agg #[.int .i64 kd,.int .i64 p,.int .i64 q]] w fun e w'=>e = .returned (.int .i64 (Zbv st kd (q - p)))∧Kept Zdc w w':=by
 have h1:∀ o,ROpen (w.alloc o) B rb st V:=fun o=>h.later (S:=Zdc) ((Qx _ w).alloc o) (fun h=>h) (fun _ _ h=>h) (fun _ _ h=>h)
 have HS:=Zac (fun o=>Ycd (w.alloc o) B rb st V kd (h1 o) hb hn)
 have HF:=Zac (fun o=>Yfx (w.alloc o) B rb st V (h1 o) hb hn)
 have e1:=nb kd 1
 have e2:=nb kd 2
 clear h h1
 cases hst:Zbh st kd
 ·have Hc:Hid (Zbv st kd (q - p)=2):=by show _=_; simp [Zbv,hst]
  go_enter Tryz.func67,Tryz.ntmps67
  go_wp2_with (go_at_call 82; refine (HS.out _).mono ?_; rintro e w' ⟨rfl,rfl⟩)
  go_ret
  rw [Hc.out]
  exact ⟨rfl,(Qx _ w).alloc _⟩
 ·by_cases hw:kd=1∨kd=2
  ·have hword:((kd:Int) == 1)=true∨(((kd:Int) == 1)=false∧((kd:Int) == 2)=true):=by
    rcases hw with rfl | rfl
    ·exact Or.inl rfl
    ·exact Or.inr ⟨rfl,rfl⟩
   by_cases h8:8<q - p
   ·have h8':(8:Int)<(q:Int) - (p:Int):=by omega
    have Hc:Hid (Zbv st kd (q - p)=3):=by show _=_; simp [Zbv,hst,hw,h8]
    clear hw e1 e2
    rcases hword with t1 | ⟨t1,t2⟩
    all_goals
     go_enter Tryz.func67,Tryz.ntmps67
     go_wp2_with (go_at_call 82; refine (HS.out _).mono ?_; rintro e w' ⟨rfl,rfl⟩)
     go_ret
     rw [Hc.out]
     exact ⟨rfl,(Qx _ w).alloc _⟩
   ·have h8':¬ (8:Int)<(q:Int) - (p:Int):=by omega
    have hd8:decide ((8:Int)<(q:Int) - (p:Int))=false:=by simpa using h8'
    cases hfl:Zfh st
    ·have Hc:Hid (Zbv st kd (q - p)=0):=by show _=_; simp [Zbv,hst,h8,hfl]
     clear hw e1 e2
     rcases hword with t1 | ⟨t1,t2⟩
     all_goals
      go_enter Tryz.func67,Tryz.ntmps67
      go_wp2_with (first | (go_at_call 82; refine (HS.out _).mono ?_; rintro e w' ⟨rfl,rfl⟩) | (go_at_call 83; refine (HF.out _).mono ?_; rintro e w' ⟨rfl,n,rfl⟩))
      go_ret
      rw [Hc.out]
      exact ⟨rfl,((Qx _ w).alloc _).drewN _⟩
    ·have Hc:Hid (Zbv st kd (q - p)=3):=by show _=_; simp [Zbv,hst,hw,hfl]
     clear hw e1 e2
     rcases hword with t1 | ⟨t1,t2⟩
     all_goals
      go_enter Tryz.func67,Tryz.ntmps67
      go_wp2_with (first | (go_at_call 82; refine (HS.out _).mono ?_; rintro e w' ⟨rfl,rfl⟩) | (go_at_call 83; refine (HF.out _).mono ?_; rintro e w' ⟨rfl,n,rfl⟩))
      go_ret
      rw [Hc.out]
      exact ⟨rfl,((Qx _ w).alloc _).drewN _⟩
  ·have t1:((kd:Int) == 1)=false:=by rw [Qu]; omega
   have t2:((kd:Int) == 2)=false:=by rw [Qu]; omega
   have Hc:Hid (Zbv st kd (q - p)=0):=by show _=_; simp [Zbv,hst,hw]
   clear hw e1 e2
   go_enter Tryz.func67,Tryz.ntmps67
   go_wp2_with (go_at_call 82; refine (HS.out _).mono ?_; rintro e w' ⟨rfl,rfl⟩)
   go_ret
   rw [Hc.out]
   exact ⟨rfl,(Qx _ w).alloc _⟩
theorem Zys (s:ByteArray) (kd:Int) (p q:Nat) (w:World) (hpq:p≤q) (hq:q≤s.size) (hs:s.size≤4096) :
  Calls Tryz.prog 69 #[.string s,.agg #[.int .i64 kd,.int .i64 p,.int .i64 q]] w fun e w'=>e = .returned (.string (s.extract p q))∧Kept Zdc w w':=by
 have d1:decide (((p:Nat):Int)<0)=false:=by simp
 have d2:decide ((q:Int)<(p:Int))=false:=by simp; omega
 go_enter Tryz.func69,Tryz.ntmps69
 go_wp2
 go_ret
 exact ⟨rfl,(Qx _ w).alloc _⟩
theorem Tryz.infoSym:(Tryz.prog.info? 102).map (fun i=>(i.zero,i.size,i.bytes))=some (some (.agg #[.string ⟨#[]⟩,.int .i64 0,.int .i64 0]),3,32):=by kernel_rfl
theorem Tryz.infoSyms:(Tryz.prog.info? 72).map (fun i=>(i.zero,i.size,i.bytes))=some (some (.slice none 0 0),1,24):=by kernel_rfl
theorem Tryz.infoCls:(Tryz.prog.info? 74).map (fun i=>(i.zero,i.size,i.bytes))=some (some (.agg #[.slice none 0 0,.slice none 0 0,.slice none 0 0]),3,72):=by kernel_rfl
def SymRow (w:World) (B Sa:Nat) (v:Value) (l:List Sym):Prop:=w.ownsRow B 102 3 v l.length (Zaj l)∧∀ k,v.ownBlock=some k→k<Sa
def BodyRow (w:World) (B Sa:Nat) (v:Value) (ls:List (List Sym)) (vs:List Value):Prop :=
 w.ownsRow B 72 1 v ls.length vs∧∀ (i:Nat) (l:List Sym),ls[i]?=some l→∃ x,vs[i]?=some x∧SymRow w B Sa x l
def CCRow (w:World) (B Sa Sb:Nat) (v:Value) (cs:List CC) (xs:List (List Value)):Prop :=
 w.ownsRow B 74 3 v cs.length xs.flatten∧xs.length=cs.length∧(∀ x ∈ xs,x.length=3) ∧
 ∀ (i:Nat) (c:CC),cs[i]?=some c→∃ hv bv vv vs,xs[i]?=some [hv,bv,vv]∧SymRow w B Sa hv c.head∧BodyRow w B Sa bv c.body vs∧(∀ k,bv.ownBlock=some k→k<Sb)∧w.ownsRow B 9 1 vv c.names.length (strs c.names)∧∀ k,vv.ownBlock=some k→k<Sb
structure RRest (w:World) (B:Nat) (st:RS) (V:RV) (Sa Sb:Nat) (vs:List Value) (xs:List (List Value)):Prop where
 atom:w.ownsRow B 102 3 V.a st.atom.length (Zaj st.atom)
 opn:w.ownsRow B 3 1 V.o st.opn.length (ints st.opn.reverse)
 vars:w.ownsRow B 9 1 V.v st.vars.length (strs st.vars)
 head:SymRow w B Sa V.h st.head
 body:BodyRow w B Sa V.b st.body vs
 cls:CCRow w B Sa Sb V.c st.clauses xs
 ta:∀ k,V.a.ownBlock=some k→Sa≤k
 tb:∀ k,V.b.ownBlock=some k→Sb≤k
 tv:∀ k,V.v.ownBlock=some k→Sb≤k
 la:Sa≤w.heap.size
 lb:Sb≤w.heap.size
structure IsR (w:World) (B rb:Nat) (st:RS) (V:RV) (Sa Sb:Nat) (vs:List Value) (xs:List (List Value)):Prop where
 blk:w.heap[rb]?=some (.cells (Zdd st V) 121 (0,0))
 rest:RRest w B st V Sa Sb vs xs
 le:B≤rb
theorem IsR.opens {w:World} {B rb:Nat} {st:RS} {V:RV} {Sa Sb:Nat} {vs:List Value} {xs:List (List Value)} (h:IsR w B rb st V Sa Sb vs xs):ROpen w B rb st V:=by
 obtain ⟨ba,bc,hb⟩:=Zad h.rest.body.1
 obtain ⟨ca,cc,hc⟩:=Zad h.rest.cls.1
 exact ⟨h.blk,h.rest.atom,h.rest.opn,⟨ba,bc,hb⟩,⟨ca,cc,hc⟩⟩
def Zeu (rb:Nat) (X:Value):Nat→Prop:=fun k=>k=rb∨Zbl X k
section
variable {w w':World} {B rb:Nat} {st:RS} {V:RV} {Sa Sb:Nat} {vs:List Value} {xs:List (List Value)} {X:Value}
theorem Zby {Br:Nat} {e eX:TypeId} {s sX n nX:Nat} {v:Value} {ys yX:List Value} {cs:Array Value} {fr:Nat × Nat} (ho:w.ownsRow Br e s v n ys) (hk:Kept (Zeu rb X) w w') (hblk:w.heap[rb]?=some (.cells cs 121 fr))
  (hX:w.ownsRow B eX sX X nX yX) (h1:e≠121) (h2:e≠eX):w'.ownsRow Br e s v n ys :=
 hk.owns ho (fun k hv hs=>by
  rcases hs with rfl | hs
  ·exact Zag ho h1 hblk hv
  ·obtain ⟨cur,hc⟩:=Zbk hX k hs
   exact Zag ho h2 hc hv)
theorem Zfc {v:Value} {l:List Sym} {eX:TypeId} {sX nX:Nat} {yX:List Value} {cs:Array Value} {fr:Nat × Nat} (h:SymRow w B Sa v l) (hk:Kept (Zeu rb X) w w') (hblk:w.heap[rb]?=some (.cells cs 121 fr))
  (hX:w.ownsRow B eX sX X nX yX) (h2:102≠eX∨∀ k,X.ownBlock=some k→Sa≤k):SymRow w' B Sa v l:=by
 refine ⟨?_,h.2⟩
 rcases h2 with h2 | h2
 ·exact Zby h.1 hk hblk hX (by decide) h2
 ·exact hk.owns h.1 (fun k hv hs=>by
   rcases hs with rfl | hs
   ·exact Zag h.1 (by decide) hblk hv
   ·have a1:=h.2 k hv
    have a2:=h2 k hs
    omega)
theorem Zfi {v:Value} {ls:List (List Sym)} {ws:List Value} {eX:TypeId} {sX nX:Nat} {yX:List Value} {cs:Array Value} {fr:Nat × Nat} (h:BodyRow w B Sa v ls ws) (hk:Kept (Zeu rb X) w w') (hblk:w.heap[rb]?=some (.cells cs 121 fr))
  (hX:w.ownsRow B eX sX X nX yX) (h2:102≠eX∨∀ k,X.ownBlock=some k→Sa≤k) (h3:72≠eX∨∀ k,v.ownBlock=some k→¬ Zbl X k):BodyRow w' B Sa v ls ws:=by
 refine ⟨?_,fun i l hl => ?_⟩
 ·rcases h3 with h3 | h3
  ·exact Zby h.1 hk hblk hX (by decide) h3
  ·exact hk.owns h.1 (fun k hv hs=>by
    rcases hs with rfl | hs
    ·exact Zag h.1 (by decide) hblk hv
    ·exact h3 k hv hs)
 ·obtain ⟨x,hx,hs⟩:=h.2 i l hl
  exact ⟨x,hx,Zfc hs hk hblk hX h2⟩
theorem Zio {v:Value} {cs:List CC} {ys:List (List Value)} {eX:TypeId} {sX nX:Nat} {yX:List Value} {cl:Array Value} {fr:Nat × Nat} (h:CCRow w B Sa Sb v cs ys) (hk:Kept (Zeu rb X) w w') (hblk:w.heap[rb]?=some (.cells cl 121 fr))
  (hX:w.ownsRow B eX sX X nX yX) (h2:102≠eX∨∀ k,X.ownBlock=some k→Sa≤k) (h3:72≠eX∨∀ k,X.ownBlock=some k→Sb≤k) (h4:74≠eX) (h5:9≠eX∨∀ k,X.ownBlock=some k→Sb≤k):CCRow w' B Sa Sb v cs ys:=by
 refine ⟨Zby h.1 hk hblk hX (by decide) h4,h.2.1,h.2.2.1,fun i c hc => ?_⟩
 obtain ⟨hv,bv,vv,us,e1,e2,e3,e4⟩:=h.2.2.2 i c hc
 refine ⟨hv,bv,vv,us,e1,Zfc e2 hk hblk hX h2,Zfi e3 hk hblk hX h2 ?_,e4.1,hk.owns e4.2.1 (fun k hv hs => ?_),e4.2.2⟩
 rotate_left
 ·rcases hs with rfl | hs
  ·exact Zag e4.2.1 (by decide) hblk hv
  ·rcases h5 with h5 | h5
   ·obtain ⟨cur,hc⟩:=Zbk hX k hs
    exact Zag e4.2.1 h5 hc hv
   ·have a1:=e4.2.2 k hv
    have a2:=h5 k hs
    omega
 rcases h3 with h3 | h3
 ·exact Or.inl h3
 ·exact Or.inr (fun k hb hs=>by
   have a1:=e4.1 k hb
   have a2:=h3 k hs
   omega)
end
structure Held (B:Nat) (w w':World):Prop where
 below:Below B w w'
 other:∀ (k:Nat) (cs:Array Value) (T:TypeId) (fr:Nat × Nat),w.heap[k]?=some (.cells cs T fr)→(T=141∨T=60)→w'.heap[k]?=w.heap[k]?
theorem Held.refl (B:Nat) (w:World):Held B w w:=⟨Below.refl _ _,fun _ _ _ _ _ _=>rfl⟩
theorem Held.trans {B:Nat} {a b c:World} (h:Held B a b) (k:Held B b c):Held B a c :=
 ⟨h.below.trans k.below,fun i cs T fr hb hT=>(k.other i cs T fr ((h.other i cs T fr hb hT).trans hb) hT).trans (h.other i cs T fr hb hT)⟩
theorem Held.drew {B:Nat} {a w:World} (h:Held B a w):Held B a w.drew:=⟨h.below.drew,h.other⟩
theorem Held.fresh {B:Nat} {w w':World} (h:Kept Zdc w w') (hB:B≤w.heap.size):Held B w w':=⟨h.below hB (fun _ h=>h.elim),fun k _ _ _ hb _=>h.block k (Zab hb) (fun h=>h)⟩
section
variable {w w':World} {B rb:Nat} {st:RS} {V:RV} {Sa Sb:Nat} {vs:List Value} {xs:List (List Value)}
theorem IsR.below (h:IsR w B rb st V Sa Sb vs xs) {X:Value} {eX:TypeId} {sX nX:Nat} {yX:List Value} (hk:Kept (Zeu rb X) w w') (hX:w.ownsRow B eX sX X nX yX) (he:eX≠141∧eX≠60):Held B w w' :=
 ⟨hk.below (Nat.le_of_lt (Nat.lt_of_le_of_lt h.le (Zab h.blk))) (fun k hs=>by
  rcases hs with rfl | hs
  ·exact h.le
  ·exact (hX.lt k hs).1),fun k cs T fr hb hT=>by
  refine hk.block k (Zab hb) (fun hs => ?_)
  rcases hs with rfl | hs
  ·have e:=h.blk
   rw [hb] at e
   simp only [Qo,Obj.cells.injEq] at e
   rcases hT with h1 | h1 <;> exact absurd (e.2.1.symm.trans h1) (by decide)
  ·obtain ⟨cur,hc⟩:=Zbk hX k hs
   rw [hb] at hc
   simp only [Qo,Obj.cells.injEq] at hc
   rcases hT with h1 | h1
   ·exact he.1 (hc.2.1.symm.trans h1)
   ·exact he.2 (hc.2.1.symm.trans h1)⟩
theorem IsR.only (h:IsR w B rb st V Sa Sb vs xs) (hk:Kept (Zeu rb (.slice none 0 0)) w w') (st':RS) (hblk:w'.heap[rb]?=some (.cells (Zdd st' V) 121 (0,0)))
  (e1:st'.atom=st.atom) (e2:st'.opn=st.opn) (e3:st'.vars=st.vars) (e4:st'.head=st.head) (e5:st'.body=st.body) (e6:st'.clauses=st.clauses):IsR w' B rb st' V Sa Sb vs xs:=by
 have hX:w.ownsRow B 121 1 (.slice none 0 0) 0 []:=World.ownsRow_nil _ _ _ _
 have r:=h.rest
 refine ⟨hblk,⟨?_,?_,?_,?_,?_,?_,r.ta,r.tb,r.tv,Qq r.la hk.size,Qq r.lb hk.size⟩,h.le⟩
 ·rw [e1]; exact Zby r.atom hk h.blk hX (by decide) (by decide)
 ·rw [e2]; exact Zby r.opn hk h.blk hX (by decide) (by decide)
 ·rw [e3]; exact Zby r.vars hk h.blk hX (by decide) (by decide)
 ·rw [e4]; exact Zfc r.head hk h.blk hX (Or.inl (by decide))
 ·rw [e5]; exact Zfi r.body hk h.blk hX (Or.inl (by decide)) (Or.inl (by decide))
 ·rw [e6]; exact Zio r.cls hk h.blk hX (Or.inl (by decide)) (Or.inl (by decide)) (by decide) (Or.inl (by decide))
theorem IsR.opened (h:IsR w B rb st V Sa Sb vs xs) (hk:Kept (Zeu rb V.o) w w') (l:List Nat) (o':Value) (hblk:w'.heap[rb]?=some (.cells (Zdd { st with opn:=l } { V with o:=o' }) 121 (0,0)))
  (ho:w'.ownsRow B 3 1 o' l.length (ints l.reverse)):IsR w' B rb { st with opn:=l } { V with o:=o' } Sa Sb vs xs:=by
 have r:=h.rest
 exact ⟨hblk,⟨Zby r.atom hk h.blk r.opn (by decide) (by decide),ho,Zby r.vars hk h.blk r.opn (by decide) (by decide),Zfc r.head hk h.blk r.opn (Or.inl (by decide)),
  Zfi r.body hk h.blk r.opn (Or.inl (by decide)) (Or.inl (by decide)),Zio r.cls hk h.blk r.opn (Or.inl (by decide)) (Or.inl (by decide)) (by decide) (Or.inl (by decide)),r.ta,r.tb,r.tv,Qq r.la hk.size,Qq r.lb hk.size⟩,h.le⟩
theorem IsR.named (h:IsR w B rb st V Sa Sb vs xs) (hk:Kept (Zeu rb V.v) w w') (l:Names) (v':Value) (hblk:w'.heap[rb]?=some (.cells (Zdd { st with vars:=l } { V with v:=v' }) 121 (0,0)))
  (ho:w'.ownsRow B 9 1 v' l.length (strs l)) (htv:∀ k,v'.ownBlock=some k→Sb≤k):IsR w' B rb { st with vars:=l } { V with v:=v' } Sa Sb vs xs:=by
 have r:=h.rest
 exact ⟨hblk,⟨Zby r.atom hk h.blk r.vars (by decide) (by decide),Zby r.opn hk h.blk r.vars (by decide) (by decide),ho,Zfc r.head hk h.blk r.vars (Or.inl (by decide)),
  Zfi r.body hk h.blk r.vars (Or.inl (by decide)) (Or.inl (by decide)),Zio r.cls hk h.blk r.vars (Or.inl (by decide)) (Or.inl (by decide)) (by decide) (Or.inr r.tv),r.ta,r.tb,htv,Qq r.la hk.size,Qq r.lb hk.size⟩,h.le⟩
theorem IsR.atoms (h:IsR w B rb st V Sa Sb vs xs) (hk:Kept (Zeu rb V.a) w w') (l:List Sym) (a':Value) (hblk:w'.heap[rb]?=some (.cells (Zdd { st with atom:=l } { V with a:=a' }) 121 (0,0)))
  (ho:w'.ownsRow B 102 3 a' l.length (Zaj l)) (hta:∀ k,a'.ownBlock=some k→Sa≤k):IsR w' B rb { st with atom:=l } { V with a:=a' } Sa Sb vs xs:=by
 have r:=h.rest
 exact ⟨hblk,⟨ho,Zby r.opn hk h.blk r.atom (by decide) (by decide),Zby r.vars hk h.blk r.atom (by decide) (by decide),Zfc r.head hk h.blk r.atom (Or.inr r.ta),
  Zfi r.body hk h.blk r.atom (Or.inr r.ta) (Or.inl (by decide)),Zio r.cls hk h.blk r.atom (Or.inr r.ta) (Or.inl (by decide)) (by decide) (Or.inl (by decide)),hta,r.tb,r.tv,Qq r.la hk.size,Qq r.lb hk.size⟩,h.le⟩
theorem SymRow.more {v:Value} {l:List Sym} {S':Nat} (h:SymRow w B Sa v l) (hS:Sa≤S'):SymRow w B S' v l:=⟨h.1,fun k hk=>Nat.lt_of_lt_of_le (h.2 k hk) hS⟩
theorem BodyRow.more {v:Value} {ls:List (List Sym)} {ws:List Value} {S':Nat} (h:BodyRow w B Sa v ls ws) (hS:Sa≤S'):BodyRow w B S' v ls ws :=
 ⟨h.1,fun i l hl=>by obtain ⟨x,h1,h2⟩:=h.2 i l hl; exact ⟨x,h1,h2.more hS⟩⟩
theorem CCRow.more {v:Value} {cs:List CC} {ys:List (List Value)} {S' T':Nat} (h:CCRow w B Sa Sb v cs ys) (hS:Sa≤S') (hT:Sb≤T'):CCRow w B S' T' v cs ys :=
 ⟨h.1,h.2.1,h.2.2.1,fun i c hc=>by
  obtain ⟨hv,bv,vv,us,e1,e2,e3,e4⟩:=h.2.2.2 i c hc
  exact ⟨hv,bv,vv,us,e1,e2.more hS,e3.more hS,fun k hk=>Nat.lt_of_lt_of_le (e4.1 k hk) hT,e4.2.1,fun k hk=>Nat.lt_of_lt_of_le (e4.2.2 k hk) hT⟩⟩
theorem IsR.headed (h:IsR w B rb st V Sa Sb vs xs) (hk:Kept (Zeu rb (.slice none 0 0)) w w') (hblk:w'.heap[rb]?=some (.cells (Zdd { st with head:=st.atom,atom:=[] } { V with h:=V.a,a := .slice none 0 0 }) 121 (0,0))) :
  IsR w' B rb { st with head:=st.atom,atom:=[] } { V with h:=V.a,a := .slice none 0 0 } w'.heap.size Sb vs xs:=by
 have hX:w.ownsRow B 121 1 (.slice none 0 0) 0 []:=World.ownsRow_nil _ _ _ _
 have r:=h.rest
 have hs:Sa≤w'.heap.size:=Qq r.la hk.size
 have ha:=Zby r.atom hk h.blk hX (by decide) (by decide)
 exact ⟨hblk,⟨World.ownsRow_nil _ _ _ _,Zby r.opn hk h.blk hX (by decide) (by decide),Zby r.vars hk h.blk hX (by decide) (by decide),⟨ha,fun k e=>(ha.lt k e).2⟩,
  (Zfi r.body hk h.blk hX (Or.inl (by decide)) (Or.inl (by decide))).more hs,(Zio r.cls hk h.blk hX (Or.inl (by decide)) (Or.inl (by decide)) (by decide) (Or.inl (by decide))).more hs (Qe _),fun k e=>by simp [Value.ownBlock] at e,r.tb,r.tv,Qe _,Qq r.lb hk.size⟩,h.le⟩
theorem IsR.bodied (h:IsR w B rb st V Sa Sb vs xs) (hk:Kept (Zeu rb V.b) w w') (b':Value) (hblk:w'.heap[rb]?=some (.cells (Zdd { st with body:=st.body++[st.atom],atom:=[] } { V with b:=b',a := .slice none 0 0 }) 121 (0,0)))
  (ho:w'.ownsRow B 72 1 b' (st.body.length+1) (vs++[V.a])) (htb:∀ k,b'.ownBlock=some k→Sb≤k) :
  IsR w' B rb { st with body:=st.body++[st.atom],atom:=[] } { V with b:=b',a := .slice none 0 0 } w'.heap.size Sb (vs++[V.a]) xs:=by
 have r:=h.rest
 have hs:Sa≤w'.heap.size:=Qq r.la hk.size
 have ha:=Zby r.atom hk h.blk r.body.1 (by decide) (by decide)
 have hvl:vs.length=st.body.length:=by have:=r.body.1.1; omega
 refine ⟨hblk,⟨World.ownsRow_nil _ _ _ _,Zby r.opn hk h.blk r.body.1 (by decide) (by decide),Zby r.vars hk h.blk r.body.1 (by decide) (by decide),(Zfc r.head hk h.blk r.body.1 (Or.inl (by decide))).more hs,?_,
  (Zio r.cls hk h.blk r.body.1 (Or.inl (by decide)) (Or.inr r.tb) (by decide) (Or.inl (by decide))).more hs (Qe _),fun k e=>by simp [Value.ownBlock] at e,htb,r.tv,Qe _,Qq r.lb hk.size⟩,h.le⟩
 refine ⟨by simpa using ho,fun i l hl => ?_⟩
 rcases Nat.lt_or_ge i st.body.length with hi | hi
 ·simp only at hl
  rw [Qc hi] at hl
  obtain ⟨x,h1,h2⟩:=r.body.2 i l hl
  exact ⟨x,by rw [Qc (by omega)]; exact h1,(Zfc h2 hk h.blk r.body.1 (Or.inl (by decide))).more hs⟩
 ·have hi':i=st.body.length:=by
   have:i<(st.body++[st.atom]).length:=(Qa.1 hl).1
   simp at this; omega
  subst hi'
  simp at hl
  subst hl
  exact ⟨V.a,by rw [← hvl]; simp,ha,fun k e=>(ha.lt k e).2⟩
theorem IsR.clausd (h:IsR w B rb st V Sa Sb vs xs) (hk:Kept (Zeu rb V.c) w w') (c':Value) (st':RS) (hblk:w'.heap[rb]?=some (.cells (Zdd st' { V with c:=c',h := .slice none 0 0,b := .slice none 0 0,v := .slice none 0 0 }) 121 (0,0)))
  (ho:w'.ownsRow B 74 3 c' (st.clauses.length+1) (xs.flatten++[V.h,V.b,V.v]))
  (e1:st'.atom=st.atom) (e2:st'.opn=st.opn) (e3:st'.vars=[]) (e4:st'.head=[]) (e5:st'.body=[]) (e6:st'.clauses=st.clauses++[⟨st.head,st.body,st.vars⟩]) :
  IsR w' B rb st' { V with c:=c',h := .slice none 0 0,b := .slice none 0 0,v := .slice none 0 0 } Sa w'.heap.size [] (xs++[[V.h,V.b,V.v]]):=by
 have r:=h.rest
 have hs:Sb≤w'.heap.size:=Qq r.lb hk.size
 have hbd:=Zfi r.body hk h.blk r.cls.1 (Or.inl (by decide)) (Or.inl (by decide))
 have hvd:=Zby r.vars hk h.blk r.cls.1 (by decide) (by decide)
 refine ⟨hblk,⟨?_,?_,?_,?_,?_,?_,r.ta,fun k e=>by simp [Value.ownBlock] at e,fun k e=>by simp [Value.ownBlock] at e,Qq r.la hk.size,Qe _⟩,h.le⟩
 ·rw [e1]; exact Zby r.atom hk h.blk r.cls.1 (by decide) (by decide)
 ·rw [e2]; exact Zby r.opn hk h.blk r.cls.1 (by decide) (by decide)
 ·rw [e3]; exact World.ownsRow_nil _ _ _ _
 ·rw [e4]; exact ⟨World.ownsRow_nil _ _ _ _,fun k e=>by simp [Value.ownBlock] at e⟩
 ·rw [e5]; exact ⟨World.ownsRow_nil _ _ _ _,fun i l hl=>by simp at hl⟩
 ·rw [e6]
  refine ⟨by simpa using ho,by simp [r.cls.2.1],?_,fun i c hc => ?_⟩
  ·intro x hx
   simp at hx
   rcases hx with hx | rfl
   ·exact r.cls.2.2.1 x hx
   ·rfl
  ·rcases Nat.lt_or_ge i st.clauses.length with hi | hi
   ·rw [Qc hi] at hc
    obtain ⟨hv,bv,vv,us,d1,d2,d3,d4⟩:=r.cls.2.2.2 i c hc
    exact ⟨hv,bv,vv,us,by rw [Qc (by rw [r.cls.2.1]; exact hi)]; exact d1,Zfc d2 hk h.blk r.cls.1 (Or.inl (by decide)),Zfi d3 hk h.blk r.cls.1 (Or.inl (by decide)) (Or.inl (by decide)),fun k e=>Nat.lt_of_lt_of_le (d4.1 k e) hs,Zby d4.2.1 hk h.blk r.cls.1 (by decide) (by decide),fun k e=>Nat.lt_of_lt_of_le (d4.2.2 k e) hs⟩
   ·have hi':i=st.clauses.length:=by
     have:i<(st.clauses++[(⟨st.head,st.body,st.vars⟩:CC)]).length:=(Qa.1 hc).1
     simp at this; omega
    subst hi'
    simp at hc
    subst hc
    exact ⟨V.h,V.b,V.v,vs,by rw [← r.cls.2.1]; simp,Zfc r.head hk h.blk r.cls.1 (Or.inl (by decide)),hbd,fun k e=>(hbd.1.lt k e).2,hvd,fun k e=>(hvd.lt k e).2⟩
end
def IsRx (w:World) (B rb:Nat) (st:RS):Prop:=∃ V Sa Sb vs xs,IsR w B rb st V Sa Sb vs xs
theorem Zgz {w w1:World} {rb:Nat} {X:Value} (h:Kept (Zbl X) w w1) (i:Nat) (u:Value):Kept (Zeu rb X) w (w1.setCell ⟨rb,i,none⟩ u) :=
 Qy (S:=Zeu rb X) (h.mono (fun _ _ e=>Or.inr e)) (p:=⟨rb,i,none⟩) (fun _=>Or.inl rfl) u
theorem Zdl {w w1:World} {rb:Nat} {X:Value} (h:Kept (Zeu rb X) w w1) (i:Nat) (u:Value):Kept (Zeu rb X) w (w1.setCell ⟨rb,i,none⟩ u) :=
 Qy (S:=Zeu rb X) h (p:=⟨rb,i,none⟩) (fun _=>Or.inl rfl) u
def Zjc (st:RS):RS := { st with opn:=st.opn.tail }
theorem Ycf (w:World) (B rb:Nat) (st:RS) (h:IsRx w B rb st) (hl:st.opn.length≤4096) :
  Calls Tryz.prog 86 #[.pointer (some ⟨rb,0,none⟩)] w fun e w'=>e = .returned (.tuple #[])∧IsRx w' B rb (Zjc st)∧Held B w w':=by
 obtain ⟨V,Sa,Sb,vs,xs,h⟩:=h
 obtain ⟨c0,c1,c2,c3,c4,c5,c6,c7,c8⟩:=h.opens.facts
 have hf:=fun i=>Zae h.blk i
 have hrb:=Zab h.blk
 obtain ⟨oa,ocap,hvo⟩:=Zad h.rest.opn
 cases hst:st.opn with
 | nil =>
  rw [hvo] at c4
  simp only [hst,Jt] at c4
  have Hr:Hid (Zjc st=st):=by
   show _=_
   cases st
   simp only at hst
   subst hst
   rfl
  have H:=Zac h
  clear h hvo hst
  go_enter Tryz.func86,Tryz.ntmps86
  go_wp2
  go_end0
  rw [Hr.out]
  exact ⟨rfl,⟨V,Sa,Sb,vs,xs,H.out⟩,Held.refl _ _⟩
 | cons n r =>
  have hrl:r.length+1≤4096:=by rw [hst] at hl; simpa using hl
  have hop:=h.rest.opn
  rw [hst,hvo,hst] at hop
  obtain ⟨g,gcap,gcur,he,hBg,hg,hcap⟩:=Zao hop (by simp)
  simp only [Value.slice.injEq] at he
  obtain ⟨rfl,_,rfl⟩:=he
  rw [hvo] at c4
  simp only [hst,Qf] at c4 hcap hop
  have hpop:=Zpd (n:=r.length) hop
  have hvo':V.o = .slice (some ⟨g,0,none⟩) (r.length+1) ocap:=by rw [hvo,hst]; rfl
  have H:=Zac h
  have Hst:=Zac hst
  have Hpop:=Zac hpop
  have Hvo:=Zac hvo'
  clear h hvo hst hop hg hpop hvo'
  go_enter Tryz.func86,Tryz.ntmps86
  go_wp2_with fail
  go_region
  go_end0
  have hk:Kept (Zeu rb V.o) w (w.setCell ⟨rb,4,none⟩ (.slice (some ⟨g,0,none⟩) r.length ocap)):=(Qx _ w).setCell (p:=⟨rb,4,none⟩) (fun _=>Or.inl rfl) _
  have hpop':(w.setCell ⟨rb,4,none⟩ (.slice (some ⟨g,0,none⟩) r.length ocap)).ownsRow B 3 1 (.slice (some ⟨g,0,none⟩) r.length ocap) r.length (ints r.reverse):=by
   have e:(ints (n::r).reverse).take r.length=ints r.reverse:=by simp [ints]
   have h2:=Hpop.out
   rw [e] at h2
   exact ((Qx (only rb) w).put 4 _).owns h2 (fun k hko e=>by
    have e:k=rb:=e
    rw [e] at hko
    exact Zag h2 (by decide) H.out.blk hko)
  have hR:=H.out.opened hk r (.slice (some ⟨g,0,none⟩) r.length ocap) (Zaf H.out.blk 4 _) hpop'
  have hc:Zjc st = { st with opn:=r }:=by simp [Zjc,Hst.out]
  rw [hc]
  refine ⟨rfl,⟨_,Sa,Sb,vs,xs,⟨hR.blk,⟨hR.rest.atom,hR.rest.opn,hR.rest.vars,hR.rest.head,hR.rest.body,hR.rest.cls,hR.rest.ta,hR.rest.tb,hR.rest.tv,hR.rest.la,hR.rest.lb⟩,hR.le⟩⟩,?_⟩
  exact (H.out.below hk H.out.rest.opn (by decide)).drew
def varS (st:RS) (t:List UInt8):RS := { st with vars:=(Zbr st.vars t).1 }
theorem Zro (w:World) (B rb:Nat) (st:RS) (t:List UInt8) (h:IsRx w B rb st) (hl:st.vars.length≤4096) :
  Calls Tryz.prog 85 #[.pointer (some ⟨rb,0,none⟩),.string ⟨t.toArray⟩] w fun e w'=>e = .returned (.int .i64 (Zbr st.vars t).2)∧IsRx w' B rb (varS st t)∧Held B w w':=by
 obtain ⟨V,Sa,Sb,vs,xs,h⟩:=h
 obtain ⟨c0,c1,c2,c3,c4,c5,c6,c7,c8⟩:=h.opens.facts
 have hrb:=Zab h.blk
 obtain ⟨va,vcap,hvv⟩:=Zad h.rest.vars
 have hown:=h.rest.vars
 rw [hvv] at c7 hown
 have H:=Zac h
 have Hown:=Zac hown
 have Hvv:=Zac hvv
 have hBw:B≤w.heap.size:=by have:=h.le; omega
 clear h hown hvv
 go_enter Tryz.func85,Tryz.ntmps85
 go_wp2
 go_loop [13] (fun i=>∃ k:Nat,k≤st.vars.length∧i = .int .i64 k∧t ∉ st.vars.take k) (fun i=>st.vars.length - (intOf i).toNat)
 case atStart=>exact ⟨0,Qm _,rfl,by simp⟩
 case round =>
  obtain ⟨k,hk,rfl,hnot⟩:=hrel
  have Hnot:=Zac hnot
  clear hnot
  by_cases hlt:k<st.vars.length
  ·obtain ⟨g,cap',cur,he,hBg,hg,hcp⟩:=Zao Hown.out (by omega)
   simp only [Value.slice.injEq] at he
   obtain ⟨rfl,_,rfl⟩:=he
   obtain ⟨nm,hnm⟩:∃ nm,nm=st.vars[k]:=⟨_,rfl⟩
   have hc:w.cell? ⟨g,k,none⟩=some (.string ⟨nm.toArray⟩):=Zai Hown.out k _ (by simp [strs,hlt,hnm])
   have Hnm:=Zac hnm
   clear hg hnm
   go_wp2
   ·have hq:nm=t:=eq_of_beq (by assumption)
    go_ret
    have hr:=Zre hlt (Hnm.out.symm.trans hq) Hnot.out
    rw [varS,hr]
    exact ⟨rfl,⟨V,Sa,Sb,vs,xs,H.out⟩,Held.refl _ _⟩
   ·have hq:nm≠t:=ne_of_beq_false (by assumption)
    go_round
    case rel=>exact ⟨k+1,by omega,by go_num,Ykw hlt (fun h=>hq (Hnm.out.trans h)) Hnot.out⟩
    case measure=>simp [intOf]; omega
  ·have Hmiss:=Zac (Zpe hlt Hnot.out)
   go_wp2_with (at_builtin; refine Zam _ rfl (.tmp 28) (.tmp 30) 35 rfl B 9 Tryz.infoStr Tryz.underlying35 rfl (by decide) _ st.vars.length (strs st.vars) rfl Hown.out _ rfl rfl rfl (Ybn _) ?_ hBw ?_)
   ·omega
   intro v' w1 hap
   obtain ⟨v1a,v1cap,rfl⟩:=Zad hap.owns
   have hnb:¬ Zbl (.slice va st.vars.length vcap) rb:=Zag Hown.out (by decide) H.out.blk
   have hblk1:=(hap.kept.block rb hrb hnb).trans H.out.blk
   have d7:w1.cell? ⟨rb,7,none⟩=some V.v:=Zaa hblk1 7 _ rfl
   rw [Hvv.out] at d7
   have df:=fun i=>Zae hblk1 i
   have Hap:=Zac hap
   have Hblk1:=Zac hblk1
   clear hap hblk1 c0 c1 c2 c3 c4 c5 c6 c7 c8
   go_wp2
   go_ret
   have hk:Kept (Zeu rb V.v) w (w1.setCell ⟨rb,7,none⟩ (.slice v1a (st.vars.length+1) v1cap)):=by
    rw [Hvv.out]
    exact Zgz Hap.out.kept 7 _
   have hrow:(w1.setCell ⟨rb,7,none⟩ (.slice v1a (st.vars.length+1) v1cap)).ownsRow B 9 1 (.slice v1a (st.vars.length+1) v1cap) (st.vars++[t]).length (strs (st.vars++[t])):=by
    have h2:=Hap.out.owns
    have h3:=((Qx (only rb) w1).put 7 (.slice v1a (st.vars.length+1) v1cap)).owns h2 (fun k hko e=>by
     have e:k=rb:=e
     rw [e] at hko
     exact Zag h2 (by decide) Hblk1.out hko)
    simpa [strs] using h3
   have hR:=H.out.named hk (st.vars++[t]) (.slice v1a (st.vars.length+1) v1cap) (Zaf Hblk1.out 7 _) hrow (fun k e=>by
    rcases Hap.out.where_ with hw | ⟨g,hw,hg⟩
    ·exact H.out.rest.tv k (by rw [Hvv.out]; exact hw.symm.trans e)
    ·have e2:=hw.symm.trans e
     simp only [Qo] at e2
     have:=H.out.rest.lb
     omega)
   rw [varS,Hmiss.out]
   refine ⟨Zks ?_,⟨_,Sa,Sb,vs,xs,hR⟩,H.out.below hk H.out.rest.vars (by decide)⟩
   omega
theorem Zcs {P:Program} {ops:Array Oper} {o:Oper} {a:Act} {K:Act→World→Prop} {Q:Exit→Act→World→Prop} {E:Prop} {W:World} (w:World) (hg:o.guard=none) (s x:Operand) (t:TypeId)
  (ho:o.op = .call { callee := .builtin .append,args:=#[s,x],argTypes:=#[t,t] })
  (base:Nat) (e:TypeId) {z:Value} {size bytes:Nat}
  (hinfo:(P.info? e).map (fun i=>(i.zero,i.size,i.bytes))=some (some z,size,bytes)) (ht:P.underlying t=some (.slice e)) (hzs:z.cells.size=size) (hsz:0<size)
  (v:Value) (n:Nat) (xs:List Value) (hs:a.eval s=v) (hown:w.ownsRow base e size v n xs)
  (news:Array Value) {N:Nat} (hx:a.eval x = .slice (some ⟨N,0,none⟩) 1 1) (hN:N=w.heap.size) (hl:news.size=size) (h1:∀ u ∈ news.toList,u.oneCell'=true)
  (hbig:(n+1) * (bytes+1)≤140737488355328) (hbase:base≤w.heap.size) (hW:W=w.alloc (.cells news e))
  (h:∀ v' w',Appended w base e size v (n+1) (xs++news.toList) v' w'→K (a.put o.dst v') w'):if Region.wanted o (yielded ops a.tmps)=true then Oper.wp P o a W K Q else E:=by
 have hw:Region.wanted o (yielded ops a.tmps)=true:=by simp [Region.wanted,hg]
 rw [if_pos hw,hW]
 exact Znx w s x t ho base e hinfo ht hzs hsz v n xs hs hown news hx hN hl h1 hbig hbase h
theorem Zrp {w w1:World} {o:Obj} {n rb:Nat} {X:Value} {cs:Array Value} {T:TypeId} (h:Kept (Zbl X) ((w.alloc o).drewN n) w1) (hb:w.heap[rb]?=some (.cells cs T (0,0))) (hx:¬ Zbl X rb):w1.heap[rb]?=some (.cells cs T (0,0)) :=
 (h.block rb (by have:=Zab hb; show rb<(w.alloc o).heap.size; simp; omega) hx).trans (Zar hb o)
def Zcn (st:RS):List Sym:=match st.opn with
 | []=>st.atom
 | n::_=>st.atom.modify n (fun s => { s with args:=s.args+1 })
def addS (st:RS) (s:Sym):RS := { st with atom:=Zcn st++[s] }
theorem Zhk (x:ByteArray) (y z:Int):∀ u ∈ (#[Value.string x,.int .i64 y,.int .i64 z]:Array Value).toList,u.oneCell'=true:=by
 intro u hu
 simp at hu
 rcases hu with rfl | rfl | rfl <;> rfl
theorem Yfy {w w1:World} {B rb nd:Nat} {st:RS} {V:RV} {Sa Sb:Nat} {vs:List Value} {xs:List (List Value)} {s:Sym} {o:Obj} {a1:Option Addr} {a1cap:Nat} (H:IsR w B rb st V Sa Sb vs xs)
  (hap:Appended ((w.alloc o).drewN nd) B 102 3 V.a (st.atom.length+1) (Zaj st.atom++[.string ⟨s.name.toArray⟩,.int .i64 s.num,.int .i64 s.args]) (.slice a1 (st.atom.length+1) a1cap) w1) :
  IsR (w1.setCell ⟨rb,3,none⟩ (.slice a1 (st.atom.length+1) a1cap)) B rb { st with atom:=st.atom++[s] } { V with a := .slice a1 (st.atom.length+1) a1cap } Sa Sb vs xs∧Held B w (w1.setCell ⟨rb,3,none⟩ (.slice a1 (st.atom.length+1) a1cap)):=by
 have hat:=H.rest.atom
 have hblk1:=Zrp hap.kept H.blk (Zag hat (by decide) H.blk)
 have hk:Kept (Zeu rb V.a) w (w1.setCell ⟨rb,3,none⟩ (.slice a1 (st.atom.length+1) a1cap)):=Zgz ((((Qx _ w).alloc _).drewN _).trans hap.kept) 3 _
 have hrow:(w1.setCell ⟨rb,3,none⟩ (.slice a1 (st.atom.length+1) a1cap)).ownsRow B 102 3 (.slice a1 (st.atom.length+1) a1cap) (st.atom++[s]).length (Zaj (st.atom++[s])):=by
  have h2:=hap.owns
  have h3:=((Qx (only rb) w1).put 3 (.slice a1 (st.atom.length+1) a1cap)).owns h2 (fun k hko e=>by
   have e:k=rb:=e
   rw [e] at hko
   exact Zag h2 (by decide) hblk1 hko)
  simpa [Zaj,Zbw] using h3
 have hta:∀ k,(Value.slice a1 (st.atom.length+1) a1cap).ownBlock=some k→Sa≤k:=by
  intro k hk
  rcases hap.where_ with hw | ⟨g,hw,hg⟩
  ·exact H.rest.ta k (by rw [← hw]; exact hk)
  ·rw [hk] at hw
   simp at hw
   have:=H.rest.la
   have hg':w.heap.size+1≤g:=by simpa using hg
   omega
 exact ⟨H.atoms hk (st.atom++[s]) (.slice a1 (st.atom.length+1) a1cap) (Zaf hblk1 3 _) hrow hta,H.below hk hat (by decide)⟩
theorem Zjy {w:World} {B:Nat} {e:TypeId} {g n cap size:Nat} {xs:List Value} (h:w.ownsRow B e size (.slice (some ⟨g,0,none⟩) n cap) n xs) (i:Nat) (u:Value) :
  (w.setCell ⟨g,i,none⟩ u).ownsRow B e size (.slice (some ⟨g,0,none⟩) n cap) n (xs.set i u):=by
 refine ⟨by simpa using h.1,?_⟩
 rcases h.2 with ⟨h1,_⟩ | ⟨g',cap',cur,h1,hb,hg,hn,hc,hs,ht⟩
 ·simp at h1
 ·simp at h1
  obtain ⟨rfl,rfl⟩:=h1
  refine .inr ⟨g,cap,cur.setIfInBounds i u,rfl,hb,Zaf hg i u,hn,hc,by simpa using hs,?_⟩
  rw [← ht]
  simp [List.take_set]
theorem Ycg (l:List Sym) (n:Nat) (s:Sym) (h:l[n]?=some s):Zaj (l.modify n (fun s => { s with args:=s.args+1 }))=(Zaj l).set (n * 3+2) (.int .i64 ((s.args:Int)+1)):=by
 induction l generalizing n with
 | nil=>simp at h
 | cons a l ih =>
  cases n with
  | zero =>
   simp at h; subst h
   simp [Zaj,Zbw,List.modify]
  | succ n =>
   have:=ih n (by simpa using h)
   simp only [List.modify_succ_cons]
   show Zbw a++Zaj _=(Zbw a++Zaj l).set _ _
   rw [this,List.set_append_right _ _ (by simp [Zbw]; omega)]
   congr 2
   simp [Zbw]
   omega
theorem Yiy (w:World) (B rb:Nat) (st:RS) (s:Sym) (h:IsRx w B rb st) (hb:RBd st) (ho:st.opn=[]) :
  Calls Tryz.prog 84 #[.pointer (some ⟨rb,0,none⟩),.agg #[.string ⟨s.name.toArray⟩,.int .i64 s.num,.int .i64 s.args]] w fun e w'=>e = .returned (.tuple #[])∧IsRx w' B rb (addS st s)∧Held B w w':=by
 obtain ⟨V,Sa,Sb,vs,xs,h⟩:=h
 have hrb:=Zab h.blk
 have hBw:B≤w.heap.size:=by have:=h.le; omega
 obtain ⟨aa,acap,hva⟩:=Zad h.rest.atom
 have hat:=h.rest.atom
 rw [hva] at hat
 have hla:=hb.atom
 have HW:∀ o,ROpen (w.alloc o) B rb st V:=fun o=>h.opens.later (S:=Zdc) ((Qx _ w).alloc o) (fun h=>h) (fun _ _ h=>h) (fun _ _ h=>h)
 have HO:=Zac (fun o=>Zmr (w.alloc o) B rb st V (HW o) hb.opn hb.atom)
 have hoi:Zfo st = -1:=by simp [Zfo,ho]
 have Hoi:=Zac hoi
 obtain ⟨c0,c1,c2,c3,c4,c5,c6,c7,c8⟩:=h.opens.facts
 have hf:=fun i=>Zae h.blk i
 rw [hva] at c3
 have H:=Zac h
 have Hat:=Zac hat
 have Hva:=Zac hva
 have Hadd:Hid (addS st s = { st with atom:=st.atom++[s] }):=by show _=_; simp [addS,Zcn,ho]
 clear h hat hva HW ho hoi
 go_enter Tryz.func84,Tryz.ntmps84
 go_wp2_with fail
 refine (HO.out _).mono ?_
 rintro e w1 ⟨rfl,nd,rfl⟩
 rw [Hoi.out]
 go_wp2_with fail
 go_region_law (refine Zcs ((w.alloc (.cells #[.string ⟨s.name.toArray⟩,.int .i64 s.num,.int .i64 s.args] 102)).drewN (nd+1)) rfl (.tmp 24) (.tmp 26) 72 rfl B 102 Tryz.infoSym Tryz.underlying72 rfl (by decide) (.slice aa st.atom.length acap) st.atom.length (Zaj st.atom) rfl (Hat.out.alloc _) #[.string ⟨s.name.toArray⟩,.int .i64 s.num,.int .i64 s.args] rfl (by simp) rfl (Zhk _ _ _) (by omega) (by simp; omega) rfl ?_; intro v' w1 hap; obtain ⟨a1,a1cap,rfl⟩:=Zad hap.owns; have hblk1:=Zrp hap.kept H.out.blk (Zag Hat.out (by decide) H.out.blk); have d3:w1.cell? ⟨rb,3,none⟩=some V.a:=Zaa hblk1 3 _ rfl; have df:=fun i=>Zae hblk1 i; have Hap:=Zac hap; have Hblk1:=Zac hblk1; clear hap hblk1)
 all_goals
  go_end0
  rw [Hadd.out]
  have hap:=Hap.out
  rw [← Hva.out] at hap
  obtain ⟨hR,hB⟩:=Yfy H.out hap
  exact ⟨rfl,⟨_,Sa,Sb,vs,xs,hR⟩,hB⟩
theorem IsR.fresh {w w':World} {B rb:Nat} {st:RS} {V:RV} {Sa Sb:Nat} {vs:List Value} {xs:List (List Value)} (h:IsR w B rb st V Sa Sb vs xs) (hk:Kept Zdc w w'):IsR w' B rb st V Sa Sb vs xs :=
 h.only (hk.mono (fun _ _ h=>h.elim)) st ((hk.block rb (Zab h.blk) (fun h=>h)).trans h.blk) rfl rfl rfl rfl rfl rfl
theorem IsR.counted {w:World} {B rb:Nat} {st:RS} {V:RV} {Sa Sb:Nat} {vs:List Value} {xs:List (List Value)} {n g acap:Nat} {r:List Nat} {so:Sym} (h:IsR w B rb st V Sa Sb vs xs) (ho:st.opn=n::r) (hso:st.atom[n]?=some so)
  (hva:V.a = .slice (some ⟨g,0,none⟩) st.atom.length acap):IsR (w.setCell ⟨g,n * 3+2,none⟩ (.int .i64 ((so.args:Int)+1))) B rb { st with atom:=Zcn st } V Sa Sb vs xs∧Held B w (w.setCell ⟨g,n * 3+2,none⟩ (.int .i64 ((so.args:Int)+1))):=by
 have hat:=h.rest.atom
 rw [hva] at hat
 have hgb:¬ rb=g:=fun e=>by subst e; exact Zag hat (by decide) h.blk rfl
 have hrow1:=Zjy hat (n * 3+2) (.int .i64 ((so.args:Int)+1))
 rw [← Ycg st.atom n so hso] at hrow1
 have hblkW:(w.setCell ⟨g,n * 3+2,none⟩ (.int .i64 ((so.args:Int)+1))).heap[rb]?=some (.cells (Zdd st V) 121 (0,0)):=by
  rw [Below.heap_setCell _ _ _ _ hgb]; exact h.blk
 have hkW:Kept (Zeu rb V.a) w (w.setCell ⟨g,n * 3+2,none⟩ (.int .i64 ((so.args:Int)+1))):=(Qx _ w).setCell (p:=⟨g,n * 3+2,none⟩) (fun _=>Or.inr (by rw [hva]; rfl)) _
 have hbl:(Zcn st).length=st.atom.length:=by simp [Zcn,ho]
 have hbs:Zcn st=st.atom.modify n (fun s => { s with args:=s.args+1 }):=by simp [Zcn,ho]
 exact ⟨h.atoms hkW (Zcn st) V.a hblkW (by rw [hbl,hbs,hva]; exact hrow1) h.rest.ta,h.below hkW h.rest.atom (by decide)⟩
theorem Zft {w w1:World} {n rb:Nat} {X:Value} {cs:Array Value} {T:TypeId} (h:Kept (Zbl X) (w.drewN n) w1) (hb:w.heap[rb]?=some (.cells cs T (0,0))) (hx:¬ Zbl X rb):w1.heap[rb]?=some (.cells cs T (0,0)) :=
 (h.block rb (Zab hb) hx).trans hb
theorem Ych {w w1:World} {B rb nd:Nat} {st:RS} {V:RV} {Sa Sb:Nat} {vs:List Value} {xs:List (List Value)} {s:Sym} {a1:Option Addr} {a1cap:Nat} (H:IsR w B rb st V Sa Sb vs xs)
  (hap:Appended (w.drewN nd) B 102 3 V.a (st.atom.length+1) (Zaj st.atom++[.string ⟨s.name.toArray⟩,.int .i64 s.num,.int .i64 s.args]) (.slice a1 (st.atom.length+1) a1cap) w1) :
  IsR (w1.setCell ⟨rb,3,none⟩ (.slice a1 (st.atom.length+1) a1cap)) B rb { st with atom:=st.atom++[s] } { V with a := .slice a1 (st.atom.length+1) a1cap } Sa Sb vs xs∧Held B w (w1.setCell ⟨rb,3,none⟩ (.slice a1 (st.atom.length+1) a1cap)):=by
 have hat:=H.rest.atom
 have hblk1:=Zft hap.kept H.blk (Zag hat (by decide) H.blk)
 have hk:Kept (Zeu rb V.a) w (w1.setCell ⟨rb,3,none⟩ (.slice a1 (st.atom.length+1) a1cap)):=Zgz (((Qx _ w).drewN _).trans hap.kept) 3 _
 have hrow:(w1.setCell ⟨rb,3,none⟩ (.slice a1 (st.atom.length+1) a1cap)).ownsRow B 102 3 (.slice a1 (st.atom.length+1) a1cap) (st.atom++[s]).length (Zaj (st.atom++[s])):=by
  have h2:=hap.owns
  have h3:=((Qx (only rb) w1).put 3 (.slice a1 (st.atom.length+1) a1cap)).owns h2 (fun k hko e=>by
   have e:k=rb:=e
   rw [e] at hko
   exact Zag h2 (by decide) hblk1 hko)
  simpa [Zaj,Zbw] using h3
 have hta:∀ k,(Value.slice a1 (st.atom.length+1) a1cap).ownBlock=some k→Sa≤k:=by
  intro k hk
  rcases hap.where_ with hw | ⟨g,hw,hg⟩
  ·exact H.rest.ta k (by rw [← hw]; exact hk)
  ·rw [hk] at hw
   simp at hw
   have:=H.rest.la
   have hg':w.heap.size≤g:=by simpa using hg
   omega
 exact ⟨H.atoms hk (st.atom++[s]) (.slice a1 (st.atom.length+1) a1cap) (Zaf hblk1 3 _) hrow hta,H.below hk hat (by decide)⟩
theorem Ykz (w:World) (B rb:Nat) (st:RS) (s:Sym) (n:Nat) (r:List Nat) (h:IsRx w B rb st) (hb:RBd st) (ho:st.opn=n::r) (hn:n<st.atom.length) :
  Calls Tryz.prog 84 #[.pointer (some ⟨rb,0,none⟩),.agg #[.string ⟨s.name.toArray⟩,.int .i64 s.num,.int .i64 s.args]] w fun e w'=>e = .returned (.tuple #[])∧IsRx w' B rb (addS st s)∧Held B w w':=by
 obtain ⟨V,Sa,Sb,vs,xs,h⟩:=h
 have hrb:=Zab h.blk
 have hBw:B≤w.heap.size:=by have:=h.le; omega
 have hla:=hb.atom
 obtain ⟨so,hso⟩:∃ so,st.atom[n]?=some so:=⟨_,Qb hn⟩
 have hargs:=hb.args so (Qh hso)
 have HW:∀ o,ROpen (w.alloc o) B rb st V:=fun o=>h.opens.later (S:=Zdc) ((Qx _ w).alloc o) (fun h=>h) (fun _ _ h=>h) (fun _ _ h=>h)
 have HO:=Zac (fun o=>Zmr (w.alloc o) B rb st V (HW o) hb.opn hb.atom)
 have Hoi:Hid (Zfo st=n):=by show _=_; simp [Zfo,ho]; omega
 have H:=Zac h
 have Ho:=Zac ho
 have Hso:=Zac hso
 clear h HW ho hso
 go_enter Tryz.func84,Tryz.ntmps84
 go_wp2_with fail
 refine (HO.out _).mono ?_
 rintro e w1 ⟨rfl,nd,hw1⟩
 rw [Hoi.out]
 have hk1:Kept Zdc w w1:=by rw [hw1]; exact ((Qx _ w).alloc _).drewN _
 have b0:w1.cell? ⟨w.heap.size,0,none⟩=some (.string ⟨s.name.toArray⟩):=by rw [hw1]; exact Zgr w _ _ 0 _ rfl
 have b1:w1.cell? ⟨w.heap.size,1,none⟩=some (.int .i64 s.num):=by rw [hw1]; exact Zgr w _ _ 1 _ rfl
 have b2:w1.cell? ⟨w.heap.size,2,none⟩=some (.int .i64 s.args):=by rw [hw1]; exact Zgr w _ _ 2 _ rfl
 have hsz1:w.heap.size<w1.heap.size:=by rw [hw1]; show w.heap.size<(w.alloc _).heap.size; simp
 clear hw1
 have h1:=H.out.fresh hk1
 obtain ⟨aa,acap,hva⟩:=Zad h1.rest.atom
 have hat:=h1.rest.atom
 rw [hva] at hat
 obtain ⟨g,gcap,gcur,he,hBg,hg,hcap⟩:=Zao hat (by omega)
 simp only [Value.slice.injEq] at he
 obtain ⟨rfl,_,rfl⟩:=he
 have hgl:g<w.heap.size:=(H.out.rest.atom.lt g (by rw [hva]; rfl)).2
 have hgb:¬ rb=g:=fun e=>by subst e; exact Zag hat (by decide) h1.blk rfl
 have cg:w1.cell? ⟨g,n * 3+2,none⟩=some (.int .i64 so.args):=Zai hat _ _ (by rw [Zaz _ n so Hso.out 2 (by omega)]; rfl)
 have fg:=Zae hg (n * 3+2)
 have c3:w1.cell? ⟨rb,3,none⟩=some V.a:=h1.opens.facts.2.2.2.1
 rw [hva] at c3
 obtain ⟨hR1,hB1⟩:=h1.counted Ho.out Hso.out hva
 have Hat1:Hid ((w1.setCell ⟨g,n * 3+2,none⟩ (.int .i64 ((so.args:Int)+1))).ownsRow B 102 3 (.slice (some ⟨g,0,none⟩) st.atom.length acap) (Zcn st).length (Zaj (Zcn st))):=by
  have h2:=hR1.rest.atom
  simp only at h2
  rw [hva] at h2
  exact h2
 have hbl:(Zcn st).length=st.atom.length:=by simp [Zcn,Ho.out]
 have Hbl:=Zac hbl
 have Hat2:=Hat1.out
 rw [hbl] at Hat2
 have HAT:=Zac Hat2
 have HB1:=Zac ((Held.fresh hk1 hBw).trans hB1)
 have H1:=Zac hR1
 have Hva:=Zac hva
 have hsz2:B≤w1.heap.size:=by omega
 have hrb1:rb<w1.heap.size:=by omega
 have hg1:g<w1.heap.size:=by omega
 clear h1 hat hva hg hR1 hB1 Hat1 Hat2 hbl hk1
 go_wp2_with fail
 go_region_law (refine Zcs ((w1.setCell ⟨g,n * 3+2,none⟩ (.int .i64 ((so.args:Int)+1))).drewN 1) rfl (.tmp 24) (.tmp 26) 72 rfl B 102 Tryz.infoSym Tryz.underlying72 rfl (by decide) (.slice (some ⟨g,0,none⟩) st.atom.length acap) st.atom.length (Zaj (Zcn st)) rfl HAT.out #[.string ⟨s.name.toArray⟩,.int .i64 s.num,.int .i64 s.args] rfl (by simp) rfl (Zhk _ _ _) (by omega) (by simp; omega) rfl ?_; intro v' w2 hap; obtain ⟨a1,a1cap,rfl⟩:=Zad hap.owns; have hblk1:=Zft hap.kept H1.out.blk (Zag HAT.out (by decide) H1.out.blk); have d3:w2.cell? ⟨rb,3,none⟩=some V.a:=Zaa hblk1 3 _ rfl; have df:=fun i=>Zae hblk1 i; have Hap:=Zac hap; clear hap hblk1)
 all_goals
  go_end0
  have hap:=Hap.out
  rw [← Hva.out] at hap
  rw [← Hbl.out] at hap
  obtain ⟨hR,hB⟩:=Ych H1.out hap
  simp only [Hbl.out] at hR hB
  exact ⟨rfl,⟨_,Sa,Sb,vs,xs,hR⟩,HB1.out.trans hB⟩
def Zap (st:RS):RS:=if st.inBody then { st with body:=st.body++[st.atom],atom:=[] } else { st with head:=st.atom,atom:=[] }
theorem Zeb (a:Option Addr) (n c:Nat):∀ u ∈ (#[Value.slice a n c]:Array Value).toList,u.oneCell'=true:=by
  intro u hu
  simp at hu
  subst hu
  rfl
theorem Zjh (w:World) (B rb:Nat) (st:RS) (h:IsRx w B rb st) (hb:RBd st) :
    Calls Tryz.prog 88 #[.pointer (some ⟨rb,0,none⟩)] w fun e w'=>e = .returned (.tuple #[])∧IsRx w' B rb (Zap st)∧Held B w w':=by
  obtain ⟨V,Sa,Sb,vs,xs,h⟩:=h
  have hrb:=Zab h.blk
  have hBw:B≤w.heap.size:=by have:=h.le; omega
  obtain ⟨c0,c1,c2,c3,c4,c5,c6,c7,c8⟩:=h.opens.facts
  have hf:=fun i=>Zae h.blk i
  obtain ⟨aa,acap,hva⟩:=Zad h.rest.atom
  obtain ⟨ba,bcap,hvb⟩:=Zad h.rest.body.1
  have hlb:=hb.body
  have hbr:=h.rest.body.1
  rw [hvb] at hbr c6
  rw [hva] at c3
  obtain ⟨ha,hac,hvh⟩:=Zad h.rest.head.1
  rw [hvh] at c5
  have H:=Zac h
  have Hbr:=Zac hbr
  have Hva:=Zac hva
  have Hvb:=Zac hvb
  cases hin:st.inBody
  · rw [hin] at c2
    have He:Hid (Zap st = { st with head:=st.atom,atom:=[] }):=by show _=_; simp [Zap,hin]
    clear h hva hvb hbr hvh hin
    go_enter Tryz.func88,Tryz.ntmps88
    go_wp2
    go_end0
    have hk:Kept (Zeu rb (.slice none 0 0)) w ((w.setCell ⟨rb,5,none⟩ (.slice aa st.atom.length acap)).setCell ⟨rb,3,none⟩ (.slice none 0 0)):=Zdl (Zdl (Qx _ w) 5 _) 3 _
    have hblk:((w.setCell ⟨rb,5,none⟩ (.slice aa st.atom.length acap)).setCell ⟨rb,3,none⟩ (.slice none 0 0)).heap[rb]?=some (.cells (Zdd { st with head:=st.atom,atom:=[] } { V with h:=V.a,a := .slice none 0 0 }) 121 (0,0)):=by
      rw [Zaf (Zaf H.out.blk 5 _) 3 _]
      simp [Zdd,Hva.out]
    rw [He.out]
    exact ⟨rfl,⟨_,_,_,_,_,H.out.headed hk hblk⟩,H.out.below hk (World.ownsRow_nil w B 121 1) (by decide)⟩
  · rw [hin] at c2
    have He:Hid (Zap st = { st with body:=st.body++[st.atom],atom:=[] }):=by show _=_; simp [Zap,hin]
    clear h hva hvb hbr hvh hin
    go_enter Tryz.func88,Tryz.ntmps88
    go_wp2_with fail
    go_region_law (refine Zcs (w.drewN 1) rfl (.tmp 11) (.tmp 16) 63 rfl B 72 Tryz.infoSyms Tryz.underlying63 rfl (by decide) (.slice ba st.body.length bcap) st.body.length vs rfl Hbr.out #[.slice aa st.atom.length acap] rfl (by simp) rfl (Zeb _ _ _) (by omega) (by simp; omega) rfl ?_; intro v' w2 hap; obtain ⟨b1,b1cap,rfl⟩:=Zad hap.owns; have hblk1:=Zft hap.kept H.out.blk (Zag Hbr.out (by decide) H.out.blk); have d3:w2.cell? ⟨rb,3,none⟩=some V.a:=Zaa hblk1 3 _ rfl; have d6:w2.cell? ⟨rb,6,none⟩=some V.b:=Zaa hblk1 6 _ rfl; have df:=fun i=>Zae hblk1 i; have Hap:=Zac hap; have Hblk1:=Zac hblk1; clear hap hblk1)
    all_goals
      rw [Hva.out] at d3
      rw [Hvb.out] at d6
      go_wp2
      go_end0
      have hk:Kept (Zeu rb V.b) w ((w2.setCell ⟨rb,6,none⟩ (.slice b1 (st.body.length+1) b1cap)).setCell ⟨rb,3,none⟩ (.slice none 0 0)):=by
        rw [Hvb.out]
        exact Zdl (Zgz (((Qx _ w).drewN _).trans Hap.out.kept) 6 _) 3 _
      have hblk:((w2.setCell ⟨rb,6,none⟩ (.slice b1 (st.body.length+1) b1cap)).setCell ⟨rb,3,none⟩ (.slice none 0 0)).heap[rb]?=some (.cells (Zdd { st with body:=st.body++[st.atom],atom:=[] } { V with b := .slice b1 (st.body.length+1) b1cap,a := .slice none 0 0 }) 121 (0,0)):=by
        rw [Zaf (Zaf Hblk1.out 6 _) 3 _]
        simp [Zdd]
      have hrow:((w2.setCell ⟨rb,6,none⟩ (.slice b1 (st.body.length+1) b1cap)).setCell ⟨rb,3,none⟩ (.slice none 0 0)).ownsRow B 72 1 (.slice b1 (st.body.length+1) b1cap) (st.body.length+1) (vs++[V.a]):=by
        have h2:=Hap.out.owns
        have h3:=(((Qx (only rb) w2).put 6 (.slice b1 (st.body.length+1) b1cap)).put 3 (.slice none 0 0)).owns h2 (fun k hko e=>by
          have e:k=rb:=e
          rw [e] at hko
          exact Zag h2 (by decide) Hblk1.out hko)
        rw [Hva.out]
        simpa using h3
      have htb:∀ k,(Value.slice b1 (st.body.length+1) b1cap).ownBlock=some k→Sb≤k:=by
        intro k hk
        rcases Hap.out.where_ with hw | ⟨g,hw,hg⟩
        · exact H.out.rest.tb k (by rw [Hvb.out,← hw]; exact hk)
        · rw [hk] at hw
          simp at hw
          have:=H.out.rest.lb
          have hg':w.heap.size≤g:=by simpa using hg
          omega
      rw [He.out]
      exact ⟨rfl,⟨_,_,_,_,_,H.out.bodied hk _ hblk hrow htb⟩,H.out.below hk H.out.rest.body.1 (by decide)⟩
end Go.Proofs.YtlmjilpjmgjjcabGreatDoor
namespace Go.Proofs.YtlmjilpjmgjjcabGreatDoor
open Go.RowKit
set_option linter.unusedSimpArgs false
set_option linter.unusedVariables false
theorem IsRx.next {w:World} {B rb:Nat} {st:RS} (h:IsRx w B rb st) (n:Nat):IsRx (w.setCell ⟨rb,1,none⟩ (.int .i64 n)) B rb { st with next:=n }∧Held B w (w.setCell ⟨rb,1,none⟩ (.int .i64 n)):=by
  obtain ⟨V,Sa,Sb,vs,xs,h⟩:=h
  have hk:Kept (Zeu rb (.slice none 0 0)) w (w.setCell ⟨rb,1,none⟩ (.int .i64 n)):=Zdl (Qx _ w) 1 _
  exact ⟨⟨V,Sa,Sb,vs,xs,h.only hk { st with next:=n } (Zaf h.blk 1 _) rfl rfl rfl rfl rfl rfl⟩,h.below hk (World.ownsRow_nil w B 121 1) (by decide)⟩
theorem IsRx.inb {w:World} {B rb:Nat} {st:RS} (h:IsRx w B rb st) (b:Bool):IsRx (w.setCell ⟨rb,2,none⟩ (.bool b)) B rb { st with inBody:=b }∧Held B w (w.setCell ⟨rb,2,none⟩ (.bool b)):=by
  obtain ⟨V,Sa,Sb,vs,xs,h⟩:=h
  have hk:Kept (Zeu rb (.slice none 0 0)) w (w.setCell ⟨rb,2,none⟩ (.bool b)):=Zdl (Qx _ w) 2 _
  exact ⟨⟨V,Sa,Sb,vs,xs,h.only hk { st with inBody:=b } (Zaf h.blk 2 _) rfl rfl rfl rfl rfl rfl⟩,h.below hk (World.ownsRow_nil w B 121 1) (by decide)⟩
theorem IsRx.cells {w:World} {B rb:Nat} {st:RS} (h:IsRx w B rb st):rb<w.heap.size∧w.cell? ⟨rb,0,none⟩=some (.bool st.query)∧w.cell? ⟨rb,1,none⟩=some (.int .i64 st.next)∧w.cell? ⟨rb,2,none⟩=some (.bool st.inBody) ∧
    (∃ oa oc,w.cell? ⟨rb,4,none⟩=some (.slice oa st.opn.length oc))∧∀ i,w.frozen? ⟨rb,i,none⟩=false:=by
  obtain ⟨V,Sa,Sb,vs,xs,h⟩:=h
  obtain ⟨c0,c1,c2,c3,c4,c5,c6,c7,c8⟩:=h.opens.facts
  obtain ⟨oa,oc,hvo⟩:=Zad h.rest.opn
  rw [hvo] at c4
  exact ⟨Zab h.blk,c0,c1,c2,⟨oa,oc,c4⟩,fun i=>Zae h.blk i⟩
def Zgk (st:RS):RS:=if st.opn.isEmpty then { Zap st with next:=1 } else { st with next:=2 }
theorem Yci (w:World) (B rb:Nat) (st:RS) (h:IsRx w B rb st) (hb:RBd st) :
    Calls Tryz.prog 87 #[.pointer (some ⟨rb,0,none⟩)] w fun e w'=>e = .returned (.tuple #[])∧IsRx w' B rb (Zgk st)∧Held B w w':=by
  obtain ⟨hrb,c0,c1,c2,⟨oa,oc,c4⟩,hf⟩:=h.cells
  have hl:=hb.opn
  have H:=Zac h
  have HE:=Zac (Zjh w B rb st h hb)
  cases hst:st.opn with
  | nil =>
    simp only [hst,Jt] at c4
    have Hc:Hid (Zgk st = { Zap st with next:=1 }):=by show _=_; simp [Zgk,hst]
    clear h hst
    go_enter Tryz.func87,Tryz.ntmps87
    go_wp2_with fail
    refine HE.out.mono ?_
    rintro e w1 ⟨rfl,h1,hB1⟩
    obtain ⟨hrb1,d0,d1,d2,_,df⟩:=h1.cells
    have H1:=Zac h1
    have HB1:=Zac hB1
    clear h1 hB1 c0 c1 c2 c4 hf
    go_wp2
    go_end0
    obtain ⟨hR,hB⟩:=H1.out.next 1
    rw [Hc.out]
    exact ⟨rfl,hR,HB1.out.trans hB⟩
  | cons n r =>
    have hrl:r.length+1≤4096:=by rw [hst] at hl; simpa using hl
    simp only [hst,Qf] at c4
    have Hc:Hid (Zgk st = { st with next:=2 }):=by show _=_; simp [Zgk,hst]
    clear h hst
    go_enter Tryz.func87,Tryz.ntmps87
    go_wp2
    refine bodyPost_ret (results_none rfl _ _ _) rfl ?_
    obtain ⟨hR,hB⟩:=H.out.next 2
    rw [Hc.out]
    exact ⟨rfl,hR,hB⟩
def Zan (st:RS):RS := { st with clauses:=st.clauses++[⟨st.head,st.body,st.vars⟩],head:=[],body:=[],vars:=[],inBody:=false,next:=if st.query then 5 else 0 }
theorem Yfz (a b c:Option Addr) (n m k x y z:Nat):∀ u ∈ (#[Value.slice a n x,.slice b m y,.slice c k z]:Array Value).toList,u.oneCell'=true:=by
  intro u hu
  simp at hu
  rcases hu with rfl | rfl | rfl <;> rfl
def Zof (w:World) (rb:Nat) (c:Value):World:=(((((w.setCell ⟨rb,8,none⟩ c).setCell ⟨rb,5,none⟩ (.slice none 0 0)).setCell ⟨rb,6,none⟩ (.slice none 0 0)).setCell ⟨rb,7,none⟩ (.slice none 0 0)).setCell ⟨rb,2,none⟩ (.bool false)).setCell ⟨rb,1,none⟩ (.int .i64 0)
theorem Zub {w w2:World} {B rb nd:Nat} {st:RS} {V:RV} {Sa Sb:Nat} {vs:List Value} {xs:List (List Value)} {a1:Option Addr} {a1cap:Nat} (H:IsR w B rb st V Sa Sb vs xs)
    (hap:Appended (w.drewN nd) B 74 3 V.c (st.clauses.length+1) (xs.flatten++[V.h,V.b,V.v]) (.slice a1 (st.clauses.length+1) a1cap) w2) :
    IsRx (Zof w2 rb (.slice a1 (st.clauses.length+1) a1cap)) B rb { Zan st with next:=0 }∧Held B w (Zof w2 rb (.slice a1 (st.clauses.length+1) a1cap)):=by
  have hblk1:=Zft hap.kept H.blk (Zag H.rest.cls.1 (by decide) H.blk)
  have hk:Kept (Zeu rb V.c) w (Zof w2 rb (.slice a1 (st.clauses.length+1) a1cap)) :=
    Zdl (Zdl (Zdl (Zdl (Zdl (Zgz (((Qx _ w).drewN _).trans hap.kept) 8 _) 5 _) 6 _) 7 _) 2 _) 1 _
  have hblk:(Zof w2 rb (.slice a1 (st.clauses.length+1) a1cap)).heap[rb]?=some (.cells (Zdd { Zan st with next:=0 } { V with c := .slice a1 (st.clauses.length+1) a1cap,h := .slice none 0 0,b := .slice none 0 0,v := .slice none 0 0 }) 121 (0,0)):=by
    unfold Zof
    rw [Zaf (Zaf (Zaf (Zaf (Zaf (Zaf hblk1 8 _) 5 _) 6 _) 7 _) 2 _) 1 _]
    simp [Zdd,Zan]
  have hrow:(Zof w2 rb (.slice a1 (st.clauses.length+1) a1cap)).ownsRow B 74 3 (.slice a1 (st.clauses.length+1) a1cap) (st.clauses.length+1) (xs.flatten++[V.h,V.b,V.v]):=by
    have h2:=hap.owns
    exact ((((((((Qx (only rb) w2).put 8 _).put 5 _).put 6 _).put 7 _).put 2 _).put 1 _)).owns h2 (fun k hko e=>by
      have e:k=rb:=e
      rw [e] at hko
      exact Zag h2 (by decide) hblk1 hko)
  exact ⟨⟨_,_,_,_,_,H.clausd hk _ { Zan st with next:=0 } hblk hrow rfl rfl rfl rfl rfl rfl⟩,H.below hk H.rest.cls.1 (by decide)⟩
theorem Zpn (w:World) (B rb:Nat) (st:RS) (h:IsRx w B rb st) (hb:RBd st) :
    Calls Tryz.prog 89 #[.pointer (some ⟨rb,0,none⟩)] w fun e w'=>e = .returned (.tuple #[])∧IsRx w' B rb (Zan st)∧Held B w w':=by
  obtain ⟨V,Sa,Sb,vs,xs,h⟩:=h
  have hrb:=Zab h.blk
  have hBw:B≤w.heap.size:=by have:=h.le; omega
  obtain ⟨c0,c1,c2,c3,c4,c5,c6,c7,c8⟩:=h.opens.facts
  have hf:=fun i=>Zae h.blk i
  obtain ⟨ca,ccap,hvc⟩:=Zad h.rest.cls.1
  obtain ⟨ha,hac,hvh⟩:=Zad h.rest.head.1
  obtain ⟨ba,bcap,hvb⟩:=Zad h.rest.body.1
  obtain ⟨va,vcap,hvv⟩:=Zad h.rest.vars
  have hlc:=hb.cls
  have hcr:=h.rest.cls.1
  rw [hvc] at hcr c8
  rw [hvh] at c5
  rw [hvb] at c6
  rw [hvv] at c7
  have H:=Zac h
  have Hcr:=Zac hcr
  have Hvh:=Zac hvh
  have Hvb:=Zac hvb
  have Hvc:=Zac hvc
  have Hvv:=Zac hvv
  cases hq:st.query
  all_goals
    rw [hq] at c0
    have Hq:=Zac hq
    clear h hvc hvh hvb hvv hcr hq
    go_enter Tryz.func89,Tryz.ntmps89
    go_wp2_with fail
    go_region_law (refine Zcs (w.drewN 1) rfl (.tmp 6) (.tmp 11) 71 rfl B 74 Tryz.infoCls Tryz.underlying71 rfl (by decide) (.slice ca st.clauses.length ccap) st.clauses.length xs.flatten rfl Hcr.out #[.slice ha st.head.length hac,.slice ba st.body.length bcap,.slice va st.vars.length vcap] rfl (by simp) rfl (Yfz _ _ _ _ _ _ _ _ _) (by omega) (by simp; omega) rfl ?_; intro v' w2 hap; obtain ⟨c1',c1cap,rfl⟩:=Zad hap.owns; have hblk1:=Zft hap.kept H.out.blk (Zag Hcr.out (by decide) H.out.blk); have d0:w2.cell? ⟨rb,0,none⟩=some (.bool st.query):=Zaa hblk1 0 _ rfl; have d1:w2.cell? ⟨rb,1,none⟩=some (.int .i64 st.next):=Zaa hblk1 1 _ rfl; have d2:w2.cell? ⟨rb,2,none⟩=some (.bool st.inBody):=Zaa hblk1 2 _ rfl; have d5:w2.cell? ⟨rb,5,none⟩=some V.h:=Zaa hblk1 5 _ rfl; have d6:w2.cell? ⟨rb,6,none⟩=some V.b:=Zaa hblk1 6 _ rfl; have d7:w2.cell? ⟨rb,7,none⟩=some V.v:=Zaa hblk1 7 _ rfl; have d8:w2.cell? ⟨rb,8,none⟩=some V.c:=Zaa hblk1 8 _ rfl; have df:=fun i=>Zae hblk1 i; have Hap:=Zac hap; have Hblk1:=Zac hblk1; clear hap hblk1)
  all_goals
    rw [Hvh.out] at d5; rw [Hvb.out] at d6; rw [Hvv.out] at d7; rw [Hvc.out] at d8; rw [Hq.out] at d0
    go_wp2
    go_end0
    have hap:=Hap.out
    rw [← Hvh.out,← Hvb.out,← Hvv.out,← Hvc.out] at hap
    obtain ⟨hR,hB⟩:=Zub H.out hap
    first
    | (have He:Zan st = { Zan st with next:=0 }:=by simp [Zan,Hq.out]
       rw [He]
       exact ⟨rfl,hR,hB⟩)
    | (have He:Zan st = { { Zan st with next:=0 } with next:=5 }:=by simp [Zan,Hq.out]
       obtain ⟨hR5,hB5⟩:=hR.next 5
       rw [He]
       exact ⟨rfl,hR5,hB.trans hB5⟩)
def Zbj (st:RS) (kd:Nat) (t:List UInt8):RS :=
 if kd=1 then { addS st ⟨t,0,0⟩ with next:=3 }
 else if kd=2 then { addS (varS st t) ⟨[],(Zbr st.vars t).2,0⟩ with next:=4 }
 else if kd=3 then { st with opn:=(st.atom.length - 1)::st.opn,next:=2 }
 else if kd=4 then { Zjc st with next:=4 }
 else if kd=5 then Zgk st
 else if kd=7 then { Zap st with inBody:=true,next:=1 }
 else if kd=6 then Zan (Zap st)
 else st
theorem Ycj (w:World) (B rb:Nat) (st:RS) (s:Sym) (h:IsRx w B rb st) (hb:RBd st) (ho:∀ n ∈ st.opn,n<st.atom.length) :
  Calls Tryz.prog 84 #[.pointer (some ⟨rb,0,none⟩),.agg #[.string ⟨s.name.toArray⟩,.int .i64 s.num,.int .i64 s.args]] w fun e w'=>e = .returned (.tuple #[])∧IsRx w' B rb (addS st s)∧Held B w w':=by
 cases hst:st.opn with
 | nil=>exact Yiy w B rb st s h hb hst
 | cons n r=>exact Ykz w B rb st s n r h hb hst (ho n (by simp [hst]))
theorem take1 (w:World) (B rb:Nat) (st:RS) (t:List UInt8) (h:IsRx w B rb st) (hb:RBd st) (ho:∀ n ∈ st.opn,n<st.atom.length) :
  Calls Tryz.prog 68 #[.pointer (some ⟨rb,0,none⟩),.int .i64 1,.string ⟨t.toArray⟩] w fun e w'=>e = .returned (.tuple #[])∧IsRx w' B rb (Zbj st 1 t)∧Held B w w':=by
 have HA:=Zac (Ycj w B rb st ⟨t,0,0⟩ h hb ho)
 clear h ho
 go_enter Tryz.func68,Tryz.ntmps68
 go_wp2_with fail
 refine HA.out.mono ?_
 rintro e w1 ⟨rfl,h1,hB1⟩
 obtain ⟨hrb1,d0,d1,d2,_,df⟩:=h1.cells
 have H1:=Zac h1
 have HB1:=Zac hB1
 clear h1 hB1
 go_wp2
 go_end0
 obtain ⟨hR,hB⟩:=H1.out.next 3
 exact ⟨rfl,hR,HB1.out.trans hB⟩
theorem take2 (w:World) (B rb:Nat) (st:RS) (t:List UInt8) (h:IsRx w B rb st) (hb:RBd st) (hv:st.vars.length≤4096) (ho:∀ n ∈ st.opn,n<st.atom.length) :
  Calls Tryz.prog 68 #[.pointer (some ⟨rb,0,none⟩),.int .i64 2,.string ⟨t.toArray⟩] w fun e w'=>e = .returned (.tuple #[])∧IsRx w' B rb (Zbj st 2 t)∧Held B w w':=by
 have HV:=Zac (Zro w B rb st t h hv)
 have Hb:=Zac hb
 have Ho:=Zac ho
 clear h ho
 go_enter Tryz.func68,Tryz.ntmps68
 go_wp2_with fail
 refine HV.out.mono ?_
 rintro e w0 ⟨rfl,h0,hB0⟩
 have HA:=Zac (Ycj w0 B rb (varS st t) ⟨[],(Zbr st.vars t).2,0⟩ h0 ⟨Hb.out.opn,Hb.out.atom,Hb.out.body,Hb.out.cls,Hb.out.args⟩ Ho.out)
 have HB0:=Zac hB0
 clear h0 hB0
 go_wp2_with fail
 refine HA.out.mono ?_
 rintro e w1 ⟨rfl,h1,hB1⟩
 obtain ⟨hrb1,d0,d1,d2,_,df⟩:=h1.cells
 have H1:=Zac h1
 have HB1:=Zac hB1
 clear h1 hB1
 go_wp2
 go_end0
 obtain ⟨hR,hB⟩:=H1.out.next 4
 exact ⟨rfl,hR,HB0.out.trans (HB1.out.trans hB)⟩
theorem take4 (w:World) (B rb:Nat) (st:RS) (t:List UInt8) (h:IsRx w B rb st) (hb:RBd st) :
  Calls Tryz.prog 68 #[.pointer (some ⟨rb,0,none⟩),.int .i64 4,.string ⟨t.toArray⟩] w fun e w'=>e = .returned (.tuple #[])∧IsRx w' B rb (Zbj st 4 t)∧Held B w w':=by
 have HA:=Zac (Ycf w B rb st h hb.opn)
 clear h
 go_enter Tryz.func68,Tryz.ntmps68
 go_wp2_with fail
 refine HA.out.mono ?_
 rintro e w1 ⟨rfl,h1,hB1⟩
 obtain ⟨hrb1,d0,d1,d2,_,df⟩:=h1.cells
 have H1:=Zac h1
 have HB1:=Zac hB1
 clear h1 hB1
 go_wp2
 go_end0
 obtain ⟨hR,hB⟩:=H1.out.next 4
 exact ⟨rfl,hR,HB1.out.trans hB⟩
theorem take5 (w:World) (B rb:Nat) (st:RS) (t:List UInt8) (h:IsRx w B rb st) (hb:RBd st) :
  Calls Tryz.prog 68 #[.pointer (some ⟨rb,0,none⟩),.int .i64 5,.string ⟨t.toArray⟩] w fun e w'=>e = .returned (.tuple #[])∧IsRx w' B rb (Zbj st 5 t)∧Held B w w':=by
 have HA:=Zac (Yci w B rb st h hb)
 clear h
 go_enter Tryz.func68,Tryz.ntmps68
 go_wp2_with fail
 refine HA.out.mono ?_
 rintro e w1 ⟨rfl,h1,hB1⟩
 have H1:=Zac h1
 have HB1:=Zac hB1
 clear h1 hB1
 go_wp2
 go_end0
 exact ⟨rfl,H1.out,HB1.out⟩
theorem take7 (w:World) (B rb:Nat) (st:RS) (t:List UInt8) (h:IsRx w B rb st) (hb:RBd st) :
  Calls Tryz.prog 68 #[.pointer (some ⟨rb,0,none⟩),.int .i64 7,.string ⟨t.toArray⟩] w fun e w'=>e = .returned (.tuple #[])∧IsRx w' B rb (Zbj st 7 t)∧Held B w w':=by
 have HA:=Zac (Zjh w B rb st h hb)
 clear h
 go_enter Tryz.func68,Tryz.ntmps68
 go_wp2_with fail
 refine HA.out.mono ?_
 rintro e w1 ⟨rfl,h1,hB1⟩
 obtain ⟨hrb1,d0,d1,d2,_,df⟩:=h1.cells
 have H1:=Zac h1
 have HB1:=Zac hB1
 clear h1 hB1
 go_wp2
 go_end0
 obtain ⟨hR,hB⟩:=H1.out.inb true
 obtain ⟨hR2,hB2⟩:=hR.next 1
 exact ⟨rfl,hR2,HB1.out.trans (hB.trans hB2)⟩
theorem RBd.endAtom {st:RS} (hb:RBd st) (h:st.body.length+1≤4096):RBd (Zap st):=by
 unfold Zap
 split
 ·exact ⟨hb.opn,by simp,by simpa using h,hb.cls,by simp⟩
 ·exact ⟨hb.opn,by simp,hb.body,hb.cls,by simp⟩
theorem take6 (w:World) (B rb:Nat) (st:RS) (t:List UInt8) (h:IsRx w B rb st) (hb:RBd st) (hbd:st.body.length+1≤4096) :
  Calls Tryz.prog 68 #[.pointer (some ⟨rb,0,none⟩),.int .i64 6,.string ⟨t.toArray⟩] w fun e w'=>e = .returned (.tuple #[])∧IsRx w' B rb (Zbj st 6 t)∧Held B w w':=by
 have HA:=Zac (Zjh w B rb st h hb)
 have Hb:=Zac (hb.endAtom hbd)
 clear h
 go_enter Tryz.func68,Tryz.ntmps68
 go_wp2_with fail
 refine HA.out.mono ?_
 rintro e w1 ⟨rfl,h1,hB1⟩
 have HC:=Zac (Zpn w1 B rb (Zap st) h1 Hb.out)
 have HB1:=Zac hB1
 clear h1 hB1
 go_wp2_with fail
 refine HC.out.mono ?_
 rintro e w2 ⟨rfl,h2,hB2⟩
 have H2:=Zac h2
 have HB2:=Zac hB2
 clear h2 hB2
 go_wp2
 go_end0
 exact ⟨rfl,H2.out,HB1.out.trans HB2.out⟩
theorem take3 (w:World) (B rb:Nat) (st:RS) (t:List UInt8) (h:IsRx w B rb st) (hb:RBd st) (hne:0<st.atom.length) :
  Calls Tryz.prog 68 #[.pointer (some ⟨rb,0,none⟩),.int .i64 3,.string ⟨t.toArray⟩] w fun e w'=>e = .returned (.tuple #[])∧IsRx w' B rb (Zbj st 3 t)∧Held B w w':=by
 obtain ⟨V,Sa,Sb,vs,xs,h⟩:=h
 have hrb:=Zab h.blk
 have hBw:B≤w.heap.size:=by have:=h.le; omega
 obtain ⟨c0,c1,c2,c3,c4,c5,c6,c7,c8⟩:=h.opens.facts
 have hf:=fun i=>Zae h.blk i
 obtain ⟨aa,acap,hva⟩:=Zad h.rest.atom
 obtain ⟨oa,ocap,hvo⟩:=Zad h.rest.opn
 have hlo:=hb.opn
 have hla:=hb.atom
 have hor:=h.rest.opn
 rw [hvo] at hor c4
 rw [hva] at c3
 have H:=Zac h
 have Hor:=Zac hor
 have Hvo:=Zac hvo
 have hcast:IntKind.i64.wrap (((st.atom.length:Nat):Int) - 1)=((st.atom.length - 1:Nat):Int):=by rw [IntKind.wrap_i64]; omega
 clear h hva hvo hor
 go_enter Tryz.func68,Tryz.ntmps68
 go_wp2_with fail
 go_region_law (refine Zcs (w.drewN 1) rfl (.tmp 35) (.tmp 42) 22 rfl B 3 Tryz.infoInt Tryz.underlying22 rfl (by decide) (.slice oa st.opn.length ocap) st.opn.length (ints st.opn.reverse) rfl Hor.out #[.int .i64 ((st.atom.length - 1:Nat):Int)] rfl (by simp) rfl (Zib _) (by omega) (by simp; omega) rfl ?_; intro v' w2 hap; obtain ⟨o1,o1cap,rfl⟩:=Zad hap.owns; have hblk1:=Zft hap.kept H.out.blk (Zag Hor.out (by decide) H.out.blk); have d1:w2.cell? ⟨rb,1,none⟩=some (.int .i64 st.next):=Zaa hblk1 1 _ rfl; have d4:w2.cell? ⟨rb,4,none⟩=some V.o:=Zaa hblk1 4 _ rfl; have df:=fun i=>Zae hblk1 i; have Hap:=Zac hap; have Hblk1:=Zac hblk1; clear hap hblk1)
 all_goals
  rw [Hvo.out] at d4
  go_wp2
  go_end0
  have hk:Kept (Zeu rb V.o) w (w2.setCell ⟨rb,4,none⟩ (.slice o1 (st.opn.length+1) o1cap)):=by
   rw [Hvo.out]
   exact Zgz (((Qx _ w).drewN _).trans Hap.out.kept) 4 _
  have hrow:(w2.setCell ⟨rb,4,none⟩ (.slice o1 (st.opn.length+1) o1cap)).ownsRow B 3 1 (.slice o1 (st.opn.length+1) o1cap) ((st.atom.length - 1)::st.opn).length (ints ((st.atom.length - 1)::st.opn).reverse):=by
   have h2:=Hap.out.owns
   have h3:=((Qx (only rb) w2).put 4 (.slice o1 (st.opn.length+1) o1cap)).owns h2 (fun k hko e=>by
    have e:k=rb:=e
    rw [e] at hko
    exact Zag h2 (by decide) Hblk1.out hko)
   simpa [ints,hcast] using h3
  have hR:=H.out.opened hk ((st.atom.length - 1)::st.opn) (.slice o1 (st.opn.length+1) o1cap) (Zaf Hblk1.out 4 _) hrow
  have hB:=H.out.below hk H.out.rest.opn (by decide)
  obtain ⟨hR2,hB2⟩:=IsRx.next ⟨_,Sa,Sb,vs,xs,hR⟩ 2
  exact ⟨rfl,hR2,hB.trans hB2⟩
structure TakeOk (st:RS) (kd:Nat):Prop where
 bd:RBd st
 vars:st.vars.length≤4096
 body:st.body.length+1≤4096
 opn:∀ n ∈ st.opn,n<st.atom.length
 lo:1≤kd
 hi:kd≤7
 bracket:kd=3→0<st.atom.length
theorem Yga (w:World) (B rb:Nat) (st:RS) (kd:Nat) (t:List UInt8) (h:IsRx w B rb st) (hk:TakeOk st kd) :
  Calls Tryz.prog 68 #[.pointer (some ⟨rb,0,none⟩),.int .i64 kd,.string ⟨t.toArray⟩] w fun e w'=>e = .returned (.tuple #[])∧IsRx w' B rb (Zbj st kd t)∧Held B w w':=by
 obtain ⟨bd,vars,body,opn,lo,hi,bracket⟩:=hk
 have hc:kd=1∨kd=2∨kd=3∨kd=4∨kd=5∨kd=6∨kd=7:=by omega
 rcases hc with rfl | rfl | rfl | rfl | rfl | rfl | rfl
 ·exact take1 w B rb st t h bd opn
 ·exact take2 w B rb st t h bd vars opn
 ·exact take3 w B rb st t h bd (bracket rfl)
 ·exact take4 w B rb st t h bd
 ·exact take5 w B rb st t h bd
 ·exact take6 w B rb st t h bd body
 ·exact take7 w B rb st t h bd
end Go.Proofs.YtlmjilpjmgjjcabGreatDoor
namespace Go.Proofs.YtlmjilpjmgjjcabGreatDoor
def okk (ts:List Tok) (L:LookS):Prop:=(Zgv ts L).1=0
def fin:List Tok→Prop
 | []=>False
 | t::ts=>t.kind=4∨fin ts
theorem Zfd {t:Tok} {ts:List Tok} {L:LookS} (h:okk (t::ts) L) (hn:¬ (t.kind=4∧(L.want=5∨L.want=0))):(Zce L t.kind t.text.length).err=0∧okk ts (Zce L t.kind t.text.length):=by
 unfold okk at h
 rw [Zgv,if_neg hn] at h
 by_cases he:(Zce L t.kind t.text.length).err=0
 ·rw [if_neg (by simp [he])] at h
  exact ⟨he,h⟩
 ·rw [if_pos he] at h
  exact absurd h he
structure Aft (rest:List Tok) (L L':LookS) (stk:List Nat):Prop where
 ok:okk rest L'
 fin:fin rest
 want:L'.want=4∨(L'.want=3∧∀ y ys,rest=y::ys→y.kind≠40)
 stk:L'.stk=stk
 err:L'.err=0
 query:L'.query=L.query
 body:L'.body=(if L.want=0 then false else L.body)
theorem Zfz {L:LookS} {kd tn:Nat} (he:L.err=0) (h:(Zbi L kd tn).err=0):kd=1∨(kd=2∧L.want=2):=by
 unfold Zbi at h
 split at h
 ·simp at h
 ·omega
theorem Zjz {L:LookS} {kd tn:Nat} (h:(Zbi L kd tn).err=0) (hk:kd=1∨(kd=2∧L.want=2)) :
  (Zbi L kd tn).want=(if kd=1 then 3 else 4)∧(Zbi L kd tn).stk=(Zcq L).stk∧(Zbi L kd tn).query=L.query∧(Zbi L kd tn).body=(if L.want=0 then false else L.body):=by
 have hn:¬ (kd≠1∧(kd≠2∨L.want≠2)):=by omega
 unfold Zbi
 rw [if_neg hn]
 refine ⟨rfl,rfl,?_,?_⟩
 ·show (Zcq L).query=_
  unfold Zcq
  split
  ·rfl
  ·split
   ·rfl
   ·split <;> rfl
 ·show (Zcq L).body=_
  unfold Zcq
  split
  ·rfl
  ·split
   ·rfl
   ·split <;> rfl
theorem Yii {y:Tok} {ys:List Tok} {L L':LookS} {n:Nat} {r:List Nat} (h:Aft (y::ys) L L' (n::r)) :
  (y.kind=44∧okk ys (Zal L' 44)∧fin ys∧(Zal L' 44) = { L' with want:=2 })∨(y.kind=41∧okk ys (Zal L' 41)∧fin ys∧(Zal L' 41) = { L' with stk:=r,want:=4 }):=by
 have hw:¬ L'.want≤2∧L'.want≠5∧L'.want≠0:=by rcases h.want with hw | ⟨hw,_⟩ <;> omega
 have h4:¬ (y.kind=4∧(L'.want=5∨L'.want=0)):=by omega
 obtain ⟨he,ho⟩:=Zfd h.ok h4
 unfold Zce at he ho
 rw [if_neg hw.1,if_neg hw.2.1] at he ho
 have hst:=h.stk
 have h40:¬ (y.kind=40∧L'.want=3):=by
  rintro ⟨h1,h2⟩
  rcases h.want with hw | ⟨_,hw⟩
  ·omega
  ·exact hw y ys rfl h1
 have hfin:y.kind≠4→fin ys:=fun hy=>by
  rcases h.fin with h | h
  ·exact absurd h hy
  ·exact h
 by_cases h44:y.kind=44
 ·left
  rw [h44] at ho
  exact ⟨h44,ho,hfin (by omega),by simp [Zal,hst]⟩
 ·by_cases h41:y.kind=41
  ·right
   rw [h41] at ho
   exact ⟨h41,ho,hfin (by omega),by simp [Zal,hst]⟩
  ·exfalso
   simp [Zal,hst,h44,h41] at he
   split at he
   ·rename_i hc; exact h40 hc
   ·simp at he
def Yij (n:Nat):Prop:=∀ (ts:List Tok) (L:LookS) (f:Nat) (names:Names),ts.length≤n→ts.length≤f→okk ts L→fin ts→L.want≤2→L.err=0→(L.want=2→L.stk≠[])→(∀ t r,ts=t::r→t.kind≠4) →
 ∃ r L',Zda f ts names=some r∧Aft r.2.1 L L' (Zcq L).stk∧r.2.1.length<ts.length
theorem Yiz (n f:Nat) (IH:Yij n):∀ (g:Nat) (x:Tok) (xs:List Tok) (L:LookS) (m:Nat) (r:List Nat) (names:Names) (acc:List (List Sym)),xs.length≤n→xs.length≤f→xs.length+1≤g→x.kind≠41 →
  okk xs L→fin xs→L.want=2→L.stk=m::r→L.err=0 →
  ∃ q L',Zeo (Zda f) g (x::xs) names acc=some q∧Aft q.2.1 L L' r∧q.2.1.length<xs.length:=by
 intro g
 induction g with
 | zero=>intro x xs L m r names acc h1 h1' h2; omega
 | succ g ih =>
  intro x xs L m r names acc h1 h1' h2 h41 hok hfin hw hst he
  have hx4:∀ t r,xs=t::r→t.kind≠4:=by
   rintro t r rfl h4
   have:=(Zfd hok (by omega)).1
   unfold Zce at this
   rw [if_pos (by omega)] at this
   rcases Zfz he this with h | h <;> omega
  obtain ⟨r1,L1,hp,ha,hl⟩:=IH xs L f names h1 (by omega) hok hfin (by omega) he (by rw [hst]; simp) hx4
  have hls:(Zcq L).stk=(m+1)::r:=by simp [Zcq,hw,hst]
  rw [hls] at ha
  rw [Zeo,if_neg h41,hp]
  simp only
  cases hr:r1.2.1 with
  | nil=>rw [hr] at ha; exact ha.fin.elim
  | cons y ys =>
   rw [hr] at ha hl
   simp only [Qf] at hl
   rcases Yii ha with ⟨hy,ho,hf,hE⟩ | ⟨hy,ho,hf,hE⟩
   ·obtain ⟨q,L2,h5,h6,h7⟩:=ih y ys (Zal L1 44) (m+1) r r1.2.2 (acc++[r1.1]) (by omega) (by omega) (by omega) (by omega) ho hf (by rw [hE]) (by rw [hE]; exact ha.stk) (by rw [hE]; exact ha.err)
    refine ⟨q,L2,h5,⟨h6.ok,h6.fin,h6.want,h6.stk,h6.err,?_,?_⟩,by omega⟩
    ·rw [h6.query,hE]; exact ha.query
    ·rw [h6.body,hE]
     have:=ha.body
     simp [hw] at this ⊢
     exact this
   ·refine ⟨(acc++[r1.1],ys,r1.2.2),Zal L1 41,?_,⟨ho,hf,Or.inl (by rw [hE]),by rw [hE],by rw [hE]; exact ha.err,by rw [hE]; exact ha.query,by rw [hE]; exact ha.body⟩,by simp; omega⟩
    cases g with
    | zero=>omega
    | succ g=>rw [Zeo,if_pos hy]
theorem Yck:∀ n,Yij n:=by
 intro n
 induction n with
 | zero =>
  intro ts L f names h1 h2 hok hfin
  cases ts with
  | nil=>exact hfin.elim
  | cons t ts=>simp at h1
 | succ n IH =>
  intro ts L f names h1 h2 hok hfin hw he hst hne
  cases ts with
  | nil=>exact hfin.elim
  | cons t ts =>
   have h4:=hne t ts rfl
   simp only [Qf] at h1 h2
   cases f with
   | zero=>omega
   | succ f =>
    obtain ⟨he1,ho1⟩:=Zfd hok (by omega)
    unfold Zce at he1 ho1
    rw [if_pos hw] at he1 ho1
    have hk:=Zfz he he1
    obtain ⟨k1,k2,k3,k4⟩:=Zjz he1 hk
    have hfin1:fin ts:=by
     rcases hfin with h | h
     ·exact absurd h h4
     ·exact h
    by_cases hv:t.kind=2
    ·rw [Zda,if_pos hv]
     exact ⟨_,Zbi L t.kind t.text.length,rfl,⟨ho1,hfin1,Or.inl (by rw [k1,hv]; rfl),k2,he1,k3,k4⟩,by simp⟩
    ·have hk1:t.kind=1:=by omega
     rw [Zda,if_neg hv]
     cases ts with
     | nil=>exact hfin1.elim
     | cons u us =>
      rw [Zju]
      simp only [Qf] at h1 h2
      rw [if_pos hk1] at k1
      by_cases hu:u.kind=40
      ·rw [if_neg (by simp [hu])]
       obtain ⟨he2,ho2⟩:=Zfd ho1 (by omega)
       unfold Zce at he2 ho2
       rw [if_neg (by omega),if_neg (by omega),hu] at he2 ho2
       have hE:Zal (Zbi L t.kind t.text.length) 40 = { Zbi L t.kind t.text.length with stk:=0::(Zbi L t.kind t.text.length).stk,want:=2 }:=by
        simp [Zal,k1]
       have hfin2:fin us:=by
        rcases hfin1 with h | h
        ·omega
        ·exact h
       obtain ⟨q,L2,h5,h6,h7⟩:=Yiz n f IH (us.length+1) u us _ 0 (Zcq L).stk names [] (by omega) (by omega) (by omega) (by omega) ho2 hfin2 (by rw [hE]) (by rw [hE,← k2]) (by rw [hE]; exact he1)
       rw [h5]
       refine ⟨_,L2,rfl,⟨h6.ok,h6.fin,h6.want,h6.stk,h6.err,?_,?_⟩,by simp; omega⟩
       ·rw [h6.query,hE]; exact k3
       ·rw [h6.body,hE]
        simpa using k4
      ·rw [if_pos hu]
       refine ⟨_,Zbi L t.kind t.text.length,rfl,⟨ho1,hfin1,Or.inr ⟨k1,?_⟩,k2,he1,k3,k4⟩,by simp⟩
       intro y ys hy
       simp at hy
       rw [← hy.1]; exact hu
end Go.Proofs.YtlmjilpjmgjjcabGreatDoor
namespace Go.Proofs.YtlmjilpjmgjjcabGreatDoor
open Go.RowKit
theorem Zpo {y:Tok} {ys:List Tok} {L L':LookS} (h:Aft (y::ys) L L' []) :
  (y.kind=44∧L'.body=true∧okk ys (Zal L' 44)∧fin ys∧(Zal L' 44) = { L' with want:=1 }) ∨
  (y.kind=3∧L'.body=false∧okk ys (Zal L' 3)∧fin ys∧(Zal L' 3) = { L' with body:=true,goals:=0,want:=1 }) ∨
  (y.kind=46∧okk ys (Zal L' 46)∧fin ys∧(Zal L' 46) = { L' with want:=if L'.query then 5 else 0 }):=by
 have hw:¬ L'.want≤2∧L'.want≠5∧L'.want≠0:=by rcases h.want with hw | ⟨hw,_⟩ <;> omega
 have h4:¬ (y.kind=4∧(L'.want=5∨L'.want=0)):=by omega
 obtain ⟨he,ho⟩:=Zfd h.ok h4
 unfold Zce at he ho
 rw [if_neg hw.1,if_neg hw.2.1] at he ho
 have hst:=h.stk
 have h40:¬ (y.kind=40∧L'.want=3):=by
  rintro ⟨h1,h2⟩
  rcases h.want with hw | ⟨_,hw⟩
  ·omega
  ·exact hw y ys rfl h1
 have hfin:y.kind≠4→fin ys:=fun hy=>by
  rcases h.fin with h | h
  ·exact absurd h hy
  ·exact h
 by_cases h44:y.kind=44
 ·left
  rw [h44] at ho he
  cases hb:L'.body
  ·simp [Zal,hst,hb] at he
  ·exact ⟨h44,rfl,ho,hfin (by omega),by simp [Zal,hst,hb]⟩
 ·by_cases h3:y.kind=3
  ·right; left
   rw [h3] at ho he
   cases hb:L'.body
   ·exact ⟨h3,rfl,ho,hfin (by omega),by simp [Zal,hst,hb]⟩
   ·simp [Zal,hst,hb] at he
  ·by_cases h46:y.kind=46
   ·right; right
    rw [h46] at ho he
    refine ⟨h46,ho,hfin (by omega),?_⟩
    cases hq:L'.query <;> simp [Zal,hst,hq]
   ·exfalso
    simp [Zal,hst,h44,h3,h46] at he
    split at he
    ·rename_i hc; exact h40 hc
    ·simp at he
theorem Ycl {ts:List Tok} {L:LookS} (hok:okk ts L) (hw:L.want=1) (he:L.err=0):∀ t r,ts=t::r→t.kind≠4:=by
 rintro t r rfl h4
 have:=(Zfd hok (by omega)).1
 unfold Zce at this
 rw [if_pos (by omega)] at this
 rcases Zfz he this with h | h <;> omega
theorem Zwn:∀ (g:Nat) (ts:List Tok) (L:LookS) (names:Names) (acc:List (List Sym)),ts.length≤g→ts.length≤1000→okk ts L→fin ts→L.want=1→L.stk=[]→L.body=true→L.err=0 →
  ∃ q L',Zdh 1000 g ts names acc=some q∧okk q.2.1 L'∧fin q.2.1∧L'.want=(if L.query then 5 else 0)∧L'.stk=[]∧L'.err=0∧L'.query=L.query∧q.2.1.length<ts.length:=by
 intro g
 induction g with
 | zero =>
  intro ts L names acc h1 h2 hok hfin
  cases ts with
  | nil=>exact hfin.elim
  | cons t ts=>simp at h1
 | succ g ih =>
  intro ts L names acc h1 h2 hok hfin hw hst hb he
  obtain ⟨r1,L1,hp,ha,hl⟩:=Yck ts.length ts L 1000 names (Qe _) h2 hok hfin (by omega) he (by omega) (Ycl hok hw he)
  have hls:(Zcq L).stk=[]:=by simp [Zcq,hw,hst]
  rw [hls] at ha
  have hb1:L1.body=true:=by rw [ha.body,if_neg (by omega)]; exact hb
  rw [Zdh,hp]
  simp only
  cases hr:r1.2.1 with
  | nil=>rw [hr] at ha; exact ha.fin.elim
  | cons y ys =>
   rw [hr] at ha hl
   simp only [Qf] at hl
   simp only
   rcases Zpo ha with ⟨hy,_,ho,hf,hE⟩ | ⟨hy,hb2,_⟩ | ⟨hy,ho,hf,hE⟩
   ·rw [if_neg (by omega)]
    obtain ⟨q,L2,h5,h6,h7,h8,h9,h10,h11,h12⟩:=ih ys (Zal L1 44) r1.2.2 (acc++[r1.1]) (by omega) (by omega) ho hf (by rw [hE]) (by rw [hE]; exact ha.stk) (by rw [hE]; exact hb1) (by rw [hE]; exact ha.err)
    have hq:(Zal L1 44).query=L.query:=by rw [hE]; exact ha.query
    rw [hq] at h8 h11
    exact ⟨q,L2,h5,h6,h7,h8,h9,h10,h11,by omega⟩
   ·rw [hb1] at hb2; cases hb2
   ·rw [if_pos hy]
    exact ⟨_,_,rfl,ho,hf,by rw [hE,ha.query],by rw [hE]; exact ha.stk,by rw [hE]; exact ha.err,by rw [hE]; exact ha.query,by simp; omega⟩
theorem Ycm (ts:List Tok) (L:LookS) (h2:ts.length≤1000) (hok:okk ts L) (hfin:fin ts) (hw:L.want=0) (hst:L.stk=[]) (he:L.err=0) (hq:L.query=false) (hne:∀ t r,ts=t::r→t.kind≠4) :
  ∃ c L',Zeq ts=some c∧okk c.2 L'∧fin c.2∧L'.want=0∧L'.stk=[]∧L'.err=0∧L'.query=false∧c.2.length<ts.length:=by
 obtain ⟨r1,L1,hp,ha,hl⟩:=Yck ts.length ts L 1000 [] (Qe _) h2 hok hfin (by omega) he (by omega) hne
 have hls:(Zcq L).stk=[]:=by simp [Zcq,hw,hst]
 rw [hls] at ha
 have hb1:L1.body=false:=by rw [ha.body,if_pos hw]
 rw [Zeq,hp]
 simp only
 cases hr:r1.2.1 with
 | nil=>rw [hr] at ha; exact ha.fin.elim
 | cons y ys =>
  rw [hr] at ha hl
  simp only [Qf] at hl
  simp only
  rcases Zpo ha with ⟨hy,hb2,_⟩ | ⟨hy,_,ho,hf,hE⟩ | ⟨hy,ho,hf,hE⟩
  ·rw [hb1] at hb2; cases hb2
  ·rw [if_pos hy]
   obtain ⟨q,L2,h5,h6,h7,h8,h9,h10,h11,h12⟩:=Zwn 1000 ys (Zal L1 3) r1.2.2 [] (by omega) (by omega) ho hf (by rw [hE]) (by rw [hE]; exact ha.stk) (by rw [hE]) (by rw [hE]; exact ha.err)
   have hq2:(Zal L1 3).query=false:=by rw [hE]; exact ha.query.trans hq
   rw [hq2] at h8 h11
   rw [h5]
   exact ⟨_,L2,rfl,h6,h7,by simpa using h8,h9,h10,h11,by simp; omega⟩
  ·rw [if_neg (by omega)]
   have hq2:L1.query=false:=ha.query.trans hq
   exact ⟨_,_,rfl,ho,hf,by rw [hE,hq2]; rfl,by rw [hE]; exact ha.stk,by rw [hE]; exact ha.err,by rw [hE]; exact hq2,by simp; omega⟩
theorem Yja:∀ (g:Nat) (ts:List Tok) (L:LookS) (acc:List Cls),ts.length≤g→ts.length≤1000→okk ts L→fin ts→L.want=0→L.stk=[]→L.err=0→L.query=false→∃ cs,Zhj g ts acc=some cs:=by
 intro g
 induction g with
 | zero =>
  intro ts L acc h1 h2 hok hfin
  cases ts with
  | nil=>exact hfin.elim
  | cons t ts=>simp at h1
 | succ g ih =>
  intro ts L acc h1 h2 hok hfin hw hst he hq
  cases ts with
  | nil=>exact hfin.elim
  | cons t ts =>
   rw [Zhj]
   by_cases h4:t.kind=4
   ·rw [if_pos h4]; exact ⟨_,rfl⟩
   ·rw [if_neg h4]
    obtain ⟨c,L1,hp,h5,h6,h7,h8,h9,h10,h11⟩:=Ycm (t::ts) L h2 hok hfin hw hst he hq (fun t' r' e=>by simp at e; rw [← e.1]; exact h4)
    rw [hp]
    simp only
    simp only [Qf] at h1 h2 h11
    exact ih c.2 L1 _ (by omega) (by omega) h5 h6 h7 h8 h9 h10
theorem Zpp (l:List Tok) (p:Nat):fin (l++[⟨4,[],p⟩]):=by
 induction l with
 | nil=>exact Or.inl rfl
 | cons t l ih=>exact Or.inr ih
theorem Zuc (s:ByteArray) (hs:s.size≤120) (h:(Zgv (Zbb s) (Zcw true)).1=0):∃ q,Zdh 1000 1000 (Zbb s) [] []=some q:=by
 have hl:=Zev s
 obtain ⟨q,L',h1,_⟩:=Zwn 1000 (Zbb s) (Zcw true) [] [] (by omega) (by omega) h (Zpp _ _) rfl rfl rfl rfl
 exact ⟨q,h1⟩
theorem Zpq (s:ByteArray) (hs:s.size≤800) (h:(Zgv (Zbb s) (Zcw false)).1=0):∃ cs,Zhj 1000 (Zbb s) []=some cs:=by
 have hl:=Zev s
 exact Yja 1000 (Zbb s) (Zcw false) [] (by omega) (by omega) h (Zpp _ _) rfl rfl rfl rfl
def kmap (k:Nat):Nat:=if k=1 then 1 else if k=2 then 2 else if k=40 then 3 else if k=41 then 4 else if k=44 then 5 else if k=46 then 6 else if k=3 then 7 else 8
def Zhv (k:Nat):Prop:=k=1∨k=2∨k=40∨k=41∨k=44∨k=46∨k=3∨k=5
theorem Ygb (c:UInt8) (h:inB c Zya=true):c=40∨c=41∨c=44∨c=46:=by
 have:=Zef (p:=fun c => !inB c Zya || (c == 40 || c == 41 || c == 44 || c == 46)) (by decide +kernel) c
 simpa [h,or_assoc] using this
theorem Zyt (c:UInt8) (h:inB c Zya=false):¬ c=40∧¬ c=41∧¬ c=44∧¬ c=46:=by
 have:=Zef (p:=fun c=>inB c Zya || !(c == 40 || c == 41 || c == 44 || c == 46)) (by decide +kernel) c
 simpa [h,not_or,and_assoc] using this
theorem Zog (c:UInt8) (r:List UInt8) :
  (Zbn c r=(1,Zbm r)∧Zdo c (r.head?.getD 0)=1∧inB c Zhw=true)∨(Zbn c r=(2,Zbm r)∧Zdo c (r.head?.getD 0)=2∧inB c Zhw=true) ∨
  (Zbn c r=(40,0)∧Zdo c (r.head?.getD 0)=3)∨(Zbn c r=(41,0)∧Zdo c (r.head?.getD 0)=4)∨(Zbn c r=(44,0)∧Zdo c (r.head?.getD 0)=5)∨(Zbn c r=(46,0)∧Zdo c (r.head?.getD 0)=6) ∨
  (Zbn c r=(3,1)∧Zdo c (r.head?.getD 0)=7)∨(Zbn c r=(5,0)∧Zdo c (r.head?.getD 0)=8):=by
 unfold Zbn Zdo
 cases h1:inB c Zek
 ·cases h2:inB c Zhz
  ·cases h3:inB c Zya
   ·obtain ⟨a1,a2,a3,a4⟩:=Zyt c h3
    have hd:(c=58∧r.head?=some 45)↔(c=58∧r.head?.getD 0=45):=by
     cases r with
     | nil=>simp
     | cons d r=>simp
    by_cases h:c=58∧r.head?=some 45
    ·have h':=hd.1 h
     simp only [Bool.false_eq_true,if_false,if_neg a1,if_neg a2,if_neg a3,if_neg a4,if_pos h,if_pos h']
     simp
    ·have h':¬ (c=58∧r.head?.getD 0=45):=fun e=>h (hd.2 e)
     simp only [Bool.false_eq_true,if_false,if_neg a1,if_neg a2,if_neg a3,if_neg a4,if_neg h,if_neg h']
     simp
   ·rcases Ygb c h3 with rfl | rfl | rfl | rfl <;> simp
  ·simp [Zgq h2]
 ·simp [Zfv h1]
theorem Zms (c:UInt8) (r:List UInt8):kmap (Zbn c r).1=Zdo c (r.head?.getD 0)∧Zhv (Zbn c r).1:=by
 rcases Zog c r with ⟨h1,h2,_⟩ | ⟨h1,h2,_⟩ | ⟨h1,h2⟩ | ⟨h1,h2⟩ | ⟨h1,h2⟩ | ⟨h1,h2⟩ | ⟨h1,h2⟩ | ⟨h1,h2⟩ <;> rw [h1,h2] <;> exact ⟨rfl,by unfold Zhv; simp⟩
theorem Ygc (s:ByteArray) (p:Nat) (c:UInt8) (r:List UInt8) (hd:s.data.toList.drop p=c::r):endC s p (Zdo c (r.head?.getD 0))=p+((Zbn c r).2+1):=by
 rcases Zog c r with ⟨h1,h2,h3⟩ | ⟨h1,h2,h3⟩ | ⟨h1,h2⟩ | ⟨h1,h2⟩ | ⟨h1,h2⟩ | ⟨h1,h2⟩ | ⟨h1,h2⟩ | ⟨h1,h2⟩ <;> rw [h1,h2] <;> simp [endC,hd]
 ·rw [Zhg c r h3]
 ·rw [Zhg c r h3]
theorem Zmt (s:ByteArray) (p:Nat):Zdv s p=(s.data.toList.drop p).head?.getD 0:=by
 unfold Zdv
 rw [List.head?_drop]
theorem Zud:∀ (l:List UInt8) (p:Nat),toks l p=toks (l.drop (Zcv l)) (p+Zcv l):=by
 intro l
 induction l with
 | nil=>intro p; rfl
 | cons c r ih =>
  intro p
  unfold Zcv
  cases h:Zhh c
  ·simp
  ·rw [Zyc c r p h,ih (p+1)]
   simp only [if_pos,List.drop_succ_cons]
   congr 1
   omega
theorem Zyu (l:List UInt8) (c:UInt8) (r:List UInt8) (h:l.drop (Zcv l)=c::r):Zhh c=false:=by
 induction l with
 | nil=>simp [Zcv] at h
 | cons d l ih =>
  unfold Zcv at h
  cases hb:Zhh d
  ·rw [hb] at h
   simp at h
   rw [← h.1]; exact hb
  ·rw [hb] at h
   simp only [if_pos,List.drop_succ_cons] at h
   exact ih h
theorem Ycn (s:ByteArray) (p k:Nat):(s.extract p (p+k)).data.toList=(s.data.toList.drop p).take k:=by
 rw [ByteArray.data_extract,Array.toList_extract,List.extract_eq_take_drop]
 congr 1
 omega
theorem Yco (s:ByteArray) (n:Nat) (hn:n≤s.size) :
  (Zmk s n=(0,s.size,s.size)∧toks (s.data.toList.drop n) n=[]) ∨
  ∃ t q,Zmk s n=(kmap t.kind,t.pos,q)∧toks (s.data.toList.drop n) n=t::toks (s.data.toList.drop q) q∧Zhv t.kind∧n≤t.pos∧t.pos<q∧q≤s.size∧s.extract t.pos q=⟨t.text.toArray⟩∧t.text.length=q - t.pos:=by
 have hl:s.data.toList.length=s.size:=by rw [Array.length_toList]; rfl
 rw [Zud,List.drop_drop]
 unfold Zmk
 obtain ⟨p,hp⟩:∃ p,p=n+Zcv (s.data.toList.drop n):=⟨_,rfl⟩
 rw [← hp]
 by_cases h:p<s.size
 ·right
  rw [if_pos h]
  obtain ⟨c,r,hd⟩:∃ c r,s.data.toList.drop p=c::r:=by
   cases hc:s.data.toList.drop p with
   | nil =>
    have:=congrArg List.length hc
    simp only [List.length_drop,Jt] at this
    omega
   | cons c r=>exact ⟨c,r,rfl⟩
  have hb:Zhh c=false:=Zyu (s.data.toList.drop n) c r (by rw [List.drop_drop,← hp]; exact hd)
  have hd1:s.data.toList.drop (p+1)=r:=by rw [← List.drop_drop,hd]; rfl
  have hc0:Zdv s p=c:=by rw [Zmt,hd]; rfl
  have hc1:Zdv s (p+1)=r.head?.getD 0:=by rw [Zmt,hd1]
  have hle:=Ybk c r
  have hlen:(s.data.toList.drop p).length=s.size - p:=by rw [List.length_drop,hl]
  rw [hd] at hlen
  simp only [Qf] at hlen
  rw [hc0,hc1,hd,Zfw c r p hb]
  refine ⟨⟨(Zbn c r).1,(c::r).take ((Zbn c r).2+1),p⟩,p+((Zbn c r).2+1),?_,?_,(Zms c r).2,by simp only; omega,by simp only; omega,by omega,?_,?_⟩
  ·rw [Ygc s p c r hd,(Zms c r).1]
  ·congr 2
   ·rw [← List.drop_drop,hd]; rfl
  ·have:(s.extract p (p+((Zbn c r).2+1))).data.toList=(c::r).take ((Zbn c r).2+1):=by rw [Ycn,hd]
   simp only
   rw [← this]
  ·simp; omega
 ·left
  rw [if_neg h]
  refine ⟨rfl,?_⟩
  rw [List.drop_eq_nil_of_le (by omega)]
  rfl
structure RI (k:Nat) (st:RS):Prop where
 opnl:st.opn.length≤k
 atoml:st.atom.length≤k
 bodyl:st.body.length≤k
 clsl:st.clauses.length≤k
 varsl:st.vars.length≤k
 args:∀ s ∈ st.atom,s.args≤k
 next:st.next≤5
 opn:∀ n ∈ st.opn,n<st.atom.length
 name:st.next=3→0<st.atom.length
theorem RI.bd {k:Nat} {st:RS} (h:RI k st) (hk:k≤4000):RBd st :=
 ⟨Qq h.opnl (by omega),Qq h.atoml (by omega),Qq h.bodyl (by omega),Qq h.clsl (by omega),fun s hs=>Qq (h.args s hs) (by omega)⟩
theorem Zji {st:RS} {kd len:Nat} (h:Zbv st kd len=0):Zbh st kd=true:=by
 unfold Zbv at h
 split at h
 ·omega
 ·rename_i hs
  simpa using hs
theorem Zjj {st:RS} {kd:Nat} (h:Zbh st kd=true) (hn:st.next≤5):1≤kd∧kd≤7∧(kd=3→st.next=3)∧(kd=6∨kd=7→st.opn=[]):=by
 have fol:Zbt st kd=true→(kd=4∨kd=5∨kd=6∨kd=7)∧(kd=6∨kd=7→st.opn=[]):=by
  unfold Zbt
  cases ho:st.opn with
  | nil =>
   simp only [List.isEmpty_nil,if_true]
   intro h
   refine ⟨?_,fun _=>trivial⟩
   split at h
   ·simp at h; omega
   ·simp at h; omega
  | cons n r =>
   simp only [List.isEmpty_cons]
   intro h
   simp at h
   exact ⟨by omega,fun h=>by omega⟩
 unfold Zbh at h
 split at h
 ·simp at h; subst h; simp
 ·split at h
  ·simp at h; rcases h with rfl | rfl <;> simp
  ·split at h
   ·rename_i h3
    simp only [Bool.or_eq_true,beq_iff_eq] at h
    rcases h with rfl | h
    ·exact ⟨by omega,by omega,fun _=>h3,by omega⟩
    ·obtain ⟨h1,h2⟩:=fol h
     exact ⟨by omega,by omega,by omega,h2⟩
   ·split at h
    ·obtain ⟨h1,h2⟩:=fol h
     exact ⟨by omega,by omega,by omega,h2⟩
    ·simp at h
theorem RI.takes {k:Nat} {st:RS} {kd:Nat} (h:RI k st) (hk:k≤4000) (hs:Zbh st kd=true):TakeOk st kd:=by
 obtain ⟨h1,h2,h3,h4⟩:=Zjj hs h.next
 have:=h.varsl
 have:=h.bodyl
 exact ⟨h.bd hk,by omega,by omega,h.opn,h1,h2,fun e=>h.name (h3 e)⟩
theorem Zmb (st:RS):(Zcn st).length=st.atom.length:=by unfold Zcn; split <;> simp
theorem Ycp {k:Nat} (st:RS) (h:∀ s ∈ st.atom,s.args≤k):∀ s ∈ Zcn st,s.args≤k+1:=by
 unfold Zcn
 split
 ·exact fun s hs=>Nat.le_succ_of_le (h s hs)
 ·rename_i n r ho
  intro s hs
  obtain ⟨i,hi⟩:=List.getElem?_of_mem hs
  rw [List.getElem?_modify] at hi
  cases hx:st.atom[i]? with
  | none=>rw [hx] at hi; simp at hi
  | some x =>
   rw [hx] at hi
   have:=h x (Qh hx)
   simp at hi
   split at hi
   ·subst hi; simpa using this
   ·subst hi; omega
theorem RI.mono {k:Nat} {st:RS} (h:RI k st):RI (k+1) st :=
 ⟨Nat.le_succ_of_le h.opnl,Nat.le_succ_of_le h.atoml,Nat.le_succ_of_le h.bodyl,Nat.le_succ_of_le h.clsl,Nat.le_succ_of_le h.varsl,fun s hs=>Nat.le_succ_of_le (h.args s hs),h.next,h.opn,h.name⟩
theorem RI.at {k m:Nat} {st:RS} (h:RI k st) (hk:k≤m):RI m st :=
 ⟨Qq h.opnl hk,Qq h.atoml hk,Qq h.bodyl hk,Qq h.clsl hk,Qq h.varsl hk,fun s hs=>Qq (h.args s hs) hk,h.next,h.opn,h.name⟩
theorem RI.add {k:Nat} {st:RS} (h:RI k st) (s:Sym) (hs:s.args=0) (n:Nat) (hn:n≤5) (vars:Names) (hv:vars.length≤k+1):RI (k+1) { addS st s with next:=n,vars:=vars }:=by
 have hl:=Zmb st
 have h0:=h.atoml
 have h1:=h.opnl
 refine ⟨by simp [addS]; omega,by simp [addS,hl]; omega,Nat.le_succ_of_le h.bodyl,Nat.le_succ_of_le h.clsl,hv,?_,hn,?_,?_⟩
 ·intro x hx
  simp only [addS,Qk,List.mem_singleton] at hx
  rcases hx with hx | rfl
  ·exact Ycp st h.args x hx
  ·omega
 ·intro x hx
  have:=h.opn x hx
  simp only [addS,Qg,hl,Qn]
  omega
 ·intro _
  simp [addS]
theorem RI.ends {k:Nat} {st:RS} (h:RI k st) (ho:st.opn=[]) (n:Nat) (hn:n≤5) (h3:n≠3) (b:Bool):RI (k+1) { Zap st with next:=n,inBody:=b }:=by
 have h0:=h.bodyl
 have ha:(Zap st).atom=[]:=by unfold Zap; split <;> rfl
 have hb:(Zap st).body.length≤k+1:=by unfold Zap; split <;> simp <;> omega
 have hc:(Zap st).clauses=st.clauses:=by unfold Zap; split <;> rfl
 have hv:(Zap st).vars=st.vars:=by unfold Zap; split <;> rfl
 have hp:(Zap st).opn=[]:=by unfold Zap; split <;> exact ho
 have:=h.clsl
 have:=h.varsl
 exact ⟨by simp [hp],by simp [ha],hb,by simp only [hc]; omega,by simp only [hv]; omega,by simp [ha],hn,by simp [hp],fun e=>absurd e h3⟩
theorem RI.take {k:Nat} {st:RS} {kd:Nat} (t:List UInt8) (h:RI k st) (hs:Zbh st kd=true):RI (k+1) (Zbj st kd t):=by
 obtain ⟨h1,h2,h3,h4⟩:=Zjj hs h.next
 have hc:kd=1∨kd=2∨kd=3∨kd=4∨kd=5∨kd=6∨kd=7:=by omega
 have a1:=h.opnl
 have a2:=h.atoml
 have a3:=h.varsl
 rcases hc with rfl | rfl | rfl | rfl | rfl | rfl | rfl
 ·exact h.add ⟨t,0,0⟩ rfl 3 (by omega) st.vars (by omega)
 ·have hv:=Zlo st.vars t
  exact h.add ⟨[],(Zbr st.vars t).2,0⟩ rfl 4 (by omega) (Zbr st.vars t).1 (by omega)
 ·have hp:=h.name (h3 rfl)
  have m:=h.mono
  refine ⟨by simp [Zbj]; omega,m.atoml,m.bodyl,m.clsl,m.varsl,m.args,by simp [Zbj],?_,by simp [Zbj]⟩
  intro n hn
  simp only [Zbj,Qp] at hn
  simp at hn
  show n<st.atom.length
  rcases hn with rfl | hn
  ·omega
  ·exact h.opn n hn
 ·have m:=h.mono
  refine ⟨by simp [Zbj,Zjc]; omega,m.atoml,m.bodyl,m.clsl,m.varsl,m.args,by simp [Zbj],?_,by simp [Zbj]⟩
  intro n hn
  simp [Zbj,Zjc] at hn
  exact h.opn n (List.mem_of_mem_tail hn)
 ·show RI (k+1) (Zgk st)
  unfold Zgk
  cases ho:st.opn with
  | nil =>
   have:=h.ends ho 1 (by omega) (by omega) (Zap st).inBody
   simpa using this
  | cons n r =>
   have m:=h.mono
   simp only [List.isEmpty_cons,Bool.false_eq_true,if_false]
   have m1:=m.opnl
   have m2:=m.opn
   rw [ho] at m1 m2
   exact ⟨m1,m.atoml,m.bodyl,m.clsl,m.varsl,m.args,by simp,m2,by simp⟩
 ·show RI (k+1) (Zan (Zap st))
  have hw:=h.ends (h4 (by omega)) 0 (by omega) (by omega) false
  have hcl:(Zap st).clauses=st.clauses:=by unfold Zap; split <;> rfl
  have:=h.clsl
  refine ⟨hw.opnl,hw.atoml,by simp [Zan],by simp [Zan,hcl]; omega,by simp [Zan],hw.args,?_,hw.opn,?_⟩
  ·simp only [Zan]; split <;> omega
  ·simp only [Zan]; split <;> omega
 ·exact h.ends (h4 (by omega)) 1 (by omega) (by omega) true
def runT (e:Nat):List Tok→RS→Nat × Nat × RS
 | [],st=>if st.next≠0∧st.next≠5 then (2,e,st) else (0,0,st)
 | t::ts,st=>if Zbv st (kmap t.kind) t.text.length≠0 then (Zbv st (kmap t.kind) t.text.length,t.pos,st) else runT e ts (Zbj st (kmap t.kind) t.text)
end Go.Proofs.YtlmjilpjmgjjcabGreatDoor
