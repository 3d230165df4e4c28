/-
  PROVED HERE: what the law's 'mark' and 'own' do with a list that came out (the conditions stand in each statement).
-/
import Derived.Test.YtlmjilpjmgjjcaaGreatDoorT11
import Derived.Test.YtlmjilpjmgjjcaaGreatDoorCards
import Derived.Test.YtlmjilpjmgjjcaaGreatDoorTie
import Derived.ProofKit
import Derived.LaidMore
import Derived.OpenShut
import Derived.Stop.Joined
import Derived.SevenTiedAt
import Derived.Deep.Slices
import Derived.Carry
import Derived.Deep.QuietTactic
import Derived.BigQuiet
import Derived.Shelf.LaysM
import Derived.Shelf.Strconv.Itoa3
import Derived.Lib.AppendIntMem
import Derived.Lib.ItoaLen
set_option linter.unusedSimpArgs false
set_option linter.unusedVariables false
set_option maxRecDepth 10000
set_option maxHeartbeats 4000000
namespace Go.Proofs.YtlmjilpjmgjjcaaGreatDoor
open Go.RowKit
structure AskAt (w:World) (av nv:Value) (a:List (List Sym) × Names):Prop where
 atoms:∃ xs,RowT (fun _=>False) w av a.1 xs
 names:w.ownsRow 0 9 1 nv a.2.length (strs a.2)
theorem AskAt.ext {w w':World} {av nv:Value} {a:List (List Sym) × Names} (h:AskAt w av nv a) (e:Ext w w'):AskAt w' av nv a:=by
 obtain ⟨xs,h1⟩:=h.atoms
 exact ⟨⟨xs,h1.ext e (fun _ _ h=>h)⟩,Zak h.names (fun k hk=>e.block k (h.names.lt k hk).2)⟩
theorem RowC.box {X:Nat→Prop} {w w':World} {M:Nat} {cl:Array Value} {t:TypeId} {fr:Nat × Nat} {lv:Value} {cs:List Cls} {xs:List Value} (h:RowC X w lv cs xs) (hM:w.heap[M]?=some (.cells cl t fr)) (ht:t≠183) (ht':185≠t) (hk:Kept (fun k=>k=M) w w'):RowC X w' lv cs xs :=
 ⟨Zdl h.owns hM ht' hk,fun i c hc=>by
  obtain ⟨a,b,d,bv,ys,x0,x1,x2,x3,x4,g1,g2⟩:=h.all i c hc
  exact ⟨a,b,d,bv,ys,x0,x1,x2,x3,x4,g1.box hM ht hk,g2.box hM ht hk⟩⟩
theorem AskAt.box {w w':World} {M:Nat} {cl:Array Value} {t:TypeId} {fr:Nat × Nat} {av nv:Value} {a:List (List Sym) × Names} (h:AskAt w av nv a) (hM:w.heap[M]?=some (.cells cl t fr)) (ht:t≠183) (ht':9≠t) (hk:Kept (fun k=>k=M) w w'):AskAt w' av nv a:=by
 obtain ⟨xs,h1⟩:=h.atoms
 exact ⟨⟨xs,h1.box hM ht hk⟩,Zdl h.names hM ht' hk⟩
theorem Zna (s:ByteArray) (w:World) (hm:s.size≤maxLen):Calls Tryz.prog 106 #[.string s] w fun e w'=>Ext w w' ∧
  ((Zee s=none∧∃ er pl:Nat,er≠0∧e = .returned (.tuple #[.slice none 0 0,.int .i64 er,.int .i64 pl]))∨(∃ cs lv xs,Zee s=some cs∧e = .returned (.tuple #[lv,.int .i64 0,.int .i64 0])∧RowC (fun _=>False) w' lv cs xs)):=by
 by_cases hs:800<s.size
 ·refine (Zll s w hm hs).mono ?_
  rintro e w' ⟨rfl,hb⟩
  exact ⟨hb,Or.inl ⟨by simp [Zee,hs],1,0,by omega,rfl⟩⟩
 ·by_cases he:(Zcx (Zav s) (Zbd false)).1=0
  ·have h0:(runs s false).1=0:=by rw [(Zdf s false).1]; exact he
   obtain ⟨cs,e1,_⟩:=Zmn s (by omega) h0
   refine (Znl s w cs (by omega) he e1).mono ?_
   rintro e w' ⟨lv,xs,rfl,hrow,hb⟩
   exact ⟨hb,Or.inr ⟨cs,lv,_,by simp [Zee,hs,he,e1],rfl,hrow.rowC⟩⟩
  ·refine (Zmh s w (by omega) he).mono ?_
   rintro e w' ⟨rfl,hb⟩
   exact ⟨hb,Or.inl ⟨by simp [Zee,hs,he],_,_,he,rfl⟩⟩
theorem Zqi (s:ByteArray) (w:World) (hm:s.size≤maxLen):Calls Tryz.prog 110 #[.string s] w fun e w'=>Ext w w' ∧
  ((Zgm s=none∧∃ er pl:Nat,er≠0∧e = .returned (.tuple #[.agg #[.slice none 0 0,.slice none 0 0],.int .i64 er,.int .i64 pl]))∨(∃ a av nv,Zgm s=some a∧e = .returned (.tuple #[.agg #[av,nv],.int .i64 0,.int .i64 0])∧AskAt w' av nv a)):=by
 by_cases hs:120<s.size
 ·refine (Znj s w hm hs).mono ?_
  rintro e w' ⟨rfl,hb⟩
  exact ⟨hb,Or.inl ⟨by simp [Zgm,hs],1,0,by omega,rfl⟩⟩
 ·by_cases he:(Zcx (Zav s) (Zbd true)).1=0
  ·have h0:(runs s true).1=0:=by rw [(Zdf s true).1]; exact he
   obtain ⟨q,e1,_⟩:=Zgt s (by omega) h0
   refine (Zrf s w q (by omega) he e1).mono ?_
   rintro e w' ⟨lv,nv,lo,xs,rfl,_,_,hk,hn,hb⟩
   exact ⟨hb,Or.inr ⟨(q.1,q.2.2),lv,nv,by simp [Zgm,hs,he,e1],rfl,⟨xs,hk.rowT⟩,Zbb hn (Qm _)⟩⟩
  ·refine (Zpi s w (by omega) he).mono ?_
   rintro e w' ⟨rfl,hb⟩
   exact ⟨hb,Or.inl ⟨by simp [Zgm,hs,he],_,_,he,rfl⟩⟩
def Yhr (p q:ByteArray) (e:Ending) (w':World):Prop :=
 (Zee p=none∧e = .returned (.tuple #[.slice none 0 0,.agg #[.slice none 0 0,.slice none 0 0],.int .i64 4])) ∨
 ((∃ cs,Zee p=some cs)∧Zgm q=none∧e = .returned (.tuple #[.slice none 0 0,.agg #[.slice none 0 0,.slice none 0 0],.int .i64 5])) ∨
 (∃ cs a lv av nv xs,Zee p=some cs∧Zgm q=some a∧e = .returned (.tuple #[lv,.agg #[av,nv],.int .i64 0])∧RowC (fun _=>False) w' lv cs xs∧AskAt w' av nv a)
theorem Zuj (p q:ByteArray) (w:World) (hp:p.size≤maxLen) (hq:q.size≤maxLen):Calls Tryz.prog 118 #[.string p,.string q] w fun e w'=>Ext w w'∧Yhr p q e w':=by
 have HP:=Zaa (fun u=>Zna p u hp)
 have HQ:=Zaa (fun u=>Zqi q u hq)
 clear hp hq
 go_enter Tryz.func118,Tryz.ntmps118
 go_wp2_with fail
 refine (HP.out _).mono ?_
 rintro e w1 ⟨hE1,hc⟩
 have hs1:=hE1.size
 simp at hs1
 have hb1:w1.heap[w.heap.size]?=some (.cells #[.slice none 0 0,.slice none 0 0] 148 (0,0)):=(hE1.block _ (by simp)).trans (heap_alloc_new w _)
 obtain ⟨b0,b1,bf⟩:w1.cell? ⟨w.heap.size,0,none⟩=some (.slice none 0 0)∧w1.cell? ⟨w.heap.size,1,none⟩=some (.slice none 0 0)∧∀ i,w1.frozen? ⟨w.heap.size,i,none⟩=false:=⟨Zab hb1 0 _ rfl,Zab hb1 1 _ rfl,fun i=>Zae hb1 i⟩
 have hm1:w.heap.size<w1.heap.size:=by omega
 have HEw1:Hid (Ext w w1):=((Ext.of (by repeat' (first | with_reducible(first|exact Qx _ _|apply Kept.drew|apply Kept.drewN|apply Qz|refine Qy ?_ ?_ _)|exact fun h=>absurd h (by simp <;> omega)))):Ext w (w.alloc _)).trans (hE1.mono (by simp))
 have Hb1:=Zaa hb1
 rcases hc with ⟨hno,er,pl,her,rfl⟩ | ⟨cs,lv,xs,hsome,rfl,hrow⟩
 ·have hb:((er:Int) != 0)=true:=by rw [bne_iff_ne]; omega
  have Hno:=Zaa hno
  clear hno hE1 hb1
  go_wp2
  refine bodyPost_ret (v := .tuple #[.slice none 0 0,.agg #[.slice none 0 0,.slice none 0 0],.int .i64 4]) (by simp [results,Tryz.results118,go_sem,b0,b1,bf,hm1]) rfl ?_
  exact ⟨HEw1.out.trans (Kept.below (S:=fun i=>i=w.heap.size) (((Qx (only w.heap.size) w1).put 0 _).put 1 _) (by omega) (fun i e=>by omega)),Or.inl ⟨Hno.out,rfl⟩⟩
 ·obtain ⟨la,lcap,rfl⟩:=Zad hrow.owns
  have Hrow:=Zaa hrow
  have Hsome:=Zaa hsome
  clear hrow hsome hE1 hb1
  go_wp2_with fail
  refine (HQ.out _).mono ?_
  rintro e w2 ⟨hE2,hc⟩
  have hs2:=hE2.size
  have hb2:=(hE2.block _ hm1).trans Hb1.out
  obtain ⟨b0,b1,bf⟩:w2.cell? ⟨w.heap.size,0,none⟩=some (.slice none 0 0)∧w2.cell? ⟨w.heap.size,1,none⟩=some (.slice none 0 0)∧∀ i,w2.frozen? ⟨w.heap.size,i,none⟩=false:=⟨Zab hb2 0 _ rfl,Zab hb2 1 _ rfl,fun i=>Zae hb2 i⟩
  have hm2:w.heap.size<w2.heap.size:=by omega
  have HEw2:Hid (Ext w w2):=HEw1.out.trans (hE2.mono (by omega))
  have Hb2:=Zaa hb2
  have HE2:=Zaa hE2
  rcases hc with ⟨hno,er,pl,her,rfl⟩ | ⟨a,av,nv,hask,rfl,hA⟩
  ·have hb:((er:Int) != 0)=true:=by rw [bne_iff_ne]; omega
   have Hno:=Zaa hno
   clear hno hE2 hb2
   go_wp2
   refine bodyPost_ret (v := .tuple #[.slice none 0 0,.agg #[.slice none 0 0,.slice none 0 0],.int .i64 5]) (by simp [results,Tryz.results118,go_sem,b0,b1,bf,hm2]) rfl ?_
   refine ⟨HEw2.out.trans (Kept.below (S:=fun i=>w.heap.size≤i) (by repeat' (first | with_reducible(first|exact Qx _ _|apply Kept.drew|apply Kept.drewN|apply Qz|refine Qy ?_ ?_ _)|(intro _; simp only; omega))) (by omega) (fun i e=>e)),Or.inr (Or.inl ⟨⟨cs,Hsome.out⟩,Hno.out,rfl⟩)⟩
  ·obtain ⟨ax,hA1⟩:=hA.atoms
   obtain ⟨aa,acap,rfl⟩:=Zad hA1.1
   obtain ⟨na,ncap,rfl⟩:=Zad hA.names
   have HA:=Zaa hA
   have Hask:=Zaa hask
   clear hA hA1 hask hE2 hb2
   go_wp2_with fail
   go_region
   all_goals
    go_wp2
    refine bodyPost_ret (v := .tuple #[.slice la cs.length lcap,.agg #[.slice aa a.1.length acap,.slice na a.2.length ncap],.int .i64 0]) (by simp [results,Tryz.results118,go_sem,b0,b1,bf,hm2]) rfl ?_
    refine ⟨HEw2.out.trans (Kept.below (S:=fun i=>w.heap.size≤i) (by repeat' (first | with_reducible(first|exact Qx _ _|apply Kept.drew|apply Kept.drewN|apply Qz|refine Qy ?_ ?_ _)|(intro _; simp only; omega))) (by omega) (fun i e=>e)),Or.inr (Or.inr ⟨cs,a,_,_,_,xs,Hsome.out,Hask.out,rfl,?_,?_⟩)⟩
    ·exact ((Hrow.out.ext HE2.out (fun _ _ h=>h)).box Hb2.out (by decide) (by decide) (((Qx (only w.heap.size) w2).put 0 _).put 1 _)).ext (Ext.of (by repeat' (first | with_reducible(first|exact Qx _ _|apply Kept.drew|apply Kept.drewN|apply Qz|refine Qy ?_ ?_ _)|exact fun h=>absurd h (by simp <;> omega)))) (fun _ _ h=>h)
    ·exact (HA.out.box Hb2.out (by decide) (by decide) (((Qx (only w.heap.size) w2).put 0 _).put 1 _)).ext (Ext.of (by repeat' (first | with_reducible(first|exact Qx _ _|apply Kept.drew|apply Kept.drewN|apply Qz|refine Qy ?_ ?_ _)|exact fun h=>absurd h (by simp <;> omega))))
theorem box2 {w:World} {b:Nat} {u0 u1:Value} {t:TypeId} (h:w.heap[b]?=some (.cells #[u0,u1] t (0,0))) :
  w.cell? ⟨b,0,none⟩=some u0∧w.cell? ⟨b,1,none⟩=some u1∧∀ i,w.frozen? ⟨b,i,none⟩=false :=
 ⟨Zab h 0 _ rfl,Zab h 1 _ rfl,fun i=>Zae h i⟩
theorem NodeAt.len {X:Nat→Prop} {w:World} {m0 m1 m2 m3 m4:Value} {n0:ND} (h:NodeAt X w m0 m1 m2 m3 m4 n0):∃ a0 c0 a1 l1 c1 a2 l2 c2 a3 l3 c3,∃ v4:Int,m0 = .slice a0 n0.goals.length c0∧m1 = .slice a1 l1 c1∧m2 = .slice a2 l2 c2∧m3 = .slice a3 l3 c3∧m4 = .int .i64 v4:=by
 obtain ⟨n,hR,_,_,hS,rfl⟩:=h.node
 obtain ⟨xs,h1⟩:=hR.goals
 obtain ⟨ys,h2⟩:=hR.vals
 obtain ⟨zs,h3⟩:=hR.done
 obtain ⟨ga,gcap,rfl⟩:=Zad h1.owns
 obtain ⟨va,vcap,rfl⟩:=Zad h2.1
 obtain ⟨da,dcap,rfl⟩:=Zad h3.owns
 obtain ⟨ua,ucap,rfl⟩:=Zad hR.used
 rw [hS.gl]
 exact ⟨_,_,_,_,_,_,_,_,_,_,_,_,rfl,rfl,rfl,rfl,rfl⟩
theorem NodeAt.keep {X S:Nat→Prop} {w w':World} {m0 m1 m2 m3 m4:Value} {n0:ND} (h:NodeAt X w m0 m1 m2 m3 m4 n0) (hk:Kept S w w') (hS:∀ k,S k→∃ cl t fr,w.heap[k]?=some (.cells cl t fr)∧t≠183∧t≠200∧t≠3):NodeAt X w' m0 m1 m2 m3 m4 n0:=by
 obtain ⟨n,hR,h2⟩:=h.node
 obtain ⟨xs,g1⟩:=hR.goals
 obtain ⟨ys,g2⟩:=hR.vals
 obtain ⟨zs,g3⟩:=hR.done
 have hT:∀ k,k<w.heap.size→¬ X k→Zeo w k→w'.heap[k]?=w.heap[k]?∧¬ X k:=fun k hlt hx ht=>⟨hk.block k hlt (fun hs=>by
  obtain ⟨cl,t,fr,hb,h2,_⟩:=hS k hs
  exact Zmt hb h2 ht rfl),hx⟩
 have hG:∀ {B n:Nat} {cv:Value} {ys:List Value},w.ownsRow B 200 4 cv n ys→∀ k,cv.ownBlock=some k→w'.heap[k]?=w.heap[k]?:=fun ho k hk'=>hk.block k (ho.lt k hk').2 (fun hs=>by
  obtain ⟨cl,t,fr,hb,_,h2,_⟩:=hS k hs
  exact Zah ho (fun e=>h2 e.symm) hb hk')
 refine ⟨⟨n,⟨⟨xs,g1.on (hG g1.owns) hT⟩,⟨ys,g2.on hT⟩,⟨zs,g3.on (hG g3.owns) hT⟩,hk.owns hR.used (fun k hk' hs => ?_)⟩,h2⟩,h.off⟩
 obtain ⟨cl,t,fr,hb,_,_,h2⟩:=hS k hs
 exact Zah hR.used (fun e=>h2 e.symm) hb hk'
def offA (N:List (List UInt8 × Nat)) (s:Sym):Sym:=if s.name=[]∨(s.name,s.args) ∈ N then s else ⟨s.name++[0],s.num,s.args⟩
theorem Yhs {N:List (List UInt8 × Nat)}:∀ {l:List Sym} {k:Nat},Wf k l→Wf k (l.map (offA N)):=by
 intro l
 induction l with
 | nil=>intro k h; exact h
 | cons s l ih =>
  intro k h
  obtain ⟨h1,h2,h3,h4⟩:=h
  have e1:(offA N s).args=s.args:=by unfold offA; split <;> rfl
  have e2:(offA N s).name=[]↔s.name=[]:=by
   unfold offA; split
   ·exact Iff.rfl
   ·rename_i h; simp at h ⊢; exact h.1
  have e3:(offA N s).num=s.num:=by unfold offA; split <;> rfl
  refine ⟨h1,fun h=>by rw [e1]; exact h2 (e2.1 h),fun h=>by rw [e3]; exact h3 (fun h'=>h (e2.2 h')),?_⟩
  rw [e1]; exact ih h4
theorem Mgu.nma {σ:Nat→List Sym} {a b:List Sym} (h:Mgu σ a b) (n:Nat):∀ s ∈ σ n,s.name≠[]→∃ t ∈ a++b,t.name=s.name∧t.args=s.args:=by
 intro s hs hn
 refine Classical.byContradiction (fun hno => ?_)
 have hno:∀ t ∈ a++b,¬ (t.name=s.name∧t.args=s.args):=fun t ht e=>hno ⟨t,ht,e⟩
 obtain ⟨N,hN⟩:∃ N,N=(a++b).map (fun t=>(t.name,t.args)):=⟨_,rfl⟩
 have hθ:Ts (fun n=>(σ n).map (offA N)):=fun n=>Yhs (h.ts n)
 have key:∀ l:List Sym,(∀ t ∈ l,(t.name,t.args) ∈ N)→ap (fun n=>(σ n).map (offA N)) l=(ap σ l).map (offA N):=by
  intro l
  induction l with
  | nil=>intro _; rfl
  | cons t l ih =>
   intro ht
   rw [Zca,Zca,Qr,ih (fun u hu=>ht u (by simp [hu]))]
   congr 1
   unfold ap1
   split
   ·rfl
   ·have:offA N t=t:=by unfold offA; rw [if_pos (Or.inr (ht t (by simp)))]
    simp [this]
 have ha:=key a (fun t ht=>by rw [hN]; exact List.mem_map.2 ⟨t,by simp [ht],rfl⟩)
 have hb:=key b (fun t ht=>by rw [hN]; exact List.mem_map.2 ⟨t,by simp [ht],rfl⟩)
 have hw:=h.wide _ hθ (by rw [ha,hb,h.unif]) n
 have hf:=Zoj hθ hw s hs hn
 have hnN:¬ (s.name=[]∨(s.name,s.args) ∈ N):=by
  rintro (h | h)
  ·exact hn h
  ·rw [hN] at h
   obtain ⟨t,ht,e⟩:=List.mem_map.1 h
   simp only [Prod.mk.injEq] at e
   exact hno t ht e
 unfold offA at hf
 rw [if_neg hnN] at hf
 have:=congrArg (fun s=>s.name.length) hf
 simp at this
def Few (l:List Sym):Prop:=∀ s ∈ l,s.args≤4
def NFew (n:ND):Prop:=∀ t ∈ n.terms,Few t
def CFew (c:Cls):Prop:=Few c.head∧∀ t ∈ c.body,Few t
theorem Ygh (n:Nat):Few (vr n):=fun s hs=>by simp [vr] at hs; subst hs; simp
theorem Few.ap {σ:Nat→List Sym} {l:List Sym} (h:Few l) (hσ:∀ n,Few (σ n)):Few (ap σ l):=by
 intro s hs
 simp only [YtlmjilpjmgjjcaaGreatDoor.ap,List.mem_flatMap] at hs
 obtain ⟨t,ht,hs⟩:=hs
 unfold ap1 at hs
 split at hs
 ·exact hσ _ s hs
 ·simp at hs; subst hs; exact h s ht
theorem Zsl (v n:Nat):Few (Zbr v n):=Ygh _
theorem Mgu.few {σ:Nat→List Sym} {a b:List Sym} (h:Mgu σ a b) (ha:Few a) (hb:Few b) (n:Nat):Few (σ n):=by
 intro s hs
 by_cases hn:s.name=[]
 ·rw [Ztr (h.ts n) s hs hn]; omega
 ·obtain ⟨t,ht,_,e⟩:=h.nma n s hs hn
  rw [← e]
  rcases Qk.1 ht with ht | ht
  ·exact ha t ht
  ·exact hb t ht
theorem Yht {n:ND} {c:Cls} {k q:Nat} {ch:ND} (h:Out n c k q ch) (hq:q=1∨q=2) (hn:NFew n) (hc:CFew c):NFew ch:=by
 obtain ⟨g,gs,hg,h⟩:=h
 rcases h with ⟨rfl,_⟩ | ⟨rfl,_⟩ | ⟨σ,h1,_,_,rfl⟩
 ·omega
 ·omega
 ·have hgt:Few g.1:=hn g.1 (by simp [ND.terms,hg])
  have hhd:Few (ap (Zbr n.vars) c.head):=hc.1.ap (Zsl _)
  have hσ:=h1.few hgt hhd
  intro t ht
  rw [Zfu] at ht
  simp only [Qk,List.mem_map] at ht
  rcases ht with ⟨u,hu,rfl⟩ | ⟨u,hu,rfl⟩ | ⟨u,hu,rfl⟩
  ·rcases hu with ⟨b,hb,rfl⟩ | ⟨x,hx,rfl⟩
   ·exact ((hc.2 b hb).ap (Zsl _)).ap hσ
   ·exact (hn x.1 (by simp only [ND.terms,hg,List.map_cons,List.cons_append,Qp,Qk,List.mem_map]; exact Or.inr (Or.inl ⟨x,hx,rfl⟩))).ap hσ
  ·exact (hn u (by simp [ND.terms,hu])).ap hσ
  ·rcases hu with ⟨x,hx,rfl⟩ | hu
   ·exact (hn x.1 (by simp only [ND.terms,Qk,List.mem_map]; exact Or.inr (Or.inr ⟨x,hx,rfl⟩))).ap hσ
   ·simp at hu; subst hu; exact hgt.ap hσ
structure SF (st:RS):Prop where
 sb:SB st
 atom:Few st.atom
 head:Few st.head
 body:∀ l ∈ st.body,Few l
 cls:∀ c ∈ st.clauses,Few c.head∧∀ l ∈ c.body,Few l
theorem Zwe {l:List Sym} {s:Sym} (h:Few l) (hs:s.args≤4):Few (l++[s]):=fun t ht=>by
 rcases Qk.1 ht with ht | ht
 ·exact h t ht
 ·simp at ht; subst ht; exact hs
theorem Zuk:Few []:=fun s hs=>by simp at hs
theorem Zwf:∀ l ∈ ([]:List (List Sym)),Few l:=fun l hl=>by simp at hl
theorem Zwg {st:RS} (h:SF st) (hf:Zfb st=false) (hn:st.next=0∨st.next=1∨st.next=2):Few (Zco st):=by
 unfold Zco
 cases ho:st.opn with
 | nil=>exact h.atom
 | cons n r =>
  simp only
  by_cases h2:st.next=2
  ·have ha:Zkn st<4:=by
    unfold Zfb at hf
    rw [if_neg (by omega),if_neg (by omega),if_pos h2] at hf
    simp at hf
    omega
   intro s hs
   obtain ⟨i,hi⟩:=List.mem_iff_getElem?.1 hs
   rw [List.getElem?_modify] at hi
   cases hx:st.atom[i]? with
   | none=>rw [hx] at hi; simp at hi
   | some x =>
    rw [hx] at hi
    simp at hi
    subst hi
    split
    ·rename_i e
     subst e
     have:Zkn st=x.args:=by unfold Zkn; rw [ho]; simp [hx]
     simp only
     omega
    ·exact h.atom x (Qh hx)
  ·have:=h.sb.empty h2 (by omega) (by omega)
   rw [this]
   intro s hs
   simp at hs
theorem SF.endAtom {st:RS} (h:SF st):Few (Zaw st).atom∧Few (Zaw st).head∧(∀ l ∈ (Zaw st).body,Few l)∧∀ c ∈ (Zaw st).clauses,Few c.head∧∀ l ∈ c.body,Few l:=by
 unfold Zaw
 split
 ·refine ⟨fun s hs=>by simp at hs,h.head,fun l hl => ?_,h.cls⟩
  simp at hl
  rcases hl with hl | rfl
  ·exact h.body l hl
  ·exact h.atom
 ·exact ⟨fun s hs=>by simp at hs,h.atom,h.body,h.cls⟩
theorem SF.take {st:RS} {kd len:Nat} {t:List UInt8} (h:SF st) (hc:Zbx st kd len=0) (hlen:len=t.length):SF (Zbp st kd t):=by
 have hs:=Zjc hc
 have hsb:=h.sb.take hc hlen
 have hfull:kd=1∨kd=2→Zfb st=false:=by
  intro hk
  unfold Zbx at hc
  rw [if_neg (by simp [hs])] at hc
  split at hc
  ·omega
  ·rename_i h'
   cases hf:Zfb st with
   | false=>rfl
   | true=>exact absurd ⟨hk,Or.inr hf⟩ h'
 have hnext:kd=1∨kd=2→st.next=0∨st.next=1∨st.next=2:=by
  intro hk
  unfold Zbo at hs
  split at hs
  ·omega
  ·split at hs
   ·omega
   ·split at hs
    ·rcases hk with rfl | rfl
     ·simp [Zbw] at hs
     ·simp [Zbw] at hs
    ·split at hs
     ·rcases hk with rfl | rfl
      ·simp [Zbw] at hs
      ·simp [Zbw] at hs
     ·simp at hs
 obtain ⟨e1,e2,e3,e4⟩:=h.endAtom
 refine ⟨hsb,?_,?_,?_,?_⟩
 all_goals clear hsb
 all_goals
  unfold Zbp
  split
  ·rename_i hk
   first
    | exact Zwe (Zwg h (hfull (Or.inl hk)) (hnext (Or.inl hk))) (by simp)
    | exact h.head
    | exact h.body
    | exact h.cls
  split
  ·rename_i _ hk
   first
    | exact Zwe (l:=Zco st) (Zwg h (hfull (Or.inr hk)) (hnext (Or.inr hk))) (by simp)
    | exact h.head
    | exact h.body
    | exact h.cls
  split
  ·first | exact h.atom | exact h.head | exact h.body | exact h.cls
  split
  ·unfold Zis
   first | exact h.atom | exact h.head | exact h.body | exact h.cls
  split
  ·unfold Zgc
   split
   ·first | exact e1 | exact e2 | exact e3 | exact e4
   ·first | exact h.atom | exact h.head | exact h.body | exact h.cls
  split
  ·first | exact e1 | exact e2 | exact e3 | exact e4
  split
  ·unfold Zas
   first
    | exact e1
    | exact Zuk
    | exact Zwf
    | exact (fun c hc=>by
      simp only [Qk,List.mem_singleton] at hc
      rcases hc with hc | rfl
      ·exact e4 c hc
      ·exact ⟨e2,e3⟩)
  ·first | exact h.atom | exact h.head | exact h.body | exact h.cls
theorem SF.run {e:Nat}:∀ {ts:List Tok} {st:RS},SF st→(runT e ts st).1=0→SF (runT e ts st).2.2:=by
 intro ts
 induction ts with
 | nil=>intro st h _; unfold runT; split <;> exact h
 | cons t ts ih =>
  intro st h h0
  unfold runT at h0 ⊢
  split at h0
  ·rename_i hc; exact absurd h0 hc
  ·rename_i hc
   rw [if_neg hc]
   exact ih (h.take (len:=t.text.length) (by omega) rfl) h0
theorem SF.start (q:Bool):SF ⟨q,if q then 1 else 0,q,[],[],[],[],[],[]⟩:=⟨SB.start q,Zuk,Zuk,Zwf,fun c hc=>by simp at hc⟩
theorem Yeu {s:ByteArray} {cs:List Cls} (h:Zee s=some cs):∀ c ∈ cs,CFew c:=by
 obtain ⟨_,h0,e,_⟩:=Zjg h
 have hB:SF (runs s false).2.2:=(SF.start false).run h0
 intro c hc
 exact hB.cls c (by rw [e]; exact hc)
theorem Yhu {s:ByteArray} {a:List (List Sym) × Names} (h:Zgm s=some a):NFew (topN a):=by
 obtain ⟨_,h0,e,_⟩:=Zkp h
 have hB:SF (runs s true).2.2:=(SF.start true).run h0
 have hc:=(hB.cls ⟨[],a.1,a.2⟩ (by rw [e]; simp)).2
 intro t ht
 simp only [ND.terms,topN,List.map_map,List.map_nil,Qs,Qk,List.mem_map,Function.comp] at ht
 rcases ht with ⟨u,hu,rfl⟩ | ⟨i,_,rfl⟩
 ·exact hc u hu
 ·exact Ygh i
def TryX (n:ND) (c:Cls) (k:Nat) (X:Nat→Prop) (v:Value) (u:World):Prop:=∃ g1 g2 g3 v1 v2 v3 r1 r2 r3,∃ uu q:Nat,v = .tuple #[.agg #[.slice g1 g2 g3,.slice v1 v2 v3,.slice r1 r2 r3,.int .i64 uu],.int .i64 q] ∧
 ((q=0∧(n.goals=[]∨Out n c k 0 n))∨(q=2∧∃ ch,Out n c k 3 ch)∨(q=1∧∃ ch qq,(qq=1∨qq=2)∧Out n c k qq ch∧uu=ch.vars∧g2=ch.goals.length ∧
  (∃ vs,TermsAt u 0 (.slice g1 g2 g3) (ch.goals.map (·.1)) vs∧(∀ j,(Value.slice g1 g2 g3).ownBlock=some j→¬ X j)∧∀ x ∈ vs,∀ j,x.ownBlock=some j→¬ X j) ∧
  (∃ vs,TermsAt u 0 (.slice v1 v2 v3) ch.vals vs∧(∀ j,(Value.slice v1 v2 v3).ownBlock=some j→¬ X j)∧∀ x ∈ vs,∀ j,x.ownBlock=some j→¬ X j) ∧
  (∃ vs,TermsAt u 0 (.slice r1 r2 r3) (ch.done.map (·.1)) vs∧(∀ j,(Value.slice r1 r2 r3).ownBlock=some j→¬ X j)∧∀ x ∈ vs,∀ j,x.ownBlock=some j→¬ X j)))
theorem Zhf {X X':Nat→Prop} {v:Value} {ls:List (List Sym)} {u u':World} (h:∃ vs,TermsAt u 0 v ls vs∧(∀ j,v.ownBlock=some j→¬ X j)∧∀ x ∈ vs,∀ j,x.ownBlock=some j→¬ X j) (hb:∀ k,k<u.heap.size→¬ X k→u'.heap[k]?=u.heap[k]?) (hX:∀ k,k<u.heap.size→X' k→X k) :
  ∃ vs,TermsAt u' 0 v ls vs∧(∀ j,v.ownBlock=some j→¬ X' j)∧∀ x ∈ vs,∀ j,x.ownBlock=some j→¬ X' j:=by
 obtain ⟨vs,h,h1,h2⟩:=h
 have hlen:vs.length=ls.length:=by have:=h.owns.1; omega
 have hin:∀ x ∈ vs,∃ l,WordAt u x l:=fun x hx=>by
  obtain ⟨i,hi⟩:=List.mem_iff_getElem?.1 hx
  have hil:=(Qa.1 hi).1
  obtain ⟨y,h3,h4⟩:=h.all i _ (Qb (by omega))
  rw [hi] at h3
  simp only [Qo] at h3
  subst h3
  exact ⟨_,h4⟩
 refine ⟨vs,⟨Zak h.owns (fun j hj=>hb j (h.owns.lt j hj).2 (h1 j hj)),fun i l hi => ?_⟩,fun j hj hx=>h1 j hj (hX j (h.owns.lt j hj).2 hx),fun x hx j hj hx' => ?_⟩
 ·obtain ⟨y,h3,h4⟩:=h.all i l hi
  exact ⟨y,h3,Zak h4 (fun j hj=>hb j (h4.lt j hj).2 (h2 y (Qh h3) j hj))⟩
 ·obtain ⟨l,hl⟩:=hin x hx
  exact h2 x hx j hj (hX j (hl.lt j hj).2 hx')
theorem TryX.stable {n:ND} {c:Cls} {k:Nat}:∀ X X' v u u',TryX n c k X v u→(∀ k,k<u.heap.size→¬ X k→u'.heap[k]?=u.heap[k]?)→u.heap.size≤u'.heap.size→(∀ k,k<u.heap.size→X' k→X k)→TryX n c k X' v u':=by
 rintro X X' v u u' ⟨g1,g2,g3,v1,v2,v3,r1,r2,r3,uu,q,rfl,h⟩ hb _ hX
 refine ⟨g1,g2,g3,v1,v2,v3,r1,r2,r3,uu,q,rfl,?_⟩
 rcases h with h | h | ⟨rfl,ch,qq,h1,h2,h3,h4,h5,h6,h7⟩
 ·exact Or.inl h
 ·exact Or.inr (Or.inl h)
 ·exact Or.inr (Or.inr ⟨rfl,ch,qq,h1,h2,h3,h4,Zhf h5 hb hX,Zhf h6 hb hX,Zhf h7 hb hX⟩)
theorem TryOut.toX {n:ND} {c:Cls} {k:Nat} {X:Nat→Prop} {w w':World} {e:Ending} (h:TryOut n c k w e w') (hX:∀ j,X j→j<w.heap.size):∃ v,e = .returned v∧Ext w w'∧TryX n c k X v w':=by
 obtain ⟨hE,g1,g2,g3,v1,v2,v3,r1,r2,r3,uu,q,rfl,h⟩:=h
 refine ⟨_,rfl,hE,g1,g2,g3,v1,v2,v3,r1,r2,r3,uu,q,rfl,?_⟩
 have key:∀ {v:Value} {ls:List (List Sym)},TermsNew w.heap.size w' v ls→∃ vs,TermsAt w' 0 v ls vs∧(∀ j,v.ownBlock=some j→¬ X j)∧∀ x ∈ vs,∀ j,x.ownBlock=some j→¬ X j:=fun {v ls} h=>by
  obtain ⟨vs,h1,h2,h3⟩:=h
  exact ⟨vs,h1,fun j hj hx=>by have:=h2 j hj; have:=hX j hx; omega,fun x hx j hj hx'=>by have:=h3 x hx j hj; have:=hX j hx'; omega⟩
 rcases h with h | h | ⟨rfl,ch,qq,h1,h2,h3,h4,h5⟩
 ·exact Or.inl h
 ·exact Or.inr (Or.inl h)
 ·exact Or.inr (Or.inr ⟨rfl,ch,qq,h1,h2,h4,h5,key h3.goals,key h3.vals,key h3.done⟩)
theorem ProgIn.cell {w:World} {lb cap:Nat} {cs:List Cls} {xs:List (List Value)} (h:ProgIn w (.slice (some ⟨lb,0,none⟩) cs.length cap) cs xs) {k:Nat} {c:Cls} (hc:cs[k]?=some c):∃ hv bv nv,w.cell? ⟨lb,k * 3,none⟩=some hv∧w.cell? ⟨lb,k * 3+1,none⟩=some bv∧w.cell? ⟨lb,k * 3+2,none⟩=some nv∧ClsIn w hv bv nv c:=by
 obtain ⟨hv,bv,nv,hx,hcl⟩:=h.all k c hc
 have key:∀ (xs:List (List Value)) (k:Nat),(∀ x ∈ xs,x.length=3)→xs[k]?=some [hv,bv,nv]→∀ j,j<3→xs.flatten[k * 3+j]?=[hv,bv,nv][j]?:=by
  intro xs
  induction xs with
  | nil=>intro k _ h; simp at h
  | cons x xs ih =>
   intro k h3 hk j hj
   rw [List.flatten_cons]
   have hx3:=h3 x (by simp)
   cases k with
   | zero =>
    simp at hk
    subst hk
    rw [Qc (by simp; omega)]
    simp
   | succ k =>
    rw [Qd (by omega),hx3]
    have:=ih k (fun y hy=>h3 y (by simp [hy])) (by simpa using hk) j hj
    rw [← this]
    congr 1
    omega
 have k3:=key xs k h.three hx
 refine ⟨hv,bv,nv,Zaf h.owns _ _ ?_,Zaf h.owns _ _ ?_,Zaf h.owns _ _ ?_,hcl⟩
 ·have:=k3 0 (by omega); simpa using this
 ·have:=k3 1 (by omega); simpa using this
 ·have:=k3 2 (by omega); simpa using this
theorem Znb {l:List Sym} (hl:l.length≤1000) (hw:Wf 1 l) (hn:∀ s ∈ l,s.name.length≤4096) {seen:List Nat} (hs:seen.length+l.length≤4000) :
  (Zck (Zaz l seen).1 []).length≤4100 * l.length∧(Zaz l seen).2.length≤seen.length+l.length:=by
 have hT:=Yfz 1000 hl hw
 obtain ⟨h1,h2⟩:=Zmm hT seen
 have:=Zjq 1000 l hT hn seen hs
 rw [h1,h2] at this
 omega
theorem Zsm:∀ (names:Names) (ts:List (List Sym)) (sep:List UInt8) (seen:List Nat),(∀ x ∈ names,x.length≤4096)→(∀ t ∈ ts,Wf 1 t∧t.length≤1000∧∀ s ∈ t,s.name.length≤4096)→sep.length≤1→seen.length+ts.flatten.length≤4000 →
  (Zfw sep names (Zbe ts seen).1).length≤4098 * names.length+4100 * ts.flatten.length:=by
 intro names
 induction names with
 | nil=>intro ts sep seen _ _ _ _; cases ts <;> simp [Zbe,Zfw]
 | cons x xs ih =>
  intro ts sep seen h1 h2 h3 h4
  cases ts with
  | nil=>simp [Zbe,Zfw]
  | cons t ts =>
   obtain ⟨t1,t2,t3⟩:=h2 t (by simp)
   simp only [List.flatten_cons,Qg] at h4 ⊢
   obtain ⟨c1,c2⟩:=Znb t2 t1 t3 (seen:=seen) (by omega)
   have h:=ih ts [44] (Zaz t seen).2 (fun y hy=>h1 y (by simp [hy])) (fun y hy=>h2 y (by simp [hy])) (by simp) (by omega)
   have hx:=h1 x (by simp)
   simp only [Zbe,Zfw,Qg,Qf]
   omega
theorem Zqj (w:World) (X:Nat→Prop) (av nv gv vv dv uv:Value) (vs:Int) (names:Names) (n:ND) (lo:Nat) (vx:List Value) (hav:∃ a l c,av = .slice a l c) (hgv:∃ a l c,gv = .slice a l c) (hdv:∃ a l c,dv = .slice a l c) (huv:∃ a l c,uv = .slice a l c)
  (hN:w.ownsRow lo 9 1 nv names.length (strs names)) (hV:RowT X w vv n.vals vx) (hl:names.length=n.vals.length) (hn:names.length≤125) (hnl:∀ x ∈ names,x.length≤4096) (hs:∀ t ∈ n.vals,t.length≤30∧∀ s ∈ t,s.name.length≤4096) :
  Calls Tryz.prog 116 #[.agg #[av,nv],.agg #[gv,vv,dv,uv,.int .i64 vs]] w fun e w'=>e = .returned (.string ⟨(Zdg names n).toArray⟩)∧Ext w w':=by
 obtain ⟨aa,al,ac,rfl⟩:=hav
 obtain ⟨ga,gl,gc,rfl⟩:=hgv
 obtain ⟨da,dl,dc,rfl⟩:=hdv
 obtain ⟨ua,ul,uc,rfl⟩:=huv
 obtain ⟨na,ncap,rfl⟩:=Zad hN
 obtain ⟨va,vcap,rfl⟩:=Zad hV.1
 have hwf:=hV.wf
 have HN:=Zaa hN
 have HV:=Zaa hV
 clear hN hV
 cases hnm:names with
 | nil =>
  have hl0:n.vals.length=0:=by rw [← hl,hnm]; rfl
  have Hans:Hid (Zdg [] n=[121,101,115]):=by show _=_; simp [Zdg]
  clear HN HV hl hn hnl hs hwf hnm
  go_enter Tryz.func116,Tryz.ntmps116
  go_wp2
  go_ret
  rw [Hans.out]
  exact ⟨rfl,(Ext.of (by repeat' (first | with_reducible(first|exact Qx _ _|apply Kept.drew|apply Kept.drewN|apply Qz|refine Qy ?_ ?_ _)|exact fun h=>absurd h (by simp <;> omega))))⟩
 | cons x0 xr =>
  rw [← hnm]
  have hpos:0<names.length:=by rw [hnm]; simp
  have hne:(((names.length:Nat):Int) == 0)=false:=by rw [Qu]; omega
  obtain ⟨F,hF⟩:∃ F,F=Zfw [] names (Zbe n.vals []).1:=⟨_,rfl⟩
  have Hans:Hid (Zdg names n=F):=by show _=_; rw [hF,Zdg,if_neg (by rw [hnm]; simp)]
  have hfl:n.vals.flatten.length≤3750:=by
   have key:∀ ls:List (List Sym),(∀ t ∈ ls,t.length≤30)→ls.flatten.length≤30 * ls.length:=by
    intro ls
    induction ls with
    | nil=>intro _; simp
    | cons t ts ih =>
     intro h
     have h1:=h t (by simp)
     have h2:=ih (fun y hy=>h y (by simp [hy]))
     simp only [List.flatten_cons,Qg,Qf]; omega
   have:=key n.vals (fun t ht=>(hs t ht).1)
   omega
  have hFl:F.length≤20000000:=by
   have:=Zsm names n.vals [] [] hnl (fun t ht=>⟨hwf t ht,by have:=(hs t ht).1; omega,(hs t ht).2⟩) (by simp) (by simp only [Qt]; omega)
   rw [hF]; omega
  have HF:=Zaa hF
  have Hl:=Zaa hl
  have hn2:n.vals.length≤125:=by omega
  have Hs:=Zaa hs
  have Hnl:=Zaa hnl
  have Hwf:=Zaa hwf
  clear hnm hF hs hnl hwf hl
  go_enter Tryz.func116,Tryz.ntmps116
  go_wp2
  obtain ⟨W0,hW0⟩:∃ W0,W0=(w.alloc (.cells #[.slice aa al ac,.slice na names.length ncap] 148)).alloc (.cells #[.slice ga gl gc,.slice va n.vals.length vcap,.slice da dl dc,.slice ua ul uc,.int .i64 vs] 152):=⟨_,rfl⟩
  have hE0:Ext w W0:=by rw [hW0]; exact (Ext.of (by repeat' (first | with_reducible(first|exact Qx _ _|apply Kept.drew|apply Kept.drewN|apply Qz|refine Qy ?_ ?_ _)|exact fun h=>absurd h (by simp <;> omega))))
  have hs0:W0.heap.size=w.heap.size+2:=by rw [hW0]; simp
  have hA0:W0.heap[w.heap.size]?=some (.cells #[.slice aa al ac,.slice na names.length ncap] 148 (0,0)):=by rw [hW0]; exact Zag (heap_alloc_new w _) _
  have hB0:W0.heap[w.heap.size+1]?=some (.cells #[.slice ga gl gc,.slice va n.vals.length vcap,.slice da dl dc,.slice ua ul uc,.int .i64 vs] 152 (0,0)):=by rw [hW0]; simpa using heap_alloc_new (w.alloc _) _
  rw [← hW0]
  have HE0:=Zaa hE0
  have HA0:=Zaa hA0
  have HB0:=Zaa hB0
  clear hW0 hE0 hA0 hB0
  go_loopg [5,6,7] (names.length+1) (fun gk tx sl i wr=>∃ (k:Nat) (sk:List Nat) (dt:List UInt8),i = .int .i64 k∧k≤names.length∧names.length - k<gk∧tx = .string ⟨dt.toArray⟩ ∧
   dt++Zfw (if k=0 then [] else [44]) (names.drop k) (Zbe (n.vals.drop k) sk).1=F∧sk.length+(n.vals.drop k).flatten.length≤3750∧Appended W0 W0.heap.size 3 1 (.slice none 0 0) sk.length (ints sk) sl wr)
  case atStart=>exact ⟨0,[],[],by go_num,Qm _,by omega,rfl,by simp [HF.out],by simpa using hfl,⟨World.ownsRow_nil _ _ _ _,Qx _ _,Or.inl rfl⟩⟩
  case round =>
   obtain ⟨k,sk,dt,rfl,hk,hgk,rfl,hdt,hsk,hap⟩:=hrel
   obtain ⟨ska,skcap,rfl⟩:=Zad hap.owns
   have hdl:dt.length≤20000000:=by
    have h1:=congrArg List.length hdt
    simp only [Qg] at h1
    omega
   have hE0r:Ext W0 wr:=hap.kept.below (Qe _) (fun i e=>by simp [Zap,Value.ownBlock] at e)
   have hsr:=hE0r.size
   have hEwr:Ext w wr:=HE0.out.trans (hE0r.mono (by omega))
   have hA:=(hE0r.block _ (by omega)).trans HA0.out
   obtain ⟨b0,b1⟩:wr.cell? ⟨w.heap.size,0,none⟩=some (.slice aa al ac)∧wr.cell? ⟨w.heap.size,1,none⟩=some (.slice na names.length ncap):=⟨Zab hA 0 _ rfl,Zab hA 1 _ rfl⟩
   obtain ⟨m0,m1,m2,m3,m4,mf⟩:=box5 ((hE0r.block (w.heap.size+1) (by omega)).trans HB0.out)
   have Hap:=Zaa hap
   have Hdt:=Zaa hdt
   have HEwr:=Zaa hEwr
   have HE0r:=Zaa hE0r
   clear hap hdt hEwr hE0r hA
   by_cases hlt:k<names.length
   ·obtain ⟨x,hx⟩:∃ x,names[k]?=some x:=⟨_,Qb hlt⟩
    have hlv:k<n.vals.length:=by have:=Hl.out; omega
    obtain ⟨t,ht⟩:∃ t,n.vals[k]?=some t:=⟨_,Qb hlv⟩
    have hdx:names.drop k=x::names.drop (k+1):=by
     rw [List.drop_eq_getElem_cons hlt,(Qa.1 hx).2]
    have hdv:n.vals.drop k=t::n.vals.drop (k+1):=by
     rw [List.drop_eq_getElem_cons hlv,(Qa.1 ht).2]
    obtain ⟨a',b',c',x0,x1,x2,hrt⟩:=HV.out.2.2 k t ht
    obtain ⟨s3,n3,c3a,c3l,c3c,rfl,rfl,rfl⟩:=hrt.shape
    have hrow':=HV.out.ext (Y:=X) HEwr.out (fun _ _ h=>h)
    obtain ⟨gb,cap',cur,hge,hBg,hgb,hcp⟩:=Zan hrow'.1 (by omega)
    simp only [Value.slice.injEq] at hge
    obtain ⟨rfl,_,rfl⟩:=hge
    have y0:wr.cell? ⟨gb,k * 3,none⟩=some (.string s3):=Zaf hrow'.1 _ _ x0
    have y1:wr.cell? ⟨gb,k * 3+1,none⟩=some (.int .i64 n3):=Zaf hrow'.1 _ _ x1
    have y2:wr.cell? ⟨gb,k * 3+2,none⟩=some (.slice c3a c3l c3c):=Zaf hrow'.1 _ _ x2
    have hnr:=Zak HN.out (fun i hi=>HEwr.out.block i (HN.out.lt i hi).2)
    obtain ⟨nb,ncap',ncur,hne',hNB,hnb,hncp⟩:=Zan hnr (by omega)
    simp only [Value.slice.injEq] at hne'
    obtain ⟨rfl,_,rfl⟩:=hne'
    have z0:wr.cell? ⟨nb,k,none⟩=some (.string ⟨x.toArray⟩):=Zaf hnr k _ (by simp only [strs,Qj,hx,Option.map_some])
    have hxl:=Hnl.out x (Qh hx)
    obtain ⟨ht30,htn⟩:=Hs.out t (Qh ht)
    have htw:=Hwf.out t (Qh ht)
    have hT:=Yfz 1000 (by omega) htw
    obtain ⟨wc1,wc2⟩:=Zmm hT sk
    have hskl:sk.length+t.length+(n.vals.drop (k+1)).flatten.length≤3750:=by
     rw [hdv] at hsk
     simp only [List.flatten_cons,Qg] at hsk
     omega
    obtain ⟨cl1,cl2⟩:=Znb (by omega) htw htn (seen:=sk) (by omega)
    have hI:=Ztd 1000 wr 0 wr.heap.size _ _ _ t W0.heap.size sk _ ((hrt.ext HEwr.out (fun _ _ h=>h)).repT (by omega)) Hap.out.owns hsr htn (by omega)
    rw [wc1,wc2] at hI
    have HI:=Zaa hI
    have hcl1:(Zck (Zaz t sk).1 []).length≤200000:=by omega
    have hnbl:=Zac hnb
    obtain ⟨tx,htx⟩:∃ tx,tx=Zck (Zaz t sk).1 []:=⟨_,rfl⟩
    obtain ⟨sk2,hsk2⟩:∃ sk2,sk2=(Zaz t sk).2:=⟨_,rfl⟩
    have Hnext:Hid (∀ sep:List UInt8,dt++(sep++(x++(61::(tx++Zfw [44] (names.drop (k+1)) (Zbe (n.vals.drop (k+1)) sk2).1))))=dt++Zfw sep (names.drop k) (Zbe (n.vals.drop k) sk).1):=fun sep=>by
     rw [hdx,hdv,htx,hsk2]; simp [Zbe,Zfw]
    rw [← htx] at hcl1
    rw [← hsk2] at cl2
    rw [← htx,← hsk2] at HI
    clear hgb hrow' hrt x0 x1 x2 ht hx hnr hnb hdx hdv hT wc1 wc2 hI htw htn cl1 htx hsk2
    by_cases h0:k=0
    ·have hk0:¬ (0:Int)<(k:Int):=by omega
     have Hd0:Hid ((dt++x++[61]++tx)++Zfw [44] (names.drop (k+1)) (Zbe (n.vals.drop (k+1)) sk2).1=F):=by
      have h1:=Hdt.out
      rw [if_pos h0,← Hnext.out []] at h1
      show _=_
      rw [← h1]; simp
     have Hstr:Hid ((⟨dt.toArray⟩:ByteArray)++⟨x.toArray⟩++⟨[61].toArray⟩++⟨tx.toArray⟩=⟨(dt++x++[61]++tx).toArray⟩):=by
      show _=_; rw [Zcf,Zcf,Zcf]
     have H0:=Zaa h0
     clear h0
     go_wp2_with fail
     refine HI.out.mono ?_
     rintro e w1 ⟨sv',rfl,hap1⟩
     obtain ⟨s1a,s1cap,rfl⟩:=Zad hap1.owns
     have hk1:Kept (fun i=>W0.heap.size≤i) wr w1:=hap1.kept.mono (fun i _ e=>(Hap.out.owns.lt i e).1)
     have b1':w1.cell? ⟨w.heap.size,1,none⟩=some (.slice (some ⟨nb,0,none⟩) names.length ncap):=hk1.cell b1 (by show ¬ W0.heap.size≤w.heap.size; omega)
     have z0':w1.cell? ⟨nb,k,none⟩=some (.string ⟨x.toArray⟩):=hk1.cell z0 (by have:=(HN.out.lt nb rfl).2; show ¬ W0.heap.size≤nb; omega)
     have Hap1:=Zaa hap1
     clear hap1 y0 y1 y2 hk1
     go_wp2
     go_roundg (names.length - k)
     case measure=>omega
     case rel=>exact ⟨k+1,sk2,dt++x++[61]++tx,by go_num,by omega,by omega,by rw [← Hstr.out],by simpa using Hd0.out,by omega,Hap.out.trans Hap1.out⟩
    ·have hk0:(0:Int)<(k:Int):=by omega
     have Hd0:Hid ((dt++[44]++x++[61]++tx)++Zfw [44] (names.drop (k+1)) (Zbe (n.vals.drop (k+1)) sk2).1=F):=by
      have h1:=Hdt.out
      rw [if_neg h0,← Hnext.out [44]] at h1
      show _=_
      rw [← h1]; simp
     have Hstr:Hid ((⟨dt.toArray⟩:ByteArray)++⟨[44].toArray⟩++⟨x.toArray⟩++⟨[61].toArray⟩++⟨tx.toArray⟩=⟨(dt++[44]++x++[61]++tx).toArray⟩):=by
      show _=_; rw [Zcf,Zcf,Zcf,Zcf]
     have H0:=Zaa h0
     clear h0
     go_wp2_with fail
     refine HI.out.mono ?_
     rintro e w1 ⟨sv',rfl,hap1⟩
     obtain ⟨s1a,s1cap,rfl⟩:=Zad hap1.owns
     have hk1:Kept (fun i=>W0.heap.size≤i) wr w1:=hap1.kept.mono (fun i _ e=>(Hap.out.owns.lt i e).1)
     have b1':w1.cell? ⟨w.heap.size,1,none⟩=some (.slice (some ⟨nb,0,none⟩) names.length ncap):=hk1.cell b1 (by show ¬ W0.heap.size≤w.heap.size; omega)
     have z0':w1.cell? ⟨nb,k,none⟩=some (.string ⟨x.toArray⟩):=hk1.cell z0 (by have:=(HN.out.lt nb rfl).2; show ¬ W0.heap.size≤nb; omega)
     have Hap1:=Zaa hap1
     clear hap1 y0 y1 y2 hk1
     go_wp2
     go_roundg (names.length - k)
     case measure=>omega
     case rel=>exact ⟨k+1,sk2,dt++[44]++x++[61]++tx,by go_num,by omega,by omega,by rw [← Hstr.out],by simpa using Hd0.out,by omega,Hap.out.trans Hap1.out⟩
   ·have Hend:Hid (F=dt):=by
     have h1:=Hdt.out
     rw [List.drop_eq_nil_of_le (by omega)] at h1
     have e:Zfw (if k=0 then [] else [44]) [] (Zbe (n.vals.drop k) sk).1=[]:=by cases (Zbe (n.vals.drop k) sk).1 <;> rfl
     rw [e,Qs] at h1
     exact h1.symm
    go_wp2
    go_ret
    rw [Hans.out,Hend.out]
    exact ⟨rfl,HEwr.out⟩
theorem Znc {n:ND} {c:Cls} {k:Nat} (h:(tryN n c k).2=1∨(tryN n c k).2=2):(tryN n c k).1.vals.length=n.vals.length:=by
 by_cases hex:∃ r:ND × Nat,∃ m,NOk m∧Same m n∧Out m c k r.2 r.1
 ·have e:tryN n c k=Classical.choose hex:=by unfold tryN; rw [dif_pos hex]
  obtain ⟨m,_,hS,g,gs,_,ho⟩:=Classical.choose_spec hex
  rw [e] at h ⊢
  rcases ho with ⟨h0,_⟩ | ⟨h0,_⟩ | ⟨σ,_,_,_,h4⟩
  ·omega
  ·omega
  ·rw [h4]; simp [Zaq,hS.vl]
 ·have e:tryN n c k=(⟨[],[],[],[],0⟩,0):=by unfold tryN; rw [dif_neg hex]
  rw [e] at h
  simp at h
theorem Yhv:∀ {met:List Nat} {n k:Nat},(∀ i,i<k→met[i]?≠some n)→met[k]?=some n→met.idxOf n=k:=by
 intro met
 induction met with
 | nil=>intro n k _ h; simp at h
 | cons x met ih =>
  intro n k h1 h2
  rw [List.idxOf_cons]
  cases k with
  | zero=>simp at h2; subst h2; simp
  | succ k =>
   have hx:x≠n:=fun e=>h1 0 (by omega) (by simp [e])
   have:(x == n)=false:=by rw [Qu]; exact hx
   rw [this]
   simp only [cond_false]
   rw [ih (n:=n) (k:=k) (fun i hi=>by have:=h1 (i+1) (by omega); simpa using this) (by simpa using h2)]
theorem Yev:∀ {met:List Nat} {n:Nat},(∀ i,i<met.length→met[i]?≠some n)→met.idxOf n=met.length:=by
 intro met
 induction met with
 | nil=>intro n _; rfl
 | cons x met ih =>
  intro n h1
  rw [List.idxOf_cons]
  have hx:x≠n:=fun e=>h1 0 (by simp) (by simp [e])
  have:(x == n)=false:=by rw [Qu]; exact hx
  rw [this]
  simp only [cond_false,Qf]
  rw [ih (n:=n) (fun i hi=>by have:=h1 (i+1) (by simp; omega); simpa using this)]
theorem Zul (w:World) (n:Nat) (lv:Value) (met:List Nat) (h:w.ownsRow 0 3 1 lv met.length (ints met)) (hl:met.length≤10000) (hn:n≤200000) :
  Calls Tryz.prog 134 #[.int .i64 n,lv] w fun e w'=>e = .returned (.int .i64 (met.idxOf n))∧w'=w:=by
 obtain ⟨la,lcap,rfl⟩:=Zad h
 have H:=Zaa h
 clear h
 go_enter Tryz.func134,Tryz.ntmps134
 go_wp2
 go_loopg [5] (met.length+1) (fun gk pv wr=>∃ (k:Nat),pv = .int .i64 k∧k≤met.length∧met.length - k<gk∧wr=w∧∀ i,i<k→met[i]?≠some n)
 case atStart=>exact ⟨0,by go_num,Qm _,by omega,rfl,fun i hi=>by omega⟩
 case round =>
  obtain ⟨k,rfl,hk,hgk,rfl,hbef⟩:=hrel
  have Hbef:=Zaa hbef
  clear hbef
  by_cases hlt:k<met.length
  ·have hlt':(k:Int)<(met.length:Int):=by omega
   obtain ⟨x,hx⟩:∃ x,met[k]?=some x:=⟨_,Qb hlt⟩
   obtain ⟨g,cap',cur,he,_,hgb,_⟩:=Zan H.out (by omega)
   simp only [Value.slice.injEq] at he
   obtain ⟨rfl,_,rfl⟩:=he
   have x0:wr.cell? ⟨g,k,none⟩=some (.int .i64 x):=Zaf H.out k _ (by simp only [ints,Qj,hx,Option.map_some])
   have hgl:=Zac hgb
   have Hx:=Zaa hx
   clear hx hgb
   by_cases hxn:x=n
   ·subst hxn
    have Hi:Hid (met.idxOf x=k):=Yhv Hbef.out Hx.out
    go_wp2
    go_ret
    exact ⟨by rw [Hi.out]; simp,rfl⟩
   ·have hb:((x:Int) != (n:Int))=true:=by rw [bne_iff_ne]; omega
    go_wp2
    go_roundg (met.length - k)
    case measure=>omega
    case rel =>
     refine ⟨k+1,by go_num,by omega,by omega,rfl,fun i hi => ?_⟩
     by_cases e:i=k
     ·subst e
      rw [Hx.out]
      simpa using hxn
     ·exact Hbef.out i (by omega)
  ·have hek:k=met.length:=by omega
   subst hek
   have Hi:Hid (met.idxOf n=met.length):=Yev Hbef.out
   have hlt':¬ ((met.length:Int)<(met.length:Int)):=by omega
   go_wp2
   go_ret
   exact ⟨by rw [Hi.out]; simp,rfl⟩
theorem TermsAt.other {w w':World} {B B2 n s:Nat} {e:TypeId} {v vv:Value} {ls:List (List Sym)} {vs ys:List Value} (h:TermsAt w B v ls vs) (hv:w.ownsRow B2 e s vv n ys) (he1:105≠e) (he2:133≠e) (hk:Kept (Zap vv) w w'):TermsAt w' B v ls vs :=
 ⟨hk.owns h.owns (fun j hj hS=>by
  obtain ⟨cur,hc⟩:=Zar hv j hS
  exact Zah h.owns he1 hc hj),fun i l hi=>by
  obtain ⟨x,h1,h2⟩:=h.all i l hi
  refine ⟨x,h1,hk.owns h2 (fun j hj hS => ?_)⟩
  obtain ⟨cur,hc⟩:=Zar hv j hS
  exact Zah h2 he2 hc hj⟩
structure OrdB (w:World) (Bc:Nat) (rl:List (List Sym)) (rv:Value) (xs:List Value) (met:List Nat) (mv:Value) (ch:List Sym) (cv:Value) (wr:World):Prop where
 ext:Ext w wr
 row:TermsAt wr w.heap.size rv rl xs
 low:∀ x ∈ xs,∀ j,x.ownBlock=some j→j<Bc
 met:wr.ownsRow w.heap.size 3 1 mv met.length (ints met)
 b1:w.heap.size≤Bc
 b2:Bc≤wr.heap.size
 chg:wr.ownsRow Bc 133 3 cv ch.length (Zam ch)
theorem OrdB.on {w wr w1:World} {Bc:Nat} {rl:List (List Sym)} {rv mv cv:Value} {xs:List Value} {met:List Nat} {ch:List Sym} (h:OrdB w Bc rl rv xs met mv ch cv wr) (e:Ext wr w1):OrdB w Bc rl rv xs met mv ch cv w1:=by
 obtain ⟨h1,h2,h3,h4,h5,h6,h7⟩:=h
 exact ⟨h1.trans (e.mono h1.size),h2.ext e,h3,Zak h4 (fun j hj=>e.block j (h4.lt j hj).2),h5,Qq h6 e.size,Zak h7 (fun j hj=>e.block j (h7.lt j hj).2)⟩
theorem OrdB.metApp {w w1 w2:World} {Bc n:Nat} {rl:List (List Sym)} {rv mv mv2 cv:Value} {xs:List Value} {met:List Nat} {ch:List Sym} (h:OrdB w Bc rl rv xs met mv ch cv w1) (hap:Appended w1 w.heap.size 3 1 mv (met.length+1) (ints met++[.int .i64 n]) mv2 w2):OrdB w Bc rl rv xs (met++[n]) mv2 ch cv w2:=by
 obtain ⟨h1,h2,h3,h4,h5,h6,h7⟩:=h
 have hsz:=hap.kept.size
 refine ⟨h1.trans (hap.kept.below h1.size (fun j hj=>(h4.lt j hj).1)),h2.other h4 (by decide) (by decide) hap.kept,h3,?_,h5,by omega,hap.kept.owns h7 (fun j hj hS => ?_)⟩
 ·have:=hap.owns
  simpa [ints] using this
 ·obtain ⟨cur,hc⟩:=Zar h4 j hS
  exact Zah h7 (by decide) hc hj
theorem OrdB.chApp {w w1 w2:World} {Bc:Nat} {rl:List (List Sym)} {rv mv cv cv2:Value} {xs:List Value} {met:List Nat} {ch:List Sym} {s:Sym} (h:OrdB w Bc rl rv xs met mv ch cv w1) (hap:Appended w1 Bc 133 3 cv (ch.length+1) (Zam ch++Zby s) cv2 w2):OrdB w Bc rl rv xs met mv (ch++[s]) cv2 w2:=by
 obtain ⟨h1,h2,h3,h4,h5,h6,h7⟩:=h
 have hsz:=hap.kept.size
 refine ⟨h1.trans (hap.kept.below h1.size (fun j hj=>Qq h5 (h7.lt j hj).1)),⟨hap.kept.owns h2.owns (fun j hj hS => ?_),fun i l hi => ?_⟩,h3,hap.kept.owns h4 (fun j hj hS => ?_),h5,by omega,?_⟩
 ·obtain ⟨cur,hc⟩:=Zar h7 j hS
  exact Zah h2.owns (by decide) hc hj
 ·obtain ⟨x,e1,e2⟩:=h2.all i l hi
  refine ⟨x,e1,hap.kept.owns e2 (fun j hj hS => ?_)⟩
  have:=h3 x (Qh e1) j hj
  have:=(h7.lt j hS).1
  omega
 ·obtain ⟨cur,hc⟩:=Zar h7 j hS
  exact Zah h4 (by decide) hc hj
 ·have:=hap.owns
  rw [Zdm,Qg]
  simpa [Zam] using this
theorem OrdB.box {w w1 w2:World} {Bc M:Nat} {cs:Array Value} {fr:Nat × Nat} {rl:List (List Sym)} {rv mv cv:Value} {xs:List Value} {met:List Nat} {ch:List Sym} (h:OrdB w Bc rl rv xs met mv ch cv w1) (hM:w1.heap[M]?=some (.cells cs 133 fr)) (hB:Bc≤M) (hc:∀ j,cv.ownBlock=some j→j≠M) (hk:Kept (fun k=>k=M) w1 w2):OrdB w Bc rl rv xs met mv ch cv w2:=by
 obtain ⟨h1,h2,h3,h4,h5,h6,h7⟩:=h
 have hsz:=hk.size
 refine ⟨h1.trans (hk.below h1.size (fun j hj=>by omega)),⟨Zdl h2.owns hM (by decide) hk,fun i l hi => ?_⟩,h3,Zdl h4 hM (by decide) hk,h5,by omega,hk.owns h7 (fun j hj hS=>hc j hj hS)⟩
 obtain ⟨x,e1,e2⟩:=h2.all i l hi
 refine ⟨x,e1,hk.owns e2 (fun j hj hS => ?_)⟩
 have:=h3 x (Qh e1) j hj
 have hS:j=M:=hS
 omega
theorem TermsAt.words {w:World} {B:Nat} {v:Value} {ls:List (List Sym)} {vs:List Value} (h:TermsAt w B v ls vs):∀ x ∈ vs,∀ j,x.ownBlock=some j→j<w.heap.size:=fun x hx j hj=>by
 have hlen:vs.length=ls.length:=by have:=h.owns.1; omega
 obtain ⟨i,hi⟩:=List.mem_iff_getElem?.1 hx
 have hil:=(Qa.1 hi).1
 obtain ⟨y,h3,h4⟩:=h.all i _ (Qb (by omega))
 rw [hi] at h3
 simp only [Qo] at h3
 subst h3
 exact (h4.lt j hj).2
theorem Yew (n:Nat) (met:List Nat):(meet n met).length≤met.length+1:=by unfold meet; split <;> simp
theorem Zov:∀ (l:List Sym) (met:List Nat),(Zaz l met).2.length≤met.length+l.length:=by
 intro l
 induction l with
 | nil=>intro met; simp [Zaz]
 | cons s l ih =>
  intro met
  simp only [Zaz]
  split
  ·have:=ih (meet s.num met); have:=Yew s.num met; simp; omega
  ·have:=ih met; simp; omega
theorem Zow:∀ (ts:List (List Sym)) (met:List Nat),(Zbe ts met).2.length≤met.length+ts.flatten.length:=by
 intro ts
 induction ts with
 | nil=>intro met; simp [Zbe]
 | cons t ts ih =>
  intro met
  simp only [Zbe,List.flatten_cons,Qg]
  have:=ih (Zaz t met).2
  have:=Zov t met
  omega
def Yix (ts:List (List Sym)) (w:World) (e:Ending) (w':World):Prop:=Ext w w'∧∃ x c,e = .returned (.slice x ts.length c)∧TermsIn w' (.slice x ts.length c) (Zbe ts []).1
theorem Zum (w:World) (tv:Value) (ts:List (List Sym)) (h:TermsIn w tv ts) (hl:ts.length≤1000) (hf:ts.flatten.length≤8000) (hok:∀ t ∈ ts,TmOk t) :
  Calls Tryz.prog 99 #[tv] w (Yix ts w):=by
 obtain ⟨us,h⟩:=h
 obtain ⟨ta,tcap,rfl⟩:=Zad h.owns
 have H:=Zaa h
 have Hok:=Zaa hok
 have Hf:=Zaa hf
 clear h hok hf
 go_enter Tryz.func99,Tryz.ntmps99
 go_wp2
 go_loopg [3,4,13] (ts.length+1) (fun gk rv mv iv wr=>∃ (k:Nat) (xs:List Value),iv = .int .i64 k∧k≤ts.length∧ts.length - k<gk∧OrdB w wr.heap.size (Zbe (ts.take k) []).1 rv xs (Zbe (ts.take k) []).2 mv [] (.slice none 0 0) wr)
 case atStart=>exact ⟨0,[],by go_num,Qm _,by omega,Below.refl _ _,TermsAt.nil _ _,by simp,World.ownsRow_nil _ _ _ _,Qe _,Qe _,World.ownsRow_nil _ _ _ _⟩
 case round =>
  obtain ⟨k,xs,rfl,hk,hgk,hA⟩:=hrel
  have hmet:(Zbe (ts.take k) []).2.length≤8000:=by
   have h1:=Zow (ts.take k) []
   have h2:=Hf.out
   have h3:(ts.take k).flatten.length≤ts.flatten.length:=by
    conv=>rhs; rw [← List.take_append_drop k ts,List.flatten_append,Qg]
    omega
   simp at h1
   simp at h2 h3
   omega
  have hlk:(Zbe (ts.take k) []).1.length=k:=by rw [Zha]; simp; omega
  obtain ⟨rl,hrl⟩:∃ r,r=(Zbe (ts.take k) []).1:=⟨_,rfl⟩
  obtain ⟨met,hme⟩:∃ r,r=(Zbe (ts.take k) []).2:=⟨_,rfl⟩
  rw [← hrl,← hme] at hA
  rw [← hme] at hmet
  rw [← hrl] at hlk
  have hrow:=hA.row.owns
  rw [hlk] at hrow
  obtain ⟨ra,rcap,rfl⟩:=Zad hrow
  obtain ⟨ma,mcap,rfl⟩:=Zad hA.met
  have hsr:=hA.ext.size
  have HA:=Zaa hA
  have Hrl:=Zaa hrl
  have Hme:=Zaa hme
  have Hlk:=Zaa hlk
  clear hA hrow hrl hme hlk
  by_cases hlt:k<ts.length
  ·obtain ⟨t,ht⟩:∃ t,ts[k]?=some t:=⟨_,Qb hlt⟩
   obtain ⟨x,hx,hxo⟩:=H.out.all _ t ht
   obtain ⟨xa,xcap,rfl⟩:=Zad hxo
   obtain ⟨g,cap',cur,he,_,hgb,_⟩:=Zan H.out.owns (by omega)
   simp only [Value.slice.injEq] at he
   obtain ⟨rfl,_,rfl⟩:=he
   have hgw:=Zac hgb
   have hgr:g<wr.heap.size:=by omega
   have x0:wr.cell? ⟨g,k,none⟩=some (.slice xa t.length xcap):=(HA.out.ext.cell (p:=⟨g,k,none⟩) hgw).trans (Zaf H.out.owns _ _ hx)
   obtain ⟨o1,o2,o3⟩:=Hok.out t (Qh ht)
   have Hxo:Hid (WordAt w (.slice xa t.length xcap) t):=hxo
   have Ht:=Zaa ht
   have Ho3:=Zaa o3
   have Hta:Hid (∀ (i:Nat) s,t[i]?=some s→s.name=[]→s.args=0):=fun i s hs=>by obtain ⟨j,hj⟩:=o1; exact (Zjk hj hs).1
   have hm8:met.length+t.length≤9000:=by omega
   obtain ⟨wo,hwo⟩:∃ x,x=wr:=⟨_,rfl⟩
   subst hwo
   clear ht hx hxo hgb o1 o3
   go_wp2
   go_loopg [4,7,19] (t.length+1) (fun gk mv cv iv wr=>∃ (i:Nat),iv = .int .i64 i∧i≤t.length∧t.length - i<gk∧OrdB w wo.heap.size rl (.slice ra k rcap) xs (Zaz (t.take i) met).2 mv (Zaz (t.take i) met).1 cv wr)
   case atStart=>exact ⟨0,by go_num,Qm _,by omega,HA.out⟩
   case round =>
    obtain ⟨i,rfl,hi,hgi,hB⟩:=hrel
    have hmi:(Zaz (t.take i) met).2.length≤9000:=by
     have:=Zov (t.take i) met
     simp at this
     omega
    have hci:(Zaz (t.take i) met).1.length=i:=by rw [Zjw]; simp; omega
    obtain ⟨ch,hch⟩:∃ r,r=(Zaz (t.take i) met).1:=⟨_,rfl⟩
    obtain ⟨mt,hmt⟩:∃ r,r=(Zaz (t.take i) met).2:=⟨_,rfl⟩
    rw [← hch,← hmt] at hB
    rw [← hmt] at hmi
    rw [← hch] at hci
    have hcg:=hB.chg
    rw [hci] at hcg
    obtain ⟨ca,ccap,rfl⟩:=Zad hcg
    obtain ⟨na,ncap,rfl⟩:=Zad hB.met
    have hsi:=hB.ext.size
    have hb2:=hB.b2
    have HB:=Zaa hB
    have Hch:=Zaa hch
    have Hmt:=Zaa hmt
    have Hci:=Zaa hci
    clear hB hcg hch hmt hci x0
    by_cases hit:i<t.length
    ·obtain ⟨s,hs⟩:∃ s,t[i]?=some s:=⟨_,Qb hit⟩
     obtain ⟨g2,cap2,cur2,he2,_,hgb2,_⟩:=Zan Hxo.out (by omega)
     simp only [Value.slice.injEq] at he2
     obtain ⟨rfl,_,rfl⟩:=he2
     have ho:=Zak Hxo.out (fun j hj=>HB.out.ext.block j (Hxo.out.lt j hj).2)
     have hgw2:=Zac hgb2
     have hgr2:g2<wr.heap.size:=by omega
     have e0:wr.cell? ⟨g2,i * 3,none⟩=some (.string ⟨s.name.toArray⟩):=Zaf ho _ _ (by have:=Zbg t i s hs 0 (by omega); rw [Nat.add_zero] at this; rw [this]; rfl)
     have e1:wr.cell? ⟨g2,i * 3+1,none⟩=some (.int .i64 s.num):=Zaf ho _ _ (by rw [Zbg t i s hs 1 (by omega)]; rfl)
     have e2:wr.cell? ⟨g2,i * 3+2,none⟩=some (.int .i64 s.args):=Zaf ho _ _ (by rw [Zbg t i s hs 2 (by omega)]; rfl)
     have hsn:=Ho3.out s (Qh hs)
     have hnx:Zaz (t.take (i+1)) met=(if s.name=[] then (ch++[⟨[],mt.idxOf s.num,s.args⟩],meet s.num mt) else (ch++[s],mt)):=by
      rw [List.take_add_one,hs]
      simp only [Option.toList]
      rw [Zjv,← Hch.out,← Hmt.out]
      simp only [Zaz]
      split <;> rfl
     have Hnx:=Zaa hnx
     clear hs ho hgb2 hnx
     cases hnm:s.name with
     | cons y ys =>
      rw [hnm] at e0
      have Hnx2:Hid (Zaz (t.take (i+1)) met=(ch++[s],mt)):=by show _=_; rw [Hnx.out,if_neg (by rw [hnm]; simp)]
      have Hs2:Hid (s=⟨y::ys,s.num,s.args⟩):=by show _=_; rw [← hnm]
      have hE:Ext wr (wr.alloc (.cells #[.string ⟨(y::ys).toArray⟩,.int .i64 s.num,.int .i64 s.args] 133)):=(Ext.of (by repeat' (first | with_reducible(first|exact Qx _ _|apply Kept.drew|apply Kept.drewN|apply Qz|refine Qy ?_ ?_ _)|exact fun h=>absurd h (by simp <;> omega))))
      have HB1:=Zaa (HB.out.on hE)
      have Hrow:Hid ((wr.alloc (.cells #[.string ⟨(y::ys).toArray⟩,.int .i64 s.num,.int .i64 s.args] 133)).ownsRow wo.heap.size 133 3 (.slice ca i ccap) i (Zam ch)):=by have:=HB1.out.chg; rw [Hci.out] at this; exact this
      clear hnm hE
      go_wp2_with (at_builtin; go_loud (refine Zal (wr.alloc (.cells #[.string ⟨(y::ys).toArray⟩,.int .i64 s.num,.int .i64 s.args] 133)) rfl (.tmp 41) (.tmp 43) 105 rfl wo.heap.size 133 Tryz.infoSym Tryz.underlying105 rfl (by decide) (.slice ca i ccap) i (Zam ch) rfl Hrow.out #[.string ⟨(y::ys).toArray⟩,.int .i64 s.num,.int .i64 s.args] (N:=wr.heap.size+1) rfl (by simp) rfl (Zgy _ _ _) ?_ ?_ ?_))
      ·omega
      ·simp; omega
      intro v2 w2 hap
      obtain ⟨a2,c2,rfl⟩:=Zad hap.owns
      have hB2:=HB1.out.chApp (s:=s) (cv2 := .slice a2 (i+1) c2) (w2:=w2) (by rw [Hci.out,Hs2.out]; simpa [Zby] using hap)
      have HB2:=Zaa hB2
      clear hap hB2
      go_wp2
      go_roundg (t.length - i)
      case measure=>omega
      case rel=>exact ⟨i+1,by go_num,by omega,by omega,by rw [Hnx2.out]; exact HB2.out⟩
     | nil =>
      rw [hnm] at e0
      obtain ⟨P,hP⟩:∃ p,p=mt.idxOf s.num:=⟨_,rfl⟩
      have hPl:P≤mt.length:=by rw [hP]; exact List.idxOf_le_length
      have hE:∀ o,Ext wr (wr.alloc o):=fun o=>(Ext.of (by repeat' (first | with_reducible(first|exact Qx _ _|apply Kept.drew|apply Kept.drewN|apply Qz|refine Qy ?_ ?_ _)|exact fun h=>absurd h (by simp <;> omega))))
      have HPl:=Zaa (Zul (wr.alloc (.cells #[.string ⟨#[]⟩,.int .i64 s.num,.int .i64 s.args] 133)) s.num (.slice na mt.length ncap) mt (Zbb (HB.out.on (hE _)).met (Qm _)) (by omega) hsn)
      rw [← hP] at HPl
      have Hnx2:Hid (Zaz (t.take (i+1)) met=(ch++[⟨[],P,s.args⟩],meet s.num mt)):=by show _=_; rw [Hnx.out,if_pos hnm,← hP]
      have Hmeet:Hid (meet s.num mt=if P=mt.length then mt++[s.num] else mt):=by show _=_; unfold meet; rw [← hP]
      have HE:=Zaa hE
      have HBm:=Zaa (HB.out.on (hE (.cells #[.string ⟨#[]⟩,.int .i64 s.num,.int .i64 s.args] 133)))
      clear hnm hE hP
      go_wp2_with fail
      refine HPl.out.mono ?_
      rintro e w1 ⟨rfl,rfl⟩
      by_cases hnew:P=mt.length
      ·subst hnew
       have hz:((mt.length:Int) == (mt.length:Int))=true:=by simp
       have Hmrow:Hid ((wr.alloc (.cells #[.string ⟨#[]⟩,.int .i64 s.num,.int .i64 s.args] 133)).ownsRow w.heap.size 3 1 (.slice na mt.length ncap) mt.length (ints mt)):=HBm.out.met
       go_wp2_with (at_builtin; go_loud (refine Zal (wr.alloc (.cells #[.string ⟨#[]⟩,.int .i64 s.num,.int .i64 s.args] 133)) rfl (.tmp 34) (.tmp 37) 25 rfl w.heap.size 3 Tryz.infoInt Tryz.underlying25 rfl (by decide) (.slice na mt.length ncap) mt.length (ints mt) rfl Hmrow.out #[.int .i64 s.num] (N:=wr.heap.size+1) rfl (by simp) rfl (Ziv _) ?_ ?_ ?_))
       ·omega
       ·simp; omega
       intro v2 w2 hap
       obtain ⟨a2,c2,rfl⟩:=Zad hap.owns
       have hB2:=HBm.out.metApp (n:=s.num) hap
       have hbx:w2.heap[wr.heap.size]?=some (.cells #[.string ⟨#[]⟩,.int .i64 s.num,.int .i64 s.args] 133 (0,0)):=(hap.kept.block _ (by simp) (Zah Hmrow.out (by decide) (heap_alloc_new wr _))).trans (heap_alloc_new wr _)
       have hK:Kept (fun k=>k=wr.heap.size) w2 (w2.setCell ⟨wr.heap.size,1,none⟩ (.int .i64 mt.length)):=(Qx (only wr.heap.size) w2).put 1 _
       have hB3:=hB2.box hbx hb2 (fun j hj=>by have:=(HB.out.chg.lt j hj).2; omega) hK
       have y0:=Zab hbx 0 _ rfl
       have y1:=Zab hbx 1 _ rfl
       have y2:=Zab hbx 2 _ rfl
       have yf:=fun i=>Zae hbx i
       have yl:=Zac hbx
       have hsz2:=hap.kept.size
       simp at hsz2
       have HB3:=Zaa hB3
       have Hrow:Hid ((w2.setCell ⟨wr.heap.size,1,none⟩ (.int .i64 mt.length)).ownsRow wo.heap.size 133 3 (.slice ca i ccap) i (Zam ch)):=by have:=hB3.chg; rw [Hci.out] at this; exact this
       have Hme2:Hid (meet s.num mt=mt++[s.num]):=by show _=_; rw [Hmeet.out]; simp
       clear hap hB2 hbx hK hB3 e0 e1 e2
       go_wp2_with (at_builtin; go_loud (refine Zal (w2.setCell ⟨wr.heap.size,1,none⟩ (.int .i64 mt.length)) rfl (.tmp 41) (.tmp 43) 105 rfl wo.heap.size 133 Tryz.infoSym Tryz.underlying105 rfl (by decide) (.slice ca i ccap) i (Zam ch) rfl Hrow.out #[.string ⟨#[]⟩,.int .i64 mt.length,.int .i64 s.args] (N:=w2.heap.size) rfl (by simp) rfl (Zgy _ _ _) ?_ ?_ ?_))
       ·omega
       ·simp; omega
       intro v4 w4 hap
       obtain ⟨a4,c4,rfl⟩:=Zad hap.owns
       have hB4:=HB3.out.chApp (s:=⟨[],mt.length,s.args⟩) (cv2 := .slice a4 (i+1) c4) (w2:=w4) (by rw [Hci.out]; simpa [Zby] using hap)
       have HB4:=Zaa hB4
       clear hap hB4
       go_wp2
       go_roundg (t.length - i)
       case measure=>omega
       case rel=>exact ⟨i+1,by go_num,by omega,by omega,by rw [Hnx2.out,Hme2.out]; exact HB4.out⟩
      ·have hz:((P:Int) == (mt.length:Int))=false:=by rw [Qu]; omega
       have Hme2:Hid (meet s.num mt=mt):=by show _=_; rw [Hmeet.out,if_neg hnew]
       have HB3:=Zaa (HB.out.on (HE.out (.cells #[.string ⟨#[]⟩,.int .i64 P,.int .i64 s.args] 133)))
       have Hrow:Hid ((wr.alloc (.cells #[.string ⟨#[]⟩,.int .i64 P,.int .i64 s.args] 133)).ownsRow wo.heap.size 133 3 (.slice ca i ccap) i (Zam ch)):=by have:=HB3.out.chg; rw [Hci.out] at this; exact this
       clear hnew
       go_wp2_with (at_builtin; go_loud (refine Zal (wr.alloc (.cells #[.string ⟨#[]⟩,.int .i64 P,.int .i64 s.args] 133)) rfl (.tmp 41) (.tmp 43) 105 rfl wo.heap.size 133 Tryz.infoSym Tryz.underlying105 rfl (by decide) (.slice ca i ccap) i (Zam ch) rfl Hrow.out #[.string ⟨#[]⟩,.int .i64 P,.int .i64 s.args] (N:=wr.heap.size+1) rfl (by simp) rfl (Zgy _ _ _) ?_ ?_ ?_))
       ·omega
       ·simp; omega
       intro v4 w4 hap
       obtain ⟨a4,c4,rfl⟩:=Zad hap.owns
       have hB4:=HB3.out.chApp (s:=⟨[],P,s.args⟩) (cv2 := .slice a4 (i+1) c4) (w2:=w4) (by rw [Hci.out]; simpa [Zby] using hap)
       have HB4:=Zaa hB4
       clear hap hB4
       go_wp2
       go_roundg (t.length - i)
       case measure=>omega
       case rel=>exact ⟨i+1,by go_num,by omega,by omega,by rw [Hnx2.out,Hme2.out]; exact HB4.out⟩
    ·have hei:i=t.length:=by omega
     subst hei
     have Hrow:Hid (wr.ownsRow w.heap.size 105 1 (.slice ra k rcap) k xs):=by have:=HB.out.row.owns; rw [Hlk.out] at this; exact this
     go_wp2_with (at_builtin; go_loud (refine Zal wr rfl (.tmp 46) (.tmp 48) 85 rfl w.heap.size 105 Tryz.infoSyms Tryz.underlying85 rfl (by decide) (.slice ra k rcap) k xs rfl Hrow.out #[.slice ca t.length ccap] (N:=wr.heap.size) rfl (by simp) rfl (Zec _ _ _) ?_ ?_ ?_))
     ·omega
     ·omega
     intro v2 w2 hap
     obtain ⟨a2,c2,rfl⟩:=Zad hap.owns
     have hfin:OrdB w w2.heap.size (Zbe (ts.take (k+1)) []).1 (.slice a2 (k+1) c2) (xs++[.slice ca t.length ccap]) (Zbe (ts.take (k+1)) []).2 (.slice na mt.length ncap) [] (.slice none 0 0) w2:=by
      have hch:=Hch.out
      have hmt:=Hmt.out
      rw [List.take_length] at hch hmt
      have hnx:Zbe (ts.take (k+1)) []=(rl++[ch],mt):=by
       rw [List.take_add_one,Ht.out]
       simp only [Option.toList]
       rw [Zpt,← Hrl.out,← Hme.out]
       simp only [Zbe]
       rw [hch,hmt]
      rw [hnx]
      obtain ⟨q1,q2,q3,q4,q5,q6,q7⟩:=HB.out
      have hsz:=hap.kept.size
      have hx:WordAt wr (.slice ca t.length ccap) ch:=Zbb q7 (Qm _)
      have ht:TermsAt w2 w.heap.size (.slice a2 (k+1) c2) (rl++[ch]) (xs++[.slice ca t.length ccap]):=q2.snoc (by rw [Hlk.out]; exact hap) hx
      refine ⟨q1.trans (hap.kept.below q1.size (fun j hj=>(Hrow.out.lt j hj).1)),ht,ht.words,hap.kept.owns q4 (fun j hj hS => ?_),by omega,Qe _,World.ownsRow_nil _ _ _ _⟩
      obtain ⟨cur,hc⟩:=Zar Hrow.out j hS
      exact Zah q4 (by decide) hc hj
     have Hfin:=Zaa hfin
     clear hap hfin
     go_wp2
     go_roundg (ts.length - k)
     case measure=>omega
     case rel=>exact ⟨k+1,_,by go_num,by omega,by omega,Hfin.out⟩
  ·have hek:k=ts.length:=by omega
   subst hek
   go_wp2
   go_ret
   have hr:=Hrl.out
   rw [List.take_length] at hr
   obtain ⟨q1,q2,_⟩:=HA.out
   rw [hr] at q2
   exact ⟨q1,ra,rcap,rfl,q2.inn⟩
structure TxOk (ts:List (List Sym)):Prop where
 len:ts.length≤1000
 all:ts.flatten.length≤8000
 ok:∀ t ∈ ts,TmOk t
 sym:∀ t ∈ (Zbe ts []).1,Ydt t
 txt:∀ t ∈ (Zbe ts []).1,(Zck t []).length≤1000000
def Znd (ts:List (List Sym)):List (List UInt8):=(Zbe ts []).1.map (fun t=>Zck t [])
def Yex (ts:List (List Sym)) (w:World) (e:Ending) (w':World):Prop:=Ext w w'∧∃ x c,e = .returned (.slice x ts.length c)∧w'.ownsRow 0 9 1 (.slice x ts.length c) ts.length (strs (Znd ts))
theorem Ycf (w:World) (tv:Value) (ts:List (List Sym)) (h:TermsIn w tv ts) (ho:TxOk ts):Calls Tryz.prog 79 #[tv] w (Yex ts w):=by
 obtain ⟨ta,tcap,rfl⟩:=h.shape
 have HI:=Zaa (Zum w _ ts h ho.len ho.all ho.ok)
 have Ho:=Zaa ho
 have hl:=ho.len
 have hcl:(Zbe ts []).1.length=ts.length:=Zha _ _
 obtain ⟨C,hC⟩:∃ C,C=(Zbe ts []).1:=⟨_,rfl⟩
 have Htx:Hid (Znd ts=C.map (fun t=>Zck t [])):=by show _=_; unfold Znd; rw [hC]
 rw [← hC] at hcl
 have HC:=Zaa hC
 have Hcl:=Zaa hcl
 clear h ho hC hcl
 go_enter Tryz.func79,Tryz.ntmps79
 go_wp2_with fail
 refine HI.out.mono ?_
 rintro e w1 ⟨hE1,xa,xc,rfl,hT⟩
 rw [← HC.out] at hT
 obtain ⟨us,hT⟩:=hT
 have hz1:=hE1.size
 have HE1:=Zaa hE1
 have HT:=Zaa hT
 clear hE1 hT HI
 go_wp2
 go_loopg [3,9] (ts.length+1) (fun gk rv iv wr=>∃ (k:Nat),iv = .int .i64 k∧k≤ts.length∧ts.length - k<gk∧Ext w1 wr∧wr.ownsRow w1.heap.size 9 1 rv k (strs ((C.take k).map (fun t=>Zck t []))))
 case atStart=>exact ⟨0,by go_num,Qm _,by omega,Below.refl _ _,World.ownsRow_nil _ _ _ _⟩
 case round =>
  obtain ⟨k,rfl,hk,hgk,hE,hown⟩:=hrel
  obtain ⟨ra,rcap,rfl⟩:=Zad hown
  have hsr:=hE.size
  have HE:=Zaa hE
  have Hown:=Zaa hown
  clear hE hown
  by_cases hlt:k<ts.length
  ·have hkC:k<C.length:=by rw [Hcl.out]; exact hlt
   obtain ⟨t,ht⟩:∃ t,C[k]?=some t:=⟨_,Qb hkC⟩
   obtain ⟨y,hy,hyo⟩:=HT.out.all _ t ht
   obtain ⟨ya,ycap,rfl⟩:=Zad hyo
   have hor:=HT.out.owns
   rw [Hcl.out] at hor
   obtain ⟨g,cap',cur,he,_,hgb,_⟩:=Zan hor (by omega)
   simp only [Value.slice.injEq] at he
   obtain ⟨rfl,_,rfl⟩:=he
   have hgw:=Zac hgb
   have hgr:g<wr.heap.size:=by omega
   have x0:wr.cell? ⟨g,k,none⟩=some (.slice ya t.length ycap):=(HE.out.cell (p:=⟨g,k,none⟩) hgw).trans (Zaf hor _ _ hy)
   have htm:t ∈ (Zbe ts []).1:=by rw [← HC.out]; exact Qh ht
   have hso:=Ho.out.sym t htm
   have htx:=Ho.out.txt t htm
   have HA:=Zaa (Zrp wr 0 (.slice ya t.length ycap) t (WordAt.ext hyo HE.out) hso.1 hso.2 (by omega))
   have hnx:C.take (k+1)=C.take k++[t]:=by rw [List.take_add_one,ht]; rfl
   obtain ⟨A,hA⟩:∃ A,A=Zck t []:=⟨_,rfl⟩
   rw [← hA] at HA htx
   have HAA:=Zaa hA
   have Hnx:=Zaa hnx
   clear ht hy hyo hor hgb htm hso hnx hA
   go_wp2_with fail
   refine HA.out.mono ?_
   rintro e w2 ⟨rfl,hE2⟩
   have hz2:=hE2.size
   have HE2:Hid (Ext w1 w2):=HE.out.trans (hE2.mono hsr)
   have Hrow:Hid (w2.ownsRow w1.heap.size 9 1 (.slice ra k rcap) k (strs ((C.take k).map (fun t=>Zck t [])))):=Zak Hown.out (fun j hj=>hE2.block j (Hown.out.lt j hj).2)
   clear hE2 x0
   go_wp2_with (at_builtin; go_loud (refine Zal w2 rfl (.tmp 13) (.tmp 16) 47 rfl w1.heap.size 9 Tryz.infoStr Tryz.underlying47 rfl (by decide) (.slice ra k rcap) k (strs ((C.take k).map (fun t=>Zck t []))) rfl Hrow.out #[.string ⟨A.toArray⟩] (N:=w2.heap.size) rfl (by simp) rfl (Zsz _) ?_ ?_ ?_))
   ·omega
   ·omega
   intro v3 w3 hap
   obtain ⟨a3,c3,rfl⟩:=Zad hap.owns
   have hE3:Ext w1 w3:=HE2.out.trans (hap.kept.below (by omega) (fun j hj=>(Hrow.out.lt j hj).1))
   have hrow3:w3.ownsRow w1.heap.size 9 1 (.slice a3 (k+1) c3) (k+1) (strs ((C.take (k+1)).map (fun t=>Zck t []))):=by
    have:=hap.owns
    rw [Hnx.out,Qr]
    simp only [List.map_cons,List.map_nil,strs,Qr]
    rw [← HAA.out]
    rw [← List.map_take] at this
    exact this
   have HE3:=Zaa hE3
   have Hrow3:=Zaa hrow3
   clear hap hE3 hrow3
   go_wp2
   go_roundg (ts.length - k)
   case measure=>omega
   case rel=>exact ⟨k+1,by go_num,by omega,by omega,HE3.out,Hrow3.out⟩
  ·have hek:k=ts.length:=by omega
   subst hek
   go_wp2
   go_ret
   have hrow:=Hown.out
   rw [← Hcl.out,List.take_length] at hrow
   rw [← Htx.out,Hcl.out] at hrow
   exact ⟨HE1.out.trans (HE.out.mono hz1),ra,rcap,rfl,Zbb hrow (Qm _)⟩
theorem Zno (w:World) (nv vv:Value) (names:Names) (ts:List (List Sym)) (hn:w.ownsRow 0 9 1 nv names.length (strs names)) (h:TermsIn w vv ts) (ho:TxOk ts) (hl:names.length=ts.length) (hL:(Zfw [] names (Zbe ts []).1).length≤100000000) :
  Calls Tryz.prog 70 #[nv,vv] w fun e w'=>Ext w w'∧e = .returned (.string ⟨(if names=[] then [121,101,115] else Zfw [] names (Zbe ts []).1).toArray⟩):=by
 obtain ⟨na,ncap,rfl⟩:=Zad hn
 obtain ⟨ta,tcap,rfl⟩:=h.shape
 by_cases h0:names=[]
 ·subst h0
  clear hn h ho hl hL
  go_enter Tryz.func70,Tryz.ntmps70
  go_wp2
  go_ret
  exact ⟨Below.refl _ _,by simp⟩
 ·have hpos:0<names.length:=List.length_pos_iff.2 h0
  rw [if_neg h0]
  have HI:=Zaa (Ycf w _ ts h ho)
  have hcl:(Zbe ts []).1.length=ts.length:=Zha _ _
  have hlen:=ho.len
  obtain ⟨C,hC⟩:∃ C,C=(Zbe ts []).1:=⟨_,rfl⟩
  have Htx:Hid (Znd ts=C.map (fun t=>Zck t [])):=by show _=_; unfold Znd; rw [hC]
  rw [← hC] at hcl hL ⊢
  obtain ⟨F,hF⟩:∃ F,F=Zfw [] names C:=⟨_,rfl⟩
  rw [← hF] at hL ⊢
  have HF:=Zaa hF
  have Hn:=Zaa hn
  have Hcl:=Zaa hcl
  have z1:((names.length:Int) == 0)=false:=by rw [Qu]; omega
  have Hl:=Zaa hl
  obtain ⟨N,hN⟩:∃ N,N=names.length:=⟨_,rfl⟩
  rw [← hN] at z1 hpos ⊢
  have hNl:N≤1000:=by omega
  have htN:ts.length=N:=by omega
  rw [htN]
  have HN:=Zaa hN
  have HtN:=Zaa htN
  rw [htN] at HI
  clear hn h ho hC hF hcl hl h0 hN htN
  go_enter Tryz.func70,Tryz.ntmps70
  go_wp2_with fail
  refine HI.out.mono ?_
  rintro e w1 ⟨hE1,xa,xc,rfl,hT⟩
  rw [HtN.out] at hT ⊢
  rw [Htx.out] at hT
  have hz1:=hE1.size
  have HE1:=Zaa hE1
  have HT:=Zaa hT
  clear hE1 hT HI
  go_wp2
  go_loopg [5,14] (N+1) (fun gk tx iv wr=>∃ (k:Nat) (acc:List UInt8),iv = .int .i64 k∧k≤N∧N - k<gk∧tx = .string ⟨acc.toArray⟩∧acc++Zfw (if k=0 then [] else [44]) (names.drop k) (C.drop k)=F∧wr=w1)
  case atStart=>exact ⟨0,[],by go_num,Qm _,by omega,rfl,by rw [HF.out]; rfl,rfl⟩
  case round =>
   obtain ⟨k,acc,rfl,hk,hgk,rfl,hacc,rfl⟩:=hrel
   by_cases hlt:k<N
   ·have hkn:k<names.length:=by rw [← HN.out]; exact hlt
    have hkC:k<C.length:=by rw [Hcl.out,HtN.out]; exact hlt
    obtain ⟨x,hx⟩:∃ x,names[k]?=some x:=⟨_,Qb hkn⟩
    obtain ⟨t,ht⟩:∃ t,C[k]?=some t:=⟨_,Qb hkC⟩
    have hdx:names.drop k=x::names.drop (k+1):=by rw [List.drop_eq_getElem_cons hkn,(Qa.1 hx).2]
    have hdt:C.drop k=t::C.drop (k+1):=by rw [List.drop_eq_getElem_cons hkC,(Qa.1 ht).2]
    rw [hdx,hdt,Zfw] at hacc
    have hor:w.ownsRow 0 9 1 (.slice na N ncap) N (strs names):=by have:=Hn.out; rw [← HN.out] at this; exact this
    obtain ⟨g,cap',cur,he,_,hgb,_⟩:=Zan hor (by omega)
    simp only [Value.slice.injEq] at he
    obtain ⟨rfl,_,rfl⟩:=he
    have hgw:=Zac hgb
    have hgr:g<wr.heap.size:=by omega
    have x0:wr.cell? ⟨g,k,none⟩=some (.string ⟨x.toArray⟩):=(HE1.out.cell (p:=⟨g,k,none⟩) hgw).trans (Zaf hor _ _ (by simp [strs,hx]))
    obtain ⟨g2,cap2,cur2,he2,_,hgb2,_⟩:=Zan HT.out (by omega)
    simp only [Value.slice.injEq] at he2
    obtain ⟨rfl,_,rfl⟩:=he2
    have hgr2:=Zac hgb2
    obtain ⟨A,hA⟩:∃ A,A=Zck t []:=⟨_,rfl⟩
    have y0:wr.cell? ⟨g2,k,none⟩=some (.string ⟨A.toArray⟩):=Zaf HT.out _ _ (by simp [strs,ht,hA])
    rw [← hA] at hacc
    have hlen2:=Ztl hacc
    simp only [Qg,Qf] at hlen2
    have Hacc:=Zaa hacc
    have hkN:¬ ((N:Int)≤(k:Int)):=by omega
    clear hacc hdx hdt hx ht hor hgb hgb2 hA
    by_cases hk0:k=0
    ·subst hk0
     have Hacc2:Hid (acc++(x++[61]++A)++Zfw [44] (names.drop (0+1)) (C.drop (0+1))=F):=by show _=_; rw [← Hacc.out]; simp
     simp only [if_pos,Qt] at hlen2
     go_wp2
     go_roundg (N - 0)
     case measure=>omega
     case rel =>
      refine ⟨0+1,acc++(x++[61]++A),by go_num,by omega,by omega,?_,Hacc2.out,rfl⟩
      show Value.string (_++(_++(⟨[61].toArray⟩:ByteArray)++_))=_
      rw [Zcf,Zcf,Zcf]
    ·have Hacc2:Hid (acc++[44]++(x++[61]++A)++Zfw [44] (names.drop (k+1)) (C.drop (k+1))=F):=by show _=_; rw [← Hacc.out,if_neg hk0]; simp
     rw [if_neg hk0] at hlen2
     simp only [Qf,Qt] at hlen2
     have hk1:(0:Int)<(k:Int):=by omega
     go_wp2
     go_roundg (N - k)
     case measure=>omega
     case rel =>
      refine ⟨k+1,acc++[44]++(x++[61]++A),by go_num,by omega,by omega,?_,by rw [if_neg (by omega)]; exact Hacc2.out,rfl⟩
      show Value.string (_++(⟨[44].toArray⟩:ByteArray)++(_++(⟨[61].toArray⟩:ByteArray)++_))=_
      rw [Zcf,Zcf,Zcf,Zcf]
   ·have hek:k=N:=by omega
    subst hek
    have Hacc:Hid (acc=F):=by
     show _=_
     rw [List.drop_eq_nil_of_le (by rw [← HN.out]; exact Qe _)] at hacc
     simpa [Zfw] using hacc
    clear hacc
    go_wp2
    go_ret
    rw [← Hacc.out]
    exact ⟨HE1.out,rfl⟩
theorem Ycg {p:List Tok→Names→Option (List Sym × List Tok × Names)} (hp:∀ ts names r,p ts names=some r→2 * r.1.length+r.2.1.length≤ts.length+1) :
  ∀ (g:Nat) (ts:List Tok) (names:Names) (acc:List (List Sym)) r,Zer p g ts names acc=some r→2 * r.1.flatten.length+r.2.1.length+1≤2 * acc.flatten.length+ts.length:=by
 intro g
 induction g with
 | zero=>intro ts names acc r h; simp [Zer] at h
 | succ g ih =>
  intro ts names acc r h
  cases ts with
  | nil=>simp [Zer] at h
  | cons t ts =>
   rw [Zer] at h
   split at h
   ·simp at h; subst h
    simp only [Qf]; omega
   ·split at h
    ·simp at h
    ·rename_i q hq
     have h1:=hp _ _ _ hq
     have h4:=ih _ _ _ _ h
     simp only [List.flatten_append,List.flatten_cons,List.flatten_nil,Qs,Qg,Qf] at h4 ⊢
     omega
theorem Ych:∀ (f:Nat) (ts:List Tok) (names:Names) r,Zda f ts names=some r→2 * r.1.length+r.2.1.length≤ts.length+1:=by
 intro f
 induction f with
 | zero=>intro ts names r h; simp [Zda] at h
 | succ f ih =>
  intro ts names r h
  cases ts with
  | nil=>simp [Zda] at h
  | cons t ts =>
   rw [Zda] at h
   split at h
   ·simp at h; subst h
    simp only [Qf,Qt]; omega
   ·cases ts with
    | nil=>simp [Zlk] at h
    | cons u us =>
     rw [Zlk] at h
     split at h
     ·simp at h; subst h
      simp only [Qf,Qt]; omega
     ·rw [Option.map_eq_some_iff] at h
      obtain ⟨q,hq,rfl⟩:=h
      have h1:=Ycg ih _ _ _ _ _ hq
      simp only [List.flatten_nil,Qt,Qf] at h1 ⊢
      omega
theorem Zyw {f:Nat}:∀ (g:Nat) (ts:List Tok) (names:Names) (acc:List (List Sym)) r,Zdc f g ts names acc=some r→2 * r.1.flatten.length+r.2.1.length≤2 * acc.flatten.length+ts.length:=by
 intro g
 induction g with
 | zero=>intro ts names acc r h; simp [Zdc] at h
 | succ g ih =>
  intro ts names acc r h
  rw [Zdc] at h
  split at h
  ·simp at h
  ·rename_i q hq
   have h1:=Ych f _ _ _ hq
   split at h
   ·simp at h
   ·rename_i x rest hx
    rw [hx] at h1
    simp only [Qf] at h1
    split at h
    ·simp at h; subst h
     simp only [List.flatten_append,List.flatten_cons,List.flatten_nil,Qs,Qg]
     omega
    ·have h4:=ih _ _ _ _ h
     simp only [List.flatten_append,List.flatten_cons,List.flatten_nil,Qs,Qg] at h4
     omega
theorem Yci {s:ByteArray} {a:List (List Sym) × Names} (h:Zgm s=some a):a.2.length≤60:=by
 unfold Zgm at h
 split at h
 ·simp at h
 ·split at h
  ·simp at h
  ·rename_i hs he
   have hs:s.size≤120:=by omega
   obtain ⟨r1,_,_⟩:=Zdf s true
   have h0:(runs s true).1=0:=by rw [r1]; omega
   obtain ⟨q,e1,e2,_⟩:=Zgt s hs h0
   rw [e1] at h
   simp at h
   subst h
   obtain ⟨g1,g2,_⟩:=Zgs 1000 0 1000 (Zav s) [] [] q (Zed s) (by simp) rfl e1
   obtain ⟨x1,x2,x3⟩:=Zev _ _ _ g2
   have hl:=Zdt s
   have h2:=Zyw 1000 (Zav s) [] [] q e1
   simp only [List.flatten_nil,Qt] at h2
   simp only
   omega
theorem Zyx:∀ (l:List Sym) (met:List Nat) (M:Nat),(Zaz l met).2.length≤M→(∀ s ∈ l,s.name≠[]→s.num=0)→0<M→∀ s ∈ (Zaz l met).1,s.num<M:=by
 intro l
 induction l with
 | nil=>intro met M _ _ _ s hs; simp [Zaz] at hs
 | cons s l ih =>
  intro met M hM hz hp t ht
  have hgrow:∀ (l:List Sym) (met:List Nat),met.length≤(Zaz l met).2.length:=by
   intro l
   induction l with
   | nil=>intro met; simp [Zaz]
   | cons s l ih =>
    intro met
    simp only [Zaz]
    split
    ·have:=ih (meet s.num met)
     have h1:met.length≤(meet s.num met).length:=by unfold meet; split <;> simp
     simp; omega
    ·exact ih met
  simp only [Zaz] at hM ht
  split at ht
  ·rename_i hn
   rw [if_pos hn] at hM
   simp only at hM
   rcases Qp.1 ht with rfl | ht
   ·show met.idxOf s.num<M
    have h1:=hgrow l (meet s.num met)
    have h2:met.idxOf s.num<(meet s.num met).length:=by
     unfold meet
     split
     ·rename_i e; rw [e]; simp
     ·rename_i e
      have:=List.idxOf_le_length (a:=s.num) (l:=met)
      omega
    omega
   ·exact ih _ M hM (fun u hu=>hz u (by simp [hu])) hp t ht
  ·rename_i hn
   rw [if_neg hn] at hM
   simp only at hM
   rcases Qp.1 ht with rfl | ht
   ·rw [hz t (by simp) hn]; exact hp
   ·exact ih _ M hM (fun u hu=>hz u (by simp [hu])) hp t ht
theorem Zyy:∀ (ts:List (List Sym)) (met:List Nat) (M:Nat),(Zbe ts met).2.length≤M→(∀ t ∈ ts,∀ s ∈ t,s.name≠[]→s.num=0)→0<M→∀ t ∈ (Zbe ts met).1,∀ s ∈ t,s.num<M:=by
 intro ts
 induction ts with
 | nil=>intro met M _ _ _ t ht; simp [Zbe] at ht
 | cons u ts ih =>
  intro met M hM hz hp t ht
  have hgrow:∀ (ts:List (List Sym)) (met:List Nat),met.length≤(Zbe ts met).2.length:=by
   intro ts
   induction ts with
   | nil=>intro met; simp [Zbe]
   | cons v ts ih =>
    intro met
    simp only [Zbe]
    have h1:=ih (Zaz v met).2
    have h2:met.length≤(Zaz v met).2.length:=by
     clear h1 ih
     induction v generalizing met with
     | nil=>simp [Zaz]
     | cons s l ih =>
      simp only [Zaz]
      split
      ·have:=ih (meet s.num met)
       have h1:met.length≤(meet s.num met).length:=by unfold meet; split <;> simp
       simp; omega
      ·exact ih met
    omega
  simp only [Zbe] at hM ht
  rcases Qp.1 ht with rfl | ht
  ·exact Zyx u met M (Qq (hgrow ts _) hM) (fun s hs=>hz u (by simp) s hs) hp
  ·exact ih _ M hM (fun v hv=>hz v (by simp [hv])) hp t ht
theorem Zun:∀ (l:List Sym) (met:List Nat) (P:Nat→Prop),(∀ s ∈ l,P s.args)→∀ s ∈ (Zaz l met).1,P s.args:=by
 intro l
 induction l with
 | nil=>intro met P _ s hs; simp [Zaz] at hs
 | cons s l ih =>
  intro met P h t ht
  simp only [Zaz] at ht
  split at ht
  ·rcases Qp.1 ht with rfl | ht
   ·exact h s (by simp)
   ·exact ih _ P (fun u hu=>h u (by simp [hu])) t ht
  ·rcases Qp.1 ht with rfl | ht
   ·exact h t (by simp)
   ·exact ih _ P (fun u hu=>h u (by simp [hu])) t ht
theorem Zne:∀ (ts:List (List Sym)) (met:List Nat) (u:List Sym),u ∈ (Zbe ts met).1→∃ t ∈ ts,∃ m,u=(Zaz t m).1:=by
 intro ts
 induction ts with
 | nil=>intro met u h; simp [Zbe] at h
 | cons t ts ih =>
  intro met u h
  simp only [Zbe] at h
  rcases Qp.1 h with rfl | h
  ·exact ⟨t,by simp,met,rfl⟩
  ·obtain ⟨t',h1,m,h2⟩:=ih _ u h
   exact ⟨t',by simp [h1],m,h2⟩
end Go.Proofs.YtlmjilpjmgjjcaaGreatDoor
namespace Go.Proofs.YtlmjilpjmgjjcaaGreatDoor
open Go.ChangeShapes Go.WideShapes Go.ChangeAt Go.WideMaps Go.WideElems Go.RowKit
theorem own:ownKnob Tryz.prog.godebug=none:=by kernel_rfl
theorem Yhw:laidOutB Tryz.prog=true:=by kernel_rfl
theorem Zsn:Tryz.prog.cellsOf 78=6:=by kernel_rfl
theorem Zwh:Tryz.prog.cellsOf 3=1:=by kernel_rfl
theorem Yey:Tryz.prog.cellsOf 9=1:=by kernel_rfl
theorem Zfn {W:World} {a:Addr} {j:Nat} {v:Value} (h:W.cell? (a.add j)=some v) (hs:a.spot=none):W.cell? ⟨a.block,a.off+j,none⟩=some v:=by
 have e:a.add j=⟨a.block,a.off+j,none⟩:=by
  unfold Addr.add
  obtain ⟨b,o,s⟩:=a
  simp only at hs
  subst hs
  split
  ·rename_i h0; subst h0; rfl
  ·rfl
 rwa [e] at h
theorem Ycj {W:World} {a:Addr} {v:Value} (h:W.cell? a=some v):a.spot=none:=by
 unfold World.cell? at h
 split at h
 ·split at h
  ·cases h
  ·rename_i h1; cases hs:a.spot with
   | none=>rfl
   | some _=>rw [hs] at h1; simp at h1
 ·cases h
theorem Zqk {H:Type} {enc:TypeId × Value→H} {W:World} {base n':Nat} {spare:Nat→Bool} {held:Bool} {a:Addr} {cs:List Value} {x:DataW H × List MemPlace} {i:Nat} (hcells:∀ i,i<6→W.cell? (a.add i)=cs[i]?) (hlen:cs.length=6) (hi:i<6)
  (h:DataW.trod enc Tryz.prog W base spare held n' 9 ((cs.drop i).take (Tryz.prog.cellsOf 9))=some x):∃ s:ByteArray,W.cell? (a.add i)=some (.string s)∧s.size≤maxLen:=by
 obtain ⟨s,h1,_,h3⟩:=DataW.trod_string Tryz.underlying9 h
 rw [Yey] at h1
 refine ⟨s,?_,h3⟩
 rw [hcells i hi]
 have:=congrArg (fun l:List Value=>l[0]?) h1
 simpa using this
theorem Yez {H:Type} {enc:TypeId × Value→H} {W:World} {base n':Nat} {spare:Nat→Bool} {held:Bool} {a:Addr} {cs:List Value} {x:DataW H × List MemPlace} {i:Nat} (hcells:∀ i,i<6→W.cell? (a.add i)=cs[i]?) (hlen:cs.length=6) (hi:i<6)
  (h:DataW.trod enc Tryz.prog W base spare held n' 3 ((cs.drop i).take (Tryz.prog.cellsOf 3))=some x):∃ k:Int,W.cell? (a.add i)=some (.int .i64 k):=by
 obtain ⟨s,h1,_,h3⟩:=DataW.trod_int Tryz.underlying3 h
 rw [Zwh] at h1
 refine ⟨s,?_⟩
 rw [hcells i hi]
 have:=congrArg (fun l:List Value=>l[0]?) h1
 simpa using this
end Go.Proofs.YtlmjilpjmgjjcaaGreatDoor
namespace Go.Proofs.YtlmjilpjmgjjcaaGreatDoor
open Go.ChangeShapes Go.WideShapes Go.ChangeAt Go.WideMaps Go.WideElems Go.RowKit
set_option linter.unusedSimpArgs false
set_option linter.unusedVariables false
end Go.Proofs.YtlmjilpjmgjjcaaGreatDoor
namespace Go.Proofs.YtlmjilpjmgjjcaaGreatDoor
open Go.RowKit
theorem Zuo {ts:List (List Sym)} {N:Nat} (h:∀ t ∈ ts,t.length≤N):ts.flatten.length≤N * ts.length:=by
 induction ts with
 | nil=>simp
 | cons t ts ih =>
  have h1:=h t (by simp)
  have h2:=ih (fun y hy=>h y (by simp [hy]))
  simp only [List.flatten_cons,Qg,Qf]
  rw [Nat.mul_add]
  omega
theorem Zyz:∀ (ts:List (List Sym)) (seen:List Nat),(∀ t ∈ ts,Wf 1 t∧t.length≤30∧∀ s ∈ t,s.name.length≤4096)→seen.length+ts.flatten.length≤4000→∀ u ∈ (Zbe ts seen).1,(Zck u []).length≤200000:=by
 intro ts
 induction ts with
 | nil=>intro seen _ _ u hu; simp [Zbe] at hu
 | cons t ts ih =>
  intro seen h hs u hu
  simp only [List.flatten_cons,Qg] at hs
  obtain ⟨h1,h2,h3⟩:=h t (by simp)
  have hc:=Znb (l:=t) (by omega) h1 h3 (seen:=seen) (by omega)
  simp only [Zbe] at hu
  rcases Qp.1 hu with rfl | hu
  ·omega
  ·exact ih _ (fun v hv=>h v (by simp [hv])) (by omega) u hu
theorem tx_ok {n:ND} (hn:NOk n) (hm:NNm n) {ts:List (List Sym)} (ht:∀ t ∈ ts,t ∈ n.terms∧t.length≤30) (hl:ts.length≤130) (hv:(Zbe ts []).2.length≤2599):TxOk ts:=by
 have hfl:ts.flatten.length≤30 * ts.length:=Zuo (fun t h=>(ht t h).2)
 have hV:n.vars≤101000:=by have:=hn.vars; have:=hn.ul; omega
 refine ⟨by omega,by omega,fun t h=>Znn (hn.wf t (ht t h).1) (by have:=(ht t h).2; omega) (hn.occ t (ht t h).1) (by omega),fun u hu=>⟨?_,fun s hs=>⟨?_,?_⟩⟩,fun u hu => ?_⟩
 ·obtain ⟨t,h1,m,rfl⟩:=Zne ts [] u hu
  rw [Zjw]
  have:=(ht t h1).2
  omega
 ·exact Zyy ts [] 2600 (by omega) (fun t h1 x hx hne=>by
   obtain ⟨i,hi⟩:=List.mem_iff_getElem?.1 hx
   exact (Zjk (hn.wf t (ht t h1).1) hi).2 hne) (by omega) u hu s hs
 ·obtain ⟨t,h1,m,rfl⟩:=Zne ts [] u hu
  refine Qq (Zun t m (fun a=>a≤30) (fun x hx => ?_) s hs) (by omega)
  obtain ⟨i,hi⟩:=List.mem_iff_getElem?.1 hx
  have hil:=(Qa.1 hi).1
  have:=Zud (hn.wf t (ht t h1).1) (i:=i) hil
  have he:Zba t i=x:=by unfold Zba; rw [List.getD_eq_getElem?_getD,hi]; rfl
  rw [he] at this
  have:=(ht t h1).2
  omega
 ·refine Qq (Zyz ts [] (fun t h1=>⟨hn.wf t (ht t h1).1,(ht t h1).2,fun s hs=>Qq (hm t (ht t h1).1 s hs) (by omega)⟩) ?_ u hu) (by omega)
  simp only [Qt]
  omega
theorem Yhx {n:ND} (hn:NOk n) (hm:NNm n) (hl:n.vals.length≤60):TxOk n.vals:=by
 have hfl:n.vals.flatten.length≤30 * n.vals.length:=Zuo (fun t h=>hn.vsize h)
 refine tx_ok hn hm (fun t h=>⟨by unfold ND.terms; simp [h],hn.vsize h⟩) (by omega) ?_
 have:=Zow n.vals []
 simp only [Qt] at this
 omega
theorem Zza {n:ND} (hn:NOk n) (hm:NNm n) (hl:n.vals.length≤60) {names:Names} (hs:names.length≤60) (hns:∀ x ∈ names,x.length≤8):(Zfw [] names (Zbe n.vals []).1).length≤100000000:=by
 have hfl:n.vals.flatten.length≤30 * n.vals.length:=Zuo (fun t h=>hn.vsize h)
 have:=Zsm names n.vals [] [] (fun x hx=>Qq (hns x hx) (by omega)) (fun t ht=>⟨hn.wf t (by unfold ND.terms; simp [ht]),by have:=hn.vsize ht; omega,fun s hs=>Qq (hm t (by unfold ND.terms; simp [ht]) s hs) (by omega)⟩) (by simp) (by simp only [Qt]; omega)
 omega
theorem Zso (n:ND) (c:Cls) (k:Nat):(tryN n c k).2=0∨(tryN n c k).2=1∨(tryN n c k).2=2∨(tryN n c k).2=3:=by
 by_cases hex:∃ r:ND × Nat,∃ m,NOk m∧Same m n∧Out m c k r.2 r.1
 ·have e:tryN n c k=Classical.choose hex:=by unfold tryN; rw [dif_pos hex]
  obtain ⟨m,_,_,g,gs,_,ho⟩:=Classical.choose_spec hex
  rw [e]
  rcases ho with ⟨h0,_⟩ | ⟨h0,_⟩ | ⟨σ,_,_,h3,_⟩
  ·exact Or.inl h0
  ·exact Or.inr (Or.inr (Or.inr h0))
  ·rw [h3]
   unfold Zcw
   split
   ·simp
   ·split <;> simp
 ·have e:tryN n c k=(⟨[],[],[],[],0⟩,0):=by unfold tryN; rw [dif_neg hex]
  rw [e]; simp
theorem Yck {w:World} {B:Nat} {e:TypeId} {s g n cap:Nat} {xs:List Value} (h:w.ownsRow B e s (.slice (some ⟨g,0,none⟩) (n+1) cap) (n+1) xs) :
  w.ownsRow B e s (.slice (some ⟨g,0,none⟩) n cap) n (xs.take (n * s)):=by
 have hm:(n+1) * s=n * s+s:=Nat.succ_mul n s
 refine ⟨by have:=h.1; rw [List.length_take]; omega,?_⟩
 rcases h.2 with ⟨h1,_⟩ | ⟨g',cap',cur,h1,hb,hg,hn,hc,hs,ht⟩
 ·simp at h1
 ·simp at h1
  obtain ⟨rfl,rfl⟩:=h1
  refine .inr ⟨g,cap,cur,rfl,hb,hg,by omega,hc,hs,?_⟩
  rw [← ht,List.take_take]
  congr 1
  omega
theorem Zup (w:World) (av nv m0 m1 m2 m3 m4:Value) (a:List (List Sym) × Names) (n0:ND) (hA:AskAt w av nv a) (hnode:NodeAt (fun _=>False) w m0 m1 m2 m3 m4 n0) (hvl:n0.vals.length=a.2.length) (ha3:a.2.length≤121) (ha4:∀ y ∈ a.2,y.length≤4096) :
  Calls Tryz.prog 116 #[.agg #[av,nv],.agg #[m0,m1,m2,m3,m4]] w fun e w'=>e = .returned (.string ⟨(Zdg a.2 n0).toArray⟩)∧Ext w w':=by
 obtain ⟨ax,hA1⟩:=hA.atoms
 obtain ⟨aa,acap,rfl⟩:=Zad hA1.1
 obtain ⟨n,hR,hOk,hNm,hS,rfl⟩:=hnode.node
 obtain ⟨vx,hV⟩:=hR.vals
 obtain ⟨gx,hG⟩:=hR.goals
 obtain ⟨dx,hD⟩:=hR.done
 obtain ⟨ga,gcap,rfl⟩:=Zad hG.owns
 obtain ⟨va,vcap,rfl⟩:=Zad hV.1
 obtain ⟨da,dcap,rfl⟩:=Zad hD.owns
 obtain ⟨ua,ucap,rfl⟩:=Zad hR.used
 obtain ⟨na,ncap,rfl⟩:=Zad hA.names
 have hans:Zdg a.2 n=Zdg a.2 n0:=by unfold Zdg; rw [hS.valsC hOk]
 rw [← hans]
 exact Zqj w (fun _=>False) (.slice aa a.1.length acap) (.slice na a.2.length ncap) (.slice ga n.goals.length gcap) (.slice va n.vals.length vcap) (.slice da n.done.length dcap) (.slice ua n.used.length ucap) n.vars a.2 n 0 vx ⟨_,_,_,rfl⟩ ⟨_,_,_,rfl⟩ ⟨_,_,_,rfl⟩ ⟨_,_,_,rfl⟩
   hA.names hV (by rw [hS.vl,hvl]) (by omega) ha4 (fun t ht=>⟨hOk.vsize ht,fun s hs=>Qq (hNm t (by simp [ND.terms,ht]) s hs) (by omega)⟩)
theorem box6 {w:World} {b:Nat} {u0 u1 u2 u3 u4 u5:Value} {t:TypeId} (h:w.heap[b]?=some (.cells #[u0,u1,u2,u3,u4,u5] t (0,0))) :
  w.cell? ⟨b,0,none⟩=some u0∧w.cell? ⟨b,1,none⟩=some u1∧w.cell? ⟨b,2,none⟩=some u2∧w.cell? ⟨b,3,none⟩=some u3∧w.cell? ⟨b,4,none⟩=some u4∧w.cell? ⟨b,5,none⟩=some u5∧∀ i,w.frozen? ⟨b,i,none⟩=false :=
 ⟨Zab h 0 _ rfl,Zab h 1 _ rfl,Zab h 2 _ rfl,Zab h 3 _ rfl,Zab h 4 _ rfl,Zab h 5 _ rfl,fun i=>Zae h i⟩
def Zox (t:TypeId):Prop:=t=133∨t=105∨t=107∨t=9∨t=3
def OffCode (S:Nat→Prop) (w:World):Prop:=∀ k,S k→∃ cl t fr,w.heap[k]?=some (.cells cl t fr)∧¬ Zox t
theorem OffCode.own {S:Nat→Prop} {w w':World} {B:Nat} {e:TypeId} {size n:Nat} {v:Value} {xs:List Value} (hS:OffCode S w) (he:Zox e) (hk:Kept S w w') (h:w.ownsRow B e size v n xs):w'.ownsRow B e size v n xs :=
 Zak h (fun k hj=>hk.block k (h.lt k hj).2 (fun hs=>by
  obtain ⟨cl,t,fr,h1,h2⟩:=hS k hs
  rcases h.2 with ⟨rfl,_⟩ | ⟨g,cap,cur,rfl,_,hg,_⟩
  ·simp [Zap,Value.ownBlock] at hj
  ·simp [Zap,Value.ownBlock] at hj
   subst hj
   rw [hg] at h1
   simp at h1
   exact h2 (h1.2.1 ▸ he)))
theorem OffCode.terms {S:Nat→Prop} {w w':World} {v:Value} {ls:List (List Sym)} (hS:OffCode S w) (hk:Kept S w w') (h:TermsIn w v ls):TermsIn w' v ls:=by
 obtain ⟨vs,h⟩:=h
 exact ⟨vs,hS.own (by simp [Zox]) hk h.owns,fun i l hl=>by
  obtain ⟨x,h1,h2⟩:=h.all i l hl
  exact ⟨x,h1,hS.own (by simp [Zox]) hk h2⟩⟩
def CNode (w:World) (gv vv rv uv:Value) (n0:ND):Prop:=∃ n,NodeIn w gv vv rv n∧uv = .int .i64 n.vars∧NOk n∧NNm n∧NFew n∧Same n n0
theorem CNode.ext {w w':World} {gv vv rv uv:Value} {n0:ND} (h:CNode w gv vv rv uv n0) (e:Ext w w'):CNode w' gv vv rv uv n0:=by
 obtain ⟨n,h1,h2⟩:=h
 exact ⟨n,h1.ext e,h2⟩
theorem CNode.keep {S:Nat→Prop} {w w':World} {gv vv rv uv:Value} {n0:ND} (h:CNode w gv vv rv uv n0) (hk:Kept S w w') (hS:OffCode S w):CNode w' gv vv rv uv n0:=by
 obtain ⟨n,h1,h2⟩:=h
 exact ⟨n,⟨hS.terms hk h1.goals,hS.terms hk h1.vals,hS.terms hk h1.done⟩,h2⟩
theorem CNode.shape {w:World} {gv vv rv uv:Value} {n0:ND} (h:CNode w gv vv rv uv n0):∃ ga gc va vl vc ra rl rc,∃ u:Nat,gv = .slice ga n0.goals.length gc∧vv = .slice va vl vc∧rv = .slice ra rl rc∧uv = .int .i64 u∧u≤101000:=by
 obtain ⟨n,h1,rfl,h3,_,_,hs⟩:=h
 obtain ⟨ga,gcap,rfl⟩:=h1.goals.shape
 obtain ⟨va,vcap,rfl⟩:=h1.vals.shape
 obtain ⟨ra,rcap,rfl⟩:=h1.done.shape
 exact ⟨ga,gcap,va,_,vcap,ra,_,rcap,n.vars,by rw [Ql,hs.gl],rfl,rfl,rfl,by have:=h3.vars; have:=h3.ul; omega⟩
theorem Ycl {a0 a1 a2:Option Addr} {l0 l1 l2 c0 c1 c2:Nat} {v k:Int}:∀ u ∈ (#[Value.slice a0 l0 c0,.slice a1 l1 c1,.slice a2 l2 c2,.int .i64 v,.int .i64 k]:Array Value).toList,u.oneCell'=true:=by
 intro u hu
 simp at hu
 rcases hu with rfl | rfl | rfl | rfl | rfl <;> rfl
def OnePh (W:World) (A:Value):List Value→World→Prop
 | [],y=>y=W
 | [v],y=>v=A∧Ext W y
 | _,_=>False
theorem OnePh.at {W:World} {A:Value} {vs:List Value} {y:World} (h:OnePh W A vs y):vs.length≤0→y=W:=by
 match vs,h with
 | [],h=>exact fun _=>h
 | [v],h=>exact fun h=>by simp at h
theorem Yiy {a:List (List Sym) × Names} (hN:NOk (topN a)) (han:a.2.length≤121):∀ l ∈ a.1,TmOk l:=fun l hl=>by
 have hlt:l ∈ (topN a).terms:=by
  unfold ND.terms topN
  refine List.mem_append_left _ ?_
  simp
  exact hl
 have hg:=(hN.gs (l,0) (by unfold topN; simp; exact hl)).1
 exact Znn (hN.wf l hlt) (by have h':l.length≤30:=hg; omega) (hN.occ l hlt) (by have:(topN a).vars=a.2.length:=rfl; omega)
def Yfa (n:Int):Prop := -9223372036854775808≤n∧n<9223372036854775808
def Zuq (w:World) (sv:Value) (N:Nat):Prop:=∃ a len cap,sv = .slice a len cap∧len≤N∧∀ k,k<len→∃ (b off:Nat) (kd n m:Int) (p q x:ByteArray),a=some ⟨b,off,none⟩∧b<w.heap.size ∧
 w.cell? ⟨b,off+k * 6,none⟩=some (.int .i64 kd)∧w.cell? ⟨b,off+k * 6+1,none⟩=some (.int .i64 n)∧w.cell? ⟨b,off+k * 6+2,none⟩=some (.int .i64 m) ∧
 w.cell? ⟨b,off+k * 6+3,none⟩=some (.string p)∧w.cell? ⟨b,off+k * 6+4,none⟩=some (.string q)∧w.cell? ⟨b,off+k * 6+5,none⟩=some (.string x)∧p.size≤maxLen∧q.size≤maxLen∧x.size≤maxLen∧Yfa n∧Yfa m
end Go.Proofs.YtlmjilpjmgjjcaaGreatDoor
namespace Go.Proofs.YtlmjilpjmgjjcaaGreatDoor
open Go.Shelf Go.Lib Go.Sort
def Tryz.laysM171_ren:Go.Shelf.Ren:=⟨fun | 171=>41 | 243=>66 | 246=>95 | 283=>122 | 284=>123 | 285=>124 | 286=>125 | 129=>153 | 317=>152 | 318=>154 | 319=>155 | 320=>156 | 337=>185 | 338=>186 | n=>n,fun | 3=>3 | 9=>9 | 2=>2 | 4=>4 | 171=>208 | 0=>0 | 53=>209 | 37=>212 | 5=>5 | 173=>213 | 212=>258 | 51=>259 | 20=>20 | 213=>260 | 46=>262 | 232=>304 | 233=>305 | n=>n,fun | 17=>0 | 18=>1 | 19=>2 | n=>n⟩
theorem Tryz.laysM171:Go.Proofs.LaysM.n171 Tryz.prog Tryz.laysM171_ren := { mixed:=by kernel_rfl,f129:=Tryz.func153.trans (congrArg some (by kernel_rfl)),f171:=Tryz.func41.trans (congrArg some (by kernel_rfl)),f243:=Tryz.func66.trans (congrArg some (by kernel_rfl)),f246:=Tryz.func95.trans (congrArg some (by kernel_rfl)),f283:=Tryz.func122.trans (congrArg some (by kernel_rfl)),f284:=Tryz.func123.trans (congrArg some (by kernel_rfl)),f285:=Tryz.func124.trans (congrArg some (by kernel_rfl)),f286:=Tryz.func125.trans (congrArg some (by kernel_rfl)),f317:=Tryz.func152.trans (congrArg some (by kernel_rfl)),f318:=Tryz.func154.trans (congrArg some (by kernel_rfl)),f319:=Tryz.func155.trans (congrArg some (by kernel_rfl)),f320:=Tryz.func156.trans (congrArg some (by kernel_rfl)),f337:=Tryz.func185.trans (congrArg some (by kernel_rfl)),f338:=Tryz.func186.trans (congrArg some (by kernel_rfl)),t0:=Tryz.underlying0,a0:=Tryz.isAgg0,z0:=Tryz.sizeOf0,v0:=Tryz.zeroValue0,t2:=Tryz.underlying2,a2:=Tryz.isAgg2,z2:=Tryz.sizeOf2,v2:=Tryz.zeroValue2,t3:=Tryz.underlying3,a3:=Tryz.isAgg3,z3:=Tryz.sizeOf3,v3:=Tryz.zeroValue3,t4:=Tryz.underlying4,a4:=Tryz.isAgg4,z4:=Tryz.sizeOf4,v4:=Tryz.zeroValue4,t5:=Tryz.underlying5,a5:=Tryz.isAgg5,z5:=Tryz.sizeOf5,v5:=Tryz.zeroValue5,t9:=Tryz.underlying9,a9:=Tryz.isAgg9,z9:=Tryz.sizeOf9,v9:=Tryz.zeroValue9,t20:=Tryz.underlying20,a20:=Tryz.isAgg20,z20:=Tryz.sizeOf20,v20:=Tryz.zeroValue20,t37:=Tryz.underlying212,a37:=Tryz.isAgg212,z37:=Tryz.sizeOf212,v37:=Tryz.zeroValue212,t46:=Tryz.underlying262,a46:=Tryz.isAgg262,z46:=Tryz.sizeOf262,v46:=Tryz.zeroValue262,t51:=Tryz.underlying259,a51:=Tryz.isAgg259,z51:=Tryz.sizeOf259,v51:=Tryz.zeroValue259,t53:=Tryz.underlying209,a53:=Tryz.isAgg209,z53:=Tryz.sizeOf209,v53:=Tryz.zeroValue209,t171:=Tryz.underlying208,a171:=Tryz.isAgg208,z171:=Tryz.sizeOf208,v171:=Tryz.zeroValue208,t173:=Tryz.underlying213,a173:=Tryz.isAgg213,z173:=Tryz.sizeOf213,v173:=Tryz.zeroValue213,t212:=Tryz.underlying258,a212:=Tryz.isAgg258,z212:=Tryz.sizeOf258,v212:=Tryz.zeroValue258,t213:=Tryz.underlying260,a213:=Tryz.isAgg260,z213:=Tryz.sizeOf260,t232:=Tryz.underlying304,a232:=Tryz.isAgg304,z232:=Tryz.sizeOf304,v232:=Tryz.zeroValue304,t233:=Tryz.underlying305,a233:=Tryz.isAgg305,z233:=Tryz.sizeOf305,v233:=Tryz.zeroValue305,g17:=by kernel_rfl,g18:=by kernel_rfl,g19:=by kernel_rfl,i0:=by kernel_rfl,i2:=by kernel_rfl,i3:=by kernel_rfl,i4:=by kernel_rfl,i5:=by kernel_rfl,i9:=by kernel_rfl,i20:=by kernel_rfl,i37:=by kernel_rfl,i46:=by kernel_rfl,i51:=by kernel_rfl,i53:=by kernel_rfl,i171:=by kernel_rfl,i173:=by kernel_rfl,i212:=by kernel_rfl,i232:=by kernel_rfl,i233:=by kernel_rfl,m17:=by kernel_rfl,m18:=by kernel_rfl,m19:=by kernel_rfl }
theorem Tryz.strconv_Itoa (n:Int) (h0 : -9223372036854775808≤n) (h1:n≤9223372036854775807) (w:World) (htab:Lib.TabIs Tryz.prog w "internal/strconv.uint64pow10" .u64 Lib.pow10Tab) :
  Calls Tryz.prog 41 #[.int .i64 n] w fun e w'=>e = .returned (.string ⟨(Lib.itoa n).toArray⟩)∧∃ k os,w'=grow (w.drewN k) os:=Any.strconv_Itoa Tryz.laysM171 n h0 h1 w htab
end Go.Proofs.YtlmjilpjmgjjcaaGreatDoor
namespace Go.Proofs.YtlmjilpjmgjjcaaGreatDoor
open Go.RowKit
theorem Znp {P:Program} (w:World) (base:Nat) (t ty e:TypeId) (i:TypeInfo) (z:Value) (ht:P.underlying t=some (.slice e)) (hi:P.info? e=some i) (hz:i.zero=some z)
  (v:Value) (n:Nat) (xs:List Value) (hown:w.ownsRow base e i.size v n xs)
  (a:Addr) (m c:Nat) (news:List Value) (hl:news.length=m * i.size) (hm:0<m) (hnews:∀ j u,news[j]?=some u→w.cell? (a.add j)=some u) (h1:∀ u ∈ news,u.oneCell'=true)
  (h63:n+m≤maxLen) (hbytes:(n+m) * i.bytes≤140737488355328) (v':Value) (w':World)
  (hr:(Builtin.append_ #[t,t] ty #[v,.slice (some a) m c]).run P w = .ok v' w') (hA:w'.ownsRow base e i.size v' (n+m) (xs++news)):w'.ownsRow base e i.size v n xs:=by
 have hsmall:n+m≤9223372036854775807:=by simp only [maxLen] at h63; omega
 rcases hown.2 with ⟨rfl,rfl⟩ | ⟨g,cap,cur,rfl,hbg,hg,hnc,hcm,hcs,htake⟩
 ·exact ⟨hown.1,Or.inl ⟨rfl,rfl⟩⟩
 ·by_cases hroom:n+m≤cap
  ·have hfit:n * i.size+news.length≤cur.size:=by rw [hl,hcs,← Nat.add_mul]; exact Nat.mul_le_mul_right _ hroom
   have hr':=run_append_room (P:=P) w t ty e i ht hi g n cap cur hg a m c news hl hnews h1 hroom hfit
   rw [hr'] at hr
   injection hr with h2 h3
   subst h2
   rcases hA.2 with ⟨h4,_⟩ | ⟨g',cap',cur',h4,_,hg',_,_,hcs',ht'⟩
   ·simp at h4
   ·simp only [Value.slice.injEq,Qo,Addr.mk.injEq] at h4
    obtain ⟨⟨rfl,_⟩,_,rfl⟩:=h4
    refine ⟨hown.1,Or.inr ⟨g,cap,cur',rfl,hbg,hg',hnc,hcm,hcs',?_⟩⟩
    have h5:=congrArg (List.take (n * i.size)) ht'
    rw [List.take_take,Nat.min_eq_left (Nat.mul_le_mul_right _ (by omega)),List.take_append_of_le_length (by rw [hown.1]; exact Qe _)] at h5
    rw [h5]
    exact List.take_of_length_le (by rw [hown.1]; exact Qe _)
  ·have holds:∀ j u,xs[j]?=some u→w.cell? ((⟨g,0,none⟩:Addr).add j)=some u:=hown.cells (g:=g) rfl
   have hr':=run_append_grow (P:=P) w t ty e i z ht hi hz ⟨g,0,none⟩ n cap xs hown.1 holds a m c news hl hnews (by omega) (by omega) (growslice_fits (by omega) hbytes)
   rw [hr'] at hr
   injection hr with h2 h3
   subst h3
   exact ⟨hown.1,Or.inr ⟨g,cap,cur,rfl,hbg,Zag (w:=w.drew) hg _,hnc,hcm,hcs,htake⟩⟩
theorem Zfz {P:Program} {ops:Array Oper} {rest:List Oper} {o:Oper} {a:Act} {Q:Exit→Act→World→Prop} (w:World) (hgd:o.guard=none) (s x:Operand) (t:TypeId)
  (ho:o.op = .call { callee := .builtin .append,args:=#[s,x],argTypes:=#[t,t] })
  (base:Nat) (e:TypeId) {z:Value} {size bytes:Nat}
  (hinfo:(P.info? e).map (fun i=>(i.zero,i.size,i.bytes))=some (some z,size,bytes)) (ht:P.underlying t=some (.slice e)) (hzs:z.cells.size=size) (hsz:0<size)
  (v:Value) (n:Nat) (xs:List Value) (hs:a.eval s=v) (hown:w.ownsRow base e size v n xs)
  (news:Array Value) {N:Nat} (hx:a.eval x = .slice (some ⟨N,0,none⟩) 1 1) (hN:N=w.heap.size) (hl:news.size=size) (h1:∀ u ∈ news.toList,u.oneCell'=true)
  (hbig:(n+1) * (bytes+1)≤140737488355328) (hbase:base≤w.heap.size)
  (h:∀ v' w',Appended w base e size v (n+1) (xs++news.toList) v' w'→w'.ownsRow base e size v n xs→wpList P ops Q rest (a.put o.dst v') w'):wpList P ops Q (o::rest) a (w.alloc (.cells news e)):=by
 refine wpList_plain hgd fun _ hK => ?_
 subst hN
 obtain ⟨v',w',hr,h2⟩:=Zfo (P:=P) w t o.type base e hinfo ht hzs hsz v n xs hown news hl h1 hbig hbase
 have h3:w'.ownsRow base e size v n xs:=by
  obtain ⟨i,hi,hz,hsi,hby⟩:=info_parts hinfo
  have hb1:n+1≤140737488355328:=Qq (Nat.le_mul_of_pos_right (n+1) (Nat.succ_pos bytes)) hbig
  have hb2:(n+1) * bytes≤140737488355328:=Qq (Nat.mul_le_mul_left _ (Nat.le_succ _)) hbig
  have h63:n+1≤maxLen:=by simp only [maxLen]; omega
  subst hsi hby
  refine Znp (P:=P) (w.alloc (.cells news e)) base t o.type e i z ht hi hz v n xs (hown.alloc _) ⟨w.heap.size,0,none⟩ 1 1 news.toList (by simp [hl]) (by omega) (fun j u hu => ?_) h1 h63 hb2 v' w' hr h2.owns
  have hadd:(⟨w.heap.size,0,none⟩:Addr).add j=⟨w.heap.size,j,none⟩:=by unfold Addr.add; split <;> simp_all
  rw [hadd,cell_of_row _ w.heap.size j news e (0,0) (heap_alloc_new w _)]
  simpa using hu
 unfold Oper.wp execOp
 simp only [ho,resolve,invoke,builtin,Sem.run_bind,Sem.run_pure,Result.andThen_ok,List.map_toArray,List.map_cons,List.map_nil,hs,hx,hr]
 exact hK _ _ (h v' w' h2 h3)
def Yiz (k:Nat):List UInt8:=[109,97,114,107]++Lib.itoa (k:Int)
def Zga (k:Nat):Value := .string ⟨(Yiz k).toArray⟩
def TabAt (B:Nat) (w:World):Prop:=Lib.TabBelow Tryz.prog B w "internal/strconv.uint64pow10" .u64 Lib.pow10Tab
theorem Yfb (w:World) (k:Nat) (os:Array Obj):Ext w (Sort.grow (w.drewN k) os):=Lib.below_grow _ w (Qe _) k os
theorem Yfc (k:Nat) (h:k≤100000000):(Lib.itoa (k:Int)).length≤21:=Lib.itoa_length_le _ (by omega) (by omega)
theorem Zwi (k:Nat) (w:World) (hk:k≤100000000) (B:Nat) (hT:TabAt B w):Calls Tryz.prog 65 #[.int .i64 k] w fun e w'=>e = .returned (Zga k)∧Ext w w':=by
 have HI:=Zaa (Tryz.strconv_Itoa (k:Int) (by omega) (by omega) w hT.here)
 have hl:=Yfc k hk
 obtain ⟨X,hX⟩:∃ X,X=Lib.itoa (k:Int):=⟨_,rfl⟩
 have HM:Hid (Zga k = .string (⟨#[109,97,114,107]⟩++⟨X.toArray⟩)):=by show _=_; rw [hX]; unfold Zga Yiz; rw [← Zcf]
 rw [← hX] at HI hl
 clear hX hT
 go_enter Tryz.func65,Tryz.ntmps65
 go_wp2_with fail
 refine HI.out.mono ?_
 rintro e w1 ⟨rfl,j,os,rfl⟩
 have HE:=Zaa (Yfb w j os)
 go_wp2
 go_ret
 exact ⟨by rw [HM.out]; rfl,HE.out⟩
theorem Zkw {w w':World} {B:Nat} {e:TypeId} {u v:Value} {n m:Nat} {xs ys:List Value} (hu:w.ownsRow B e 1 u n xs) (hv:w.ownsRow B e 1 v m ys) (hk:Kept (Zap v) w w') (hv':w'.ownsRow B e 1 v m ys) (hx:ys.take n=xs) (hn:n≤m):w'.ownsRow B e 1 u n xs:=by
 rcases hu.2 with ⟨rfl,rfl⟩ | ⟨g,cap,cur,rfl,hb,hg,hnc,hcm,hcs,ht⟩
 ·exact ⟨hu.1,Or.inl ⟨rfl,rfl⟩⟩
 ·by_cases he:v.ownBlock=some g
  ·rcases hv'.2 with ⟨rfl,_⟩ | ⟨g',cap',cur',rfl,_,hg',_,_,hcs',ht'⟩
   ·simp [Value.ownBlock] at he
   ·simp [Value.ownBlock] at he
    subst he
    have hcap:cap'=cap:=by
     rcases hv.2 with ⟨e1,_⟩ | ⟨g2,cap2,cur2,e1,_,hg2,_,_,hcs2,_⟩
     ·simp at e1
     ·simp only [Value.slice.injEq,Qo,Addr.mk.injEq] at e1
      obtain ⟨⟨rfl,_⟩,_,rfl⟩:=e1
      rw [hg] at hg2
      simp at hg2
      subst hg2
      rw [hcs] at hcs2
      omega
    subst hcap
    refine ⟨hu.1,Or.inr ⟨g',cap',cur',rfl,hb,hg',hnc,hcm,hcs',?_⟩⟩
    rw [← hx,← ht',List.take_take,Nat.min_eq_left (by omega)]
    simp
  ·exact Zak hu (fun k hj=>hk.block k (hu.lt k hj).2 (fun h=>he (by simp [Value.ownBlock] at hj; subst hj; exact h)))
def ListAt (w:World) (v:Value) (k:Nat):Prop:=∃ n,n≤30000∧w.ownsRow 0 9 1 v n (List.replicate n (Zga k))
theorem ListAt.same {w w':World} {v:Value} {k:Nat} (h:ListAt w v k) (hb:∀ j,v.ownBlock=some j→w'.heap[j]?=w.heap[j]?):ListAt w' v k:=by
 obtain ⟨n,hn,h⟩:=h
 exact ⟨n,hn,Zak h hb⟩
theorem ListAt.lt {w:World} {v:Value} {k j:Nat} (h:ListAt w v k) (hj:v.ownBlock=some j):j<w.heap.size:=by
 obtain ⟨n,hn,h⟩:=h
 exact (h.lt j hj).2
structure ListsAt (w:World) (B bW:Nat) (v0:Value) (ls:List (Value × Nat)) (sa:Option Addr) (sc:Nat) (ka:Option Addr) (kc:Nat):Prop where
 box:w.heap[bW]?=some (.cells #[v0,.slice sa ls.length sc,.slice ka ls.length kc] 76 (0,0))
 lrow:w.ownsRow B 47 1 (.slice sa ls.length sc) ls.length (ls.map (·.1))
 krow:w.ownsRow B 3 1 (.slice ka ls.length kc) ls.length (ls.map fun x => .int .i64 x.2)
 all:∀ x ∈ ls,ListAt w x.1 x.2∧x.2≤ls.length
theorem ListsAt.ext {w w':World} {B bW:Nat} {v0:Value} {ls:List (Value × Nat)} {sa:Option Addr} {sc:Nat} {ka:Option Addr} {kc:Nat} (h:ListsAt w B bW v0 ls sa sc ka kc) (e:Ext w w'):ListsAt w' B bW v0 ls sa sc ka kc :=
 ⟨(e.block _ (Zac h.box)).trans h.box,Zak h.lrow (fun k hk=>e.block k (h.lrow.lt k hk).2),Zak h.krow (fun k hk=>e.block k (h.krow.lt k hk).2),fun x hx=>⟨(h.all x hx).1.same (fun j hj=>e.block j ((h.all x hx).1.lt hj)),(h.all x hx).2⟩⟩
theorem ListsAt.nil {w:World} {B bW:Nat} {v0:Value} (h:w.heap[bW]?=some (.cells #[v0,.slice none 0 0,.slice none 0 0] 76 (0,0))):ListsAt w B bW v0 [] none 0 none 0 :=
 ⟨h,World.ownsRow_nil _ _ _ _,World.ownsRow_nil _ _ _ _,fun x hx=>by simp at hx⟩
def ownL (bW:Nat) (sv kv lv:Value):Nat→Prop:=fun k=>k=bW∨Zap sv k∨Zap kv k∨Zap lv k
theorem Tryz.infoStrs:(Tryz.prog.info? 47).map (fun i=>(i.zero,i.size,i.bytes))=some (some (.slice none 0 0),1,24):=by kernel_rfl
theorem Zli {w:World} {B e size n:Nat} {v:Value} {xs:List Value} (h:w.ownsRow B e size v n xs):∀ k,Zap v k→∃ cl fr,w.heap[k]?=some (.cells cl e fr):=fun k hk=>by
 rcases h.2 with ⟨rfl,_⟩ | ⟨g,cap,cur,rfl,_,hg,_⟩
 ·simp [Zap,Value.ownBlock] at hk
 ·simp [Zap,Value.ownBlock] at hk
  subst hk
  exact ⟨_,_,hg⟩
def OfTy (S:Nat→Prop) (w:World) (t:TypeId):Prop:=∀ k,S k→∃ cl fr,w.heap[k]?=some (.cells cl t fr)
theorem OfTy.block {S:Nat→Prop} {w w':World} {t t':TypeId} {k:Nat} {cl:Array Value} {fr:Nat × Nat} (hS:OfTy S w t) (hk:Kept S w w') (h:w.heap[k]?=some (.cells cl t' fr)) (ht:t'≠t):w'.heap[k]?=some (.cells cl t' fr) :=
 (hk.block k (Zac h) (fun hs=>by
  obtain ⟨cl',fr',h1⟩:=hS k hs
  rw [h] at h1
  simp at h1
  exact ht h1.2.1)).trans h
theorem OfTy.row {S:Nat→Prop} {w w':World} {t B e size n:Nat} {v:Value} {xs:List Value} (hS:OfTy S w t) (hk:Kept S w w') (h:w.ownsRow B e size v n xs) (ht:e≠t):w'.ownsRow B e size v n xs :=
 Zak h (fun k hj=>by
  obtain ⟨cl,fr,h1⟩:=Zli h k hj
  rw [hS.block hk h1 ht,h1])
theorem OfTy.list {S:Nat→Prop} {w w':World} {t:TypeId} {v:Value} {k:Nat} (hS:OfTy S w t) (hk:Kept S w w') (h:ListAt w v k) (ht:9≠t):ListAt w' v k:=by
 obtain ⟨n,hn,h⟩:=h
 exact ⟨n,hn,hS.row hk h ht⟩
theorem Yhy (m:Value) (xs:List Value) (i:Nat) (hi:i<xs.length):(List.replicate i m++xs.drop i).set i m=List.replicate (i+1) m++xs.drop (i+1):=by
 rw [List.drop_eq_getElem_cons hi,List.set_append_right _ _ (by simp),List.length_replicate,Nat.sub_self,List.set_cons_zero,List.replicate_succ',Qi]
 rfl
structure Four (w w4:World) (B k n:Nat) (lv gv hv jv:Value):Prop where
 kept:Kept (Zap lv) w w4
 l:w4.ownsRow B 9 1 lv n (List.replicate n (Zga k))
 g:w4.ownsRow B 9 1 gv (n+1) (List.replicate (n+1) (Zga k))
 h:w4.ownsRow B 9 1 hv (n+2) (List.replicate (n+2) (Zga k))
 j:w4.ownsRow B 9 1 jv (n+3) (List.replicate (n+3) (Zga k))
theorem Yfd {w w4 w5 w7:World} {B bW n:Nat} {v0 lv gv hv jv:Value} {ls:List (Value × Nat)} {sa ka sa' ka':Option Addr} {sc kc sc' kc':Nat} (h:ListsAt w B bW v0 ls sa sc ka kc) (hl:OfTy (Zap lv) w 9) (hap:∀ x ∈ ls,∀ k,x.1.ownBlock=some k→lv.ownBlock≠some k) (hn:n≤20000) (hF:Four w w4 B ls.length n lv gv hv jv) :
  let U5:=w4.alloc (.cells #[lv,gv,hv,jv] 47)
  w4.heap[bW]?=some (.cells #[v0,.slice sa ls.length sc,.slice ka ls.length kc] 76 (0,0))∧U5.ownsRow B 47 1 (.slice sa ls.length sc) ls.length (ls.map (·.1)) ∧
  (Appended U5 B 47 1 (.slice sa ls.length sc) (ls.length+4) (ls.map (·.1)++[lv,gv,hv,jv]) (.slice sa' (ls.length+4) sc') w5 →
   let W5:=w5.setCell ⟨bW,1,none⟩ (.slice sa' (ls.length+4) sc')
   let U6:=W5.alloc (.cells #[.int .i64 ls.length,.int .i64 ls.length,.int .i64 ls.length,.int .i64 ls.length] 3)
   w5.heap[bW]?=some (.cells #[v0,.slice sa ls.length sc,.slice ka ls.length kc] 76 (0,0))∧W5.heap[bW]?=some (.cells #[v0,.slice sa' (ls.length+4) sc',.slice ka ls.length kc] 76 (0,0))∧U6.ownsRow B 3 1 (.slice ka ls.length kc) ls.length (ls.map fun x => .int .i64 x.2) ∧
   (Appended U6 B 3 1 (.slice ka ls.length kc) (ls.length+4) ((ls.map fun x => .int .i64 x.2)++[.int .i64 ls.length,.int .i64 ls.length,.int .i64 ls.length,.int .i64 ls.length]) (.slice ka' (ls.length+4) kc') w7 →
    let W7:=w7.setCell ⟨bW,2,none⟩ (.slice ka' (ls.length+4) kc')
    w7.heap[bW]?=some (.cells #[v0,.slice sa' (ls.length+4) sc',.slice ka ls.length kc] 76 (0,0))∧Kept (ownL bW (.slice sa ls.length sc) (.slice ka ls.length kc) lv) w W7 ∧
    ListsAt W7 B bW v0 (ls++[(lv,ls.length),(gv,ls.length),(hv,ls.length),(jv,ls.length)]) sa' sc' ka' kc')):=by
 intro U5
 have hb4:=hl.block hF.kept h.box (by decide)
 have hlr4:=hl.row hF.kept h.lrow (by decide)
 have hkr4:=hl.row hF.kept h.krow (by decide)
 have hall4:∀ x ∈ ls,ListAt w4 x.1 x.2:=fun x hx=>(h.all x hx).1.same (fun j hj=>hF.kept.block j ((h.all x hx).1.lt hj) (fun e=>hap x hx j hj e))
 have hE5:Ext w4 U5:=(Ext.of (by repeat' (first | with_reducible(first|exact Qx _ _|apply Kept.drew|apply Kept.drewN|apply Qz|refine Qy ?_ ?_ _)|exact fun h=>absurd h (by simp <;> omega))))
 have hlr5:U5.ownsRow B 47 1 (.slice sa ls.length sc) ls.length (ls.map (·.1)):=Zak hlr4 (fun k hk=>hE5.block k (hlr4.lt k hk).2)
 refine ⟨hb4,hlr5,fun hA => ?_⟩
 intro W5 U6
 have hS5:OfTy (Zap (.slice sa ls.length sc)) U5 47:=Zli hlr5
 have hb5:=hS5.block hA.kept ((hE5.block _ (Zac hb4)).trans hb4) (by decide)
 have hkr5:=hS5.row hA.kept (Zak hkr4 (fun k hk=>hE5.block k (hkr4.lt k hk).2)) (by decide)
 have row5:∀ {v:Value} {m:Nat},w4.ownsRow B 9 1 v m (List.replicate m (Zga ls.length))→w5.ownsRow B 9 1 v m (List.replicate m (Zga ls.length)):=fun hr=>hS5.row hA.kept (Zak hr (fun k hk=>hE5.block k (hr.lt k hk).2)) (by decide)
 have hall5:∀ x ∈ ls,ListAt w5 x.1 x.2:=fun x hx=>hS5.list hA.kept ((hall4 x hx).same (fun j hj=>hE5.block j ((hall4 x hx).lt hj))) (by decide)
 have hSW:OfTy (only bW) w5 76:=fun k e=>by
  have e:k=bW:=e
  subst e
  exact ⟨_,_,hb5⟩
 have hKW:Kept (only bW) w5 W5:=(Qx _ _).put 1 _
 have hbW5:W5.heap[bW]?=_:=Zai hb5 1 _
 have hE6:Ext W5 U6:=(Ext.of (by repeat' (first | with_reducible(first|exact Qx _ _|apply Kept.drew|apply Kept.drewN|apply Qz|refine Qy ?_ ?_ _)|exact fun h=>absurd h (by simp <;> omega))))
 have hkrW:=hSW.row hKW hkr5 (by decide)
 have hkr6:U6.ownsRow B 3 1 (.slice ka ls.length kc) ls.length (ls.map fun x => .int .i64 x.2):=Zak hkrW (fun k hk=>hE6.block k (hkrW.lt k hk).2)
 refine ⟨hb5,hbW5,hkr6,fun hA2 => ?_⟩
 intro W7
 have hS6:OfTy (Zap (.slice ka ls.length kc)) U6 3:=Zli hkr6
 have hb7:=hS6.block hA2.kept ((hE6.block _ (Zac hbW5)).trans hbW5) (by decide)
 have go:∀ {B' e size n:Nat} {v:Value} {xs:List Value},w5.ownsRow B' e size v n xs→e≠76→e≠3→w7.ownsRow B' e size v n xs:=fun hr h1 h2=>by
  have r1:=hSW.row hKW hr h1
  exact hS6.row hA2.kept (Zak r1 (fun k hk=>hE6.block k (r1.lt k hk).2)) h2
 have hSW7:OfTy (only bW) w7 76:=fun k e=>by
  have e:k=bW:=e
  subst e
  exact ⟨_,_,hb7⟩
 have hKW7:Kept (only bW) w7 W7:=(Qx _ _).put 2 _
 have fin:∀ {v:Value} {m:Nat},m≤30000→w4.ownsRow B 9 1 v m (List.replicate m (Zga ls.length))→ListAt W7 v ls.length:=fun hm hr=>⟨_,hm,Zbb (hSW7.row hKW7 (go (row5 hr) (by decide) (by decide)) (by decide)) (Qm _)⟩
 refine ⟨hb7,?_,?_,?_,?_,fun x hx => ?_⟩
 ·have k1:Kept (ownL bW (.slice sa ls.length sc) (.slice ka ls.length kc) lv) w w4:=hF.kept.mono (fun i _ e=>Or.inr (Or.inr (Or.inr e)))
  have k2:Kept (ownL bW (.slice sa ls.length sc) (.slice ka ls.length kc) lv) w4 U5:=(Qx _ _).alloc _
  have k3:Kept (ownL bW (.slice sa ls.length sc) (.slice ka ls.length kc) lv) U5 w5:=hA.kept.mono (fun i _ e=>Or.inr (Or.inl e))
  have k4:Kept (ownL bW (.slice sa ls.length sc) (.slice ka ls.length kc) lv) w5 W5:=hKW.mono (fun i _ e=>Or.inl e)
  have k5:Kept (ownL bW (.slice sa ls.length sc) (.slice ka ls.length kc) lv) W5 U6:=(Qx _ _).alloc _
  have k6:Kept (ownL bW (.slice sa ls.length sc) (.slice ka ls.length kc) lv) U6 w7:=hA2.kept.mono (fun i _ e=>Or.inr (Or.inr (Or.inl e)))
  have k7:Kept (ownL bW (.slice sa ls.length sc) (.slice ka ls.length kc) lv) w7 W7:=hKW7.mono (fun i _ e=>Or.inl e)
  exact (((((k1.trans k2).trans k3).trans k4).trans k5).trans k6).trans k7
 ·have:=Zai hb7 2 (.slice ka' (ls.length+4) kc')
  simpa using this
 ·have:=hSW7.row hKW7 (go hA.owns (by decide) (by decide)) (by decide)
  simpa using this
 ·have:=hSW7.row hKW7 hA2.owns (by decide)
  simpa using this
 ·rw [Qg]
  rcases Qk.1 hx with hx | hx
  ·refine ⟨?_,by have:=(h.all x hx).2; omega⟩
   obtain ⟨m,hm,hr⟩:=hall5 x hx
   exact ⟨m,hm,hSW7.row hKW7 (go hr (by decide) (by decide)) (by decide)⟩
  ·simp at hx
   rcases hx with rfl | rfl | rfl | rfl
   ·exact ⟨fin (by omega) hF.l,Nat.le_add_right _ _⟩
   ·exact ⟨fin (by omega) hF.g,Nat.le_add_right _ _⟩
   ·exact ⟨fin (by omega) hF.h,Nat.le_add_right _ _⟩
   ·exact ⟨fin (by omega) hF.j,Nat.le_add_right _ _⟩
end Go.Proofs.YtlmjilpjmgjjcaaGreatDoor
