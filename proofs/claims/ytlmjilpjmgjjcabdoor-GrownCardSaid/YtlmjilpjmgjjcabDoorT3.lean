/-
  PROVED HERE: what the program's 'clause.VariableName' and 'clause.symbolText' answer (the conditions stand in each statement).
-/
import Derived.Test.YtlmjilpjmgjjcabDoorT2
import Derived.BigRegion
import Derived.Deep.RegionLaw
import Derived.Deep.RegionLawGrows
set_option linter.unusedSimpArgs false
set_option linter.unusedVariables false
set_option maxRecDepth 10000
set_option maxHeartbeats 4000000
namespace Go.Proofs.YtlmjilpjmgjjcabDoor
open Go.RowKit
def IsRx (w:World) (B rb:Nat) (st:RS):Prop:=∃ V Sa Sb vs xs,IsR w B rb st V Sa Sb vs xs
theorem Zfk {w w1:World} {rb:Nat} {X:Value} (h:Kept (Zbq X) w w1) (i:Nat) (u:Value):Kept (Zdt rb X) w (w1.setCell ⟨rb,i,none⟩ u) :=
 Qy (S:=Zdt rb X) (h.mono (fun _ _ e=>Or.inr e)) (p:=⟨rb,i,none⟩) (fun _=>Or.inl rfl) u
theorem Zcu {w w1:World} {rb:Nat} {X:Value} (h:Kept (Zdt rb X) w w1) (i:Nat) (u:Value):Kept (Zdt rb X) w (w1.setCell ⟨rb,i,none⟩ u) :=
 Qy (S:=Zdt rb X) h (p:=⟨rb,i,none⟩) (fun _=>Or.inl rfl) u
def Zhd (st:RS):RS := { st with opn:=st.opn.tail }
theorem Zwk (w:World) (B rb:Nat) (st:RS) (h:IsRx w B rb st) (hl:st.opn.length≤4096) :
  Calls Tryd.prog 72 #[.pointer (some ⟨rb,0,none⟩)] w fun e w'=>e = .returned (.tuple #[])∧IsRx w' B rb (Zhd st)∧Held B w w':=by
 obtain ⟨V,Sa,Sb,vs,xs,h⟩:=h
 obtain ⟨c0,c1,c2,c3,c4,c5,c6,c7,c8⟩:=h.opens.facts
 have hf:=fun i=>Zae h.blk i
 have hrb:=Zab h.blk
 obtain ⟨oa,ocap,hvo⟩:=Zad h.rest.opn
 cases hst:st.opn with
 | nil =>
  rw [hvo] at c4
  simp only [hst,Jt] at c4
  have Hr:Hid (Zhd st=st):=by
   show _=_
   cases st
   simp only at hst
   subst hst
   rfl
  have H:=Zac h
  clear h hvo hst
  go_enter Tryd.func72,Tryd.ntmps72
  go_wp2
  go_end0
  rw [Hr.out]
  exact ⟨rfl,⟨V,Sa,Sb,vs,xs,H.out⟩,Held.refl _ _⟩
 | cons n r =>
  have hrl:r.length+1≤4096:=by rw [hst] at hl; simpa using hl
  have hop:=h.rest.opn
  rw [hst,hvo,hst] at hop
  obtain ⟨g,gcap,gcur,he,hBg,hg,hcap⟩:=Zap hop (by simp)
  simp only [Value.slice.injEq] at he
  obtain ⟨rfl,_,rfl⟩:=he
  rw [hvo] at c4
  simp only [hst,Qf] at c4 hcap hop
  have hpop:=Zml (n:=r.length) hop
  have hvo':V.o = .slice (some ⟨g,0,none⟩) (r.length+1) ocap:=by rw [hvo,hst]; rfl
  have H:=Zac h
  have Hst:=Zac hst
  have Hpop:=Zac hpop
  have Hvo:=Zac hvo'
  clear h hvo hst hop hg hpop hvo'
  go_enter Tryd.func72,Tryd.ntmps72
  go_wp2_with fail
  go_region
  go_end0
  have hk:Kept (Zdt rb V.o) w (w.setCell ⟨rb,4,none⟩ (.slice (some ⟨g,0,none⟩) r.length ocap)):=(Qx _ w).setCell (p:=⟨rb,4,none⟩) (fun _=>Or.inl rfl) _
  have hpop':(w.setCell ⟨rb,4,none⟩ (.slice (some ⟨g,0,none⟩) r.length ocap)).ownsRow B 3 1 (.slice (some ⟨g,0,none⟩) r.length ocap) r.length (ints r.reverse):=by
   have e:(ints (n::r).reverse).take r.length=ints r.reverse:=by simp [ints]
   have h2:=Hpop.out
   rw [e] at h2
   exact ((Qx (only rb) w).put 4 _).owns h2 (fun k hko e=>by
    have e:k=rb:=e
    rw [e] at hko
    exact Zaf h2 (by decide) H.out.blk hko)
  have hR:=H.out.opened hk r (.slice (some ⟨g,0,none⟩) r.length ocap) (Zag H.out.blk 4 _) hpop'
  have hc:Zhd st = { st with opn:=r }:=by simp [Zhd,Hst.out]
  rw [hc]
  refine ⟨rfl,⟨_,Sa,Sb,vs,xs,⟨hR.blk,⟨hR.rest.atom,hR.rest.opn,hR.rest.vars,hR.rest.head,hR.rest.body,hR.rest.cls,hR.rest.ta,hR.rest.tb,hR.rest.tv,hR.rest.la,hR.rest.lb⟩,hR.le⟩⟩,?_⟩
  exact (H.out.below hk H.out.rest.opn (by decide)).drew
def varS (st:RS) (t:List UInt8):RS := { st with vars:=(Zbm st.vars t).1 }
theorem Zoe (w:World) (B rb:Nat) (st:RS) (t:List UInt8) (h:IsRx w B rb st) (hl:st.vars.length≤4096) :
  Calls Tryd.prog 71 #[.pointer (some ⟨rb,0,none⟩),.string ⟨t.toArray⟩] w fun e w'=>e = .returned (.int .i64 (Zbm st.vars t).2)∧IsRx w' B rb (varS st t)∧Held B w w':=by
 obtain ⟨V,Sa,Sb,vs,xs,h⟩:=h
 obtain ⟨c0,c1,c2,c3,c4,c5,c6,c7,c8⟩:=h.opens.facts
 have hrb:=Zab h.blk
 obtain ⟨va,vcap,hvv⟩:=Zad h.rest.vars
 have hown:=h.rest.vars
 rw [hvv] at c7 hown
 have H:=Zac h
 have Hown:=Zac hown
 have Hvv:=Zac hvv
 have hBw:B≤w.heap.size:=by have:=h.le; omega
 clear h hown hvv
 go_enter Tryd.func71,Tryd.ntmps71
 go_wp2
 go_loop [13] (fun i=>∃ k:Nat,k≤st.vars.length∧i = .int .i64 k∧t ∉ st.vars.take k) (fun i=>st.vars.length - (intOf i).toNat)
 case atStart=>exact ⟨0,Qm _,rfl,by simp⟩
 case round =>
  obtain ⟨k,hk,rfl,hnot⟩:=hrel
  have Hnot:=Zac hnot
  clear hnot
  by_cases hlt:k<st.vars.length
  ·obtain ⟨g,cap',cur,he,hBg,hg,hcp⟩:=Zap Hown.out (by omega)
   simp only [Value.slice.injEq] at he
   obtain ⟨rfl,_,rfl⟩:=he
   obtain ⟨nm,hnm⟩:∃ nm,nm=st.vars[k]:=⟨_,rfl⟩
   have hc:w.cell? ⟨g,k,none⟩=some (.string ⟨nm.toArray⟩):=Zai Hown.out k _ (by simp [strs,hlt,hnm])
   have Hnm:=Zac hnm
   clear hg hnm
   go_wp2
   ·have hq:nm=t:=eq_of_beq (by assumption)
    go_ret
    have hr:=Znq hlt (Hnm.out.symm.trans hq) Hnot.out
    rw [varS,hr]
    exact ⟨rfl,⟨V,Sa,Sb,vs,xs,H.out⟩,Held.refl _ _⟩
   ·have hq:nm≠t:=ne_of_beq_false (by assumption)
    go_round
    case rel=>exact ⟨k+1,by omega,by go_num,Ycr hlt (fun h=>hq (Hnm.out.trans h)) Hnot.out⟩
    case measure=>simp [intOf]; omega
  ·have Hmiss:=Zac (Zmm hlt Hnot.out)
   go_wp2_with (at_builtin; refine Zak _ rfl (.tmp 28) (.tmp 30) 34 rfl B 9 Tryd.infoStr Tryd.underlying34 rfl (by decide) _ st.vars.length (strs st.vars) rfl Hown.out _ rfl rfl rfl (Zvw _) ?_ hBw ?_)
   ·omega
   intro v' w1 hap
   obtain ⟨v1a,v1cap,rfl⟩:=Zad hap.owns
   have hnb:¬ Zbq (.slice va st.vars.length vcap) rb:=Zaf Hown.out (by decide) H.out.blk
   have hblk1:=(hap.kept.block rb hrb hnb).trans H.out.blk
   have d7:w1.cell? ⟨rb,7,none⟩=some V.v:=Zaa hblk1 7 _ rfl
   rw [Hvv.out] at d7
   have df:=fun i=>Zae hblk1 i
   have Hap:=Zac hap
   have Hblk1:=Zac hblk1
   clear hap hblk1 c0 c1 c2 c3 c4 c5 c6 c7 c8
   go_wp2
   go_ret
   have hk:Kept (Zdt rb V.v) w (w1.setCell ⟨rb,7,none⟩ (.slice v1a (st.vars.length+1) v1cap)):=by
    rw [Hvv.out]
    exact Zfk Hap.out.kept 7 _
   have hrow:(w1.setCell ⟨rb,7,none⟩ (.slice v1a (st.vars.length+1) v1cap)).ownsRow B 9 1 (.slice v1a (st.vars.length+1) v1cap) (st.vars++[t]).length (strs (st.vars++[t])):=by
    have h2:=Hap.out.owns
    have h3:=((Qx (only rb) w1).put 7 (.slice v1a (st.vars.length+1) v1cap)).owns h2 (fun k hko e=>by
     have e:k=rb:=e
     rw [e] at hko
     exact Zaf h2 (by decide) Hblk1.out hko)
    simpa [strs] using h3
   have hR:=H.out.named hk (st.vars++[t]) (.slice v1a (st.vars.length+1) v1cap) (Zag Hblk1.out 7 _) hrow (fun k e=>by
    rcases Hap.out.where_ with hw | ⟨g,hw,hg⟩
    ·exact H.out.rest.tv k (by rw [Hvv.out]; exact hw.symm.trans e)
    ·have e2:=hw.symm.trans e
     simp only [Qo] at e2
     have:=H.out.rest.lb
     omega)
   rw [varS,Hmiss.out]
   refine ⟨Ziq ?_,⟨_,Sa,Sb,vs,xs,hR⟩,H.out.below hk H.out.rest.vars (by decide)⟩
   omega
theorem Zof {w w1:World} {o:Obj} {n rb:Nat} {X:Value} {cs:Array Value} {T:TypeId} (h:Kept (Zbq X) ((w.alloc o).drewN n) w1) (hb:w.heap[rb]?=some (.cells cs T (0,0))) (hx:¬ Zbq X rb):w1.heap[rb]?=some (.cells cs T (0,0)) :=
 (h.block rb (by have:=Zab hb; show rb<(w.alloc o).heap.size; simp; omega) hx).trans (Zao hb o)
def Zca (st:RS):List Sym:=match st.opn with
 | []=>st.atom
 | n::_=>st.atom.modify n (fun s => { s with args:=s.args+1 })
def addS (st:RS) (s:Sym):RS := { st with atom:=Zca st++[s] }
theorem Zft (x:ByteArray) (y z:Int):∀ u ∈ (#[Value.string x,.int .i64 y,.int .i64 z]:Array Value).toList,u.oneCell'=true:=by
 intro u hu
 simp at hu
 rcases hu with rfl | rfl | rfl <;> rfl
theorem Zzi {w w1:World} {B rb nd:Nat} {st:RS} {V:RV} {Sa Sb:Nat} {vs:List Value} {xs:List (List Value)} {s:Sym} {o:Obj} {a1:Option Addr} {a1cap:Nat} (H:IsR w B rb st V Sa Sb vs xs)
  (hap:Appended ((w.alloc o).drewN nd) B 79 3 V.a (st.atom.length+1) (Zah st.atom++[.string ⟨s.name.toArray⟩,.int .i64 s.num,.int .i64 s.args]) (.slice a1 (st.atom.length+1) a1cap) w1) :
  IsR (w1.setCell ⟨rb,3,none⟩ (.slice a1 (st.atom.length+1) a1cap)) B rb { st with atom:=st.atom++[s] } { V with a := .slice a1 (st.atom.length+1) a1cap } Sa Sb vs xs∧Held B w (w1.setCell ⟨rb,3,none⟩ (.slice a1 (st.atom.length+1) a1cap)):=by
 have hat:=H.rest.atom
 have hblk1:=Zof hap.kept H.blk (Zaf hat (by decide) H.blk)
 have hk:Kept (Zdt rb V.a) w (w1.setCell ⟨rb,3,none⟩ (.slice a1 (st.atom.length+1) a1cap)):=Zfk ((((Qx _ w).alloc _).drewN _).trans hap.kept) 3 _
 have hrow:(w1.setCell ⟨rb,3,none⟩ (.slice a1 (st.atom.length+1) a1cap)).ownsRow B 79 3 (.slice a1 (st.atom.length+1) a1cap) (st.atom++[s]).length (Zah (st.atom++[s])):=by
  have h2:=hap.owns
  have h3:=((Qx (only rb) w1).put 3 (.slice a1 (st.atom.length+1) a1cap)).owns h2 (fun k hko e=>by
   have e:k=rb:=e
   rw [e] at hko
   exact Zaf h2 (by decide) hblk1 hko)
  simpa [Zah,Zbk] using h3
 have hta:∀ k,(Value.slice a1 (st.atom.length+1) a1cap).ownBlock=some k→Sa≤k:=by
  intro k hk
  rcases hap.where_ with hw | ⟨g,hw,hg⟩
  ·exact H.rest.ta k (by rw [← hw]; exact hk)
  ·rw [hk] at hw
   simp at hw
   have:=H.rest.la
   have hg':w.heap.size+1≤g:=by simpa using hg
   omega
 exact ⟨H.atoms hk (st.atom++[s]) (.slice a1 (st.atom.length+1) a1cap) (Zag hblk1 3 _) hrow hta,H.below hk hat (by decide)⟩
theorem Zkk {w:World} {B:Nat} {e:TypeId} {g n cap size:Nat} {xs:List Value} (h:w.ownsRow B e size (.slice (some ⟨g,0,none⟩) n cap) n xs) (i:Nat) (u:Value) :
  (w.setCell ⟨g,i,none⟩ u).ownsRow B e size (.slice (some ⟨g,0,none⟩) n cap) n (xs.set i u):=by
 refine ⟨by simpa using h.1,?_⟩
 rcases h.2 with ⟨h1,_⟩ | ⟨g',cap',cur,h1,hb,hg,hn,hc,hs,ht⟩
 ·simp at h1
 ·simp at h1
  obtain ⟨rfl,rfl⟩:=h1
  refine .inr ⟨g,cap,cur.setIfInBounds i u,rfl,hb,Zag hg i u,hn,hc,by simpa using hs,?_⟩
  rw [← ht]
  simp [List.take_set]
theorem Zwl (l:List Sym) (n:Nat) (s:Sym) (h:l[n]?=some s):Zah (l.modify n (fun s => { s with args:=s.args+1 }))=(Zah l).set (n * 3+2) (.int .i64 ((s.args:Int)+1)):=by
 induction l generalizing n with
 | nil=>simp at h
 | cons a l ih =>
  cases n with
  | zero =>
   simp at h; subst h
   simp [Zah,Zbk,List.modify]
  | succ n =>
   have:=ih n (by simpa using h)
   simp only [List.modify_succ_cons]
   show Zbk a++Zah _=(Zbk a++Zah l).set _ _
   rw [this,List.set_append_right _ _ (by simp [Zbk]; omega)]
   congr 2
   simp [Zbk]
   omega
theorem Ybj (w:World) (B rb:Nat) (st:RS) (s:Sym) (h:IsRx w B rb st) (hb:RBd st) (ho:st.opn=[]) :
  Calls Tryd.prog 70 #[.pointer (some ⟨rb,0,none⟩),.agg #[.string ⟨s.name.toArray⟩,.int .i64 s.num,.int .i64 s.args]] w fun e w'=>e = .returned (.tuple #[])∧IsRx w' B rb (addS st s)∧Held B w w':=by
 obtain ⟨V,Sa,Sb,vs,xs,h⟩:=h
 have hrb:=Zab h.blk
 have hBw:B≤w.heap.size:=by have:=h.le; omega
 obtain ⟨aa,acap,hva⟩:=Zad h.rest.atom
 have hat:=h.rest.atom
 rw [hva] at hat
 have hla:=hb.atom
 have HW:∀ o,ROpen (w.alloc o) B rb st V:=fun o=>h.opens.later (S:=Zco) ((Qx _ w).alloc o) (fun h=>h) (fun _ _ h=>h) (fun _ _ h=>h)
 have HO:=Zac (fun o=>Zkj (w.alloc o) B rb st V (HW o) hb.opn hb.atom)
 have hoi:Zel st = -1:=by simp [Zel,ho]
 have Hoi:=Zac hoi
 obtain ⟨c0,c1,c2,c3,c4,c5,c6,c7,c8⟩:=h.opens.facts
 have hf:=fun i=>Zae h.blk i
 rw [hva] at c3
 have H:=Zac h
 have Hat:=Zac hat
 have Hva:=Zac hva
 have Hadd:Hid (addS st s = { st with atom:=st.atom++[s] }):=by show _=_; simp [addS,Zca,ho]
 clear h hat hva HW ho hoi
 go_enter Tryd.func70,Tryd.ntmps70
 go_wp2_with fail
 refine (HO.out _).mono ?_
 rintro e w1 ⟨rfl,nd,rfl⟩
 rw [Hoi.out]
 go_wp2_with fail
 go_region_law (refine Zcn ((w.alloc (.cells #[.string ⟨s.name.toArray⟩,.int .i64 s.num,.int .i64 s.args] 79)).drewN (nd+1)) rfl (.tmp 24) (.tmp 26) 52 rfl B 79 Tryd.infoSym Tryd.underlying52 rfl (by decide) (.slice aa st.atom.length acap) st.atom.length (Zah st.atom) rfl (Hat.out.alloc _) #[.string ⟨s.name.toArray⟩,.int .i64 s.num,.int .i64 s.args] rfl (by simp) rfl (Zft _ _ _) (by omega) (by simp; omega) rfl ?_; intro v' w1 hap; obtain ⟨a1,a1cap,rfl⟩:=Zad hap.owns; have hblk1:=Zof hap.kept H.out.blk (Zaf Hat.out (by decide) H.out.blk); have d3:w1.cell? ⟨rb,3,none⟩=some V.a:=Zaa hblk1 3 _ rfl; have df:=fun i=>Zae hblk1 i; have Hap:=Zac hap; have Hblk1:=Zac hblk1; clear hap hblk1)
 all_goals
  go_end0
  rw [Hadd.out]
  have hap:=Hap.out
  rw [← Hva.out] at hap
  obtain ⟨hR,hB⟩:=Zzi H.out hap
  exact ⟨rfl,⟨_,Sa,Sb,vs,xs,hR⟩,hB⟩
theorem IsR.fresh {w w':World} {B rb:Nat} {st:RS} {V:RV} {Sa Sb:Nat} {vs:List Value} {xs:List (List Value)} (h:IsR w B rb st V Sa Sb vs xs) (hk:Kept Zco w w'):IsR w' B rb st V Sa Sb vs xs :=
 h.only (hk.mono (fun _ _ h=>h.elim)) st ((hk.block rb (Zab h.blk) (fun h=>h)).trans h.blk) rfl rfl rfl rfl rfl rfl
theorem IsR.counted {w:World} {B rb:Nat} {st:RS} {V:RV} {Sa Sb:Nat} {vs:List Value} {xs:List (List Value)} {n g acap:Nat} {r:List Nat} {so:Sym} (h:IsR w B rb st V Sa Sb vs xs) (ho:st.opn=n::r) (hso:st.atom[n]?=some so)
  (hva:V.a = .slice (some ⟨g,0,none⟩) st.atom.length acap):IsR (w.setCell ⟨g,n * 3+2,none⟩ (.int .i64 ((so.args:Int)+1))) B rb { st with atom:=Zca st } V Sa Sb vs xs∧Held B w (w.setCell ⟨g,n * 3+2,none⟩ (.int .i64 ((so.args:Int)+1))):=by
 have hat:=h.rest.atom
 rw [hva] at hat
 have hgb:¬ rb=g:=fun e=>by subst e; exact Zaf hat (by decide) h.blk rfl
 have hrow1:=Zkk hat (n * 3+2) (.int .i64 ((so.args:Int)+1))
 rw [← Zwl st.atom n so hso] at hrow1
 have hblkW:(w.setCell ⟨g,n * 3+2,none⟩ (.int .i64 ((so.args:Int)+1))).heap[rb]?=some (.cells (Zcj st V) 95 (0,0)):=by
  rw [Below.heap_setCell _ _ _ _ hgb]; exact h.blk
 have hkW:Kept (Zdt rb V.a) w (w.setCell ⟨g,n * 3+2,none⟩ (.int .i64 ((so.args:Int)+1))):=(Qx _ w).setCell (p:=⟨g,n * 3+2,none⟩) (fun _=>Or.inr (by rw [hva]; rfl)) _
 have hbl:(Zca st).length=st.atom.length:=by simp [Zca,ho]
 have hbs:Zca st=st.atom.modify n (fun s => { s with args:=s.args+1 }):=by simp [Zca,ho]
 exact ⟨h.atoms hkW (Zca st) V.a hblkW (by rw [hbl,hbs,hva]; exact hrow1) h.rest.ta,h.below hkW h.rest.atom (by decide)⟩
theorem Zep {w w1:World} {n rb:Nat} {X:Value} {cs:Array Value} {T:TypeId} (h:Kept (Zbq X) (w.drewN n) w1) (hb:w.heap[rb]?=some (.cells cs T (0,0))) (hx:¬ Zbq X rb):w1.heap[rb]?=some (.cells cs T (0,0)) :=
 (h.block rb (Zab hb) hx).trans hb
theorem Zwm {w w1:World} {B rb nd:Nat} {st:RS} {V:RV} {Sa Sb:Nat} {vs:List Value} {xs:List (List Value)} {s:Sym} {a1:Option Addr} {a1cap:Nat} (H:IsR w B rb st V Sa Sb vs xs)
  (hap:Appended (w.drewN nd) B 79 3 V.a (st.atom.length+1) (Zah st.atom++[.string ⟨s.name.toArray⟩,.int .i64 s.num,.int .i64 s.args]) (.slice a1 (st.atom.length+1) a1cap) w1) :
  IsR (w1.setCell ⟨rb,3,none⟩ (.slice a1 (st.atom.length+1) a1cap)) B rb { st with atom:=st.atom++[s] } { V with a := .slice a1 (st.atom.length+1) a1cap } Sa Sb vs xs∧Held B w (w1.setCell ⟨rb,3,none⟩ (.slice a1 (st.atom.length+1) a1cap)):=by
 have hat:=H.rest.atom
 have hblk1:=Zep hap.kept H.blk (Zaf hat (by decide) H.blk)
 have hk:Kept (Zdt rb V.a) w (w1.setCell ⟨rb,3,none⟩ (.slice a1 (st.atom.length+1) a1cap)):=Zfk (((Qx _ w).drewN _).trans hap.kept) 3 _
 have hrow:(w1.setCell ⟨rb,3,none⟩ (.slice a1 (st.atom.length+1) a1cap)).ownsRow B 79 3 (.slice a1 (st.atom.length+1) a1cap) (st.atom++[s]).length (Zah (st.atom++[s])):=by
  have h2:=hap.owns
  have h3:=((Qx (only rb) w1).put 3 (.slice a1 (st.atom.length+1) a1cap)).owns h2 (fun k hko e=>by
   have e:k=rb:=e
   rw [e] at hko
   exact Zaf h2 (by decide) hblk1 hko)
  simpa [Zah,Zbk] using h3
 have hta:∀ k,(Value.slice a1 (st.atom.length+1) a1cap).ownBlock=some k→Sa≤k:=by
  intro k hk
  rcases hap.where_ with hw | ⟨g,hw,hg⟩
  ·exact H.rest.ta k (by rw [← hw]; exact hk)
  ·rw [hk] at hw
   simp at hw
   have:=H.rest.la
   have hg':w.heap.size≤g:=by simpa using hg
   omega
 exact ⟨H.atoms hk (st.atom++[s]) (.slice a1 (st.atom.length+1) a1cap) (Zag hblk1 3 _) hrow hta,H.below hk hat (by decide)⟩
theorem Yct (w:World) (B rb:Nat) (st:RS) (s:Sym) (n:Nat) (r:List Nat) (h:IsRx w B rb st) (hb:RBd st) (ho:st.opn=n::r) (hn:n<st.atom.length) :
  Calls Tryd.prog 70 #[.pointer (some ⟨rb,0,none⟩),.agg #[.string ⟨s.name.toArray⟩,.int .i64 s.num,.int .i64 s.args]] w fun e w'=>e = .returned (.tuple #[])∧IsRx w' B rb (addS st s)∧Held B w w':=by
 obtain ⟨V,Sa,Sb,vs,xs,h⟩:=h
 have hrb:=Zab h.blk
 have hBw:B≤w.heap.size:=by have:=h.le; omega
 have hla:=hb.atom
 obtain ⟨so,hso⟩:∃ so,st.atom[n]?=some so:=⟨_,Qb hn⟩
 have hargs:=hb.args so (Qh hso)
 have HW:∀ o,ROpen (w.alloc o) B rb st V:=fun o=>h.opens.later (S:=Zco) ((Qx _ w).alloc o) (fun h=>h) (fun _ _ h=>h) (fun _ _ h=>h)
 have HO:=Zac (fun o=>Zkj (w.alloc o) B rb st V (HW o) hb.opn hb.atom)
 have Hoi:Hid (Zel st=n):=by show _=_; simp [Zel,ho]; omega
 have H:=Zac h
 have Ho:=Zac ho
 have Hso:=Zac hso
 clear h HW ho hso
 go_enter Tryd.func70,Tryd.ntmps70
 go_wp2_with fail
 refine (HO.out _).mono ?_
 rintro e w1 ⟨rfl,nd,hw1⟩
 rw [Hoi.out]
 have hk1:Kept Zco w w1:=by rw [hw1]; exact ((Qx _ w).alloc _).drewN _
 have b0:w1.cell? ⟨w.heap.size,0,none⟩=some (.string ⟨s.name.toArray⟩):=by rw [hw1]; exact Zff w _ _ 0 _ rfl
 have b1:w1.cell? ⟨w.heap.size,1,none⟩=some (.int .i64 s.num):=by rw [hw1]; exact Zff w _ _ 1 _ rfl
 have b2:w1.cell? ⟨w.heap.size,2,none⟩=some (.int .i64 s.args):=by rw [hw1]; exact Zff w _ _ 2 _ rfl
 have hsz1:w.heap.size<w1.heap.size:=by rw [hw1]; show w.heap.size<(w.alloc _).heap.size; simp
 clear hw1
 have h1:=H.out.fresh hk1
 obtain ⟨aa,acap,hva⟩:=Zad h1.rest.atom
 have hat:=h1.rest.atom
 rw [hva] at hat
 obtain ⟨g,gcap,gcur,he,hBg,hg,hcap⟩:=Zap hat (by omega)
 simp only [Value.slice.injEq] at he
 obtain ⟨rfl,_,rfl⟩:=he
 have hgl:g<w.heap.size:=(H.out.rest.atom.lt g (by rw [hva]; rfl)).2
 have hgb:¬ rb=g:=fun e=>by subst e; exact Zaf hat (by decide) h1.blk rfl
 have cg:w1.cell? ⟨g,n * 3+2,none⟩=some (.int .i64 so.args):=Zai hat _ _ (by rw [Zaw _ n so Hso.out 2 (by omega)]; rfl)
 have fg:=Zae hg (n * 3+2)
 have c3:w1.cell? ⟨rb,3,none⟩=some V.a:=h1.opens.facts.2.2.2.1
 rw [hva] at c3
 obtain ⟨hR1,hB1⟩:=h1.counted Ho.out Hso.out hva
 have Hat1:Hid ((w1.setCell ⟨g,n * 3+2,none⟩ (.int .i64 ((so.args:Int)+1))).ownsRow B 79 3 (.slice (some ⟨g,0,none⟩) st.atom.length acap) (Zca st).length (Zah (Zca st))):=by
  have h2:=hR1.rest.atom
  simp only at h2
  rw [hva] at h2
  exact h2
 have hbl:(Zca st).length=st.atom.length:=by simp [Zca,Ho.out]
 have Hbl:=Zac hbl
 have Hat2:=Hat1.out
 rw [hbl] at Hat2
 have HAT:=Zac Hat2
 have HB1:=Zac ((Held.fresh hk1 hBw).trans hB1)
 have H1:=Zac hR1
 have Hva:=Zac hva
 have hsz2:B≤w1.heap.size:=by omega
 have hrb1:rb<w1.heap.size:=by omega
 have hg1:g<w1.heap.size:=by omega
 clear h1 hat hva hg hR1 hB1 Hat1 Hat2 hbl hk1
 go_wp2_with fail
 go_region_law (refine Zcn ((w1.setCell ⟨g,n * 3+2,none⟩ (.int .i64 ((so.args:Int)+1))).drewN 1) rfl (.tmp 24) (.tmp 26) 52 rfl B 79 Tryd.infoSym Tryd.underlying52 rfl (by decide) (.slice (some ⟨g,0,none⟩) st.atom.length acap) st.atom.length (Zah (Zca st)) rfl HAT.out #[.string ⟨s.name.toArray⟩,.int .i64 s.num,.int .i64 s.args] rfl (by simp) rfl (Zft _ _ _) (by omega) (by simp; omega) rfl ?_; intro v' w2 hap; obtain ⟨a1,a1cap,rfl⟩:=Zad hap.owns; have hblk1:=Zep hap.kept H1.out.blk (Zaf HAT.out (by decide) H1.out.blk); have d3:w2.cell? ⟨rb,3,none⟩=some V.a:=Zaa hblk1 3 _ rfl; have df:=fun i=>Zae hblk1 i; have Hap:=Zac hap; clear hap hblk1)
 all_goals
  go_end0
  have hap:=Hap.out
  rw [← Hva.out] at hap
  rw [← Hbl.out] at hap
  obtain ⟨hR,hB⟩:=Zwm H1.out hap
  simp only [Hbl.out] at hR hB
  exact ⟨rfl,⟨_,Sa,Sb,vs,xs,hR⟩,HB1.out.trans hB⟩
def Zan (st:RS):RS:=if st.inBody then { st with body:=st.body++[st.atom],atom:=[] } else { st with head:=st.atom,atom:=[] }
theorem Zdh (a:Option Addr) (n c:Nat):∀ u ∈ (#[Value.slice a n c]:Array Value).toList,u.oneCell'=true:=by
  intro u hu
  simp at hu
  subst hu
  rfl
theorem Zhm (w:World) (B rb:Nat) (st:RS) (h:IsRx w B rb st) (hb:RBd st) :
    Calls Tryd.prog 74 #[.pointer (some ⟨rb,0,none⟩)] w fun e w'=>e = .returned (.tuple #[])∧IsRx w' B rb (Zan st)∧Held B w w':=by
  obtain ⟨V,Sa,Sb,vs,xs,h⟩:=h
  have hrb:=Zab h.blk
  have hBw:B≤w.heap.size:=by have:=h.le; omega
  obtain ⟨c0,c1,c2,c3,c4,c5,c6,c7,c8⟩:=h.opens.facts
  have hf:=fun i=>Zae h.blk i
  obtain ⟨aa,acap,hva⟩:=Zad h.rest.atom
  obtain ⟨ba,bcap,hvb⟩:=Zad h.rest.body.1
  have hlb:=hb.body
  have hbr:=h.rest.body.1
  rw [hvb] at hbr c6
  rw [hva] at c3
  obtain ⟨ha,hac,hvh⟩:=Zad h.rest.head.1
  rw [hvh] at c5
  have H:=Zac h
  have Hbr:=Zac hbr
  have Hva:=Zac hva
  have Hvb:=Zac hvb
  cases hin:st.inBody
  · rw [hin] at c2
    have He:Hid (Zan st = { st with head:=st.atom,atom:=[] }):=by show _=_; simp [Zan,hin]
    clear h hva hvb hbr hvh hin
    go_enter Tryd.func74,Tryd.ntmps74
    go_wp2
    go_end0
    have hk:Kept (Zdt rb (.slice none 0 0)) w ((w.setCell ⟨rb,5,none⟩ (.slice aa st.atom.length acap)).setCell ⟨rb,3,none⟩ (.slice none 0 0)):=Zcu (Zcu (Qx _ w) 5 _) 3 _
    have hblk:((w.setCell ⟨rb,5,none⟩ (.slice aa st.atom.length acap)).setCell ⟨rb,3,none⟩ (.slice none 0 0)).heap[rb]?=some (.cells (Zcj { st with head:=st.atom,atom:=[] } { V with h:=V.a,a := .slice none 0 0 }) 95 (0,0)):=by
      rw [Zag (Zag H.out.blk 5 _) 3 _]
      simp [Zcj,Hva.out]
    rw [He.out]
    exact ⟨rfl,⟨_,_,_,_,_,H.out.headed hk hblk⟩,H.out.below hk (World.ownsRow_nil w B 95 1) (by decide)⟩
  · rw [hin] at c2
    have He:Hid (Zan st = { st with body:=st.body++[st.atom],atom:=[] }):=by show _=_; simp [Zan,hin]
    clear h hva hvb hbr hvh hin
    go_enter Tryd.func74,Tryd.ntmps74
    go_wp2_with fail
    go_region_law (refine Zcn (w.drewN 1) rfl (.tmp 11) (.tmp 16) 53 rfl B 52 Tryd.infoSyms Tryd.underlying53 rfl (by decide) (.slice ba st.body.length bcap) st.body.length vs rfl Hbr.out #[.slice aa st.atom.length acap] rfl (by simp) rfl (Zdh _ _ _) (by omega) (by simp; omega) rfl ?_; intro v' w2 hap; obtain ⟨b1,b1cap,rfl⟩:=Zad hap.owns; have hblk1:=Zep hap.kept H.out.blk (Zaf Hbr.out (by decide) H.out.blk); have d3:w2.cell? ⟨rb,3,none⟩=some V.a:=Zaa hblk1 3 _ rfl; have d6:w2.cell? ⟨rb,6,none⟩=some V.b:=Zaa hblk1 6 _ rfl; have df:=fun i=>Zae hblk1 i; have Hap:=Zac hap; have Hblk1:=Zac hblk1; clear hap hblk1)
    all_goals
      rw [Hva.out] at d3
      rw [Hvb.out] at d6
      go_wp2
      go_end0
      have hk:Kept (Zdt rb V.b) w ((w2.setCell ⟨rb,6,none⟩ (.slice b1 (st.body.length+1) b1cap)).setCell ⟨rb,3,none⟩ (.slice none 0 0)):=by
        rw [Hvb.out]
        exact Zcu (Zfk (((Qx _ w).drewN _).trans Hap.out.kept) 6 _) 3 _
      have hblk:((w2.setCell ⟨rb,6,none⟩ (.slice b1 (st.body.length+1) b1cap)).setCell ⟨rb,3,none⟩ (.slice none 0 0)).heap[rb]?=some (.cells (Zcj { st with body:=st.body++[st.atom],atom:=[] } { V with b := .slice b1 (st.body.length+1) b1cap,a := .slice none 0 0 }) 95 (0,0)):=by
        rw [Zag (Zag Hblk1.out 6 _) 3 _]
        simp [Zcj]
      have hrow:((w2.setCell ⟨rb,6,none⟩ (.slice b1 (st.body.length+1) b1cap)).setCell ⟨rb,3,none⟩ (.slice none 0 0)).ownsRow B 52 1 (.slice b1 (st.body.length+1) b1cap) (st.body.length+1) (vs++[V.a]):=by
        have h2:=Hap.out.owns
        have h3:=(((Qx (only rb) w2).put 6 (.slice b1 (st.body.length+1) b1cap)).put 3 (.slice none 0 0)).owns h2 (fun k hko e=>by
          have e:k=rb:=e
          rw [e] at hko
          exact Zaf h2 (by decide) Hblk1.out hko)
        rw [Hva.out]
        simpa using h3
      have htb:∀ k,(Value.slice b1 (st.body.length+1) b1cap).ownBlock=some k→Sb≤k:=by
        intro k hk
        rcases Hap.out.where_ with hw | ⟨g,hw,hg⟩
        · exact H.out.rest.tb k (by rw [Hvb.out,← hw]; exact hk)
        · rw [hk] at hw
          simp at hw
          have:=H.out.rest.lb
          have hg':w.heap.size≤g:=by simpa using hg
          omega
      rw [He.out]
      exact ⟨rfl,⟨_,_,_,_,_,H.out.bodied hk _ hblk hrow htb⟩,H.out.below hk H.out.rest.body.1 (by decide)⟩
end Go.Proofs.YtlmjilpjmgjjcabDoor
namespace Go.Proofs.YtlmjilpjmgjjcabDoor
open Go.RowKit
set_option linter.unusedSimpArgs false
set_option linter.unusedVariables false
theorem IsRx.next {w:World} {B rb:Nat} {st:RS} (h:IsRx w B rb st) (n:Nat):IsRx (w.setCell ⟨rb,1,none⟩ (.int .i64 n)) B rb { st with next:=n }∧Held B w (w.setCell ⟨rb,1,none⟩ (.int .i64 n)):=by
  obtain ⟨V,Sa,Sb,vs,xs,h⟩:=h
  have hk:Kept (Zdt rb (.slice none 0 0)) w (w.setCell ⟨rb,1,none⟩ (.int .i64 n)):=Zcu (Qx _ w) 1 _
  exact ⟨⟨V,Sa,Sb,vs,xs,h.only hk { st with next:=n } (Zag h.blk 1 _) rfl rfl rfl rfl rfl rfl⟩,h.below hk (World.ownsRow_nil w B 95 1) (by decide)⟩
theorem IsRx.inb {w:World} {B rb:Nat} {st:RS} (h:IsRx w B rb st) (b:Bool):IsRx (w.setCell ⟨rb,2,none⟩ (.bool b)) B rb { st with inBody:=b }∧Held B w (w.setCell ⟨rb,2,none⟩ (.bool b)):=by
  obtain ⟨V,Sa,Sb,vs,xs,h⟩:=h
  have hk:Kept (Zdt rb (.slice none 0 0)) w (w.setCell ⟨rb,2,none⟩ (.bool b)):=Zcu (Qx _ w) 2 _
  exact ⟨⟨V,Sa,Sb,vs,xs,h.only hk { st with inBody:=b } (Zag h.blk 2 _) rfl rfl rfl rfl rfl rfl⟩,h.below hk (World.ownsRow_nil w B 95 1) (by decide)⟩
theorem IsRx.cells {w:World} {B rb:Nat} {st:RS} (h:IsRx w B rb st):rb<w.heap.size∧w.cell? ⟨rb,0,none⟩=some (.bool st.query)∧w.cell? ⟨rb,1,none⟩=some (.int .i64 st.next)∧w.cell? ⟨rb,2,none⟩=some (.bool st.inBody) ∧
    (∃ oa oc,w.cell? ⟨rb,4,none⟩=some (.slice oa st.opn.length oc))∧∀ i,w.frozen? ⟨rb,i,none⟩=false:=by
  obtain ⟨V,Sa,Sb,vs,xs,h⟩:=h
  obtain ⟨c0,c1,c2,c3,c4,c5,c6,c7,c8⟩:=h.opens.facts
  obtain ⟨oa,oc,hvo⟩:=Zad h.rest.opn
  rw [hvo] at c4
  exact ⟨Zab h.blk,c0,c1,c2,⟨oa,oc,c4⟩,fun i=>Zae h.blk i⟩
def Zez (st:RS):RS:=if st.opn.isEmpty then { Zan st with next:=1 } else { st with next:=2 }
theorem Zwn (w:World) (B rb:Nat) (st:RS) (h:IsRx w B rb st) (hb:RBd st) :
    Calls Tryd.prog 73 #[.pointer (some ⟨rb,0,none⟩)] w fun e w'=>e = .returned (.tuple #[])∧IsRx w' B rb (Zez st)∧Held B w w':=by
  obtain ⟨hrb,c0,c1,c2,⟨oa,oc,c4⟩,hf⟩:=h.cells
  have hl:=hb.opn
  have H:=Zac h
  have HE:=Zac (Zhm w B rb st h hb)
  cases hst:st.opn with
  | nil =>
    simp only [hst,Jt] at c4
    have Hc:Hid (Zez st = { Zan st with next:=1 }):=by show _=_; simp [Zez,hst]
    clear h hst
    go_enter Tryd.func73,Tryd.ntmps73
    go_wp2_with fail
    refine HE.out.mono ?_
    rintro e w1 ⟨rfl,h1,hB1⟩
    obtain ⟨hrb1,d0,d1,d2,_,df⟩:=h1.cells
    have H1:=Zac h1
    have HB1:=Zac hB1
    clear h1 hB1 c0 c1 c2 c4 hf
    go_wp2
    go_end0
    obtain ⟨hR,hB⟩:=H1.out.next 1
    rw [Hc.out]
    exact ⟨rfl,hR,HB1.out.trans hB⟩
  | cons n r =>
    have hrl:r.length+1≤4096:=by rw [hst] at hl; simpa using hl
    simp only [hst,Qf] at c4
    have Hc:Hid (Zez st = { st with next:=2 }):=by show _=_; simp [Zez,hst]
    clear h hst
    go_enter Tryd.func73,Tryd.ntmps73
    go_wp2
    refine bodyPost_ret (results_none rfl _ _ _) rfl ?_
    obtain ⟨hR,hB⟩:=H.out.next 2
    rw [Hc.out]
    exact ⟨rfl,hR,hB⟩
def Zal (st:RS):RS := { st with clauses:=st.clauses++[⟨st.head,st.body,st.vars⟩],head:=[],body:=[],vars:=[],inBody:=false,next:=if st.query then 5 else 0 }
theorem Zzj (a b c:Option Addr) (n m k x y z:Nat):∀ u ∈ (#[Value.slice a n x,.slice b m y,.slice c k z]:Array Value).toList,u.oneCell'=true:=by
  intro u hu
  simp at hu
  rcases hu with rfl | rfl | rfl <;> rfl
def Zlm (w:World) (rb:Nat) (c:Value):World:=(((((w.setCell ⟨rb,8,none⟩ c).setCell ⟨rb,5,none⟩ (.slice none 0 0)).setCell ⟨rb,6,none⟩ (.slice none 0 0)).setCell ⟨rb,7,none⟩ (.slice none 0 0)).setCell ⟨rb,2,none⟩ (.bool false)).setCell ⟨rb,1,none⟩ (.int .i64 0)
theorem Zpx {w w2:World} {B rb nd:Nat} {st:RS} {V:RV} {Sa Sb:Nat} {vs:List Value} {xs:List (List Value)} {a1:Option Addr} {a1cap:Nat} (H:IsR w B rb st V Sa Sb vs xs)
    (hap:Appended (w.drewN nd) B 55 3 V.c (st.clauses.length+1) (xs.flatten++[V.h,V.b,V.v]) (.slice a1 (st.clauses.length+1) a1cap) w2) :
    IsRx (Zlm w2 rb (.slice a1 (st.clauses.length+1) a1cap)) B rb { Zal st with next:=0 }∧Held B w (Zlm w2 rb (.slice a1 (st.clauses.length+1) a1cap)):=by
  have hblk1:=Zep hap.kept H.blk (Zaf H.rest.cls.1 (by decide) H.blk)
  have hk:Kept (Zdt rb V.c) w (Zlm w2 rb (.slice a1 (st.clauses.length+1) a1cap)) :=
    Zcu (Zcu (Zcu (Zcu (Zcu (Zfk (((Qx _ w).drewN _).trans hap.kept) 8 _) 5 _) 6 _) 7 _) 2 _) 1 _
  have hblk:(Zlm w2 rb (.slice a1 (st.clauses.length+1) a1cap)).heap[rb]?=some (.cells (Zcj { Zal st with next:=0 } { V with c := .slice a1 (st.clauses.length+1) a1cap,h := .slice none 0 0,b := .slice none 0 0,v := .slice none 0 0 }) 95 (0,0)):=by
    unfold Zlm
    rw [Zag (Zag (Zag (Zag (Zag (Zag hblk1 8 _) 5 _) 6 _) 7 _) 2 _) 1 _]
    simp [Zcj,Zal]
  have hrow:(Zlm w2 rb (.slice a1 (st.clauses.length+1) a1cap)).ownsRow B 55 3 (.slice a1 (st.clauses.length+1) a1cap) (st.clauses.length+1) (xs.flatten++[V.h,V.b,V.v]):=by
    have h2:=hap.owns
    exact ((((((((Qx (only rb) w2).put 8 _).put 5 _).put 6 _).put 7 _).put 2 _).put 1 _)).owns h2 (fun k hko e=>by
      have e:k=rb:=e
      rw [e] at hko
      exact Zaf h2 (by decide) hblk1 hko)
  exact ⟨⟨_,_,_,_,_,H.clausd hk _ { Zal st with next:=0 } hblk hrow rfl rfl rfl rfl rfl rfl⟩,H.below hk H.rest.cls.1 (by decide)⟩
theorem Zms (w:World) (B rb:Nat) (st:RS) (h:IsRx w B rb st) (hb:RBd st) :
    Calls Tryd.prog 75 #[.pointer (some ⟨rb,0,none⟩)] w fun e w'=>e = .returned (.tuple #[])∧IsRx w' B rb (Zal st)∧Held B w w':=by
  obtain ⟨V,Sa,Sb,vs,xs,h⟩:=h
  have hrb:=Zab h.blk
  have hBw:B≤w.heap.size:=by have:=h.le; omega
  obtain ⟨c0,c1,c2,c3,c4,c5,c6,c7,c8⟩:=h.opens.facts
  have hf:=fun i=>Zae h.blk i
  obtain ⟨ca,ccap,hvc⟩:=Zad h.rest.cls.1
  obtain ⟨ha,hac,hvh⟩:=Zad h.rest.head.1
  obtain ⟨ba,bcap,hvb⟩:=Zad h.rest.body.1
  obtain ⟨va,vcap,hvv⟩:=Zad h.rest.vars
  have hlc:=hb.cls
  have hcr:=h.rest.cls.1
  rw [hvc] at hcr c8
  rw [hvh] at c5
  rw [hvb] at c6
  rw [hvv] at c7
  have H:=Zac h
  have Hcr:=Zac hcr
  have Hvh:=Zac hvh
  have Hvb:=Zac hvb
  have Hvc:=Zac hvc
  have Hvv:=Zac hvv
  cases hq:st.query
  all_goals
    rw [hq] at c0
    have Hq:=Zac hq
    clear h hvc hvh hvb hvv hcr hq
    go_enter Tryd.func75,Tryd.ntmps75
    go_wp2_with fail
    go_region_law (refine Zcn (w.drewN 1) rfl (.tmp 6) (.tmp 11) 51 rfl B 55 Tryd.infoCls Tryd.underlying51 rfl (by decide) (.slice ca st.clauses.length ccap) st.clauses.length xs.flatten rfl Hcr.out #[.slice ha st.head.length hac,.slice ba st.body.length bcap,.slice va st.vars.length vcap] rfl (by simp) rfl (Zzj _ _ _ _ _ _ _ _ _) (by omega) (by simp; omega) rfl ?_; intro v' w2 hap; obtain ⟨c1',c1cap,rfl⟩:=Zad hap.owns; have hblk1:=Zep hap.kept H.out.blk (Zaf Hcr.out (by decide) H.out.blk); have d0:w2.cell? ⟨rb,0,none⟩=some (.bool st.query):=Zaa hblk1 0 _ rfl; have d1:w2.cell? ⟨rb,1,none⟩=some (.int .i64 st.next):=Zaa hblk1 1 _ rfl; have d2:w2.cell? ⟨rb,2,none⟩=some (.bool st.inBody):=Zaa hblk1 2 _ rfl; have d5:w2.cell? ⟨rb,5,none⟩=some V.h:=Zaa hblk1 5 _ rfl; have d6:w2.cell? ⟨rb,6,none⟩=some V.b:=Zaa hblk1 6 _ rfl; have d7:w2.cell? ⟨rb,7,none⟩=some V.v:=Zaa hblk1 7 _ rfl; have d8:w2.cell? ⟨rb,8,none⟩=some V.c:=Zaa hblk1 8 _ rfl; have df:=fun i=>Zae hblk1 i; have Hap:=Zac hap; have Hblk1:=Zac hblk1; clear hap hblk1)
  all_goals
    rw [Hvh.out] at d5; rw [Hvb.out] at d6; rw [Hvv.out] at d7; rw [Hvc.out] at d8; rw [Hq.out] at d0
    go_wp2
    go_end0
    have hap:=Hap.out
    rw [← Hvh.out,← Hvb.out,← Hvv.out,← Hvc.out] at hap
    obtain ⟨hR,hB⟩:=Zpx H.out hap
    first
    | (have He:Zal st = { Zal st with next:=0 }:=by simp [Zal,Hq.out]
       rw [He]
       exact ⟨rfl,hR,hB⟩)
    | (have He:Zal st = { { Zal st with next:=0 } with next:=5 }:=by simp [Zal,Hq.out]
       obtain ⟨hR5,hB5⟩:=hR.next 5
       rw [He]
       exact ⟨rfl,hR5,hB.trans hB5⟩)
def Zbd (st:RS) (kd:Nat) (t:List UInt8):RS :=
 if kd=1 then { addS st ⟨t,0,0⟩ with next:=3 }
 else if kd=2 then { addS (varS st t) ⟨[],(Zbm st.vars t).2,0⟩ with next:=4 }
 else if kd=3 then { st with opn:=(st.atom.length - 1)::st.opn,next:=2 }
 else if kd=4 then { Zhd st with next:=4 }
 else if kd=5 then Zez st
 else if kd=7 then { Zan st with inBody:=true,next:=1 }
 else if kd=6 then Zal (Zan st)
 else st
theorem Zwo (w:World) (B rb:Nat) (st:RS) (s:Sym) (h:IsRx w B rb st) (hb:RBd st) (ho:∀ n ∈ st.opn,n<st.atom.length) :
  Calls Tryd.prog 70 #[.pointer (some ⟨rb,0,none⟩),.agg #[.string ⟨s.name.toArray⟩,.int .i64 s.num,.int .i64 s.args]] w fun e w'=>e = .returned (.tuple #[])∧IsRx w' B rb (addS st s)∧Held B w w':=by
 cases hst:st.opn with
 | nil=>exact Ybj w B rb st s h hb hst
 | cons n r=>exact Yct w B rb st s n r h hb hst (ho n (by simp [hst]))
theorem take1 (w:World) (B rb:Nat) (st:RS) (t:List UInt8) (h:IsRx w B rb st) (hb:RBd st) (ho:∀ n ∈ st.opn,n<st.atom.length) :
  Calls Tryd.prog 53 #[.pointer (some ⟨rb,0,none⟩),.int .i64 1,.string ⟨t.toArray⟩] w fun e w'=>e = .returned (.tuple #[])∧IsRx w' B rb (Zbd st 1 t)∧Held B w w':=by
 have HA:=Zac (Zwo w B rb st ⟨t,0,0⟩ h hb ho)
 clear h ho
 go_enter Tryd.func53,Tryd.ntmps53
 go_wp2_with fail
 refine HA.out.mono ?_
 rintro e w1 ⟨rfl,h1,hB1⟩
 obtain ⟨hrb1,d0,d1,d2,_,df⟩:=h1.cells
 have H1:=Zac h1
 have HB1:=Zac hB1
 clear h1 hB1
 go_wp2
 go_end0
 obtain ⟨hR,hB⟩:=H1.out.next 3
 exact ⟨rfl,hR,HB1.out.trans hB⟩
theorem take2 (w:World) (B rb:Nat) (st:RS) (t:List UInt8) (h:IsRx w B rb st) (hb:RBd st) (hv:st.vars.length≤4096) (ho:∀ n ∈ st.opn,n<st.atom.length) :
  Calls Tryd.prog 53 #[.pointer (some ⟨rb,0,none⟩),.int .i64 2,.string ⟨t.toArray⟩] w fun e w'=>e = .returned (.tuple #[])∧IsRx w' B rb (Zbd st 2 t)∧Held B w w':=by
 have HV:=Zac (Zoe w B rb st t h hv)
 have Hb:=Zac hb
 have Ho:=Zac ho
 clear h ho
 go_enter Tryd.func53,Tryd.ntmps53
 go_wp2_with fail
 refine HV.out.mono ?_
 rintro e w0 ⟨rfl,h0,hB0⟩
 have HA:=Zac (Zwo w0 B rb (varS st t) ⟨[],(Zbm st.vars t).2,0⟩ h0 ⟨Hb.out.opn,Hb.out.atom,Hb.out.body,Hb.out.cls,Hb.out.args⟩ Ho.out)
 have HB0:=Zac hB0
 clear h0 hB0
 go_wp2_with fail
 refine HA.out.mono ?_
 rintro e w1 ⟨rfl,h1,hB1⟩
 obtain ⟨hrb1,d0,d1,d2,_,df⟩:=h1.cells
 have H1:=Zac h1
 have HB1:=Zac hB1
 clear h1 hB1
 go_wp2
 go_end0
 obtain ⟨hR,hB⟩:=H1.out.next 4
 exact ⟨rfl,hR,HB0.out.trans (HB1.out.trans hB)⟩
theorem take4 (w:World) (B rb:Nat) (st:RS) (t:List UInt8) (h:IsRx w B rb st) (hb:RBd st) :
  Calls Tryd.prog 53 #[.pointer (some ⟨rb,0,none⟩),.int .i64 4,.string ⟨t.toArray⟩] w fun e w'=>e = .returned (.tuple #[])∧IsRx w' B rb (Zbd st 4 t)∧Held B w w':=by
 have HA:=Zac (Zwk w B rb st h hb.opn)
 clear h
 go_enter Tryd.func53,Tryd.ntmps53
 go_wp2_with fail
 refine HA.out.mono ?_
 rintro e w1 ⟨rfl,h1,hB1⟩
 obtain ⟨hrb1,d0,d1,d2,_,df⟩:=h1.cells
 have H1:=Zac h1
 have HB1:=Zac hB1
 clear h1 hB1
 go_wp2
 go_end0
 obtain ⟨hR,hB⟩:=H1.out.next 4
 exact ⟨rfl,hR,HB1.out.trans hB⟩
theorem take5 (w:World) (B rb:Nat) (st:RS) (t:List UInt8) (h:IsRx w B rb st) (hb:RBd st) :
  Calls Tryd.prog 53 #[.pointer (some ⟨rb,0,none⟩),.int .i64 5,.string ⟨t.toArray⟩] w fun e w'=>e = .returned (.tuple #[])∧IsRx w' B rb (Zbd st 5 t)∧Held B w w':=by
 have HA:=Zac (Zwn w B rb st h hb)
 clear h
 go_enter Tryd.func53,Tryd.ntmps53
 go_wp2_with fail
 refine HA.out.mono ?_
 rintro e w1 ⟨rfl,h1,hB1⟩
 have H1:=Zac h1
 have HB1:=Zac hB1
 clear h1 hB1
 go_wp2
 go_end0
 exact ⟨rfl,H1.out,HB1.out⟩
theorem take7 (w:World) (B rb:Nat) (st:RS) (t:List UInt8) (h:IsRx w B rb st) (hb:RBd st) :
  Calls Tryd.prog 53 #[.pointer (some ⟨rb,0,none⟩),.int .i64 7,.string ⟨t.toArray⟩] w fun e w'=>e = .returned (.tuple #[])∧IsRx w' B rb (Zbd st 7 t)∧Held B w w':=by
 have HA:=Zac (Zhm w B rb st h hb)
 clear h
 go_enter Tryd.func53,Tryd.ntmps53
 go_wp2_with fail
 refine HA.out.mono ?_
 rintro e w1 ⟨rfl,h1,hB1⟩
 obtain ⟨hrb1,d0,d1,d2,_,df⟩:=h1.cells
 have H1:=Zac h1
 have HB1:=Zac hB1
 clear h1 hB1
 go_wp2
 go_end0
 obtain ⟨hR,hB⟩:=H1.out.inb true
 obtain ⟨hR2,hB2⟩:=hR.next 1
 exact ⟨rfl,hR2,HB1.out.trans (hB.trans hB2)⟩
theorem RBd.endAtom {st:RS} (hb:RBd st) (h:st.body.length+1≤4096):RBd (Zan st):=by
 unfold Zan
 split
 ·exact ⟨hb.opn,by simp,by simpa using h,hb.cls,by simp⟩
 ·exact ⟨hb.opn,by simp,hb.body,hb.cls,by simp⟩
theorem take6 (w:World) (B rb:Nat) (st:RS) (t:List UInt8) (h:IsRx w B rb st) (hb:RBd st) (hbd:st.body.length+1≤4096) :
  Calls Tryd.prog 53 #[.pointer (some ⟨rb,0,none⟩),.int .i64 6,.string ⟨t.toArray⟩] w fun e w'=>e = .returned (.tuple #[])∧IsRx w' B rb (Zbd st 6 t)∧Held B w w':=by
 have HA:=Zac (Zhm w B rb st h hb)
 have Hb:=Zac (hb.endAtom hbd)
 clear h
 go_enter Tryd.func53,Tryd.ntmps53
 go_wp2_with fail
 refine HA.out.mono ?_
 rintro e w1 ⟨rfl,h1,hB1⟩
 have HC:=Zac (Zms w1 B rb (Zan st) h1 Hb.out)
 have HB1:=Zac hB1
 clear h1 hB1
 go_wp2_with fail
 refine HC.out.mono ?_
 rintro e w2 ⟨rfl,h2,hB2⟩
 have H2:=Zac h2
 have HB2:=Zac hB2
 clear h2 hB2
 go_wp2
 go_end0
 exact ⟨rfl,H2.out,HB1.out.trans HB2.out⟩
theorem take3 (w:World) (B rb:Nat) (st:RS) (t:List UInt8) (h:IsRx w B rb st) (hb:RBd st) (hne:0<st.atom.length) :
  Calls Tryd.prog 53 #[.pointer (some ⟨rb,0,none⟩),.int .i64 3,.string ⟨t.toArray⟩] w fun e w'=>e = .returned (.tuple #[])∧IsRx w' B rb (Zbd st 3 t)∧Held B w w':=by
 obtain ⟨V,Sa,Sb,vs,xs,h⟩:=h
 have hrb:=Zab h.blk
 have hBw:B≤w.heap.size:=by have:=h.le; omega
 obtain ⟨c0,c1,c2,c3,c4,c5,c6,c7,c8⟩:=h.opens.facts
 have hf:=fun i=>Zae h.blk i
 obtain ⟨aa,acap,hva⟩:=Zad h.rest.atom
 obtain ⟨oa,ocap,hvo⟩:=Zad h.rest.opn
 have hlo:=hb.opn
 have hla:=hb.atom
 have hor:=h.rest.opn
 rw [hvo] at hor c4
 rw [hva] at c3
 have H:=Zac h
 have Hor:=Zac hor
 have Hvo:=Zac hvo
 have hcast:IntKind.i64.wrap (((st.atom.length:Nat):Int) - 1)=((st.atom.length - 1:Nat):Int):=by rw [IntKind.wrap_i64]; omega
 clear h hva hvo hor
 go_enter Tryd.func53,Tryd.ntmps53
 go_wp2_with fail
 go_region_law (refine Zcn (w.drewN 1) rfl (.tmp 35) (.tmp 42) 22 rfl B 3 Tryd.infoInt Tryd.underlying22 rfl (by decide) (.slice oa st.opn.length ocap) st.opn.length (ints st.opn.reverse) rfl Hor.out #[.int .i64 ((st.atom.length - 1:Nat):Int)] rfl (by simp) rfl (Zgh _) (by omega) (by simp; omega) rfl ?_; intro v' w2 hap; obtain ⟨o1,o1cap,rfl⟩:=Zad hap.owns; have hblk1:=Zep hap.kept H.out.blk (Zaf Hor.out (by decide) H.out.blk); have d1:w2.cell? ⟨rb,1,none⟩=some (.int .i64 st.next):=Zaa hblk1 1 _ rfl; have d4:w2.cell? ⟨rb,4,none⟩=some V.o:=Zaa hblk1 4 _ rfl; have df:=fun i=>Zae hblk1 i; have Hap:=Zac hap; have Hblk1:=Zac hblk1; clear hap hblk1)
 all_goals
  rw [Hvo.out] at d4
  go_wp2
  go_end0
  have hk:Kept (Zdt rb V.o) w (w2.setCell ⟨rb,4,none⟩ (.slice o1 (st.opn.length+1) o1cap)):=by
   rw [Hvo.out]
   exact Zfk (((Qx _ w).drewN _).trans Hap.out.kept) 4 _
  have hrow:(w2.setCell ⟨rb,4,none⟩ (.slice o1 (st.opn.length+1) o1cap)).ownsRow B 3 1 (.slice o1 (st.opn.length+1) o1cap) ((st.atom.length - 1)::st.opn).length (ints ((st.atom.length - 1)::st.opn).reverse):=by
   have h2:=Hap.out.owns
   have h3:=((Qx (only rb) w2).put 4 (.slice o1 (st.opn.length+1) o1cap)).owns h2 (fun k hko e=>by
    have e:k=rb:=e
    rw [e] at hko
    exact Zaf h2 (by decide) Hblk1.out hko)
   simpa [ints,hcast] using h3
  have hR:=H.out.opened hk ((st.atom.length - 1)::st.opn) (.slice o1 (st.opn.length+1) o1cap) (Zag Hblk1.out 4 _) hrow
  have hB:=H.out.below hk H.out.rest.opn (by decide)
  obtain ⟨hR2,hB2⟩:=IsRx.next ⟨_,Sa,Sb,vs,xs,hR⟩ 2
  exact ⟨rfl,hR2,hB.trans hB2⟩
structure TakeOk (st:RS) (kd:Nat):Prop where
 bd:RBd st
 vars:st.vars.length≤4096
 body:st.body.length+1≤4096
 opn:∀ n ∈ st.opn,n<st.atom.length
 lo:1≤kd
 hi:kd≤7
 bracket:kd=3→0<st.atom.length
theorem Zzk (w:World) (B rb:Nat) (st:RS) (kd:Nat) (t:List UInt8) (h:IsRx w B rb st) (hk:TakeOk st kd) :
  Calls Tryd.prog 53 #[.pointer (some ⟨rb,0,none⟩),.int .i64 kd,.string ⟨t.toArray⟩] w fun e w'=>e = .returned (.tuple #[])∧IsRx w' B rb (Zbd st kd t)∧Held B w w':=by
 obtain ⟨bd,vars,body,opn,lo,hi,bracket⟩:=hk
 have hc:kd=1∨kd=2∨kd=3∨kd=4∨kd=5∨kd=6∨kd=7:=by omega
 rcases hc with rfl | rfl | rfl | rfl | rfl | rfl | rfl
 ·exact take1 w B rb st t h bd opn
 ·exact take2 w B rb st t h bd vars opn
 ·exact take3 w B rb st t h bd (bracket rfl)
 ·exact take4 w B rb st t h bd
 ·exact take5 w B rb st t h bd
 ·exact take6 w B rb st t h bd body
 ·exact take7 w B rb st t h bd
end Go.Proofs.YtlmjilpjmgjjcabDoor
namespace Go.Proofs.YtlmjilpjmgjjcabDoor
def okk (ts:List Tok) (L:LookS):Prop:=(Zkb ts L).1=0
def fin:List Tok→Prop
 | []=>False
 | t::ts=>t.kind=4∨fin ts
theorem Zfu {t:Tok} {ts:List Tok} {L:LookS} (h:okk (t::ts) L) (hn:¬ (t.kind=4∧(L.want=5∨L.want=0))):(Zcx L t.kind t.text.length).err=0∧okk ts (Zcx L t.kind t.text.length):=by
 unfold okk at h
 rw [Zkb,if_neg hn] at h
 by_cases he:(Zcx L t.kind t.text.length).err=0
 ·rw [if_neg (by simp [he])] at h
  exact ⟨he,h⟩
 ·rw [if_pos he] at h
  exact absurd h he
structure Aft (rest:List Tok) (L L':LookS) (stk:List Nat):Prop where
 ok:okk rest L'
 fin:fin rest
 want:L'.want=4∨(L'.want=3∧∀ y ys,rest=y::ys→y.kind≠40)
 stk:L'.stk=stk
 err:L'.err=0
 query:L'.query=L.query
 body:L'.body=(if L.want=0 then false else L.body)
theorem Zhn {L:LookS} {kd tn:Nat} (he:L.err=0) (h:(Zbo L kd tn).err=0):kd=1∨(kd=2∧L.want=2):=by
 unfold Zbo at h
 split at h
 ·simp at h
 ·omega
theorem Zmt {L:LookS} {kd tn:Nat} (h:(Zbo L kd tn).err=0) (hk:kd=1∨(kd=2∧L.want=2)) :
  (Zbo L kd tn).want=(if kd=1 then 3 else 4)∧(Zbo L kd tn).stk=(Zec L).stk∧(Zbo L kd tn).query=L.query∧(Zbo L kd tn).body=(if L.want=0 then false else L.body):=by
 have hn:¬ (kd≠1∧(kd≠2∨L.want≠2)):=by omega
 unfold Zbo
 rw [if_neg hn]
 refine ⟨rfl,rfl,?_,?_⟩
 ·show (Zec L).query=_
  unfold Zec
  split
  ·rfl
  ·split
   ·rfl
   ·split <;> rfl
 ·show (Zec L).body=_
  unfold Zec
  split
  ·rfl
  ·split
   ·rfl
   ·split <;> rfl
theorem Ycu {y:Tok} {ys:List Tok} {L L':LookS} {n:Nat} {r:List Nat} (h:Aft (y::ys) L L' (n::r)) :
  (y.kind=44∧okk ys (Zam L' 44)∧fin ys∧(Zam L' 44) = { L' with want:=2 })∨(y.kind=41∧okk ys (Zam L' 41)∧fin ys∧(Zam L' 41) = { L' with stk:=r,want:=4 }):=by
 have hw:¬ L'.want≤2∧L'.want≠5∧L'.want≠0:=by rcases h.want with hw | ⟨hw,_⟩ <;> omega
 have h4:¬ (y.kind=4∧(L'.want=5∨L'.want=0)):=by omega
 obtain ⟨he,ho⟩:=Zfu h.ok h4
 unfold Zcx at he ho
 rw [if_neg hw.1,if_neg hw.2.1] at he ho
 have hst:=h.stk
 have h40:¬ (y.kind=40∧L'.want=3):=by
  rintro ⟨h1,h2⟩
  rcases h.want with hw | ⟨_,hw⟩
  ·omega
  ·exact hw y ys rfl h1
 have hfin:y.kind≠4→fin ys:=fun hy=>by
  rcases h.fin with h | h
  ·exact absurd h hy
  ·exact h
 by_cases h44:y.kind=44
 ·left
  rw [h44] at ho
  exact ⟨h44,ho,hfin (by omega),by simp [Zam,hst]⟩
 ·by_cases h41:y.kind=41
  ·right
   rw [h41] at ho
   exact ⟨h41,ho,hfin (by omega),by simp [Zam,hst]⟩
  ·exfalso
   simp [Zam,hst,h44,h41] at he
   split at he
   ·rename_i hc; exact h40 hc
   ·simp at he
end Go.Proofs.YtlmjilpjmgjjcabDoor
namespace Go.Proofs.YtlmjilpjmgjjcabDoor
open Go.RowKit
theorem Zwp {y:Tok} {ys:List Tok} {L L':LookS} (h:Aft (y::ys) L L' []) :
  (y.kind=44∧L'.body=true∧okk ys (Zam L' 44)∧fin ys∧(Zam L' 44) = { L' with want:=1 }) ∨
  (y.kind=3∧L'.body=false∧okk ys (Zam L' 3)∧fin ys∧(Zam L' 3) = { L' with body:=true,goals:=0,want:=1 }) ∨
  (y.kind=46∧okk ys (Zam L' 46)∧fin ys∧(Zam L' 46) = { L' with want:=if L'.query then 5 else 0 }):=by
 have hw:¬ L'.want≤2∧L'.want≠5∧L'.want≠0:=by rcases h.want with hw | ⟨hw,_⟩ <;> omega
 have h4:¬ (y.kind=4∧(L'.want=5∨L'.want=0)):=by omega
 obtain ⟨he,ho⟩:=Zfu h.ok h4
 unfold Zcx at he ho
 rw [if_neg hw.1,if_neg hw.2.1] at he ho
 have hst:=h.stk
 have h40:¬ (y.kind=40∧L'.want=3):=by
  rintro ⟨h1,h2⟩
  rcases h.want with hw | ⟨_,hw⟩
  ·omega
  ·exact hw y ys rfl h1
 have hfin:y.kind≠4→fin ys:=fun hy=>by
  rcases h.fin with h | h
  ·exact absurd h hy
  ·exact h
 by_cases h44:y.kind=44
 ·left
  rw [h44] at ho he
  cases hb:L'.body
  ·simp [Zam,hst,hb] at he
  ·exact ⟨h44,rfl,ho,hfin (by omega),by simp [Zam,hst,hb]⟩
 ·by_cases h3:y.kind=3
  ·right; left
   rw [h3] at ho he
   cases hb:L'.body
   ·exact ⟨h3,rfl,ho,hfin (by omega),by simp [Zam,hst,hb]⟩
   ·simp [Zam,hst,hb] at he
  ·by_cases h46:y.kind=46
   ·right; right
    rw [h46] at ho he
    refine ⟨h46,ho,hfin (by omega),?_⟩
    cases hq:L'.query <;> simp [Zam,hst,hq]
   ·exfalso
    simp [Zam,hst,h44,h3,h46] at he
    split at he
    ·rename_i hc; exact h40 hc
    ·simp at he
theorem Ybk {ts:List Tok} {L:LookS} (hok:okk ts L) (hw:L.want=1) (he:L.err=0):∀ t r,ts=t::r→t.kind≠4:=by
 rintro t r rfl h4
 have:=(Zfu hok (by omega)).1
 unfold Zcx at this
 rw [if_pos (by omega)] at this
 rcases Zhn he this with h | h <;> omega
theorem Zwq (l:List Tok) (p:Nat):fin (l++[⟨4,[],p⟩]):=by
 induction l with
 | nil=>exact Or.inl rfl
 | cons t l ih=>exact Or.inr ih
def kmap (k:Nat):Nat:=if k=1 then 1 else if k=2 then 2 else if k=40 then 3 else if k=41 then 4 else if k=44 then 5 else if k=46 then 6 else if k=3 then 7 else 8
def Zgc (k:Nat):Prop:=k=1∨k=2∨k=40∨k=41∨k=44∨k=46∨k=3∨k=5
theorem Zzl (c:UInt8) (h:inB c Zsq=true):c=40∨c=41∨c=44∨c=46:=by
 have:=Zdz (p:=fun c => !inB c Zsq || (c == 40 || c == 41 || c == 44 || c == 46)) (by decide +kernel) c
 simpa [h,or_assoc] using this
theorem Ztn (c:UInt8) (h:inB c Zsq=false):¬ c=40∧¬ c=41∧¬ c=44∧¬ c=46:=by
 have:=Zdz (p:=fun c=>inB c Zsq || !(c == 40 || c == 41 || c == 44 || c == 46)) (by decide +kernel) c
 simpa [h,not_or,and_assoc] using this
theorem Zln (c:UInt8) (r:List UInt8) :
  (Zcc c r=(1,Zch r)∧Zcy c (r.head?.getD 0)=1∧inB c Zhy=true)∨(Zcc c r=(2,Zch r)∧Zcy c (r.head?.getD 0)=2∧inB c Zhy=true) ∨
  (Zcc c r=(40,0)∧Zcy c (r.head?.getD 0)=3)∨(Zcc c r=(41,0)∧Zcy c (r.head?.getD 0)=4)∨(Zcc c r=(44,0)∧Zcy c (r.head?.getD 0)=5)∨(Zcc c r=(46,0)∧Zcy c (r.head?.getD 0)=6) ∨
  (Zcc c r=(3,1)∧Zcy c (r.head?.getD 0)=7)∨(Zcc c r=(5,0)∧Zcy c (r.head?.getD 0)=8):=by
 unfold Zcc Zcy
 cases h1:inB c Zgb
 ·cases h2:inB c Zjq
  ·cases h3:inB c Zsq
   ·obtain ⟨a1,a2,a3,a4⟩:=Ztn c h3
    have hd:(c=58∧r.head?=some 45)↔(c=58∧r.head?.getD 0=45):=by
     cases r with
     | nil=>simp
     | cons d r=>simp
    by_cases h:c=58∧r.head?=some 45
    ·have h':=hd.1 h
     simp only [Bool.false_eq_true,if_false,if_neg a1,if_neg a2,if_neg a3,if_neg a4,if_pos h,if_pos h']
     simp
    ·have h':¬ (c=58∧r.head?.getD 0=45):=fun e=>h (hd.2 e)
     simp only [Bool.false_eq_true,if_false,if_neg a1,if_neg a2,if_neg a3,if_neg a4,if_neg h,if_neg h']
     simp
   ·rcases Zzl c h3 with rfl | rfl | rfl | rfl <;> simp
  ·simp [Zla h2]
 ·simp [Zjv h1]
theorem Zkl (c:UInt8) (r:List UInt8):kmap (Zcc c r).1=Zcy c (r.head?.getD 0)∧Zgc (Zcc c r).1:=by
 rcases Zln c r with ⟨h1,h2,_⟩ | ⟨h1,h2,_⟩ | ⟨h1,h2⟩ | ⟨h1,h2⟩ | ⟨h1,h2⟩ | ⟨h1,h2⟩ | ⟨h1,h2⟩ | ⟨h1,h2⟩ <;> rw [h1,h2] <;> exact ⟨rfl,by unfold Zgc; simp⟩
theorem Zzm (s:ByteArray) (p:Nat) (c:UInt8) (r:List UInt8) (hd:s.data.toList.drop p=c::r):endC s p (Zcy c (r.head?.getD 0))=p+((Zcc c r).2+1):=by
 rcases Zln c r with ⟨h1,h2,h3⟩ | ⟨h1,h2,h3⟩ | ⟨h1,h2⟩ | ⟨h1,h2⟩ | ⟨h1,h2⟩ | ⟨h1,h2⟩ | ⟨h1,h2⟩ | ⟨h1,h2⟩ <;> rw [h1,h2] <;> simp [endC,hd]
 ·rw [Zhg c r h3]
 ·rw [Zhg c r h3]
theorem Zkm (s:ByteArray) (p:Nat):Zde s p=(s.data.toList.drop p).head?.getD 0:=by
 unfold Zde
 rw [List.head?_drop]
theorem Zpy:∀ (l:List UInt8) (p:Nat),toks l p=toks (l.drop (Zci l)) (p+Zci l):=by
 intro l
 induction l with
 | nil=>intro p; rfl
 | cons c r ih =>
  intro p
  unfold Zci
  cases h:Zhh c
  ·simp
  ·rw [Zst c r p h,ih (p+1)]
   simp only [if_pos,List.drop_succ_cons]
   congr 1
   omega
theorem Zto (l:List UInt8) (c:UInt8) (r:List UInt8) (h:l.drop (Zci l)=c::r):Zhh c=false:=by
 induction l with
 | nil=>simp [Zci] at h
 | cons d l ih =>
  unfold Zci at h
  cases hb:Zhh d
  ·rw [hb] at h
   simp at h
   rw [← h.1]; exact hb
  ·rw [hb] at h
   simp only [if_pos,List.drop_succ_cons] at h
   exact ih h
theorem Zwr (s:ByteArray) (p k:Nat):(s.extract p (p+k)).data.toList=(s.data.toList.drop p).take k:=by
 rw [ByteArray.data_extract,Array.toList_extract,List.extract_eq_take_drop]
 congr 1
 omega
theorem Zws (s:ByteArray) (n:Nat) (hn:n≤s.size) :
  (Zki s n=(0,s.size,s.size)∧toks (s.data.toList.drop n) n=[]) ∨
  ∃ t q,Zki s n=(kmap t.kind,t.pos,q)∧toks (s.data.toList.drop n) n=t::toks (s.data.toList.drop q) q∧Zgc t.kind∧n≤t.pos∧t.pos<q∧q≤s.size∧s.extract t.pos q=⟨t.text.toArray⟩∧t.text.length=q - t.pos:=by
 have hl:s.data.toList.length=s.size:=by rw [Array.length_toList]; rfl
 rw [Zpy,List.drop_drop]
 unfold Zki
 obtain ⟨p,hp⟩:∃ p,p=n+Zci (s.data.toList.drop n):=⟨_,rfl⟩
 rw [← hp]
 by_cases h:p<s.size
 ·right
  rw [if_pos h]
  obtain ⟨c,r,hd⟩:∃ c r,s.data.toList.drop p=c::r:=by
   cases hc:s.data.toList.drop p with
   | nil =>
    have:=congrArg List.length hc
    simp only [List.length_drop,Jt] at this
    omega
   | cons c r=>exact ⟨c,r,rfl⟩
  have hb:Zhh c=false:=Zto (s.data.toList.drop n) c r (by rw [List.drop_drop,← hp]; exact hd)
  have hd1:s.data.toList.drop (p+1)=r:=by rw [← List.drop_drop,hd]; rfl
  have hc0:Zde s p=c:=by rw [Zkm,hd]; rfl
  have hc1:Zde s (p+1)=r.head?.getD 0:=by rw [Zkm,hd1]
  have hle:=Zvm c r
  have hlen:(s.data.toList.drop p).length=s.size - p:=by rw [List.length_drop,hl]
  rw [hd] at hlen
  simp only [Qf] at hlen
  rw [hc0,hc1,hd,Zvo c r p hb]
  refine ⟨⟨(Zcc c r).1,(c::r).take ((Zcc c r).2+1),p⟩,p+((Zcc c r).2+1),?_,?_,(Zkl c r).2,by simp only; omega,by simp only; omega,by omega,?_,?_⟩
  ·rw [Zzm s p c r hd,(Zkl c r).1]
  ·congr 2
   ·rw [← List.drop_drop,hd]; rfl
  ·have:(s.extract p (p+((Zcc c r).2+1))).data.toList=(c::r).take ((Zcc c r).2+1):=by rw [Zwr,hd]
   simp only
   rw [← this]
  ·simp; omega
 ·left
  rw [if_neg h]
  refine ⟨rfl,?_⟩
  rw [List.drop_eq_nil_of_le (by omega)]
  rfl
structure RI (k:Nat) (st:RS):Prop where
 opnl:st.opn.length≤k
 atoml:st.atom.length≤k
 bodyl:st.body.length≤k
 clsl:st.clauses.length≤k
 varsl:st.vars.length≤k
 args:∀ s ∈ st.atom,s.args≤k
 next:st.next≤5
 opn:∀ n ∈ st.opn,n<st.atom.length
 name:st.next=3→0<st.atom.length
theorem RI.bd {k:Nat} {st:RS} (h:RI k st) (hk:k≤4000):RBd st :=
 ⟨Qq h.opnl (by omega),Qq h.atoml (by omega),Qq h.bodyl (by omega),Qq h.clsl (by omega),fun s hs=>Qq (h.args s hs) (by omega)⟩
theorem Zho {st:RS} {kd len:Nat} (h:Zbj st kd len=0):Zbc st kd=true:=by
 unfold Zbj at h
 split at h
 ·omega
 ·rename_i hs
  simpa using hs
theorem Zhp {st:RS} {kd:Nat} (h:Zbc st kd=true) (hn:st.next≤5):1≤kd∧kd≤7∧(kd=3→st.next=3)∧(kd=6∨kd=7→st.opn=[]):=by
 have fol:Zbi st kd=true→(kd=4∨kd=5∨kd=6∨kd=7)∧(kd=6∨kd=7→st.opn=[]):=by
  unfold Zbi
  cases ho:st.opn with
  | nil =>
   simp only [List.isEmpty_nil,if_true]
   intro h
   refine ⟨?_,fun _=>trivial⟩
   split at h
   ·simp at h; omega
   ·simp at h; omega
  | cons n r =>
   simp only [List.isEmpty_cons]
   intro h
   simp at h
   exact ⟨by omega,fun h=>by omega⟩
 unfold Zbc at h
 split at h
 ·simp at h; subst h; simp
 ·split at h
  ·simp at h; rcases h with rfl | rfl <;> simp
  ·split at h
   ·rename_i h3
    simp only [Bool.or_eq_true,beq_iff_eq] at h
    rcases h with rfl | h
    ·exact ⟨by omega,by omega,fun _=>h3,by omega⟩
    ·obtain ⟨h1,h2⟩:=fol h
     exact ⟨by omega,by omega,by omega,h2⟩
   ·split at h
    ·obtain ⟨h1,h2⟩:=fol h
     exact ⟨by omega,by omega,by omega,h2⟩
    ·simp at h
theorem RI.takes {k:Nat} {st:RS} {kd:Nat} (h:RI k st) (hk:k≤4000) (hs:Zbc st kd=true):TakeOk st kd:=by
 obtain ⟨h1,h2,h3,h4⟩:=Zhp hs h.next
 have:=h.varsl
 have:=h.bodyl
 exact ⟨h.bd hk,by omega,by omega,h.opn,h1,h2,fun e=>h.name (h3 e)⟩
theorem Zjt (st:RS):(Zca st).length=st.atom.length:=by unfold Zca; split <;> simp
theorem Zwt {k:Nat} (st:RS) (h:∀ s ∈ st.atom,s.args≤k):∀ s ∈ Zca st,s.args≤k+1:=by
 unfold Zca
 split
 ·exact fun s hs=>Nat.le_succ_of_le (h s hs)
 ·rename_i n r ho
  intro s hs
  obtain ⟨i,hi⟩:=List.getElem?_of_mem hs
  rw [List.getElem?_modify] at hi
  cases hx:st.atom[i]? with
  | none=>rw [hx] at hi; simp at hi
  | some x =>
   rw [hx] at hi
   have:=h x (Qh hx)
   simp at hi
   split at hi
   ·subst hi; simpa using this
   ·subst hi; omega
theorem RI.mono {k:Nat} {st:RS} (h:RI k st):RI (k+1) st :=
 ⟨Nat.le_succ_of_le h.opnl,Nat.le_succ_of_le h.atoml,Nat.le_succ_of_le h.bodyl,Nat.le_succ_of_le h.clsl,Nat.le_succ_of_le h.varsl,fun s hs=>Nat.le_succ_of_le (h.args s hs),h.next,h.opn,h.name⟩
theorem RI.at {k m:Nat} {st:RS} (h:RI k st) (hk:k≤m):RI m st :=
 ⟨Qq h.opnl hk,Qq h.atoml hk,Qq h.bodyl hk,Qq h.clsl hk,Qq h.varsl hk,fun s hs=>Qq (h.args s hs) hk,h.next,h.opn,h.name⟩
theorem RI.add {k:Nat} {st:RS} (h:RI k st) (s:Sym) (hs:s.args=0) (n:Nat) (hn:n≤5) (vars:Names) (hv:vars.length≤k+1):RI (k+1) { addS st s with next:=n,vars:=vars }:=by
 have hl:=Zjt st
 have h0:=h.atoml
 have h1:=h.opnl
 refine ⟨by simp [addS]; omega,by simp [addS,hl]; omega,Nat.le_succ_of_le h.bodyl,Nat.le_succ_of_le h.clsl,hv,?_,hn,?_,?_⟩
 ·intro x hx
  simp only [addS,Qk,List.mem_singleton] at hx
  rcases hx with hx | rfl
  ·exact Zwt st h.args x hx
  ·omega
 ·intro x hx
  have:=h.opn x hx
  simp only [addS,Qg,hl,Qn]
  omega
 ·intro _
  simp [addS]
theorem RI.ends {k:Nat} {st:RS} (h:RI k st) (ho:st.opn=[]) (n:Nat) (hn:n≤5) (h3:n≠3) (b:Bool):RI (k+1) { Zan st with next:=n,inBody:=b }:=by
 have h0:=h.bodyl
 have ha:(Zan st).atom=[]:=by unfold Zan; split <;> rfl
 have hb:(Zan st).body.length≤k+1:=by unfold Zan; split <;> simp <;> omega
 have hc:(Zan st).clauses=st.clauses:=by unfold Zan; split <;> rfl
 have hv:(Zan st).vars=st.vars:=by unfold Zan; split <;> rfl
 have hp:(Zan st).opn=[]:=by unfold Zan; split <;> exact ho
 have:=h.clsl
 have:=h.varsl
 exact ⟨by simp [hp],by simp [ha],hb,by simp only [hc]; omega,by simp only [hv]; omega,by simp [ha],hn,by simp [hp],fun e=>absurd e h3⟩
theorem RI.take {k:Nat} {st:RS} {kd:Nat} (t:List UInt8) (h:RI k st) (hs:Zbc st kd=true):RI (k+1) (Zbd st kd t):=by
 obtain ⟨h1,h2,h3,h4⟩:=Zhp hs h.next
 have hc:kd=1∨kd=2∨kd=3∨kd=4∨kd=5∨kd=6∨kd=7:=by omega
 have a1:=h.opnl
 have a2:=h.atoml
 have a3:=h.varsl
 rcases hc with rfl | rfl | rfl | rfl | rfl | rfl | rfl
 ·exact h.add ⟨t,0,0⟩ rfl 3 (by omega) st.vars (by omega)
 ·have hv:=Zjj st.vars t
  exact h.add ⟨[],(Zbm st.vars t).2,0⟩ rfl 4 (by omega) (Zbm st.vars t).1 (by omega)
 ·have hp:=h.name (h3 rfl)
  have m:=h.mono
  refine ⟨by simp [Zbd]; omega,m.atoml,m.bodyl,m.clsl,m.varsl,m.args,by simp [Zbd],?_,by simp [Zbd]⟩
  intro n hn
  simp only [Zbd,Qp] at hn
  simp at hn
  show n<st.atom.length
  rcases hn with rfl | hn
  ·omega
  ·exact h.opn n hn
 ·have m:=h.mono
  refine ⟨by simp [Zbd,Zhd]; omega,m.atoml,m.bodyl,m.clsl,m.varsl,m.args,by simp [Zbd],?_,by simp [Zbd]⟩
  intro n hn
  simp [Zbd,Zhd] at hn
  exact h.opn n (List.mem_of_mem_tail hn)
 ·show RI (k+1) (Zez st)
  unfold Zez
  cases ho:st.opn with
  | nil =>
   have:=h.ends ho 1 (by omega) (by omega) (Zan st).inBody
   simpa using this
  | cons n r =>
   have m:=h.mono
   simp only [List.isEmpty_cons,Bool.false_eq_true,if_false]
   have m1:=m.opnl
   have m2:=m.opn
   rw [ho] at m1 m2
   exact ⟨m1,m.atoml,m.bodyl,m.clsl,m.varsl,m.args,by simp,m2,by simp⟩
 ·show RI (k+1) (Zal (Zan st))
  have hw:=h.ends (h4 (by omega)) 0 (by omega) (by omega) false
  have hcl:(Zan st).clauses=st.clauses:=by unfold Zan; split <;> rfl
  have:=h.clsl
  refine ⟨hw.opnl,hw.atoml,by simp [Zal],by simp [Zal,hcl]; omega,by simp [Zal],hw.args,?_,hw.opn,?_⟩
  ·simp only [Zal]; split <;> omega
  ·simp only [Zal]; split <;> omega
 ·exact h.ends (h4 (by omega)) 1 (by omega) (by omega) true
def runT (e:Nat):List Tok→RS→Nat × Nat × RS
 | [],st=>if st.next≠0∧st.next≠5 then (2,e,st) else (0,0,st)
 | t::ts,st=>if Zbj st (kmap t.kind) t.text.length≠0 then (Zbj st (kmap t.kind) t.text.length,t.pos,st) else runT e ts (Zbd st (kmap t.kind) t.text)
end Go.Proofs.YtlmjilpjmgjjcabDoor
namespace Go.Proofs.YtlmjilpjmgjjcabDoor
def Zej (l:List Sym) (n:Nat):Nat:=(l[n]?.map (fun s=>s.args)).getD 0
structure Sim (st:RS) (L:LookS):Prop where
 want:L.want=st.next
 query:L.query=st.query
 err:L.err=0
 n5:st.next≤5
 stk:L.stk=st.opn.map (Zej st.atom)
 opn:∀ n ∈ st.opn,n<st.atom.length
 down:st.opn.Pairwise (fun a b=>b<a)
 flat:st.next=0∨st.next=1∨st.next=5→st.atom=[]∧st.opn=[]
 size:st.next=2∨st.next=3∨st.next=4→L.size=st.atom.length
 open2:st.next=2→st.opn≠[]
 name:st.next=3→0<st.atom.length∧Zej st.atom (st.atom.length - 1)=0∧∀ n ∈ st.opn,n<st.atom.length - 1
 inb:st.next≠0→st.next≠5→L.body=st.inBody
 inb1:st.next=1→st.inBody=true
 goals:st.inBody=true→st.next≠0→st.next≠5→L.goals=st.body.length+(if st.next=1 then 0 else 1)
 heads:st.query=false→L.heads=st.clauses.length+(if st.next=0 then 0 else 1)
 hd:st.inBody=false→st.body=[]
 q0:st.query=true→st.next≠0
 h0:st.next=0→st.inBody=false
theorem Ztp (l:List Sym) (n:Nat) (s:Sym) (h:n<l.length):Zej (l.modify n (fun s => { s with args:=s.args+1 })++[s]) n=Zej l n+1:=by
 unfold Zej
 rw [Qc (by simpa using h),List.getElem?_modify,Qb h]
 simp
theorem Zpz (l:List Sym) (n m:Nat) (s:Sym) (h:m<l.length) (hm:m≠n):Zej (l.modify n (fun s => { s with args:=s.args+1 })++[s]) m=Zej l m:=by
 unfold Zej
 rw [Qc (by simpa using h),List.getElem?_modify]
 have:¬ n=m:=fun e=>hm e.symm
 cases l[m]? <;> simp [this]
theorem Ztq (l:List Sym) (s:Sym):Zej (l++[s]) l.length=s.args:=by
 unfold Zej; simp
theorem Zzn:kmap 1=1:=rfl
theorem Ycv:kmap 2=2:=rfl
theorem Zrn:kmap 40=3:=rfl
theorem Yax:kmap 41=4:=rfl
theorem Zro:kmap 44=5:=rfl
theorem Zrp:kmap 46=6:=rfl
theorem Ycw:kmap 3=7:=rfl
theorem Zgi {k:Nat} (hk:Zgc k):(kmap k=1↔k=1)∧(kmap k=2↔k=2):=by
 rcases hk with rfl | rfl | rfl | rfl | rfl | rfl | rfl | rfl <;> simp [kmap]
theorem Zwu {st:RS} {L:LookS} (h:Sim st L) (k len:Nat) (t:List UInt8) (hk:Zgc k) (hn:st.next=0∨st.next=1) :
  Zbj st (kmap k) len=(Zcx L k len).err∧((Zcx L k len).err=0→Sim (Zbd st (kmap k) t) (Zcx L k len)):=by
 obtain ⟨ha,ho⟩:=h.flat (by omega)
 have hs:=h.stk
 rw [ho] at hs
 simp only [List.map_nil] at hs
 have hw:=h.want
 have he:=h.err
 have hlst:Zcx L k len=Zbo L k len:=by rw [Zcx,if_pos (by omega)]
 rw [hlst]
 by_cases hk1:k=1
 ·subst hk1
  have hst:Zbc st 1=true:=by unfold Zbc; rw [if_pos (by omega)]; rfl
  have hbk:Zca st=[]:=by simp [Zca,ho,ha]
  rcases hn with hn | hn
  ·have hq:st.query=false:=by
    cases hq:st.query
    ·rfl
    ·exact absurd hn (h.q0 hq)
   have hh:=h.heads hq
   rw [if_pos hn] at hh
   have hfull:Zed st=decide (24≤st.clauses.length):=by simp [Zed,hn]
   have hl:Zbo L 1 len = { L with heads:=L.heads+1,body:=false,size:=1,err:=if 8<len∨30<0+1 then 3 else if 24<L.heads+1 then 3 else L.err,want:=3 }:=by
    simp [Zbo,Zrg,Zec,hw,hn]
   rw [hl,Zzn]
   constructor
   ·simp only [Zbj,hst,hfull,he]
    rw [hh]
    by_cases h8:8<len
    ·simp [h8]
    ·by_cases hc:24≤st.clauses.length
     ·rw [if_neg (by simp),if_pos (by simp [hc]),if_neg (by omega),if_pos (by omega)]
     ·rw [if_neg (by simp),if_neg (by simp [h8,hc] <;> omega),if_neg (by omega),if_neg (by omega)]
   ·intro he2
    have hst2:Zbd st 1 t = { st with atom:=[⟨t,0,0⟩],next:=3 }:=by simp [Zbd,addS,hbk]
    rw [hst2]
    exact {
     want:=rfl
     query:=h.query
     err:=he2
     n5:=by simp
     stk:=by simp [ho,hs]
     opn:=by simp [ho]
     down:=by simp [ho]
     flat:=by simp
     size:=by simp
     open2:=by simp
     name:=by simp [ho,Zej]
     inb:=by simp [h.h0 hn]
     inb1:=by simp
     goals:=by simp [h.h0 hn]
     heads:=by simp [hh]
     hd:=h.hd
     q0:=by simp
     h0:=by simp }
  ·have hib:=h.inb1 hn
   have hg:=h.goals hib (by omega) (by omega)
   rw [if_pos hn] at hg
   have hfull:Zed st=decide (6≤st.body.length):=by simp [Zed,hn]
   have hl:Zbo L 1 len = { L with goals:=L.goals+1,size:=1,err:=if 8<len∨30<0+1 then 3 else if 6<L.goals+1 then 3 else L.err,want:=3 }:=by
    simp [Zbo,Zrg,Zec,hw,hn]
   rw [hl,Zzn]
   constructor
   ·simp only [Zbj,hst,hfull,he]
    rw [hg]
    by_cases h8:8<len
    ·simp [h8]
    ·by_cases hc:6≤st.body.length
     ·rw [if_neg (by simp),if_pos (by simp [hc]),if_neg (by omega),if_pos (by omega)]
     ·rw [if_neg (by simp),if_neg (by simp [h8,hc] <;> omega),if_neg (by omega),if_neg (by omega)]
   ·intro he2
    have hst2:Zbd st 1 t = { st with atom:=[⟨t,0,0⟩],next:=3 }:=by simp [Zbd,addS,hbk]
    have hh:=h.heads
    rw [if_neg (by omega)] at hh
    rw [hst2]
    exact {
     want:=rfl
     query:=h.query
     err:=he2
     n5:=by simp
     stk:=by simp [ho,hs]
     opn:=by simp [ho]
     down:=by simp [ho]
     flat:=by simp
     size:=by simp
     open2:=by simp
     name:=by simp [ho,Zej]
     inb:=fun _ _=>h.inb (by omega) (by omega)
     inb1:=by simp
     goals:=by simp [hg]
     heads:=by simpa using hh
     hd:=h.hd
     q0:=by simp
     h0:=by simp }
 ·have hkm:¬ kmap k=1:=fun e=>hk1 ((Zgi hk).1.1 e)
  have hst:Zbc st (kmap k)=false:=by unfold Zbc; rw [if_pos (by omega)]; simpa using hkm
  have hl:Zbo L k len = { L with err:=2 }:=by
   unfold Zbo
   rw [if_pos ⟨hk1,Or.inr (by omega)⟩]
  rw [hl]
  exact ⟨by simp [Zbj,hst],by simp⟩
theorem Ybl {st:RS} {L:LookS} (h:Sim st L) (k len:Nat) (t:List UInt8) (hk:Zgc k) (hn:st.next=2) :
  Zbj st (kmap k) len=(Zcx L k len).err∧((Zcx L k len).err=0→Sim (Zbd st (kmap k) t) (Zcx L k len)):=by
 have hw:=h.want
 have he:=h.err
 have hlst:Zcx L k len=Zbo L k len:=by rw [Zcx,if_pos (by omega)]
 rw [hlst]
 obtain ⟨n,r,ho⟩:∃ n r,st.opn=n::r:=by
  cases hc:st.opn with
  | nil=>exact absurd hc (h.open2 hn)
  | cons n r=>exact ⟨n,r,rfl⟩
 have hs:=h.stk
 rw [ho,List.map_cons] at hs
 have hnl:=h.opn n (by rw [ho]; simp)
 have hsz:=h.size (by omega)
 have hd:=h.down
 rw [ho,List.pairwise_cons] at hd
 by_cases hk12:k=1∨k=2
 ·have hst:Zbc st (kmap k)=true:=by
   unfold Zbc
   rw [if_neg (by omega),if_pos hn]
   rcases hk12 with rfl | rfl <;> rfl
  have hargs:Ziy st=Zej st.atom n:=by
   unfold Ziy Zej
   rw [ho]
   simp only
   cases st.atom[n]? <;> rfl
  have hfull:Zed st=(decide (30≤st.atom.length) || decide (4≤Zej st.atom n)):=by simp [Zed,hn,hargs]
  have hl:Zbo L k len = { L with stk:=(Zej st.atom n+1)::r.map (Zej st.atom),size:=L.size+1,err:=if 8<len∨30<L.size+1 then 3 else if 4<Zej st.atom n+1 then 3 else L.err,want:=if k=1 then 3 else 4 }:=by
   unfold Zbo
   rw [if_neg (by omega)]
   simp [Zrg,Zec,hw,hn,hs]
  rw [hl]
  have hkm:kmap k=1∨kmap k=2:=by rcases hk12 with rfl | rfl <;> simp [kmap]
  have hbump:Zca st=st.atom.modify n (fun s => { s with args:=s.args+1 }):=by simp [Zca,ho]
  constructor
  ·simp only [Zbj,hst,hfull,he]
   rw [hsz]
   by_cases h8:8<len
   ·simp [h8,hkm]
   ·by_cases hc:30≤st.atom.length
    ·rw [if_neg (by simp),if_pos ⟨hkm,Or.inr (by simp [hc])⟩,if_pos (by omega)]
    ·by_cases hd4:4≤Zej st.atom n
     ·rw [if_neg (by simp),if_pos ⟨hkm,Or.inr (by simp [hd4])⟩,if_neg (by omega),if_pos (by omega)]
     ·rw [if_neg (by simp),if_neg (by simp [h8,hc,hd4] <;> omega),if_neg (by omega),if_neg (by omega)]
  ·intro he2
   have hmap:∀ (s:Sym),st.opn.map (Zej (Zca st++[s]))=(Zej st.atom n+1)::r.map (Zej st.atom):=by
    intro s
    rw [ho,List.map_cons,hbump,Ztp _ _ _ hnl]
    congr 1
    apply List.map_congr_left
    intro m hm
    exact Zpz _ _ _ _ (h.opn m (by rw [ho]; simp [hm])) (by have:=hd.1 m hm; omega)
   have hbl:=Zjt st
   have hopn':∀ m ∈ st.opn,m<st.atom.length+1:=fun m hm=>Nat.lt_succ_of_lt (h.opn m hm)
   have hh:=h.heads
   rw [if_neg (by omega)] at hh
   have hg:=h.goals
   rcases hk12 with rfl | rfl
   ·have hst2:Zbd st (kmap 1) t = { st with atom:=Zca st++[⟨t,0,0⟩],next:=3 }:=by simp [Zzn,Zbd,addS]
    rw [hst2]
    exact {
     want:=rfl
     query:=h.query
     err:=he2
     n5:=by simp
     stk:=(hmap _).symm
     opn:=by simpa [hbl] using hopn'
     down:=h.down
     flat:=by simp
     size:=by simp [hsz,hbl]
     open2:=by simp
     name:=by
      intro _
      refine ⟨by simp,?_,?_⟩
      ·have:=Ztq (Zca st) ⟨t,0,0⟩
       simpa using this
      ·simpa [hbl] using h.opn
     inb:=fun _ _=>h.inb (by omega) (by omega)
     inb1:=by simp
     goals:=fun hi _ _=>by have:=hg hi (by omega) (by omega); rw [if_neg (by omega)] at this; simpa using this
     heads:=by simpa using hh
     hd:=h.hd
     q0:=by simp
     h0:=by simp }
   ·have hst2:Zbd st (kmap 2) t = { st with atom:=Zca st++[⟨[],(Zbm st.vars t).2,0⟩],vars:=(Zbm st.vars t).1,next:=4 }:=by simp [Ycv,Zbd,addS,varS,Zca,ho]
    rw [hst2]
    exact {
     want:=rfl
     query:=h.query
     err:=he2
     n5:=by simp
     stk:=(hmap _).symm
     opn:=by simpa [hbl] using hopn'
     down:=h.down
     flat:=by simp
     size:=by simp [hsz,hbl]
     open2:=by simp
     name:=by simp
     inb:=fun _ _=>h.inb (by omega) (by omega)
     inb1:=by simp
     goals:=fun hi _ _=>by have:=hg hi (by omega) (by omega); rw [if_neg (by omega)] at this; simpa using this
     heads:=by simpa using hh
     hd:=h.hd
     q0:=by simp
     h0:=by simp }
 ·have hkm:¬ kmap k=1∧¬ kmap k=2:=⟨fun e=>hk12 (Or.inl ((Zgi hk).1.1 e)),fun e=>hk12 (Or.inr ((Zgi hk).2.1 e))⟩
  have hst:Zbc st (kmap k)=false:=by unfold Zbc; rw [if_neg (by omega),if_pos hn]; simpa using hkm
  have hl:Zbo L k len = { L with err:=2 }:=by
   unfold Zbo
   rw [if_pos (by omega)]
  rw [hl]
  exact ⟨by simp [Zbj,hst],by simp⟩
theorem Ztr {st:RS} {L:LookS} (h:Sim st L) (k len:Nat) (t:List UInt8) (hk:Zgc k) (hn:st.next=3∨st.next=4) :
  Zbj st (kmap k) len=(Zcx L k len).err∧((Zcx L k len).err=0→Sim (Zbd st (kmap k) t) (Zcx L k len)):=by
 have hw:=h.want
 have he:=h.err
 have hlst:Zcx L k len=Zam L k:=by rw [Zcx,if_neg (by omega),if_neg (by omega)]
 rw [hlst]
 have hsz:=h.size (by omega)
 have hib:=h.inb (by omega) (by omega)
 have hs:=h.stk
 have hh:=h.heads
 rw [if_neg (by omega)] at hh
 have hq:=h.query
 have hse:L.stk=[]↔st.opn=[]:=by rw [hs]; simp
 have chk:∀ b,Zbc st (kmap k)=b→(kmap k≠1∧kmap k≠2)→Zbj st (kmap k) len=if b then 0 else 2:=by
  intro b hb hkm
  subst hb
  unfold Zbj
  cases Zbc st (kmap k) <;> simp [hkm]
 have stand:∀ kd,Zbc st kd=((kd == 3 && decide (st.next=3)) || Zbi st kd):=by
  intro kd
  unfold Zbc
  rw [if_neg (by omega),if_neg (by omega)]
  rcases hn with hn | hn <;> simp [hn]
 by_cases h12:k=1∨k=2∨k=5
 ·have hst:Zbc st (kmap k)=false:=by
   rw [stand]
   rcases h12 with rfl | rfl | rfl <;> (unfold Zbi; simp [kmap])
  have hl:Zam L k = { L with err:=2 }:=by
   rcases h12 with rfl | rfl | rfl <;> (unfold Zam; simp)
  rw [hl]
  exact ⟨by simp [Zbj,hst],by simp⟩
 ·have hkm:kmap k≠1∧kmap k≠2:=⟨fun e=>h12 (Or.inl ((Zgi hk).1.1 e)),fun e=>h12 (Or.inr (Or.inl ((Zgi hk).2.1 e)))⟩
  by_cases h40:k=40
  ·subst h40
   by_cases h3:st.next=3
   ·have hst:Zbc st (kmap 40)=true:=by rw [stand]; simp [Zrn,h3]
    have hl:Zam L 40 = { L with stk:=0::L.stk,want:=2 }:=by simp [Zam,hw,h3]
    rw [hl,chk true hst hkm]
    refine ⟨he.symm,fun _ => ?_⟩
    obtain ⟨n1,n2,n3⟩:=h.name h3
    have hst2:Zbd st (kmap 40) t = { st with opn:=(st.atom.length - 1)::st.opn,next:=2 }:=by simp [Zrn,Zbd]
    rw [hst2]
    exact {
     want:=rfl
     query:=hq
     err:=he
     n5:=by simp
     stk:=by simp [hs,n2]
     opn:=by
      intro m hm
      simp only [Qp] at hm
      rcases hm with rfl | hm
      ·show st.atom.length - 1<st.atom.length
       omega
      ·exact h.opn m hm
     down:=by
      rw [List.pairwise_cons]
      exact ⟨n3,h.down⟩
     flat:=by simp
     size:=fun _=>hsz
     open2:=by simp
     name:=by simp
     inb:=fun _ _=>hib
     inb1:=by simp
     goals:=fun hi _ _=>by have:=h.goals hi (by omega) (by omega); rw [if_neg (by omega)] at this; simpa using this
     heads:=by simpa using hh
     hd:=h.hd
     q0:=by simp
     h0:=by simp }
   ·have hst:Zbc st (kmap 40)=false:=by
     rw [stand]
     unfold Zbi
     simp [Zrn,h3]
    have hl:Zam L 40 = { L with err:=2 }:=by
     unfold Zam
     have:¬ L.want=3:=by omega
     simp [this]
    rw [hl]
    exact ⟨by simp [Zbj,hst],by simp⟩
  ·cases ho:st.opn with
   | nil =>
    have hsn:L.stk=[]:=hse.2 ho
    cases hb:st.inBody with
    | false =>
     have hfo:∀ kd,Zbi st kd=(kd == 7 || kd == 6):=by intro kd; simp [Zbi,ho,hb]
     have hLb:L.body=false:=hib.trans hb
     by_cases hk3:k=3
     ·subst hk3
      have hst:Zbc st (kmap 3)=true:=by rw [stand,hfo]; rfl
      have hl:Zam L 3 = { L with body:=true,goals:=0,want:=1 }:=by simp [Zam,hsn,hLb]
      rw [hl,chk true hst hkm]
      refine ⟨he.symm,fun _ => ?_⟩
      have hst2:Zbd st (kmap 3) t = { st with head:=st.atom,atom:=[],inBody:=true,next:=1 }:=by simp [Ycw,Zbd,Zan,hb]
      rw [hst2]
      exact {
       want:=rfl
       query:=hq
       err:=he
       n5:=by simp
       stk:=by simp [hsn,ho]
       opn:=by simp [ho]
       down:=by simp [ho]
       flat:=by simp [ho]
       size:=by simp
       open2:=by simp
       name:=by simp
       inb:=by simp
       inb1:=by simp
       goals:=by simp [h.hd hb]
       heads:=by simpa using hh
       hd:=by simp
       q0:=by simp
       h0:=by simp }
     ·by_cases hk46:k=46
      ·subst hk46
       have hst:Zbc st (kmap 46)=true:=by rw [stand,hfo]; rfl
       have hl:Zam L 46 = { L with want:=if L.query then 5 else 0 }:=by cases hq:L.query <;> simp [Zam,hsn,hLb,hq]
       rw [hl,chk true hst hkm]
       refine ⟨he.symm,fun _ => ?_⟩
       have hst2:Zbd st (kmap 46) t = { st with clauses:=st.clauses++[⟨st.atom,st.body,st.vars⟩],atom:=[],head:=[],body:=[],vars:=[],inBody:=false,next:=if st.query then 5 else 0 }:=by simp [Zrp,Zbd,Zan,Zal,hb]
       rw [hst2]
       have hnx:(if st.query then 5 else 0:Nat)=0∨(if st.query then 5 else 0:Nat)=5:=by split <;> simp
       exact {
        want:=by rw [hq]
        query:=hq
        err:=he
        n5:=by simp only; omega
        stk:=by simp [hsn,ho]
        opn:=by simp [ho]
        down:=by simp [ho]
        flat:=by simp [ho]
        size:=by simp only; omega
        open2:=by simp only; omega
        name:=by simp only; omega
        inb:=by simp only; omega
        inb1:=by simp only; omega
        goals:=by simp
        heads:=by
         intro hqf
         have hqf:st.query=false:=hqf
         have:=hh hqf
         simp [hqf,this]
        hd:=by simp
        q0:=by intro hqt; have hqt:st.query=true:=hqt; simp [hqt]
        h0:=by simp }
      ·have hst:Zbc st (kmap k)=false:=by
        rw [stand,hfo]
        rcases hk with rfl | rfl | rfl | rfl | rfl | rfl | rfl | rfl <;> simp_all [kmap]
       have hl:Zam L k = { L with err:=2 }:=by
        unfold Zam
        simp [h40,hsn,hLb,hk3,hk46]
       rw [hl]
       exact ⟨by simp [Zbj,hst],by simp⟩
    | true =>
     have hfo:∀ kd,Zbi st kd=(kd == 5 || kd == 6):=by intro kd; simp [Zbi,ho,hb]
     have hLb:L.body=true:=hib.trans hb
     have hg:=h.goals hb (by omega) (by omega)
     rw [if_neg (by omega)] at hg
     by_cases hk44:k=44
     ·subst hk44
      have hst:Zbc st (kmap 44)=true:=by rw [stand,hfo]; rfl
      have hl:Zam L 44 = { L with want:=1 }:=by simp [Zam,hsn,hLb]
      rw [hl,chk true hst hkm]
      refine ⟨he.symm,fun _ => ?_⟩
      have hst2:Zbd st (kmap 44) t = { st with body:=st.body++[st.atom],atom:=[],next:=1 }:=by simp [Zro,Zbd,Zez,Zan,ho,hb]
      rw [hst2]
      exact {
       want:=rfl
       query:=hq
       err:=he
       n5:=by simp
       stk:=by simp [hsn,ho]
       opn:=by simp [ho]
       down:=by simp [ho]
       flat:=by simp [ho]
       size:=by simp
       open2:=by simp
       name:=by simp
       inb:=fun _ _=>hib
       inb1:=fun _=>hb
       goals:=by simp [hg]
       heads:=by simpa using hh
       hd:=by simp [hb]
       q0:=by simp
       h0:=by simp }
     ·by_cases hk46:k=46
      ·subst hk46
       have hst:Zbc st (kmap 46)=true:=by rw [stand,hfo]; rfl
       have hl:Zam L 46 = { L with want:=if L.query then 5 else 0 }:=by cases hq:L.query <;> simp [Zam,hsn,hLb,hq]
       rw [hl,chk true hst hkm]
       refine ⟨he.symm,fun _ => ?_⟩
       have hst2:Zbd st (kmap 46) t = { st with clauses:=st.clauses++[⟨st.head,st.body++[st.atom],st.vars⟩],atom:=[],head:=[],body:=[],vars:=[],inBody:=false,next:=if st.query then 5 else 0 }:=by simp [Zrp,Zbd,Zan,Zal,hb]
       rw [hst2]
       have hnx:(if st.query then 5 else 0:Nat)=0∨(if st.query then 5 else 0:Nat)=5:=by split <;> simp
       exact {
        want:=by rw [hq]
        query:=hq
        err:=he
        n5:=by simp only; omega
        stk:=by simp [hsn,ho]
        opn:=by simp [ho]
        down:=by simp [ho]
        flat:=by simp [ho]
        size:=by simp only; omega
        open2:=by simp only; omega
        name:=by simp only; omega
        inb:=by simp only; omega
        inb1:=by simp only; omega
        goals:=by simp
        heads:=by
         intro hqf
         have hqf:st.query=false:=hqf
         have:=hh hqf
         simp [hqf,this]
        hd:=by simp
        q0:=by intro hqt; have hqt:st.query=true:=hqt; simp [hqt]
        h0:=by simp }
      ·have hst:Zbc st (kmap k)=false:=by
        rw [stand,hfo]
        rcases hk with rfl | rfl | rfl | rfl | rfl | rfl | rfl | rfl <;> simp_all [kmap]
       have hl:Zam L k = { L with err:=2 }:=by
        unfold Zam
        simp [h40,hsn,hLb,hk44,hk46]
       rw [hl]
       exact ⟨by simp [Zbj,hst],by simp⟩
   | cons n r =>
    have hsn:L.stk=Zej st.atom n::r.map (Zej st.atom):=by rw [hs,ho]; rfl
    have hfo:∀ kd,Zbi st kd=(kd == 5 || kd == 4):=by intro kd; simp [Zbi,ho]
    by_cases hk44:k=44
    ·subst hk44
     have hst:Zbc st (kmap 44)=true:=by rw [stand,hfo]; rfl
     have hl:Zam L 44 = { L with want:=2 }:=by simp [Zam,hsn]
     rw [hl,chk true hst hkm]
     refine ⟨he.symm,fun _ => ?_⟩
     have hst2:Zbd st (kmap 44) t = { st with next:=2 }:=by simp [Zro,Zbd,Zez,ho]
     rw [hst2]
     exact {
      want:=rfl
      query:=hq
      err:=he
      n5:=by simp
      stk:=hs
      opn:=h.opn
      down:=h.down
      flat:=by simp
      size:=fun _=>hsz
      open2:=by simp [ho]
      name:=by simp
      inb:=fun _ _=>hib
      inb1:=by simp
      goals:=fun hi _ _=>by have:=h.goals hi (by omega) (by omega); rw [if_neg (by omega)] at this; simpa using this
      heads:=by simpa using hh
      hd:=h.hd
      q0:=by simp
      h0:=by simp }
    ·by_cases hk41:k=41
     ·subst hk41
      have hst:Zbc st (kmap 41)=true:=by rw [stand,hfo]; rfl
      have hl:Zam L 41 = { L with stk:=r.map (Zej st.atom),want:=4 }:=by simp [Zam,hsn]
      rw [hl,chk true hst hkm]
      refine ⟨he.symm,fun _ => ?_⟩
      have hst2:Zbd st (kmap 41) t = { st with opn:=r,next:=4 }:=by simp [Yax,Zbd,Zhd,ho]
      rw [hst2]
      have hd:=h.down
      rw [ho,List.pairwise_cons] at hd
      exact {
       want:=rfl
       query:=hq
       err:=he
       n5:=by simp
       stk:=rfl
       opn:=fun m hm=>h.opn m (by rw [ho]; simp [hm])
       down:=hd.2
       flat:=by simp
       size:=fun _=>hsz
       open2:=by simp
       name:=by simp
       inb:=fun _ _=>hib
       inb1:=by simp
       goals:=fun hi _ _=>by have:=h.goals hi (by omega) (by omega); rw [if_neg (by omega)] at this; simpa using this
       heads:=by simpa using hh
       hd:=h.hd
       q0:=by simp
       h0:=by simp }
     ·have hst:Zbc st (kmap k)=false:=by
       rw [stand,hfo]
       rcases hk with rfl | rfl | rfl | rfl | rfl | rfl | rfl | rfl <;> simp_all [kmap]
      have hl:Zam L k = { L with err:=2 }:=by
       unfold Zam
       simp [h40,hsn,hk44,hk41]
      rw [hl]
      exact ⟨by simp [Zbj,hst],by simp⟩
theorem Zzo {st:RS} {L:LookS} (h:Sim st L) (k len:Nat) (t:List UInt8) (hk:Zgc k) :
  Zbj st (kmap k) len=(Zcx L k len).err∧((Zcx L k len).err=0→Sim (Zbd st (kmap k) t) (Zcx L k len)):=by
 have h5:=h.n5
 have hw:=h.want
 have hc:(st.next=0∨st.next=1)∨st.next=2∨(st.next=3∨st.next=4)∨st.next=5:=by omega
 rcases hc with hn | hn | hn | hn
 ·exact Zwu h k len t hk hn
 ·exact Ybl h k len t hk hn
 ·exact Ztr h k len t hk hn
 ·have hl:Zcx L k len = { L with err:=2 }:=by rw [Zcx,if_neg (by omega),if_pos (by omega)]
  have hst:Zbc st (kmap k)=false:=by unfold Zbc; simp [hn]
  rw [hl]
  exact ⟨by simp [Zbj,hst],by simp⟩
def takes:List Tok→RS→RS
 | [],st=>st
 | t::ts,st=>takes ts (Zbd st (kmap t.kind) t.text)
theorem Zjn (a b:List Tok) (st:RS):takes (a++b) st=takes b (takes a st):=by
 induction a generalizing st with
 | nil=>rfl
 | cons t a ih=>exact ih _
theorem Ybm {st:RS} {L:LookS} (h:Sim st L) (hn:st.next≠0∧st.next≠5):(Zcx L 4 0).err=2:=by
 have h5:=h.n5
 have hw:=h.want
 unfold Zcx
 by_cases h2:L.want≤2
 ·rw [if_pos h2]
  simp [Zbo]
 ·rw [if_neg h2,if_neg (by omega)]
  unfold Zam
  simp
theorem Zwv (e:Nat):∀ (ts:List Tok) (st:RS) (L:LookS),Sim st L→(∀ t ∈ ts,Zgc t.kind) →
  (runT e ts st).1=(Zkb (ts++[⟨4,[],e⟩]) L).1∧((runT e ts st).1≠0→(runT e ts st).2.1=(Zkb (ts++[⟨4,[],e⟩]) L).2)∧((runT e ts st).1=0→(runT e ts st).2.2=takes ts st):=by
 intro ts
 induction ts with
 | nil =>
  intro st L h _
  have hw:=h.want
  simp only [List.nil_append,Zkb,runT,takes]
  by_cases hn:st.next≠0∧st.next≠5
  ·have he:=Ybm h hn
   simp only [Jt,he]
   rw [if_pos hn,if_neg (by omega)]
   simp
  ·rw [if_neg hn,if_pos (by refine ⟨trivial,?_⟩; omega)]
   simp
 | cons t ts ih =>
  intro st L h hk
  have hkt:=hk t (by simp)
  obtain ⟨h1,h2⟩:=Zzo h t.kind t.text.length t.text hkt
  have h4:¬ (t.kind=4∧(L.want=5∨L.want=0)):=by
   rintro ⟨h4,_⟩
   rcases hkt with h | h | h | h | h | h | h | h <;> omega
  simp only [List.cons_append,Zkb,runT,takes]
  rw [h1,if_neg h4]
  by_cases he:(Zcx L t.kind t.text.length).err=0
  ·rw [if_neg (by simp [he]),if_neg (by simp [he])]
   exact ih _ _ (h2 he) (fun t' ht=>hk t' (by simp [ht]))
  ·rw [if_pos he,if_pos he]
   exact ⟨rfl,fun _=>rfl,fun h=>absurd h he⟩
theorem sim0 (q:Bool):Sim ⟨q,if q then 1 else 0,q,[],[],[],[],[],[]⟩ (Zei q):=by
 cases q
 ·exact ⟨rfl,rfl,rfl,by simp,rfl,by simp,by simp,by simp,by simp,by simp,by simp,by simp,by simp,by simp,by simp [Zei],by simp,by simp,by simp⟩
 ·exact ⟨rfl,rfl,rfl,by simp,rfl,by simp,by simp,by simp,by simp,by simp,by simp,by simp [Zei],by simp,by simp [Zei],by simp,by simp,by simp,by simp⟩
theorem Zww:∀ (f:Nat) (l:List UInt8) (p:Nat),∀ t ∈ lexF f l p,Zgc t.kind:=by
 intro f
 induction f with
 | zero=>intro l p t ht; simp [lexF] at ht
 | succ f ih =>
  intro l p t ht
  cases l with
  | nil=>simp [lexF] at ht
  | cons c r =>
   rw [lexF] at ht
   split at ht
   ·exact ih _ _ t ht
   ·simp only [Qp] at ht
    rcases ht with rfl | ht
    ·exact (Zkl c r).2
    ·exact ih _ _ t ht
theorem Ziz (l:List UInt8) (p:Nat):∀ t ∈ toks l p,Zgc t.kind:=Zww _ l p
def Zfh (st:RS) (l:List Sym) (names:Names) (nx:Nat):RS := { st with atom:=Zca st++l,vars:=names,next:=nx }
def Zwx (n:Nat):Prop:=∀ (ts:List Tok) (L:LookS) (f:Nat) (st:RS),ts.length≤n→ts.length≤f→okk ts L→fin ts→L.want≤2→L.err=0→(L.want=2→L.stk≠[])→(∀ t r,ts=t::r→t.kind≠4) →
 ∃ r L' m,Zdl f ts st.vars=some r∧Aft r.2.1 L L' (Zec L).stk∧r.2.1=ts.drop m∧r.2.1.length<ts.length∧takes (ts.take m) st=Zfh st r.1 r.2.2 L'.want
theorem Zdw {xs ys:List Tok} {y:Tok} {m1:Nat} (h:xs.drop m1=y::ys) (m2:Nat) (st:RS):takes (xs.take (m1+(1+m2))) st=takes (ys.take m2) (Zbd (takes (xs.take m1) st) (kmap y.kind) y.text)∧xs.drop (m1+(1+m2))=ys.drop m2:=by
 constructor
 ·rw [List.take_add,Zjn,h,Nat.add_comm 1 m2]
  rfl
 ·rw [← List.drop_drop,h,Nat.add_comm 1 m2]
  rfl
theorem Ybn (A:List Sym) (nm:List UInt8) (k:Nat) (B:List Sym):(A++(⟨nm,0,k⟩:Sym)::B).modify A.length (fun s => { s with args:=s.args+1 })=A++⟨nm,0,k+1⟩::B:=by
 induction A with
 | nil=>simp
 | cons a A ih=>simp [ih]
theorem Zzp (n f:Nat) (IH:Zwx n):∀ (g:Nat) (x:Tok) (xs:List Tok) (L:LookS) (m:Nat) (r:List Nat) (acc:List (List Sym)) (st:RS) (A:List Sym) (nm:List UInt8) (o:List Nat),xs.length≤n→xs.length≤f→xs.length+1≤g→x.kind≠41 →
  okk xs L→fin xs→L.want=2→L.stk=m::r→L.err=0→st.atom=A++⟨nm,0,acc.length⟩::acc.flatten→st.opn=A.length::o →
  ∃ q L' i,Zew (Zdl f) g (x::xs) st.vars acc=some q∧Aft q.2.1 L L' r∧L'.want=4∧q.2.1=xs.drop i∧q.2.1.length<xs.length ∧
   takes (xs.take i) st = { st with atom:=A++⟨nm,0,q.1.length⟩::q.1.flatten,opn:=o,vars:=q.2.2,next:=4 }:=by
 intro g
 induction g with
 | zero=>intro x xs L m r acc st A nm o h1 h1' h2; omega
 | succ g ih =>
  intro x xs L m r acc st A nm o h1 h1' h2 h41 hok hfin hw hst he hat hop
  have hx4:∀ t r,xs=t::r→t.kind≠4:=by
   rintro t r rfl h4
   have:=(Zfu hok (by omega)).1
   unfold Zcx at this
   rw [if_pos (by omega)] at this
   rcases Zhn he this with h | h <;> omega
  obtain ⟨r1,L1,m1,hp,ha,hd,hl,htk⟩:=IH xs L f st h1 (by omega) hok hfin (by omega) he (by rw [hst]; simp) hx4
  have hls:(Zec L).stk=(m+1)::r:=by simp [Zec,hw,hst]
  rw [hls] at ha
  rw [Zew,if_neg h41,hp]
  simp only
  have hbump:Zca st=A++⟨nm,0,acc.length+1⟩::acc.flatten:=by
   unfold Zca
   rw [hop]
   simp only
   rw [hat,Ybn]
  cases hr:r1.2.1 with
  | nil=>rw [hr] at ha; exact ha.fin.elim
  | cons y ys =>
   rw [hr] at ha hl hd
   simp only [Qf] at hl
   have hat1:(Zfh st r1.1 r1.2.2 L1.want).atom=A++⟨nm,0,(acc++[r1.1]).length⟩::(acc++[r1.1]).flatten:=by
    unfold Zfh
    simp [hbump]
   rcases Ycu ha with ⟨hy,ho,hf,hE⟩ | ⟨hy,ho,hf,hE⟩
   ·have hst1:Zbd (Zfh st r1.1 r1.2.2 L1.want) (kmap y.kind) y.text = { Zfh st r1.1 r1.2.2 L1.want with next:=2 }:=by
     rw [hy]
     simp [Zro,Zbd,Zez,Zfh,hop]
    obtain ⟨q,L2,i,h5,h6,h6',h7,h7',h8⟩:=ih y ys (Zam L1 44) (m+1) r (acc++[r1.1]) { Zfh st r1.1 r1.2.2 L1.want with next:=2 } A nm o (by omega) (by omega) (by omega) (by omega) ho hf (by rw [hE]) (by rw [hE]; exact ha.stk) (by rw [hE]; exact ha.err) hat1 hop
    obtain ⟨hs1,hs2⟩:=Zdw hd.symm i st
    refine ⟨q,L2,m1+(1+i),h5,⟨h6.ok,h6.fin,h6.want,h6.stk,h6.err,?_,?_⟩,h6',?_,by omega,?_⟩
    ·rw [h6.query,hE]; exact ha.query
    ·rw [h6.body,hE]
     have:=ha.body
     simp [hw] at this ⊢
     exact this
    ·rw [hs2]; exact h7
    ·rw [hs1,htk,hst1,h8]
     rfl
   ·have hst1:Zbd (Zfh st r1.1 r1.2.2 L1.want) (kmap y.kind) y.text = { Zfh st r1.1 r1.2.2 L1.want with opn:=o,next:=4 }:=by
     rw [hy]
     simp [Yax,Zbd,Zhd,Zfh,hop]
    obtain ⟨hs1,hs2⟩:=Zdw hd.symm 0 st
    refine ⟨(acc++[r1.1],ys,r1.2.2),Zam L1 41,m1+(1+0),?_,⟨ho,hf,Or.inl (by rw [hE]),by rw [hE],by rw [hE]; exact ha.err,by rw [hE]; exact ha.query,by rw [hE]; exact ha.body⟩,by rw [hE],?_,by simp; omega,?_⟩
    ·cases g with
     | zero=>omega
     | succ g=>rw [Zew,if_pos hy]
    ·rw [hs2]; rfl
    ·rw [hs1,htk,hst1]
     show ({ Zfh st r1.1 r1.2.2 L1.want with opn:=o,next:=4 }:RS)=_
     have:({ Zfh st r1.1 r1.2.2 L1.want with opn:=o,next:=4 }:RS) = { st with atom:=(Zfh st r1.1 r1.2.2 L1.want).atom,opn:=o,vars:=r1.2.2,next:=4 }:=rfl
     rw [this,hat1]
theorem Zrq:∀ n,Zwx n:=by
 intro n
 induction n with
 | zero =>
  intro ts L f st h1 h2 hok hfin
  cases ts with
  | nil=>exact hfin.elim
  | cons t ts=>simp at h1
 | succ n IH =>
  intro ts L f st h1 h2 hok hfin hw he hst hne
  cases ts with
  | nil=>exact hfin.elim
  | cons t ts =>
   have h4:=hne t ts rfl
   simp only [Qf] at h1 h2
   cases f with
   | zero=>omega
   | succ f =>
    obtain ⟨he1,ho1⟩:=Zfu hok (by omega)
    unfold Zcx at he1 ho1
    rw [if_pos hw] at he1 ho1
    have hk:=Zhn he he1
    obtain ⟨k1,k2,k3,k4⟩:=Zmt he1 hk
    have hfin1:fin ts:=by
     rcases hfin with h | h
     ·exact absurd h h4
     ·exact h
    by_cases hv:t.kind=2
    ·rw [Zdl,if_pos hv]
     refine ⟨_,Zbo L t.kind t.text.length,1,rfl,⟨ho1,hfin1,Or.inl (by rw [k1,hv]; rfl),k2,he1,k3,k4⟩,rfl,by simp,?_⟩
     have ht:Zbd st (kmap t.kind) t.text = { st with atom:=Zca st++[⟨[],(Zbm st.vars t.text).2,0⟩],vars:=(Zbm st.vars t.text).1,next:=4 }:=by rw [hv]; simp [Ycv,Zbd,addS,varS,Zca]
     show Zbd st (kmap t.kind) t.text=_
     rw [ht,k1,if_neg (by omega)]
     rfl
    ·have hk1:t.kind=1:=by omega
     have ht1:Zbd st (kmap t.kind) t.text = { st with atom:=Zca st++[⟨t.text,0,0⟩],next:=3 }:=by rw [hk1]; simp [Zzn,Zbd,addS]
     rw [Zdl,if_neg hv]
     cases ts with
     | nil=>exact hfin1.elim
     | cons u us =>
      rw [Zlb]
      simp only [Qf] at h1 h2
      rw [if_pos hk1] at k1
      by_cases hu:u.kind=40
      ·rw [if_neg (by simp [hu])]
       obtain ⟨he2,ho2⟩:=Zfu ho1 (by omega)
       unfold Zcx at he2 ho2
       rw [if_neg (by omega),if_neg (by omega),hu] at he2 ho2
       have hE:Zam (Zbo L t.kind t.text.length) 40 = { Zbo L t.kind t.text.length with stk:=0::(Zbo L t.kind t.text.length).stk,want:=2 }:=by
        simp [Zam,k1]
       have hfin2:fin us:=by
        rcases hfin1 with h | h
        ·omega
        ·exact h
       have ht2:Zbd { st with atom:=Zca st++[⟨t.text,0,0⟩],next:=3 } (kmap u.kind) u.text = { st with atom:=Zca st++[⟨t.text,0,0⟩],opn:=(Zca st).length::st.opn,next:=2 }:=by
        rw [hu]; simp [Zrn,Zbd]
       obtain ⟨q,L2,i,h5,h6,h6',h7,h7',h8⟩:=Zzp n f IH (us.length+1) u us _ 0 (Zec L).stk [] { st with atom:=Zca st++[⟨t.text,0,0⟩],opn:=(Zca st).length::st.opn,next:=2 } (Zca st) t.text st.opn (by omega) (by omega) (by omega) (by omega) ho2 hfin2 (by rw [hE]) (by rw [hE,← k2]) (by rw [hE]; exact he1) rfl rfl
       rw [show Zew (Zdl f) (us.length+1) (u::us) st.vars []=some q from h5]
       refine ⟨_,L2,i+2,rfl,⟨h6.ok,h6.fin,h6.want,h6.stk,h6.err,?_,?_⟩,?_,by simp; omega,?_⟩
       ·rw [h6.query,hE]; exact k3
       ·rw [h6.body,hE]
        simpa using k4
       ·exact h7
       ·show takes (us.take i) (Zbd (Zbd st (kmap t.kind) t.text) (kmap u.kind) u.text)=_
        rw [ht1,ht2,h8,h6']
        rfl
      ·rw [if_pos hu]
       refine ⟨_,Zbo L t.kind t.text.length,1,rfl,⟨ho1,hfin1,Or.inr ⟨k1,?_⟩,k2,he1,k3,k4⟩,rfl,by simp,?_⟩
       ·intro y ys hy
        simp at hy
        rw [← hy.1]; exact hu
       ·show Zbd st (kmap t.kind) t.text=_
        rw [ht1,k1]
        rfl
def clsS (st:RS) (hd:List Sym) (bd:List (List Sym)) (vs:Names):RS := { st with clauses:=st.clauses++[⟨hd,bd,vs⟩],atom:=[],opn:=[],head:=[],body:=[],vars:=[],inBody:=false,next:=if st.query then 5 else 0 }
theorem Zog:∀ (g:Nat) (ts:List Tok) (L:LookS) (acc:List (List Sym)) (st:RS),ts.length≤g→ts.length≤1000→okk ts L→fin ts→L.want=1→L.stk=[]→L.body=true→L.err=0→st.opn=[]→st.atom=[]→st.inBody=true →
  ∃ q L' i ex,Zdq 1000 g ts st.vars acc=some q∧okk q.2.1 L'∧fin q.2.1∧L'.want=(if L.query then 5 else 0)∧L'.stk=[]∧L'.err=0∧L'.query=L.query∧q.2.1.length<ts.length∧q.2.1=ts.drop i∧q.1=acc++ex ∧
   takes (ts.take i) st=clsS st st.head (st.body++ex) q.2.2:=by
 intro g
 induction g with
 | zero =>
  intro ts L acc st h1 h2 hok hfin
  cases ts with
  | nil=>exact hfin.elim
  | cons t ts=>simp at h1
 | succ g ih =>
  intro ts L acc st h1 h2 hok hfin hw hst hb he hop hat hib
  obtain ⟨r1,L1,m1,hp,ha,hd,hl,htk⟩:=Zrq ts.length ts L 1000 st (Qe _) h2 hok hfin (by omega) he (by omega) (Ybk hok hw he)
  have hls:(Zec L).stk=[]:=by simp [Zec,hw,hst]
  rw [hls] at ha
  have hb1:L1.body=true:=by rw [ha.body,if_neg (by omega)]; exact hb
  have hbump:Zca st=[]:=by simp [Zca,hop,hat]
  rw [Zdq,hp]
  simp only
  cases hr:r1.2.1 with
  | nil=>rw [hr] at ha; exact ha.fin.elim
  | cons y ys =>
   rw [hr] at ha hl hd
   simp only [Qf] at hl
   simp only
   rcases Zwp ha with ⟨hy,_,ho,hf,hE⟩ | ⟨hy,hb2,_⟩ | ⟨hy,ho,hf,hE⟩
   ·rw [if_neg (by omega)]
    have hst1:Zbd (Zfh st r1.1 r1.2.2 L1.want) (kmap y.kind) y.text = { st with body:=st.body++[r1.1],atom:=[],vars:=r1.2.2,next:=1 }:=by
     rw [hy]
     simp [Zro,Zbd,Zez,Zan,Zfh,hop,hib,hbump]
    obtain ⟨q,L2,i,ex,h5,h6,h7,h8,h9,h10,h11,h12,h13,h14,h15⟩:=ih ys (Zam L1 44) (acc++[r1.1]) { st with body:=st.body++[r1.1],atom:=[],vars:=r1.2.2,next:=1 } (by omega) (by omega) ho hf (by rw [hE]) (by rw [hE]; exact ha.stk) (by rw [hE]; exact hb1) (by rw [hE]; exact ha.err) hop rfl hib
    have hq:(Zam L1 44).query=L.query:=by rw [hE]; exact ha.query
    rw [hq] at h8 h11
    obtain ⟨hs1,hs2⟩:=Zdw hd.symm i st
    refine ⟨q,L2,m1+(1+i),r1.1::ex,h5,h6,h7,h8,h9,h10,h11,by omega,by rw [hs2]; exact h13,by rw [h14]; simp,?_⟩
    rw [hs1,htk,hst1,h15]
    simp [clsS]
   ·rw [hb1] at hb2; cases hb2
   ·rw [if_pos hy]
    have hst1:Zbd (Zfh st r1.1 r1.2.2 L1.want) (kmap y.kind) y.text=clsS st st.head (st.body++[r1.1]) r1.2.2:=by
     rw [hy]
     simp [Zrp,Zbd,Zal,Zan,Zfh,hop,hib,hbump,clsS]
    obtain ⟨hs1,hs2⟩:=Zdw hd.symm 0 st
    refine ⟨_,_,m1+(1+0),[r1.1],rfl,ho,hf,by rw [hE,ha.query],by rw [hE]; exact ha.stk,by rw [hE]; exact ha.err,by rw [hE]; exact ha.query,by simp; omega,by rw [hs2]; rfl,rfl,?_⟩
    rw [hs1,htk,hst1]
    rfl
structure Clean (st:RS):Prop where
 query:st.query=false
 next:st.next=0
 inb:st.inBody=false
 atom:st.atom=[]
 opn:st.opn=[]
 head:st.head=[]
 body:st.body=[]
 vars:st.vars=[]
theorem Zts (ts:List Tok) (L:LookS) (st:RS) (h2:ts.length≤1000) (hok:okk ts L) (hfin:fin ts) (hw:L.want=0) (hst:L.stk=[]) (he:L.err=0) (hq:L.query=false) (hne:∀ t r,ts=t::r→t.kind≠4) (hc:Clean st) :
  ∃ c L' i,Zfs ts=some c∧okk c.2 L'∧fin c.2∧L'.want=0∧L'.stk=[]∧L'.err=0∧L'.query=false∧c.2.length<ts.length∧c.2=ts.drop i∧takes (ts.take i) st = { st with clauses:=st.clauses++[c.1] }:=by
 obtain ⟨r1,L1,m1,hp,ha,hd,hl,htk⟩:=Zrq ts.length ts L 1000 st (Qe _) h2 hok hfin (by omega) he (by omega) hne
 have hls:(Zec L).stk=[]:=by simp [Zec,hw,hst]
 rw [hls] at ha
 have hb1:L1.body=false:=by rw [ha.body,if_pos hw]
 have hbump:Zca st=[]:=by simp [Zca,hc.opn,hc.atom]
 have hback:∀ hd bd vs,clsS st hd bd vs = { st with clauses:=st.clauses++[⟨hd,bd,vs⟩] }:=by
  intro hd bd vs
  obtain ⟨c1,c2,c3,c4,c5,c6,c7,c8⟩:=hc
  cases st
  simp only at c1 c2 c3 c4 c5 c6 c7 c8
  subst c1 c2 c3 c4 c5 c6 c7 c8
  rfl
 rw [hc.vars] at hp
 rw [Zfs,hp]
 simp only
 cases hr:r1.2.1 with
 | nil=>rw [hr] at ha; exact ha.fin.elim
 | cons y ys =>
  rw [hr] at ha hl hd
  simp only [Qf] at hl
  simp only
  rcases Zwp ha with ⟨hy,hb2,_⟩ | ⟨hy,_,ho,hf,hE⟩ | ⟨hy,ho,hf,hE⟩
  ·rw [hb1] at hb2; cases hb2
  ·rw [if_pos hy]
   have hst1:Zbd (Zfh st r1.1 r1.2.2 L1.want) (kmap y.kind) y.text = { st with head:=r1.1,atom:=[],vars:=r1.2.2,inBody:=true,next:=1 }:=by
    rw [hy]
    simp [Ycw,Zbd,Zan,Zfh,hc.inb,hbump]
   obtain ⟨q,L2,i,ex,h5,h6,h7,h8,h9,h10,h11,h12,h13,h14,h15⟩:=Zog 1000 ys (Zam L1 3) [] { st with head:=r1.1,atom:=[],vars:=r1.2.2,inBody:=true,next:=1 } (by omega) (by omega) ho hf (by rw [hE]) (by rw [hE]; exact ha.stk) (by rw [hE]) (by rw [hE]; exact ha.err) hc.opn rfl rfl
   have hq2:(Zam L1 3).query=false:=by rw [hE]; exact ha.query.trans hq
   rw [hq2] at h8 h11
   rw [h5]
   obtain ⟨hs1,hs2⟩:=Zdw hd.symm i st
   refine ⟨_,L2,m1+(1+i),rfl,h6,h7,by simpa using h8,h9,h10,h11,by simp; omega,by rw [hs2]; exact h13,?_⟩
   rw [hs1,htk,hst1,h15,← hback]
   simp only [List.nil_append] at h14
   simp [clsS,hc.body,h14]
  ·rw [if_neg (by omega)]
   have hq2:L1.query=false:=ha.query.trans hq
   have hst1:Zbd (Zfh st r1.1 r1.2.2 L1.want) (kmap y.kind) y.text=clsS st r1.1 [] r1.2.2:=by
    rw [hy]
    simp [Zrp,Zbd,Zal,Zan,Zfh,hc.opn,hc.inb,hc.body,hbump,clsS]
   obtain ⟨hs1,hs2⟩:=Zdw hd.symm 0 st
   refine ⟨_,_,m1+(1+0),rfl,ho,hf,by rw [hE,hq2]; rfl,by rw [hE]; exact ha.stk,by rw [hE]; exact ha.err,by rw [hE]; exact hq2,by simp; omega,by rw [hs2]; rfl,?_⟩
   rw [hs1,htk,hst1,hback]
   rfl
theorem Zzq:∀ (g:Nat) (ts:List Tok) (L:LookS) (acc:List Cls) (st:RS),ts.length≤g→ts.length≤1000→okk ts L→fin ts→L.want=0→L.stk=[]→L.err=0→L.query=false→Clean st →
  ∃ cs i ex,Ziw g ts acc=some cs∧(∃ t r,ts.drop i=t::r∧t.kind=4)∧cs=acc++ex∧takes (ts.take i) st = { st with clauses:=st.clauses++ex }:=by
 intro g
 induction g with
 | zero =>
  intro ts L acc st h1 h2 hok hfin
  cases ts with
  | nil=>exact hfin.elim
  | cons t ts=>simp at h1
 | succ g ih =>
  intro ts L acc st h1 h2 hok hfin hw hst he hq hc
  cases ts with
  | nil=>exact hfin.elim
  | cons t ts =>
   rw [Ziw]
   by_cases h4:t.kind=4
   ·rw [if_pos h4]
    exact ⟨_,0,[],rfl,⟨t,ts,rfl,h4⟩,by simp,by simp [takes]⟩
   ·rw [if_neg h4]
    obtain ⟨c,L1,i,hp,h5,h6,h7,h8,h9,h10,h11,h12,h13⟩:=Zts (t::ts) L st h2 hok hfin hw hst he hq (fun t' r' e=>by simp at e; rw [← e.1]; exact h4) hc
    rw [hp]
    simp only
    simp only [Qf] at h1 h2 h11
    obtain ⟨cs,j,ex,k1,k2,k3,k4⟩:=ih c.2 L1 (acc++[c.1]) { st with clauses:=st.clauses++[c.1] } (by omega) (by omega) h5 h6 h7 h8 h9 h10 ⟨hc.query,hc.next,hc.inb,hc.atom,hc.opn,hc.head,hc.body,hc.vars⟩
    refine ⟨cs,i+j,c.1::ex,k1,?_,by rw [k3]; simp,?_⟩
    ·rw [← List.drop_drop,← h12]; exact k2
    ·rw [List.take_add,Zjn,h13,← h12,k4]
     simp
theorem Yay {ts:List Tok} {e:Tok} {i:Nat} (hk:∀ t ∈ ts,Zgc t.kind) (h:∃ t r,(ts++[e]).drop i=t::r∧t.kind=4):(ts++[e]).take i=ts:=by
 obtain ⟨t,r,hd,h4⟩:=h
 rcases Nat.lt_trichotomy i ts.length with hi | hi | hi
 ·exfalso
  rw [List.drop_append_of_le_length (by omega),List.drop_eq_getElem_cons hi,List.cons_append] at hd
  simp only [List.cons.injEq] at hd
  have:=hk ts[i] (List.getElem_mem hi)
  rw [hd.1] at this
  rcases this with h | h | h | h | h | h | h | h <;> omega
 ·subst hi
  simp
 ·exfalso
  rw [List.drop_eq_nil_of_le (by simp; omega)] at hd
  simp at hd
structure SB (st:RS):Prop where
 next:st.next≤5
 atom:st.atom.length≤30
 empty:st.next≠2→st.next≠3→st.next≠4→st.atom=[]
 head:st.head.length≤30
 body:∀ l ∈ st.body,l.length≤30
 bodyn:st.body.length≤6
 inb:st.next=2∨st.next=3∨st.next=4→st.body.length≤5
 cls:∀ c ∈ st.clauses,c.head.length≤30∧(∀ l ∈ c.body,l.length≤30)∧c.body.length≤6
 clsn:st.clauses.length≤24
 clsb:st.next≠0→st.next≠5→st.clauses.length≤23
 fresh:st.next=0→st.body=[]
 an:∀ s ∈ st.atom,s.name.length≤8
 hn:∀ s ∈ st.head,s.name.length≤8
 bn:∀ l ∈ st.body,∀ s ∈ l,s.name.length≤8
 vn:∀ x ∈ st.vars,x.length≤8
 cn:∀ c ∈ st.clauses,(∀ s ∈ c.head,s.name.length≤8)∧(∀ l ∈ c.body,∀ s ∈ l,s.name.length≤8)∧∀ x ∈ c.names,x.length≤8
theorem SB.endAtom {st:RS} (h:SB st) (h5:st.body.length≤5):(Zan st).atom=[]∧(Zan st).head.length≤30∧(∀ l ∈ (Zan st).body,l.length≤30)∧(Zan st).body.length≤6∧(Zan st).clauses=st.clauses∧(∀ s ∈ (Zan st).head,s.name.length≤8)∧(∀ l ∈ (Zan st).body,∀ s ∈ l,s.name.length≤8)∧(Zan st).vars=st.vars:=by
 unfold Zan
 split
 ·refine ⟨rfl,h.head,?_,by simp; omega,rfl,h.hn,?_,rfl⟩
  ·intro l hl
   simp at hl
   rcases hl with hl | rfl
   ·exact h.body l hl
   ·exact h.atom
  ·intro l hl
   simp at hl
   rcases hl with hl | rfl
   ·exact h.bn l hl
   ·exact h.an
 ·exact ⟨rfl,h.atom,h.body,by simpa using h.bodyn,rfl,h.an,h.bn,rfl⟩
theorem Zlo (st:RS) (h:∀ s ∈ st.atom,s.name.length≤8):∀ s ∈ Zca st,s.name.length≤8:=by
 unfold Zca
 split
 ·exact h
 ·intro s hs
  rw [List.mem_iff_getElem?] at hs
  obtain ⟨i,hi⟩:=hs
  rw [List.getElem?_modify] at hi
  simp only [Option.map_eq_map,Option.map_eq_some_iff] at hi
  obtain ⟨t,ht,e⟩:=hi
  have:=h t (Qh ht)
  split at e
  ·rw [← e]; exact this
  ·rw [← e]; exact this
theorem SB.take {st:RS} {kd len:Nat} {t:List UInt8} (h:SB st) (hc:Zbj st kd len=0) (hlen:len=t.length):SB (Zbd st kd t):=by
 have hs:=Zho hc
 obtain ⟨k1,k7,_,_⟩:=Zhp hs h.next
 have hfull:kd=1∨kd=2→Zed st=false:=by
  intro hk
  unfold Zbj at hc
  rw [if_neg (by simp [hs])] at hc
  split at hc
  ·omega
  ·rename_i h'
   cases hf:Zed st with
   | false=>rfl
   | true=>exact absurd ⟨hk,Or.inr hf⟩ h'
 have h8:kd=1∨kd=2→t.length≤8:=by
  intro hk
  unfold Zbj at hc
  rw [if_neg (by simp [hs])] at hc
  split at hc
  ·omega
  ·rename_i h'
   rcases Nat.lt_or_ge 8 len with h9 | h9
   ·exact absurd ⟨hk,Or.inl h9⟩ h'
   ·omega
 have hnext:kd=1∨kd=2→st.next=0∨st.next=1∨st.next=2:=by
  intro hk
  unfold Zbc at hs
  split at hs
  ·omega
  ·split at hs
   ·omega
   ·split at hs
    ·rcases hk with rfl | rfl
     ·simp [Zbi] at hs
     ·simp [Zbi] at hs
    ·split at hs
     ·rcases hk with rfl | rfl
      ·simp [Zbi] at hs
      ·simp [Zbi] at hs
     ·simp at hs
 have hother:¬ (kd=1∨kd=2)→st.next=3∨st.next=4:=by
  intro hk
  unfold Zbc at hs
  split at hs
  ·simp at hs; omega
  ·split at hs
   ·simp at hs; omega
   ·split at hs
    ·omega
    ·split at hs
     ·omega
     ·simp at hs
 have add:(kd=1∨kd=2)→st.atom.length+1≤30∧st.body.length≤5∧st.clauses.length≤23:=by
  intro hk
  have hf:=hfull hk
  unfold Zed at hf
  rcases hnext hk with h0 | h0 | h0
  ·rw [if_pos h0] at hf
   simp at hf
   have:=h.empty (by omega) (by omega) (by omega)
   have hb:=h.fresh h0
   exact ⟨by simp [this],by simp [hb],by omega⟩
  ·rw [if_neg (by omega),if_pos h0] at hf
   simp at hf
   have:=h.empty (by omega) (by omega) (by omega)
   exact ⟨by simp [this],by omega,h.clsb (by omega) (by omega)⟩
  ·rw [if_neg (by omega),if_neg (by omega),if_pos h0] at hf
   simp at hf
   exact ⟨by omega,h.inb (Or.inl h0),h.clsb (by omega) (by omega)⟩
 have h34:¬ (kd=1∨kd=2)→st.body.length≤5∧st.clauses.length≤23:=fun hk=>by
  have:=hother hk
  exact ⟨h.inb (by omega),h.clsb (by omega) (by omega)⟩
 unfold Zbd
 split
 ·rename_i hk
  obtain ⟨a1,a2,a3⟩:=add (Or.inl hk)
  exact ⟨by simp,by simp [addS,Zjt]; omega,fun _ h3=>absurd rfl h3,h.head,h.body,h.bodyn,fun _=>a2,h.cls,h.clsn,fun _ _=>a3,fun e=>by simp at e,fun s hs=>by
   simp only [addS,Qk,List.mem_singleton] at hs
   rcases hs with hs | rfl
   ·exact Zlo st h.an s hs
   ·exact h8 (Or.inl hk),h.hn,h.bn,h.vn,h.cn⟩
 ·split
  ·rename_i hk
   obtain ⟨a1,a2,a3⟩:=add (Or.inr hk)
   have hb:(Zca (varS st t)).length=st.atom.length:=Zjt _
   exact ⟨by simp,by simp [addS,hb]; omega,fun _ _ h4=>absurd rfl h4,h.head,h.body,h.bodyn,fun _=>a2,h.cls,h.clsn,fun _ _=>a3,fun e=>by simp at e,fun s hs=>by
    simp only [addS,Qk,List.mem_singleton] at hs
    rcases hs with hs | rfl
    ·exact Zlo (varS st t) h.an s hs
    ·simp,h.hn,h.bn,fun x hx=>by
    simp only [addS,varS,Zbm] at hx
    split at hx
    ·exact h.vn x hx
    ·rcases Qk.1 hx with hx | hx
     ·exact h.vn x hx
     ·simp at hx; subst hx; exact h8 (Or.inr hk),h.cn⟩
  ·rename_i n1 n2
   obtain ⟨b1,b2⟩:=h34 (by omega)
   obtain ⟨e1,e2,e3,e4,e5,e6,e7,e8⟩:=h.endAtom b1
   split
   ·exact ⟨by simp,h.atom,fun h2=>absurd rfl h2,h.head,h.body,h.bodyn,fun _=>b1,h.cls,h.clsn,fun _ _=>b2,fun e=>by simp at e,h.an,h.hn,h.bn,h.vn,h.cn⟩
   ·split
    ·exact ⟨by simp,h.atom,fun _ _ h4=>absurd rfl h4,h.head,h.body,h.bodyn,fun _=>b1,h.cls,h.clsn,fun _ _=>b2,fun e=>by simp at e,h.an,h.hn,h.bn,h.vn,h.cn⟩
    ·split
     ·unfold Zez
      split
      ·exact ⟨by simp,by simp [e1],fun _ _ _=>e1,e2,e3,e4,fun h=>by simp at h,by rw [e5]; exact h.cls,by rw [e5]; exact h.clsn,fun _ _=>by rw [e5]; exact b2,fun e=>by simp at e,by simp [e1],e6,e7,by rw [e8]; exact h.vn,by rw [e5]; exact h.cn⟩
      ·exact ⟨by simp,h.atom,fun h2=>absurd rfl h2,h.head,h.body,h.bodyn,fun _=>b1,h.cls,h.clsn,fun _ _=>b2,fun e=>by simp at e,h.an,h.hn,h.bn,h.vn,h.cn⟩
     ·split
      ·exact ⟨by simp,by simp [e1],fun _ _ _=>e1,e2,e3,e4,fun h=>by simp at h,by rw [e5]; exact h.cls,by rw [e5]; exact h.clsn,fun _ _=>by rw [e5]; exact b2,fun e=>by simp at e,by simp [e1],e6,e7,by rw [e8]; exact h.vn,by rw [e5]; exact h.cn⟩
      ·split
       ·have hn:(Zal (Zan st)).next=0∨(Zal (Zan st)).next=5:=by unfold Zal; simp only; split <;> simp
        refine ⟨by omega,by simp [Zal,e1],fun _ _ _=>by simp [Zal,e1],by simp [Zal],by simp [Zal],by simp [Zal],fun _=>by simp [Zal],?_,?_,fun h0 h5=>by omega,fun _=>by simp [Zal],by simp [Zal,e1],by simp [Zal],by simp [Zal],by simp [Zal],?_⟩
        ·intro c hc'
         simp only [Zal,e5,Qk,List.mem_singleton] at hc'
         rcases hc' with hc' | rfl
         ·exact h.cls c hc'
         ·exact ⟨e2,e3,e4⟩
        ·simp [Zal,e5]; omega
        ·intro c hc'
         simp only [Zal,e5,Qk,List.mem_singleton] at hc'
         rcases hc' with hc' | rfl
         ·exact h.cn c hc'
         ·exact ⟨e6,e7,by rw [e8]; exact h.vn⟩
       ·exact h
theorem SB.run {e:Nat}:∀ {ts:List Tok} {st:RS},SB st→(runT e ts st).1=0→SB (runT e ts st).2.2:=by
 intro ts
 induction ts with
 | nil=>intro st h _; unfold runT; split <;> exact h
 | cons t ts ih =>
  intro st h h0
  unfold runT at h0 ⊢
  split at h0
  ·rename_i hc; exact absurd h0 hc
  ·rename_i hc
   rw [if_neg hc]
   exact ih (h.take (len:=t.text.length) (by omega) rfl) h0
theorem SB.start (q:Bool):SB ⟨q,if q then 1 else 0,q,[],[],[],[],[],[]⟩:=by
 cases q <;> exact ⟨by simp,by simp,fun _ _ _=>rfl,by simp,by simp,by simp,fun _=>by simp,by simp,by simp,fun _ _=>by simp,fun _=>rfl,by simp,by simp,by simp,by simp,by simp⟩
end Go.Proofs.YtlmjilpjmgjjcabDoor
namespace Go.Proofs.YtlmjilpjmgjjcabDoor
open Go.RowKit
theorem Ztt (n:Nat) (h:n<10):(⟨#[48,49,50,51,52,53,54,55,56,57,97,98,99,100,101,102,103,104,105,106,107,108,109,110,111,112,113,114,115,116,117,118,119,120,121,122]⟩:ByteArray).extract n (n+1)=⟨(Lib.decDigits n).toArray⟩:=by
 have:∀ n,n<10→((⟨#[48,49,50,51,52,53,54,55,56,57,97,98,99,100,101,102,103,104,105,106,107,108,109,110,111,112,113,114,115,116,117,118,119,120,121,122]⟩:ByteArray).extract n (n+1)).data.toList=[UInt8.ofNat (48+n)]:=by decide +kernel
 apply ByteArray.ext
 apply Array.ext'
 rw [this n h,Lib.decDigits,dif_pos h]
set_option maxRecDepth 20000 in
theorem Ztu (n:Nat) (h:n<100) (h10:¬ n<10):(⟨#[48,48,48,49,48,50,48,51,48,52,48,53,48,54,48,55,48,56,48,57,49,48,49,49,49,50,49,51,49,52,49,53,49,54,49,55,49,56,49,57,50,48,50,49,50,50,50,51,50,52,50,53,50,54,50,55,50,56,50,57,51,48,51,49,51,50,51,51,51,52,51,53,51,54,51,55,51,56,51,57,52,48,52,49,52,50,52,51,52,52,52,53,52,54,52,55,52,56,52,57,53,48,53,49,53,50,53,51,53,52,53,53,53,54,53,55,53,56,53,57,54,48,54,49,54,50,54,51,54,52,54,53,54,54,54,55,54,56,54,57,55,48,55,49,55,50,55,51,55,52,55,53,55,54,55,55,55,56,55,57,56,48,56,49,56,50,56,51,56,52,56,53,56,54,56,55,56,56,56,57,57,48,57,49,57,50,57,51,57,52,57,53,57,54,57,55,57,56,57,57]⟩:ByteArray).extract (n * 2) (n * 2+2)=⟨(Lib.decDigits n).toArray⟩:=by
 have:∀ n,n<100→((⟨#[48,48,48,49,48,50,48,51,48,52,48,53,48,54,48,55,48,56,48,57,49,48,49,49,49,50,49,51,49,52,49,53,49,54,49,55,49,56,49,57,50,48,50,49,50,50,50,51,50,52,50,53,50,54,50,55,50,56,50,57,51,48,51,49,51,50,51,51,51,52,51,53,51,54,51,55,51,56,51,57,52,48,52,49,52,50,52,51,52,52,52,53,52,54,52,55,52,56,52,57,53,48,53,49,53,50,53,51,53,52,53,53,53,54,53,55,53,56,53,57,54,48,54,49,54,50,54,51,54,52,54,53,54,54,54,55,54,56,54,57,55,48,55,49,55,50,55,51,55,52,55,53,55,54,55,55,55,56,55,57,56,48,56,49,56,50,56,51,56,52,56,53,56,54,56,55,56,56,56,57,57,48,57,49,57,50,57,51,57,52,57,53,57,54,57,55,57,56,57,57]⟩:ByteArray).extract (n * 2) (n * 2+2)).data.toList=[UInt8.ofNat (48+n / 10),UInt8.ofNat (48+n % 10)]:=by decide +kernel
 apply ByteArray.ext
 apply Array.ext'
 rw [this n h,Lib.decDigits,dif_neg h10,Lib.decDigits,dif_pos (by omega)]
 rfl
theorem Zlp (n:Nat):Utf8.encode (65+(n:Int) % 26)=⟨[UInt8.ofNat (65+n % 26)].toArray⟩:=by
 have:∀ m:Nat,m<26→(Utf8.encode (65+(m:Int))).data.toList=[UInt8.ofNat (65+m)]:=by decide +kernel
 rw [show (n:Int) % 26=((n % 26:Nat):Int) from by omega]
 apply ByteArray.ext
 apply Array.ext'
 rw [this (n % 26) (by omega)]
set_option maxRecDepth 20000 in
theorem Zwy (n:Nat) (w:World) (h:n<100):Calls Tryd.prog 85 #[.int .i64 n] w fun e w'=>e = .returned (.string ⟨(Lib.decDigits n).toArray⟩)∧w'=w:=by
 by_cases h10:n<10
 ·go_enter Tryd.func85,Tryd.ntmps85
  go_wp2
  go_ret
  exact ⟨Zmn (Ztt n h10),rfl⟩
 ·go_enter Tryd.func85,Tryd.ntmps85
  go_wp2
  go_ret
  exact ⟨Zmn (Ztu n h h10),rfl⟩
theorem Ztv (n:Nat) (w:World) (h:n<100):Calls Tryd.prog 62 #[.int .i64 n,.int .i64 10] w fun e w'=>e = .returned (.string ⟨(Lib.decDigits n).toArray⟩)∧w'=w:=by
 go_enter Tryd.func62,Tryd.ntmps62
 go_wp2_with fail
 refine (Zwy n _ h).mono ?_
 rintro e w' ⟨rfl,rfl⟩
 go_wp2
 go_ret
 exact ⟨rfl,rfl⟩
theorem Zwz (n:Nat) (w:World) (h:n<100):Calls Tryd.prog 49 #[.int .i64 n] w fun e w'=>e = .returned (.string ⟨(Lib.decDigits n).toArray⟩)∧w'=w:=by
 go_enter Tryd.func49,Tryd.ntmps49
 go_wp2_with fail
 refine (Ztv n _ h).mono ?_
 rintro e w' ⟨rfl,rfl⟩
 go_wp2
 go_ret
 exact ⟨rfl,rfl⟩
theorem Zmu (n:Nat) (w:World) (h:n<100):Calls Tryd.prog 40 #[.int .i64 n] w fun e w'=>e = .returned (.string ⟨(Lib.decDigits n).toArray⟩)∧w'=w:=by
 go_enter Tryd.func40,Tryd.ntmps40
 go_wp2_with fail
 refine (Zwz n _ h).mono ?_
 rintro e w' ⟨rfl,rfl⟩
 go_wp2
 go_ret
 exact ⟨rfl,rfl⟩
theorem Zqa (n:Nat) (w:World) (h:n<2600):Calls Tryd.prog 96 #[.int .i64 n] w fun e w'=>e = .returned (.string ⟨(Zeg n).toArray⟩)∧w'=w:=by
 by_cases h26:n<26
 ·have hd:(n:Int) / 26=0:=by omega
  go_enter Tryd.func96,Tryd.ntmps96
  go_wp2
  go_ret
  refine ⟨Zmn ((Zlp n).trans ?_),rfl⟩
  rw [Zeg,if_pos h26,Nat.mod_eq_of_lt h26]
 ·have hd:((n:Int) / 26 == 0)=false:=by rw [Qu]; omega
  go_enter Tryd.func96,Tryd.ntmps96
  go_wp2_with fail
  refine (Zmu (n / 26) _ (by omega)).mono ?_
  rintro e w' ⟨rfl,rfl⟩
  have hlen:=Ziu (n / 26)
  have henc:=Zlp n
  have Henc:=Zac henc
  have hsz:(Utf8.encode (65+(n:Int) % 26)).size=1:=by rw [henc]; rfl
  clear henc
  go_wp2
  go_ret
  refine ⟨Zmn ?_,rfl⟩
  show Utf8.encode (65+(n:Int) % 26)++_=_
  rw [Henc.out,Zbv,Zeg,if_neg h26]
  rfl
def symC (s:Sym):List UInt8:=if s.name=[] then Zeg s.num else s.name
theorem Zlc (s:Sym) (w:World) (h:s.num<2600):Calls Tryd.prog 77 #[.agg #[.string ⟨s.name.toArray⟩,.int .i64 s.num,.int .i64 s.args]] w fun e w'=>e = .returned (.string ⟨(symC s).toArray⟩)∧Below w.heap.size w w':=by
 cases hn:s.name with
 | nil =>
  have Hc:Hid (symC s=Zeg s.num):=by show _=_; simp [symC,hn]
  clear hn
  go_enter Tryd.func77,Tryd.ntmps77
  go_wp2_with fail
  refine (Zqa s.num _ h).mono ?_
  rintro e w' ⟨rfl,rfl⟩
  go_wp2
  go_ret
  rw [Hc.out]
  exact ⟨rfl,(Below.refl _ _).alloc (Qe _) _⟩
 | cons c r =>
  have Hc:Hid (symC s=c::r):=by show _=_; simp [symC,hn]
  clear hn
  go_enter Tryd.func77,Tryd.ntmps77
  go_wp2
  go_ret
  rw [Hc.out]
  exact ⟨rfl,(Below.refl _ _).alloc (Qe _) _⟩
end Go.Proofs.YtlmjilpjmgjjcabDoor
