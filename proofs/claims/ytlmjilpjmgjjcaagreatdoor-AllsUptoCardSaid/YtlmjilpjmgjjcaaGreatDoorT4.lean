/-
  PROVED HERE: plain facts: what the program's reader has read of a text that is let by is what the reference reads (the conditions stand in each statement).
-/
import Derived.Test.YtlmjilpjmgjjcaaGreatDoorT3
import Derived.BigRegion
import Derived.Deep.RegionLaw
import Derived.Deep.RegionLawGrows
set_option linter.unusedSimpArgs false
set_option linter.unusedVariables false
set_option maxRecDepth 10000
set_option maxHeartbeats 4000000
namespace Go.Proofs.YtlmjilpjmgjjcaaGreatDoor
open Go.RowKit
def IsRx (w:World) (B rb:Nat) (st:RS):Prop:=∃ V Sa Sb vs xs,IsR w B rb st V Sa Sb vs xs
theorem Zgr {w w1:World} {rb:Nat} {X:Value} (h:Kept (Zap X) w w1) (i:Nat) (u:Value):Kept (Zes rb X) w (w1.setCell ⟨rb,i,none⟩ u) :=
 Qy (S:=Zes rb X) (h.mono (fun _ _ e=>Or.inr e)) (p:=⟨rb,i,none⟩) (fun _=>Or.inl rfl) u
theorem Zdo {w w1:World} {rb:Nat} {X:Value} (h:Kept (Zes rb X) w w1) (i:Nat) (u:Value):Kept (Zes rb X) w (w1.setCell ⟨rb,i,none⟩ u) :=
 Qy (S:=Zes rb X) h (p:=⟨rb,i,none⟩) (fun _=>Or.inl rfl) u
def Zis (st:RS):RS := { st with opn:=st.opn.tail }
theorem Yab (w:World) (B rb:Nat) (st:RS) (h:IsRx w B rb st) (hl:st.opn.length≤4096) :
  Calls Tryz.prog 170 #[.pointer (some ⟨rb,0,none⟩)] w fun e w'=>e = .returned (.tuple #[])∧IsRx w' B rb (Zis st)∧Held B w w':=by
 obtain ⟨V,Sa,Sb,vs,xs,h⟩:=h
 obtain ⟨c0,c1,c2,c3,c4,c5,c6,c7,c8⟩:=h.opens.facts
 have hf:=fun i=>Zae h.blk i
 have hrb:=Zac h.blk
 obtain ⟨oa,ocap,hvo⟩:=Zad h.rest.opn
 cases hst:st.opn with
 | nil =>
  rw [hvo] at c4
  simp only [hst,Qt] at c4
  have Hr:Hid (Zis st=st):=by
   show _=_
   cases st
   simp only at hst
   subst hst
   rfl
  have H:=Zaa h
  clear h hvo hst
  go_enter Tryz.func170,Tryz.ntmps170
  go_wp2
  go_end0
  rw [Hr.out]
  exact ⟨rfl,⟨V,Sa,Sb,vs,xs,H.out⟩,Held.refl _ _⟩
 | cons n r =>
  have hrl:r.length+1≤4096:=by rw [hst] at hl; simpa using hl
  have hop:=h.rest.opn
  rw [hst,hvo,hst] at hop
  obtain ⟨g,gcap,gcur,he,hBg,hg,hcap⟩:=Zan hop (by simp)
  simp only [Value.slice.injEq] at he
  obtain ⟨rfl,_,rfl⟩:=he
  rw [hvo] at c4
  simp only [hst,Qf] at c4 hcap hop
  have hpop:=Zpb (n:=r.length) hop
  have hvo':V.o = .slice (some ⟨g,0,none⟩) (r.length+1) ocap:=by rw [hvo,hst]; rfl
  have H:=Zaa h
  have Hst:=Zaa hst
  have Hpop:=Zaa hpop
  have Hvo:=Zaa hvo'
  clear h hvo hst hop hg hpop hvo'
  go_enter Tryz.func170,Tryz.ntmps170
  go_wp2_with fail
  go_region
  go_end0
  have hk:Kept (Zes rb V.o) w (w.setCell ⟨rb,4,none⟩ (.slice (some ⟨g,0,none⟩) r.length ocap)):=(Qx _ w).setCell (p:=⟨rb,4,none⟩) (fun _=>Or.inl rfl) _
  have hpop':(w.setCell ⟨rb,4,none⟩ (.slice (some ⟨g,0,none⟩) r.length ocap)).ownsRow B 3 1 (.slice (some ⟨g,0,none⟩) r.length ocap) r.length (ints r.reverse):=by
   have e:(ints (n::r).reverse).take r.length=ints r.reverse:=by simp [ints]
   have h2:=Hpop.out
   rw [e] at h2
   exact ((Qx (only rb) w).put 4 _).owns h2 (fun k hko e=>by
    have e:k=rb:=e
    rw [e] at hko
    exact Zah h2 (by decide) H.out.blk hko)
  have hR:=H.out.opened hk r (.slice (some ⟨g,0,none⟩) r.length ocap) (Zai H.out.blk 4 _) hpop'
  have hc:Zis st = { st with opn:=r }:=by simp [Zis,Hst.out]
  rw [hc]
  refine ⟨rfl,⟨_,Sa,Sb,vs,xs,⟨hR.blk,⟨hR.rest.atom,hR.rest.opn,hR.rest.vars,hR.rest.head,hR.rest.body,hR.rest.cls,hR.rest.ta,hR.rest.tb,hR.rest.tv,hR.rest.la,hR.rest.lb⟩,hR.le⟩⟩,?_⟩
  exact (H.out.below hk H.out.rest.opn (by decide)).drew
def varS (st:RS) (t:List UInt8):RS := { st with vars:=(Zbl st.vars t).1 }
theorem Zrm (w:World) (B rb:Nat) (st:RS) (t:List UInt8) (h:IsRx w B rb st) (hl:st.vars.length≤4096) :
  Calls Tryz.prog 169 #[.pointer (some ⟨rb,0,none⟩),.string ⟨t.toArray⟩] w fun e w'=>e = .returned (.int .i64 (Zbl st.vars t).2)∧IsRx w' B rb (varS st t)∧Held B w w':=by
 obtain ⟨V,Sa,Sb,vs,xs,h⟩:=h
 obtain ⟨c0,c1,c2,c3,c4,c5,c6,c7,c8⟩:=h.opens.facts
 have hrb:=Zac h.blk
 obtain ⟨va,vcap,hvv⟩:=Zad h.rest.vars
 have hown:=h.rest.vars
 rw [hvv] at c7 hown
 have H:=Zaa h
 have Hown:=Zaa hown
 have Hvv:=Zaa hvv
 have hBw:B≤w.heap.size:=by have:=h.le; omega
 clear h hown hvv
 go_enter Tryz.func169,Tryz.ntmps169
 go_wp2
 go_loop [13] (fun i=>∃ k:Nat,k≤st.vars.length∧i = .int .i64 k∧t ∉ st.vars.take k) (fun i=>st.vars.length - (intOf i).toNat)
 case atStart=>exact ⟨0,Qm _,rfl,by simp⟩
 case round =>
  obtain ⟨k,hk,rfl,hnot⟩:=hrel
  have Hnot:=Zaa hnot
  clear hnot
  by_cases hlt:k<st.vars.length
  ·obtain ⟨g,cap',cur,he,hBg,hg,hcp⟩:=Zan Hown.out (by omega)
   simp only [Value.slice.injEq] at he
   obtain ⟨rfl,_,rfl⟩:=he
   obtain ⟨nm,hnm⟩:∃ nm,nm=st.vars[k]:=⟨_,rfl⟩
   have hc:w.cell? ⟨g,k,none⟩=some (.string ⟨nm.toArray⟩):=Zaf Hown.out k _ (by simp [strs,hlt,hnm])
   have Hnm:=Zaa hnm
   clear hg hnm
   go_wp2
   ·have hq:nm=t:=eq_of_beq (by assumption)
    go_ret
    have hr:=Zkz hlt (Hnm.out.symm.trans hq) Hnot.out
    rw [varS,hr]
    exact ⟨rfl,⟨V,Sa,Sb,vs,xs,H.out⟩,Held.refl _ _⟩
   ·have hq:nm≠t:=ne_of_beq_false (by assumption)
    go_round
    case rel=>exact ⟨k+1,by omega,by go_num,Yfv hlt (fun h=>hq (Hnm.out.trans h)) Hnot.out⟩
    case measure=>simp [intOf]; omega
  ·have Hmiss:=Zaa (Zjp hlt Hnot.out)
   go_wp2_with (at_builtin; refine Zal _ rfl (.tmp 28) (.tmp 30) 47 rfl B 9 Tryz.infoStr Tryz.underlying47 rfl (by decide) _ st.vars.length (strs st.vars) rfl Hown.out _ rfl rfl rfl (Zsz _) ?_ hBw ?_)
   ·omega
   intro v' w1 hap
   obtain ⟨v1a,v1cap,rfl⟩:=Zad hap.owns
   have hnb:¬ Zap (.slice va st.vars.length vcap) rb:=Zah Hown.out (by decide) H.out.blk
   have hblk1:=(hap.kept.block rb hrb hnb).trans H.out.blk
   have d7:w1.cell? ⟨rb,7,none⟩=some V.v:=Zab hblk1 7 _ rfl
   rw [Hvv.out] at d7
   have df:=fun i=>Zae hblk1 i
   have Hap:=Zaa hap
   have Hblk1:=Zaa hblk1
   clear hap hblk1 c0 c1 c2 c3 c4 c5 c6 c7 c8
   go_wp2
   go_ret
   have hk:Kept (Zes rb V.v) w (w1.setCell ⟨rb,7,none⟩ (.slice v1a (st.vars.length+1) v1cap)):=by
    rw [Hvv.out]
    exact Zgr Hap.out.kept 7 _
   have hrow:(w1.setCell ⟨rb,7,none⟩ (.slice v1a (st.vars.length+1) v1cap)).ownsRow B 9 1 (.slice v1a (st.vars.length+1) v1cap) (st.vars++[t]).length (strs (st.vars++[t])):=by
    have h2:=Hap.out.owns
    have h3:=((Qx (only rb) w1).put 7 (.slice v1a (st.vars.length+1) v1cap)).owns h2 (fun k hko e=>by
     have e:k=rb:=e
     rw [e] at hko
     exact Zah h2 (by decide) Hblk1.out hko)
    simpa [strs] using h3
   have hR:=H.out.named hk (st.vars++[t]) (.slice v1a (st.vars.length+1) v1cap) (Zai Hblk1.out 7 _) hrow (fun k e=>by
    rcases Hap.out.where_ with hw | ⟨g,hw,hg⟩
    ·exact H.out.rest.tv k (by rw [Hvv.out]; exact hw.symm.trans e)
    ·have e2:=hw.symm.trans e
     simp only [Qo] at e2
     have:=H.out.rest.lb
     omega)
   rw [varS,Hmiss.out]
   refine ⟨Zhp ?_,⟨_,Sa,Sb,vs,xs,hR⟩,H.out.below hk H.out.rest.vars (by decide)⟩
   omega
theorem Zch {P:Program} {ops:Array Oper} {o:Oper} {a:Act} {K:Act→World→Prop} {Q:Exit→Act→World→Prop} {E:Prop} {W:World} (w:World) (hg:o.guard=none) (s x:Operand) (t:TypeId)
  (ho:o.op = .call { callee := .builtin .append,args:=#[s,x],argTypes:=#[t,t] })
  (base:Nat) (e:TypeId) {z:Value} {size bytes:Nat}
  (hinfo:(P.info? e).map (fun i=>(i.zero,i.size,i.bytes))=some (some z,size,bytes)) (ht:P.underlying t=some (.slice e)) (hzs:z.cells.size=size) (hsz:0<size)
  (v:Value) (n:Nat) (xs:List Value) (hs:a.eval s=v) (hown:w.ownsRow base e size v n xs)
  (news:Array Value) {N:Nat} (hx:a.eval x = .slice (some ⟨N,0,none⟩) 1 1) (hN:N=w.heap.size) (hl:news.size=size) (h1:∀ u ∈ news.toList,u.oneCell'=true)
  (hbig:(n+1) * (bytes+1)≤140737488355328) (hbase:base≤w.heap.size) (hW:W=w.alloc (.cells news e))
  (h:∀ v' w',Appended w base e size v (n+1) (xs++news.toList) v' w'→K (a.put o.dst v') w'):if Region.wanted o (yielded ops a.tmps)=true then Oper.wp P o a W K Q else E:=by
 have hw:Region.wanted o (yielded ops a.tmps)=true:=by simp [Region.wanted,hg]
 rw [if_pos hw,hW]
 exact Znq w s x t ho base e hinfo ht hzs hsz v n xs hs hown news hx hN hl h1 hbig hbase h
theorem Zrn {w w1:World} {o:Obj} {n rb:Nat} {X:Value} {cs:Array Value} {T:TypeId} (h:Kept (Zap X) ((w.alloc o).drewN n) w1) (hb:w.heap[rb]?=some (.cells cs T (0,0))) (hx:¬ Zap X rb):w1.heap[rb]?=some (.cells cs T (0,0)) :=
 (h.block rb (by have:=Zac hb; show rb<(w.alloc o).heap.size; simp; omega) hx).trans (Zag hb o)
def Zco (st:RS):List Sym:=match st.opn with
 | []=>st.atom
 | n::_=>st.atom.modify n (fun s => { s with args:=s.args+1 })
def addS (st:RS) (s:Sym):RS := { st with atom:=Zco st++[s] }
theorem Zgy (x:ByteArray) (y z:Int):∀ u ∈ (#[Value.string x,.int .i64 y,.int .i64 z]:Array Value).toList,u.oneCell'=true:=by
 intro u hu
 simp at hu
 rcases hu with rfl | rfl | rfl <;> rfl
theorem Ydj {w w1:World} {B rb nd:Nat} {st:RS} {V:RV} {Sa Sb:Nat} {vs:List Value} {xs:List (List Value)} {s:Sym} {o:Obj} {a1:Option Addr} {a1cap:Nat} (H:IsR w B rb st V Sa Sb vs xs)
  (hap:Appended ((w.alloc o).drewN nd) B 133 3 V.a (st.atom.length+1) (Zam st.atom++[.string ⟨s.name.toArray⟩,.int .i64 s.num,.int .i64 s.args]) (.slice a1 (st.atom.length+1) a1cap) w1) :
  IsR (w1.setCell ⟨rb,3,none⟩ (.slice a1 (st.atom.length+1) a1cap)) B rb { st with atom:=st.atom++[s] } { V with a := .slice a1 (st.atom.length+1) a1cap } Sa Sb vs xs∧Held B w (w1.setCell ⟨rb,3,none⟩ (.slice a1 (st.atom.length+1) a1cap)):=by
 have hat:=H.rest.atom
 have hblk1:=Zrn hap.kept H.blk (Zah hat (by decide) H.blk)
 have hk:Kept (Zes rb V.a) w (w1.setCell ⟨rb,3,none⟩ (.slice a1 (st.atom.length+1) a1cap)):=Zgr ((((Qx _ w).alloc _).drewN _).trans hap.kept) 3 _
 have hrow:(w1.setCell ⟨rb,3,none⟩ (.slice a1 (st.atom.length+1) a1cap)).ownsRow B 133 3 (.slice a1 (st.atom.length+1) a1cap) (st.atom++[s]).length (Zam (st.atom++[s])):=by
  have h2:=hap.owns
  have h3:=((Qx (only rb) w1).put 3 (.slice a1 (st.atom.length+1) a1cap)).owns h2 (fun k hko e=>by
   have e:k=rb:=e
   rw [e] at hko
   exact Zah h2 (by decide) hblk1 hko)
  simpa [Zam,Zby] using h3
 have hta:∀ k,(Value.slice a1 (st.atom.length+1) a1cap).ownBlock=some k→Sa≤k:=by
  intro k hk
  rcases hap.where_ with hw | ⟨g,hw,hg⟩
  ·exact H.rest.ta k (by rw [← hw]; exact hk)
  ·rw [hk] at hw
   simp at hw
   have:=H.rest.la
   have hg':w.heap.size+1≤g:=by simpa using hg
   omega
 exact ⟨H.atoms hk (st.atom++[s]) (.slice a1 (st.atom.length+1) a1cap) (Zai hblk1 3 _) hrow hta,H.below hk hat (by decide)⟩
theorem Zju {w:World} {B:Nat} {e:TypeId} {g n cap size:Nat} {xs:List Value} (h:w.ownsRow B e size (.slice (some ⟨g,0,none⟩) n cap) n xs) (i:Nat) (u:Value) :
  (w.setCell ⟨g,i,none⟩ u).ownsRow B e size (.slice (some ⟨g,0,none⟩) n cap) n (xs.set i u):=by
 refine ⟨by simpa using h.1,?_⟩
 rcases h.2 with ⟨h1,_⟩ | ⟨g',cap',cur,h1,hb,hg,hn,hc,hs,ht⟩
 ·simp at h1
 ·simp at h1
  obtain ⟨rfl,rfl⟩:=h1
  refine .inr ⟨g,cap,cur.setIfInBounds i u,rfl,hb,Zai hg i u,hn,hc,by simpa using hs,?_⟩
  rw [← ht]
  simp [List.take_set]
theorem Yac (l:List Sym) (n:Nat) (s:Sym) (h:l[n]?=some s):Zam (l.modify n (fun s => { s with args:=s.args+1 }))=(Zam l).set (n * 3+2) (.int .i64 ((s.args:Int)+1)):=by
 induction l generalizing n with
 | nil=>simp at h
 | cons a l ih =>
  cases n with
  | zero =>
   simp at h; subst h
   simp [Zam,Zby,List.modify]
  | succ n =>
   have:=ih n (by simpa using h)
   simp only [List.modify_succ_cons]
   show Zby a++Zam _=(Zby a++Zam l).set _ _
   rw [this,List.set_append_right _ _ (by simp [Zby]; omega)]
   congr 2
   simp [Zby]
   omega
theorem Ygo (w:World) (B rb:Nat) (st:RS) (s:Sym) (h:IsRx w B rb st) (hb:RBd st) (ho:st.opn=[]) :
  Calls Tryz.prog 168 #[.pointer (some ⟨rb,0,none⟩),.agg #[.string ⟨s.name.toArray⟩,.int .i64 s.num,.int .i64 s.args]] w fun e w'=>e = .returned (.tuple #[])∧IsRx w' B rb (addS st s)∧Held B w w':=by
 obtain ⟨V,Sa,Sb,vs,xs,h⟩:=h
 have hrb:=Zac h.blk
 have hBw:B≤w.heap.size:=by have:=h.le; omega
 obtain ⟨aa,acap,hva⟩:=Zad h.rest.atom
 have hat:=h.rest.atom
 rw [hva] at hat
 have hla:=hb.atom
 have HW:∀ o,ROpen (w.alloc o) B rb st V:=fun o=>h.opens.later (S:=Zbf) ((Qx _ w).alloc o) (fun h=>h) (fun _ _ h=>h) (fun _ _ h=>h)
 have HO:=Zaa (fun o=>Zmg (w.alloc o) B rb st V (HW o) hb.opn hb.atom)
 have hoi:Zfg st = -1:=by simp [Zfg,ho]
 have Hoi:=Zaa hoi
 obtain ⟨c0,c1,c2,c3,c4,c5,c6,c7,c8⟩:=h.opens.facts
 have hf:=fun i=>Zae h.blk i
 rw [hva] at c3
 have H:=Zaa h
 have Hat:=Zaa hat
 have Hva:=Zaa hva
 have Hadd:Hid (addS st s = { st with atom:=st.atom++[s] }):=by show _=_; simp [addS,Zco,ho]
 clear h hat hva HW ho hoi
 go_enter Tryz.func168,Tryz.ntmps168
 go_wp2_with fail
 refine (HO.out _).mono ?_
 rintro e w1 ⟨rfl,nd,rfl⟩
 rw [Hoi.out]
 go_wp2_with fail
 go_region_law (refine Zch ((w.alloc (.cells #[.string ⟨s.name.toArray⟩,.int .i64 s.num,.int .i64 s.args] 133)).drewN (nd+1)) rfl (.tmp 24) (.tmp 26) 105 rfl B 133 Tryz.infoSym Tryz.underlying105 rfl (by decide) (.slice aa st.atom.length acap) st.atom.length (Zam st.atom) rfl (Hat.out.alloc _) #[.string ⟨s.name.toArray⟩,.int .i64 s.num,.int .i64 s.args] rfl (by simp) rfl (Zgy _ _ _) (by omega) (by simp; omega) rfl ?_; intro v' w1 hap; obtain ⟨a1,a1cap,rfl⟩:=Zad hap.owns; have hblk1:=Zrn hap.kept H.out.blk (Zah Hat.out (by decide) H.out.blk); have d3:w1.cell? ⟨rb,3,none⟩=some V.a:=Zab hblk1 3 _ rfl; have df:=fun i=>Zae hblk1 i; have Hap:=Zaa hap; have Hblk1:=Zaa hblk1; clear hap hblk1)
 all_goals
  go_end0
  rw [Hadd.out]
  have hap:=Hap.out
  rw [← Hva.out] at hap
  obtain ⟨hR,hB⟩:=Ydj H.out hap
  exact ⟨rfl,⟨_,Sa,Sb,vs,xs,hR⟩,hB⟩
theorem IsR.fresh {w w':World} {B rb:Nat} {st:RS} {V:RV} {Sa Sb:Nat} {vs:List Value} {xs:List (List Value)} (h:IsR w B rb st V Sa Sb vs xs) (hk:Kept Zbf w w'):IsR w' B rb st V Sa Sb vs xs :=
 h.only (hk.mono (fun _ _ h=>h.elim)) st ((hk.block rb (Zac h.blk) (fun h=>h)).trans h.blk) rfl rfl rfl rfl rfl rfl
theorem IsR.counted {w:World} {B rb:Nat} {st:RS} {V:RV} {Sa Sb:Nat} {vs:List Value} {xs:List (List Value)} {n g acap:Nat} {r:List Nat} {so:Sym} (h:IsR w B rb st V Sa Sb vs xs) (ho:st.opn=n::r) (hso:st.atom[n]?=some so)
  (hva:V.a = .slice (some ⟨g,0,none⟩) st.atom.length acap):IsR (w.setCell ⟨g,n * 3+2,none⟩ (.int .i64 ((so.args:Int)+1))) B rb { st with atom:=Zco st } V Sa Sb vs xs∧Held B w (w.setCell ⟨g,n * 3+2,none⟩ (.int .i64 ((so.args:Int)+1))):=by
 have hat:=h.rest.atom
 rw [hva] at hat
 have hgb:¬ rb=g:=fun e=>by subst e; exact Zah hat (by decide) h.blk rfl
 have hrow1:=Zju hat (n * 3+2) (.int .i64 ((so.args:Int)+1))
 rw [← Yac st.atom n so hso] at hrow1
 have hblkW:(w.setCell ⟨g,n * 3+2,none⟩ (.int .i64 ((so.args:Int)+1))).heap[rb]?=some (.cells (Zde st V) 169 (0,0)):=by
  rw [Below.heap_setCell _ _ _ _ hgb]; exact h.blk
 have hkW:Kept (Zes rb V.a) w (w.setCell ⟨g,n * 3+2,none⟩ (.int .i64 ((so.args:Int)+1))):=(Qx _ w).setCell (p:=⟨g,n * 3+2,none⟩) (fun _=>Or.inr (by rw [hva]; rfl)) _
 have hbl:(Zco st).length=st.atom.length:=by simp [Zco,ho]
 have hbs:Zco st=st.atom.modify n (fun s => { s with args:=s.args+1 }):=by simp [Zco,ho]
 exact ⟨h.atoms hkW (Zco st) V.a hblkW (by rw [hbl,hbs,hva]; exact hrow1) h.rest.ta,h.below hkW h.rest.atom (by decide)⟩
theorem Zfl {w w1:World} {n rb:Nat} {X:Value} {cs:Array Value} {T:TypeId} (h:Kept (Zap X) (w.drewN n) w1) (hb:w.heap[rb]?=some (.cells cs T (0,0))) (hx:¬ Zap X rb):w1.heap[rb]?=some (.cells cs T (0,0)) :=
 (h.block rb (Zac hb) hx).trans hb
theorem Yad {w w1:World} {B rb nd:Nat} {st:RS} {V:RV} {Sa Sb:Nat} {vs:List Value} {xs:List (List Value)} {s:Sym} {a1:Option Addr} {a1cap:Nat} (H:IsR w B rb st V Sa Sb vs xs)
  (hap:Appended (w.drewN nd) B 133 3 V.a (st.atom.length+1) (Zam st.atom++[.string ⟨s.name.toArray⟩,.int .i64 s.num,.int .i64 s.args]) (.slice a1 (st.atom.length+1) a1cap) w1) :
  IsR (w1.setCell ⟨rb,3,none⟩ (.slice a1 (st.atom.length+1) a1cap)) B rb { st with atom:=st.atom++[s] } { V with a := .slice a1 (st.atom.length+1) a1cap } Sa Sb vs xs∧Held B w (w1.setCell ⟨rb,3,none⟩ (.slice a1 (st.atom.length+1) a1cap)):=by
 have hat:=H.rest.atom
 have hblk1:=Zfl hap.kept H.blk (Zah hat (by decide) H.blk)
 have hk:Kept (Zes rb V.a) w (w1.setCell ⟨rb,3,none⟩ (.slice a1 (st.atom.length+1) a1cap)):=Zgr (((Qx _ w).drewN _).trans hap.kept) 3 _
 have hrow:(w1.setCell ⟨rb,3,none⟩ (.slice a1 (st.atom.length+1) a1cap)).ownsRow B 133 3 (.slice a1 (st.atom.length+1) a1cap) (st.atom++[s]).length (Zam (st.atom++[s])):=by
  have h2:=hap.owns
  have h3:=((Qx (only rb) w1).put 3 (.slice a1 (st.atom.length+1) a1cap)).owns h2 (fun k hko e=>by
   have e:k=rb:=e
   rw [e] at hko
   exact Zah h2 (by decide) hblk1 hko)
  simpa [Zam,Zby] using h3
 have hta:∀ k,(Value.slice a1 (st.atom.length+1) a1cap).ownBlock=some k→Sa≤k:=by
  intro k hk
  rcases hap.where_ with hw | ⟨g,hw,hg⟩
  ·exact H.rest.ta k (by rw [← hw]; exact hk)
  ·rw [hk] at hw
   simp at hw
   have:=H.rest.la
   have hg':w.heap.size≤g:=by simpa using hg
   omega
 exact ⟨H.atoms hk (st.atom++[s]) (.slice a1 (st.atom.length+1) a1cap) (Zai hblk1 3 _) hrow hta,H.below hk hat (by decide)⟩
theorem Yik (w:World) (B rb:Nat) (st:RS) (s:Sym) (n:Nat) (r:List Nat) (h:IsRx w B rb st) (hb:RBd st) (ho:st.opn=n::r) (hn:n<st.atom.length) :
  Calls Tryz.prog 168 #[.pointer (some ⟨rb,0,none⟩),.agg #[.string ⟨s.name.toArray⟩,.int .i64 s.num,.int .i64 s.args]] w fun e w'=>e = .returned (.tuple #[])∧IsRx w' B rb (addS st s)∧Held B w w':=by
 obtain ⟨V,Sa,Sb,vs,xs,h⟩:=h
 have hrb:=Zac h.blk
 have hBw:B≤w.heap.size:=by have:=h.le; omega
 have hla:=hb.atom
 obtain ⟨so,hso⟩:∃ so,st.atom[n]?=some so:=⟨_,Qb hn⟩
 have hargs:=hb.args so (Qh hso)
 have HW:∀ o,ROpen (w.alloc o) B rb st V:=fun o=>h.opens.later (S:=Zbf) ((Qx _ w).alloc o) (fun h=>h) (fun _ _ h=>h) (fun _ _ h=>h)
 have HO:=Zaa (fun o=>Zmg (w.alloc o) B rb st V (HW o) hb.opn hb.atom)
 have Hoi:Hid (Zfg st=n):=by show _=_; simp [Zfg,ho]; omega
 have H:=Zaa h
 have Ho:=Zaa ho
 have Hso:=Zaa hso
 clear h HW ho hso
 go_enter Tryz.func168,Tryz.ntmps168
 go_wp2_with fail
 refine (HO.out _).mono ?_
 rintro e w1 ⟨rfl,nd,hw1⟩
 rw [Hoi.out]
 have hk1:Kept Zbf w w1:=by rw [hw1]; exact ((Qx _ w).alloc _).drewN _
 have b0:w1.cell? ⟨w.heap.size,0,none⟩=some (.string ⟨s.name.toArray⟩):=by rw [hw1]; exact Zcl w _ _ 0 _ rfl
 have b1:w1.cell? ⟨w.heap.size,1,none⟩=some (.int .i64 s.num):=by rw [hw1]; exact Zcl w _ _ 1 _ rfl
 have b2:w1.cell? ⟨w.heap.size,2,none⟩=some (.int .i64 s.args):=by rw [hw1]; exact Zcl w _ _ 2 _ rfl
 have hsz1:w.heap.size<w1.heap.size:=by rw [hw1]; show w.heap.size<(w.alloc _).heap.size; simp
 clear hw1
 have h1:=H.out.fresh hk1
 obtain ⟨aa,acap,hva⟩:=Zad h1.rest.atom
 have hat:=h1.rest.atom
 rw [hva] at hat
 obtain ⟨g,gcap,gcur,he,hBg,hg,hcap⟩:=Zan hat (by omega)
 simp only [Value.slice.injEq] at he
 obtain ⟨rfl,_,rfl⟩:=he
 have hgl:g<w.heap.size:=(H.out.rest.atom.lt g (by rw [hva]; rfl)).2
 have hgb:¬ rb=g:=fun e=>by subst e; exact Zah hat (by decide) h1.blk rfl
 have cg:w1.cell? ⟨g,n * 3+2,none⟩=some (.int .i64 so.args):=Zaf hat _ _ (by rw [Zbg _ n so Hso.out 2 (by omega)]; rfl)
 have fg:=Zae hg (n * 3+2)
 have c3:w1.cell? ⟨rb,3,none⟩=some V.a:=h1.opens.facts.2.2.2.1
 rw [hva] at c3
 obtain ⟨hR1,hB1⟩:=h1.counted Ho.out Hso.out hva
 have Hat1:Hid ((w1.setCell ⟨g,n * 3+2,none⟩ (.int .i64 ((so.args:Int)+1))).ownsRow B 133 3 (.slice (some ⟨g,0,none⟩) st.atom.length acap) (Zco st).length (Zam (Zco st))):=by
  have h2:=hR1.rest.atom
  simp only at h2
  rw [hva] at h2
  exact h2
 have hbl:(Zco st).length=st.atom.length:=by simp [Zco,Ho.out]
 have Hbl:=Zaa hbl
 have Hat2:=Hat1.out
 rw [hbl] at Hat2
 have HAT:=Zaa Hat2
 have HB1:=Zaa ((Held.fresh hk1 hBw).trans hB1)
 have H1:=Zaa hR1
 have Hva:=Zaa hva
 have hsz2:B≤w1.heap.size:=by omega
 have hrb1:rb<w1.heap.size:=by omega
 have hg1:g<w1.heap.size:=by omega
 clear h1 hat hva hg hR1 hB1 Hat1 Hat2 hbl hk1
 go_wp2_with fail
 go_region_law (refine Zch ((w1.setCell ⟨g,n * 3+2,none⟩ (.int .i64 ((so.args:Int)+1))).drewN 1) rfl (.tmp 24) (.tmp 26) 105 rfl B 133 Tryz.infoSym Tryz.underlying105 rfl (by decide) (.slice (some ⟨g,0,none⟩) st.atom.length acap) st.atom.length (Zam (Zco st)) rfl HAT.out #[.string ⟨s.name.toArray⟩,.int .i64 s.num,.int .i64 s.args] rfl (by simp) rfl (Zgy _ _ _) (by omega) (by simp; omega) rfl ?_; intro v' w2 hap; obtain ⟨a1,a1cap,rfl⟩:=Zad hap.owns; have hblk1:=Zfl hap.kept H1.out.blk (Zah HAT.out (by decide) H1.out.blk); have d3:w2.cell? ⟨rb,3,none⟩=some V.a:=Zab hblk1 3 _ rfl; have df:=fun i=>Zae hblk1 i; have Hap:=Zaa hap; clear hap hblk1)
 all_goals
  go_end0
  have hap:=Hap.out
  rw [← Hva.out] at hap
  rw [← Hbl.out] at hap
  obtain ⟨hR,hB⟩:=Yad H1.out hap
  simp only [Hbl.out] at hR hB
  exact ⟨rfl,⟨_,Sa,Sb,vs,xs,hR⟩,HB1.out.trans hB⟩
def Zaw (st:RS):RS:=if st.inBody then { st with body:=st.body++[st.atom],atom:=[] } else { st with head:=st.atom,atom:=[] }
theorem Zec (a:Option Addr) (n c:Nat):∀ u ∈ (#[Value.slice a n c]:Array Value).toList,u.oneCell'=true:=by
  intro u hu
  simp at hu
  subst hu
  rfl
theorem Zja (w:World) (B rb:Nat) (st:RS) (h:IsRx w B rb st) (hb:RBd st) :
    Calls Tryz.prog 172 #[.pointer (some ⟨rb,0,none⟩)] w fun e w'=>e = .returned (.tuple #[])∧IsRx w' B rb (Zaw st)∧Held B w w':=by
  obtain ⟨V,Sa,Sb,vs,xs,h⟩:=h
  have hrb:=Zac h.blk
  have hBw:B≤w.heap.size:=by have:=h.le; omega
  obtain ⟨c0,c1,c2,c3,c4,c5,c6,c7,c8⟩:=h.opens.facts
  have hf:=fun i=>Zae h.blk i
  obtain ⟨aa,acap,hva⟩:=Zad h.rest.atom
  obtain ⟨ba,bcap,hvb⟩:=Zad h.rest.body.1
  have hlb:=hb.body
  have hbr:=h.rest.body.1
  rw [hvb] at hbr c6
  rw [hva] at c3
  obtain ⟨ha,hac,hvh⟩:=Zad h.rest.head.1
  rw [hvh] at c5
  have H:=Zaa h
  have Hbr:=Zaa hbr
  have Hva:=Zaa hva
  have Hvb:=Zaa hvb
  cases hin:st.inBody
  · rw [hin] at c2
    have He:Hid (Zaw st = { st with head:=st.atom,atom:=[] }):=by show _=_; simp [Zaw,hin]
    clear h hva hvb hbr hvh hin
    go_enter Tryz.func172,Tryz.ntmps172
    go_wp2
    go_end0
    have hk:Kept (Zes rb (.slice none 0 0)) w ((w.setCell ⟨rb,5,none⟩ (.slice aa st.atom.length acap)).setCell ⟨rb,3,none⟩ (.slice none 0 0)):=Zdo (Zdo (Qx _ w) 5 _) 3 _
    have hblk:((w.setCell ⟨rb,5,none⟩ (.slice aa st.atom.length acap)).setCell ⟨rb,3,none⟩ (.slice none 0 0)).heap[rb]?=some (.cells (Zde { st with head:=st.atom,atom:=[] } { V with h:=V.a,a := .slice none 0 0 }) 169 (0,0)):=by
      rw [Zai (Zai H.out.blk 5 _) 3 _]
      simp [Zde,Hva.out]
    rw [He.out]
    exact ⟨rfl,⟨_,_,_,_,_,H.out.headed hk hblk⟩,H.out.below hk (World.ownsRow_nil w B 169 1) (by decide)⟩
  · rw [hin] at c2
    have He:Hid (Zaw st = { st with body:=st.body++[st.atom],atom:=[] }):=by show _=_; simp [Zaw,hin]
    clear h hva hvb hbr hvh hin
    go_enter Tryz.func172,Tryz.ntmps172
    go_wp2_with fail
    go_region_law (refine Zch (w.drewN 1) rfl (.tmp 11) (.tmp 16) 85 rfl B 105 Tryz.infoSyms Tryz.underlying85 rfl (by decide) (.slice ba st.body.length bcap) st.body.length vs rfl Hbr.out #[.slice aa st.atom.length acap] rfl (by simp) rfl (Zec _ _ _) (by omega) (by simp; omega) rfl ?_; intro v' w2 hap; obtain ⟨b1,b1cap,rfl⟩:=Zad hap.owns; have hblk1:=Zfl hap.kept H.out.blk (Zah Hbr.out (by decide) H.out.blk); have d3:w2.cell? ⟨rb,3,none⟩=some V.a:=Zab hblk1 3 _ rfl; have d6:w2.cell? ⟨rb,6,none⟩=some V.b:=Zab hblk1 6 _ rfl; have df:=fun i=>Zae hblk1 i; have Hap:=Zaa hap; have Hblk1:=Zaa hblk1; clear hap hblk1)
    all_goals
      rw [Hva.out] at d3
      rw [Hvb.out] at d6
      go_wp2
      go_end0
      have hk:Kept (Zes rb V.b) w ((w2.setCell ⟨rb,6,none⟩ (.slice b1 (st.body.length+1) b1cap)).setCell ⟨rb,3,none⟩ (.slice none 0 0)):=by
        rw [Hvb.out]
        exact Zdo (Zgr (((Qx _ w).drewN _).trans Hap.out.kept) 6 _) 3 _
      have hblk:((w2.setCell ⟨rb,6,none⟩ (.slice b1 (st.body.length+1) b1cap)).setCell ⟨rb,3,none⟩ (.slice none 0 0)).heap[rb]?=some (.cells (Zde { st with body:=st.body++[st.atom],atom:=[] } { V with b := .slice b1 (st.body.length+1) b1cap,a := .slice none 0 0 }) 169 (0,0)):=by
        rw [Zai (Zai Hblk1.out 6 _) 3 _]
        simp [Zde]
      have hrow:((w2.setCell ⟨rb,6,none⟩ (.slice b1 (st.body.length+1) b1cap)).setCell ⟨rb,3,none⟩ (.slice none 0 0)).ownsRow B 105 1 (.slice b1 (st.body.length+1) b1cap) (st.body.length+1) (vs++[V.a]):=by
        have h2:=Hap.out.owns
        have h3:=(((Qx (only rb) w2).put 6 (.slice b1 (st.body.length+1) b1cap)).put 3 (.slice none 0 0)).owns h2 (fun k hko e=>by
          have e:k=rb:=e
          rw [e] at hko
          exact Zah h2 (by decide) Hblk1.out hko)
        rw [Hva.out]
        simpa using h3
      have htb:∀ k,(Value.slice b1 (st.body.length+1) b1cap).ownBlock=some k→Sb≤k:=by
        intro k hk
        rcases Hap.out.where_ with hw | ⟨g,hw,hg⟩
        · exact H.out.rest.tb k (by rw [Hvb.out,← hw]; exact hk)
        · rw [hk] at hw
          simp at hw
          have:=H.out.rest.lb
          have hg':w.heap.size≤g:=by simpa using hg
          omega
      rw [He.out]
      exact ⟨rfl,⟨_,_,_,_,_,H.out.bodied hk _ hblk hrow htb⟩,H.out.below hk H.out.rest.body.1 (by decide)⟩
end Go.Proofs.YtlmjilpjmgjjcaaGreatDoor
namespace Go.Proofs.YtlmjilpjmgjjcaaGreatDoor
open Go.RowKit
set_option linter.unusedSimpArgs false
set_option linter.unusedVariables false
theorem IsRx.next {w:World} {B rb:Nat} {st:RS} (h:IsRx w B rb st) (n:Nat):IsRx (w.setCell ⟨rb,1,none⟩ (.int .i64 n)) B rb { st with next:=n }∧Held B w (w.setCell ⟨rb,1,none⟩ (.int .i64 n)):=by
  obtain ⟨V,Sa,Sb,vs,xs,h⟩:=h
  have hk:Kept (Zes rb (.slice none 0 0)) w (w.setCell ⟨rb,1,none⟩ (.int .i64 n)):=Zdo (Qx _ w) 1 _
  exact ⟨⟨V,Sa,Sb,vs,xs,h.only hk { st with next:=n } (Zai h.blk 1 _) rfl rfl rfl rfl rfl rfl⟩,h.below hk (World.ownsRow_nil w B 169 1) (by decide)⟩
theorem IsRx.inb {w:World} {B rb:Nat} {st:RS} (h:IsRx w B rb st) (b:Bool):IsRx (w.setCell ⟨rb,2,none⟩ (.bool b)) B rb { st with inBody:=b }∧Held B w (w.setCell ⟨rb,2,none⟩ (.bool b)):=by
  obtain ⟨V,Sa,Sb,vs,xs,h⟩:=h
  have hk:Kept (Zes rb (.slice none 0 0)) w (w.setCell ⟨rb,2,none⟩ (.bool b)):=Zdo (Qx _ w) 2 _
  exact ⟨⟨V,Sa,Sb,vs,xs,h.only hk { st with inBody:=b } (Zai h.blk 2 _) rfl rfl rfl rfl rfl rfl⟩,h.below hk (World.ownsRow_nil w B 169 1) (by decide)⟩
theorem IsRx.cells {w:World} {B rb:Nat} {st:RS} (h:IsRx w B rb st):rb<w.heap.size∧w.cell? ⟨rb,0,none⟩=some (.bool st.query)∧w.cell? ⟨rb,1,none⟩=some (.int .i64 st.next)∧w.cell? ⟨rb,2,none⟩=some (.bool st.inBody) ∧
    (∃ oa oc,w.cell? ⟨rb,4,none⟩=some (.slice oa st.opn.length oc))∧∀ i,w.frozen? ⟨rb,i,none⟩=false:=by
  obtain ⟨V,Sa,Sb,vs,xs,h⟩:=h
  obtain ⟨c0,c1,c2,c3,c4,c5,c6,c7,c8⟩:=h.opens.facts
  obtain ⟨oa,oc,hvo⟩:=Zad h.rest.opn
  rw [hvo] at c4
  exact ⟨Zac h.blk,c0,c1,c2,⟨oa,oc,c4⟩,fun i=>Zae h.blk i⟩
def Zgc (st:RS):RS:=if st.opn.isEmpty then { Zaw st with next:=1 } else { st with next:=2 }
theorem Yae (w:World) (B rb:Nat) (st:RS) (h:IsRx w B rb st) (hb:RBd st) :
    Calls Tryz.prog 171 #[.pointer (some ⟨rb,0,none⟩)] w fun e w'=>e = .returned (.tuple #[])∧IsRx w' B rb (Zgc st)∧Held B w w':=by
  obtain ⟨hrb,c0,c1,c2,⟨oa,oc,c4⟩,hf⟩:=h.cells
  have hl:=hb.opn
  have H:=Zaa h
  have HE:=Zaa (Zja w B rb st h hb)
  cases hst:st.opn with
  | nil =>
    simp only [hst,Qt] at c4
    have Hc:Hid (Zgc st = { Zaw st with next:=1 }):=by show _=_; simp [Zgc,hst]
    clear h hst
    go_enter Tryz.func171,Tryz.ntmps171
    go_wp2_with fail
    refine HE.out.mono ?_
    rintro e w1 ⟨rfl,h1,hB1⟩
    obtain ⟨hrb1,d0,d1,d2,_,df⟩:=h1.cells
    have H1:=Zaa h1
    have HB1:=Zaa hB1
    clear h1 hB1 c0 c1 c2 c4 hf
    go_wp2
    go_end0
    obtain ⟨hR,hB⟩:=H1.out.next 1
    rw [Hc.out]
    exact ⟨rfl,hR,HB1.out.trans hB⟩
  | cons n r =>
    have hrl:r.length+1≤4096:=by rw [hst] at hl; simpa using hl
    simp only [hst,Qf] at c4
    have Hc:Hid (Zgc st = { st with next:=2 }):=by show _=_; simp [Zgc,hst]
    clear h hst
    go_enter Tryz.func171,Tryz.ntmps171
    go_wp2
    refine bodyPost_ret (results_none rfl _ _ _) rfl ?_
    obtain ⟨hR,hB⟩:=H.out.next 2
    rw [Hc.out]
    exact ⟨rfl,hR,hB⟩
def Zas (st:RS):RS := { st with clauses:=st.clauses++[⟨st.head,st.body,st.vars⟩],head:=[],body:=[],vars:=[],inBody:=false,next:=if st.query then 5 else 0 }
theorem Ydk (a b c:Option Addr) (n m k x y z:Nat):∀ u ∈ (#[Value.slice a n x,.slice b m y,.slice c k z]:Array Value).toList,u.oneCell'=true:=by
  intro u hu
  simp at hu
  rcases hu with rfl | rfl | rfl <;> rfl
def Zof (w:World) (rb:Nat) (c:Value):World:=(((((w.setCell ⟨rb,8,none⟩ c).setCell ⟨rb,5,none⟩ (.slice none 0 0)).setCell ⟨rb,6,none⟩ (.slice none 0 0)).setCell ⟨rb,7,none⟩ (.slice none 0 0)).setCell ⟨rb,2,none⟩ (.bool false)).setCell ⟨rb,1,none⟩ (.int .i64 0)
theorem Zth {w w2:World} {B rb nd:Nat} {st:RS} {V:RV} {Sa Sb:Nat} {vs:List Value} {xs:List (List Value)} {a1:Option Addr} {a1cap:Nat} (H:IsR w B rb st V Sa Sb vs xs)
    (hap:Appended (w.drewN nd) B 107 3 V.c (st.clauses.length+1) (xs.flatten++[V.h,V.b,V.v]) (.slice a1 (st.clauses.length+1) a1cap) w2) :
    IsRx (Zof w2 rb (.slice a1 (st.clauses.length+1) a1cap)) B rb { Zas st with next:=0 }∧Held B w (Zof w2 rb (.slice a1 (st.clauses.length+1) a1cap)):=by
  have hblk1:=Zfl hap.kept H.blk (Zah H.rest.cls.1 (by decide) H.blk)
  have hk:Kept (Zes rb V.c) w (Zof w2 rb (.slice a1 (st.clauses.length+1) a1cap)) :=
    Zdo (Zdo (Zdo (Zdo (Zdo (Zgr (((Qx _ w).drewN _).trans hap.kept) 8 _) 5 _) 6 _) 7 _) 2 _) 1 _
  have hblk:(Zof w2 rb (.slice a1 (st.clauses.length+1) a1cap)).heap[rb]?=some (.cells (Zde { Zas st with next:=0 } { V with c := .slice a1 (st.clauses.length+1) a1cap,h := .slice none 0 0,b := .slice none 0 0,v := .slice none 0 0 }) 169 (0,0)):=by
    unfold Zof
    rw [Zai (Zai (Zai (Zai (Zai (Zai hblk1 8 _) 5 _) 6 _) 7 _) 2 _) 1 _]
    simp [Zde,Zas]
  have hrow:(Zof w2 rb (.slice a1 (st.clauses.length+1) a1cap)).ownsRow B 107 3 (.slice a1 (st.clauses.length+1) a1cap) (st.clauses.length+1) (xs.flatten++[V.h,V.b,V.v]):=by
    have h2:=hap.owns
    exact ((((((((Qx (only rb) w2).put 8 _).put 5 _).put 6 _).put 7 _).put 2 _).put 1 _)).owns h2 (fun k hko e=>by
      have e:k=rb:=e
      rw [e] at hko
      exact Zah h2 (by decide) hblk1 hko)
  exact ⟨⟨_,_,_,_,_,H.clausd hk _ { Zas st with next:=0 } hblk hrow rfl rfl rfl rfl rfl rfl⟩,H.below hk H.rest.cls.1 (by decide)⟩
theorem Zpp (w:World) (B rb:Nat) (st:RS) (h:IsRx w B rb st) (hb:RBd st) :
    Calls Tryz.prog 173 #[.pointer (some ⟨rb,0,none⟩)] w fun e w'=>e = .returned (.tuple #[])∧IsRx w' B rb (Zas st)∧Held B w w':=by
  obtain ⟨V,Sa,Sb,vs,xs,h⟩:=h
  have hrb:=Zac h.blk
  have hBw:B≤w.heap.size:=by have:=h.le; omega
  obtain ⟨c0,c1,c2,c3,c4,c5,c6,c7,c8⟩:=h.opens.facts
  have hf:=fun i=>Zae h.blk i
  obtain ⟨ca,ccap,hvc⟩:=Zad h.rest.cls.1
  obtain ⟨ha,hac,hvh⟩:=Zad h.rest.head.1
  obtain ⟨ba,bcap,hvb⟩:=Zad h.rest.body.1
  obtain ⟨va,vcap,hvv⟩:=Zad h.rest.vars
  have hlc:=hb.cls
  have hcr:=h.rest.cls.1
  rw [hvc] at hcr c8
  rw [hvh] at c5
  rw [hvb] at c6
  rw [hvv] at c7
  have H:=Zaa h
  have Hcr:=Zaa hcr
  have Hvh:=Zaa hvh
  have Hvb:=Zaa hvb
  have Hvc:=Zaa hvc
  have Hvv:=Zaa hvv
  cases hq:st.query
  all_goals
    rw [hq] at c0
    have Hq:=Zaa hq
    clear h hvc hvh hvb hvv hcr hq
    go_enter Tryz.func173,Tryz.ntmps173
    go_wp2_with fail
    go_region_law (refine Zch (w.drewN 1) rfl (.tmp 6) (.tmp 11) 104 rfl B 107 Tryz.infoCls Tryz.underlying104 rfl (by decide) (.slice ca st.clauses.length ccap) st.clauses.length xs.flatten rfl Hcr.out #[.slice ha st.head.length hac,.slice ba st.body.length bcap,.slice va st.vars.length vcap] rfl (by simp) rfl (Ydk _ _ _ _ _ _ _ _ _) (by omega) (by simp; omega) rfl ?_; intro v' w2 hap; obtain ⟨c1',c1cap,rfl⟩:=Zad hap.owns; have hblk1:=Zfl hap.kept H.out.blk (Zah Hcr.out (by decide) H.out.blk); have d0:w2.cell? ⟨rb,0,none⟩=some (.bool st.query):=Zab hblk1 0 _ rfl; have d1:w2.cell? ⟨rb,1,none⟩=some (.int .i64 st.next):=Zab hblk1 1 _ rfl; have d2:w2.cell? ⟨rb,2,none⟩=some (.bool st.inBody):=Zab hblk1 2 _ rfl; have d5:w2.cell? ⟨rb,5,none⟩=some V.h:=Zab hblk1 5 _ rfl; have d6:w2.cell? ⟨rb,6,none⟩=some V.b:=Zab hblk1 6 _ rfl; have d7:w2.cell? ⟨rb,7,none⟩=some V.v:=Zab hblk1 7 _ rfl; have d8:w2.cell? ⟨rb,8,none⟩=some V.c:=Zab hblk1 8 _ rfl; have df:=fun i=>Zae hblk1 i; have Hap:=Zaa hap; have Hblk1:=Zaa hblk1; clear hap hblk1)
  all_goals
    rw [Hvh.out] at d5; rw [Hvb.out] at d6; rw [Hvv.out] at d7; rw [Hvc.out] at d8; rw [Hq.out] at d0
    go_wp2
    go_end0
    have hap:=Hap.out
    rw [← Hvh.out,← Hvb.out,← Hvv.out,← Hvc.out] at hap
    obtain ⟨hR,hB⟩:=Zth H.out hap
    first
    | (have He:Zas st = { Zas st with next:=0 }:=by simp [Zas,Hq.out]
       rw [He]
       exact ⟨rfl,hR,hB⟩)
    | (have He:Zas st = { { Zas st with next:=0 } with next:=5 }:=by simp [Zas,Hq.out]
       obtain ⟨hR5,hB5⟩:=hR.next 5
       rw [He]
       exact ⟨rfl,hR5,hB.trans hB5⟩)
def Zbp (st:RS) (kd:Nat) (t:List UInt8):RS :=
 if kd=1 then { addS st ⟨t,0,0⟩ with next:=3 }
 else if kd=2 then { addS (varS st t) ⟨[],(Zbl st.vars t).2,0⟩ with next:=4 }
 else if kd=3 then { st with opn:=(st.atom.length - 1)::st.opn,next:=2 }
 else if kd=4 then { Zis st with next:=4 }
 else if kd=5 then Zgc st
 else if kd=7 then { Zaw st with inBody:=true,next:=1 }
 else if kd=6 then Zas (Zaw st)
 else st
theorem Yaf (w:World) (B rb:Nat) (st:RS) (s:Sym) (h:IsRx w B rb st) (hb:RBd st) (ho:∀ n ∈ st.opn,n<st.atom.length) :
  Calls Tryz.prog 168 #[.pointer (some ⟨rb,0,none⟩),.agg #[.string ⟨s.name.toArray⟩,.int .i64 s.num,.int .i64 s.args]] w fun e w'=>e = .returned (.tuple #[])∧IsRx w' B rb (addS st s)∧Held B w w':=by
 cases hst:st.opn with
 | nil=>exact Ygo w B rb st s h hb hst
 | cons n r=>exact Yik w B rb st s n r h hb hst (ho n (by simp [hst]))
theorem take1 (w:World) (B rb:Nat) (st:RS) (t:List UInt8) (h:IsRx w B rb st) (hb:RBd st) (ho:∀ n ∈ st.opn,n<st.atom.length) :
  Calls Tryz.prog 132 #[.pointer (some ⟨rb,0,none⟩),.int .i64 1,.string ⟨t.toArray⟩] w fun e w'=>e = .returned (.tuple #[])∧IsRx w' B rb (Zbp st 1 t)∧Held B w w':=by
 have HA:=Zaa (Yaf w B rb st ⟨t,0,0⟩ h hb ho)
 clear h ho
 go_enter Tryz.func132,Tryz.ntmps132
 go_wp2_with fail
 refine HA.out.mono ?_
 rintro e w1 ⟨rfl,h1,hB1⟩
 obtain ⟨hrb1,d0,d1,d2,_,df⟩:=h1.cells
 have H1:=Zaa h1
 have HB1:=Zaa hB1
 clear h1 hB1
 go_wp2
 go_end0
 obtain ⟨hR,hB⟩:=H1.out.next 3
 exact ⟨rfl,hR,HB1.out.trans hB⟩
theorem take2 (w:World) (B rb:Nat) (st:RS) (t:List UInt8) (h:IsRx w B rb st) (hb:RBd st) (hv:st.vars.length≤4096) (ho:∀ n ∈ st.opn,n<st.atom.length) :
  Calls Tryz.prog 132 #[.pointer (some ⟨rb,0,none⟩),.int .i64 2,.string ⟨t.toArray⟩] w fun e w'=>e = .returned (.tuple #[])∧IsRx w' B rb (Zbp st 2 t)∧Held B w w':=by
 have HV:=Zaa (Zrm w B rb st t h hv)
 have Hb:=Zaa hb
 have Ho:=Zaa ho
 clear h ho
 go_enter Tryz.func132,Tryz.ntmps132
 go_wp2_with fail
 refine HV.out.mono ?_
 rintro e w0 ⟨rfl,h0,hB0⟩
 have HA:=Zaa (Yaf w0 B rb (varS st t) ⟨[],(Zbl st.vars t).2,0⟩ h0 ⟨Hb.out.opn,Hb.out.atom,Hb.out.body,Hb.out.cls,Hb.out.args⟩ Ho.out)
 have HB0:=Zaa hB0
 clear h0 hB0
 go_wp2_with fail
 refine HA.out.mono ?_
 rintro e w1 ⟨rfl,h1,hB1⟩
 obtain ⟨hrb1,d0,d1,d2,_,df⟩:=h1.cells
 have H1:=Zaa h1
 have HB1:=Zaa hB1
 clear h1 hB1
 go_wp2
 go_end0
 obtain ⟨hR,hB⟩:=H1.out.next 4
 exact ⟨rfl,hR,HB0.out.trans (HB1.out.trans hB)⟩
theorem take4 (w:World) (B rb:Nat) (st:RS) (t:List UInt8) (h:IsRx w B rb st) (hb:RBd st) :
  Calls Tryz.prog 132 #[.pointer (some ⟨rb,0,none⟩),.int .i64 4,.string ⟨t.toArray⟩] w fun e w'=>e = .returned (.tuple #[])∧IsRx w' B rb (Zbp st 4 t)∧Held B w w':=by
 have HA:=Zaa (Yab w B rb st h hb.opn)
 clear h
 go_enter Tryz.func132,Tryz.ntmps132
 go_wp2_with fail
 refine HA.out.mono ?_
 rintro e w1 ⟨rfl,h1,hB1⟩
 obtain ⟨hrb1,d0,d1,d2,_,df⟩:=h1.cells
 have H1:=Zaa h1
 have HB1:=Zaa hB1
 clear h1 hB1
 go_wp2
 go_end0
 obtain ⟨hR,hB⟩:=H1.out.next 4
 exact ⟨rfl,hR,HB1.out.trans hB⟩
theorem take5 (w:World) (B rb:Nat) (st:RS) (t:List UInt8) (h:IsRx w B rb st) (hb:RBd st) :
  Calls Tryz.prog 132 #[.pointer (some ⟨rb,0,none⟩),.int .i64 5,.string ⟨t.toArray⟩] w fun e w'=>e = .returned (.tuple #[])∧IsRx w' B rb (Zbp st 5 t)∧Held B w w':=by
 have HA:=Zaa (Yae w B rb st h hb)
 clear h
 go_enter Tryz.func132,Tryz.ntmps132
 go_wp2_with fail
 refine HA.out.mono ?_
 rintro e w1 ⟨rfl,h1,hB1⟩
 have H1:=Zaa h1
 have HB1:=Zaa hB1
 clear h1 hB1
 go_wp2
 go_end0
 exact ⟨rfl,H1.out,HB1.out⟩
theorem take7 (w:World) (B rb:Nat) (st:RS) (t:List UInt8) (h:IsRx w B rb st) (hb:RBd st) :
  Calls Tryz.prog 132 #[.pointer (some ⟨rb,0,none⟩),.int .i64 7,.string ⟨t.toArray⟩] w fun e w'=>e = .returned (.tuple #[])∧IsRx w' B rb (Zbp st 7 t)∧Held B w w':=by
 have HA:=Zaa (Zja w B rb st h hb)
 clear h
 go_enter Tryz.func132,Tryz.ntmps132
 go_wp2_with fail
 refine HA.out.mono ?_
 rintro e w1 ⟨rfl,h1,hB1⟩
 obtain ⟨hrb1,d0,d1,d2,_,df⟩:=h1.cells
 have H1:=Zaa h1
 have HB1:=Zaa hB1
 clear h1 hB1
 go_wp2
 go_end0
 obtain ⟨hR,hB⟩:=H1.out.inb true
 obtain ⟨hR2,hB2⟩:=hR.next 1
 exact ⟨rfl,hR2,HB1.out.trans (hB.trans hB2)⟩
theorem RBd.endAtom {st:RS} (hb:RBd st) (h:st.body.length+1≤4096):RBd (Zaw st):=by
 unfold Zaw
 split
 ·exact ⟨hb.opn,by simp,by simpa using h,hb.cls,by simp⟩
 ·exact ⟨hb.opn,by simp,hb.body,hb.cls,by simp⟩
theorem take6 (w:World) (B rb:Nat) (st:RS) (t:List UInt8) (h:IsRx w B rb st) (hb:RBd st) (hbd:st.body.length+1≤4096) :
  Calls Tryz.prog 132 #[.pointer (some ⟨rb,0,none⟩),.int .i64 6,.string ⟨t.toArray⟩] w fun e w'=>e = .returned (.tuple #[])∧IsRx w' B rb (Zbp st 6 t)∧Held B w w':=by
 have HA:=Zaa (Zja w B rb st h hb)
 have Hb:=Zaa (hb.endAtom hbd)
 clear h
 go_enter Tryz.func132,Tryz.ntmps132
 go_wp2_with fail
 refine HA.out.mono ?_
 rintro e w1 ⟨rfl,h1,hB1⟩
 have HC:=Zaa (Zpp w1 B rb (Zaw st) h1 Hb.out)
 have HB1:=Zaa hB1
 clear h1 hB1
 go_wp2_with fail
 refine HC.out.mono ?_
 rintro e w2 ⟨rfl,h2,hB2⟩
 have H2:=Zaa h2
 have HB2:=Zaa hB2
 clear h2 hB2
 go_wp2
 go_end0
 exact ⟨rfl,H2.out,HB1.out.trans HB2.out⟩
theorem take3 (w:World) (B rb:Nat) (st:RS) (t:List UInt8) (h:IsRx w B rb st) (hb:RBd st) (hne:0<st.atom.length) :
  Calls Tryz.prog 132 #[.pointer (some ⟨rb,0,none⟩),.int .i64 3,.string ⟨t.toArray⟩] w fun e w'=>e = .returned (.tuple #[])∧IsRx w' B rb (Zbp st 3 t)∧Held B w w':=by
 obtain ⟨V,Sa,Sb,vs,xs,h⟩:=h
 have hrb:=Zac h.blk
 have hBw:B≤w.heap.size:=by have:=h.le; omega
 obtain ⟨c0,c1,c2,c3,c4,c5,c6,c7,c8⟩:=h.opens.facts
 have hf:=fun i=>Zae h.blk i
 obtain ⟨aa,acap,hva⟩:=Zad h.rest.atom
 obtain ⟨oa,ocap,hvo⟩:=Zad h.rest.opn
 have hlo:=hb.opn
 have hla:=hb.atom
 have hor:=h.rest.opn
 rw [hvo] at hor c4
 rw [hva] at c3
 have H:=Zaa h
 have Hor:=Zaa hor
 have Hvo:=Zaa hvo
 have hcast:IntKind.i64.wrap (((st.atom.length:Nat):Int) - 1)=((st.atom.length - 1:Nat):Int):=by rw [IntKind.wrap_i64]; omega
 clear h hva hvo hor
 go_enter Tryz.func132,Tryz.ntmps132
 go_wp2_with fail
 go_region_law (refine Zch (w.drewN 1) rfl (.tmp 35) (.tmp 42) 25 rfl B 3 Tryz.infoInt Tryz.underlying25 rfl (by decide) (.slice oa st.opn.length ocap) st.opn.length (ints st.opn.reverse) rfl Hor.out #[.int .i64 ((st.atom.length - 1:Nat):Int)] rfl (by simp) rfl (Ziv _) (by omega) (by simp; omega) rfl ?_; intro v' w2 hap; obtain ⟨o1,o1cap,rfl⟩:=Zad hap.owns; have hblk1:=Zfl hap.kept H.out.blk (Zah Hor.out (by decide) H.out.blk); have d1:w2.cell? ⟨rb,1,none⟩=some (.int .i64 st.next):=Zab hblk1 1 _ rfl; have d4:w2.cell? ⟨rb,4,none⟩=some V.o:=Zab hblk1 4 _ rfl; have df:=fun i=>Zae hblk1 i; have Hap:=Zaa hap; have Hblk1:=Zaa hblk1; clear hap hblk1)
 all_goals
  rw [Hvo.out] at d4
  go_wp2
  go_end0
  have hk:Kept (Zes rb V.o) w (w2.setCell ⟨rb,4,none⟩ (.slice o1 (st.opn.length+1) o1cap)):=by
   rw [Hvo.out]
   exact Zgr (((Qx _ w).drewN _).trans Hap.out.kept) 4 _
  have hrow:(w2.setCell ⟨rb,4,none⟩ (.slice o1 (st.opn.length+1) o1cap)).ownsRow B 3 1 (.slice o1 (st.opn.length+1) o1cap) ((st.atom.length - 1)::st.opn).length (ints ((st.atom.length - 1)::st.opn).reverse):=by
   have h2:=Hap.out.owns
   have h3:=((Qx (only rb) w2).put 4 (.slice o1 (st.opn.length+1) o1cap)).owns h2 (fun k hko e=>by
    have e:k=rb:=e
    rw [e] at hko
    exact Zah h2 (by decide) Hblk1.out hko)
   simpa [ints,hcast] using h3
  have hR:=H.out.opened hk ((st.atom.length - 1)::st.opn) (.slice o1 (st.opn.length+1) o1cap) (Zai Hblk1.out 4 _) hrow
  have hB:=H.out.below hk H.out.rest.opn (by decide)
  obtain ⟨hR2,hB2⟩:=IsRx.next ⟨_,Sa,Sb,vs,xs,hR⟩ 2
  exact ⟨rfl,hR2,hB.trans hB2⟩
structure TakeOk (st:RS) (kd:Nat):Prop where
 bd:RBd st
 vars:st.vars.length≤4096
 body:st.body.length+1≤4096
 opn:∀ n ∈ st.opn,n<st.atom.length
 lo:1≤kd
 hi:kd≤7
 bracket:kd=3→0<st.atom.length
theorem Ydl (w:World) (B rb:Nat) (st:RS) (kd:Nat) (t:List UInt8) (h:IsRx w B rb st) (hk:TakeOk st kd) :
  Calls Tryz.prog 132 #[.pointer (some ⟨rb,0,none⟩),.int .i64 kd,.string ⟨t.toArray⟩] w fun e w'=>e = .returned (.tuple #[])∧IsRx w' B rb (Zbp st kd t)∧Held B w w':=by
 obtain ⟨bd,vars,body,opn,lo,hi,bracket⟩:=hk
 have hc:kd=1∨kd=2∨kd=3∨kd=4∨kd=5∨kd=6∨kd=7:=by omega
 rcases hc with rfl | rfl | rfl | rfl | rfl | rfl | rfl
 ·exact take1 w B rb st t h bd opn
 ·exact take2 w B rb st t h bd vars opn
 ·exact take3 w B rb st t h bd (bracket rfl)
 ·exact take4 w B rb st t h bd
 ·exact take5 w B rb st t h bd
 ·exact take6 w B rb st t h bd body
 ·exact take7 w B rb st t h bd
theorem Yag (f gn:Nat) (w:World) (ts:List Tok) (k:Nat) (ki:Int) (tv:Value) (Bt B:Nat) (names:Names) (nv:Value) (q:List (List Sym) × List Tok × Names) (hki:ki=(k:Int))
  (hq:Zdc f gn (ts.drop k) names []=some q) (hts:w.ownsRow Bt 243 3 tv ts.length (Zbc ts)) (hnv:w.ownsRow B 9 1 nv names.length (strs names)) (hB:B≤w.heap.size)
  (hl:ts.length≤1000) (hn:names.length+(ts.length - k)≤1000) (htx:∀ t ∈ ts,t.text.length≤4096) (htn:∀ i t,ts[i]?=some t→i+1<ts.length→t.text≠[]) :
  Calls Tryz.prog 144 #[tv,.int .i64 ki,nv] w fun e w'=>∃ lv nv' j xs,e = .returned (.tuple #[lv,.int .i64 (j:Nat),nv'])∧q.2.1=ts.drop j∧k<j∧j≤ts.length ∧
   Kids f w' w.heap.size lv q.1 xs∧Appended w B 9 1 nv q.2.2.length (strs q.2.2) nv' w':=by
 subst hki
 exact Zrd f gn w ts k tv Bt B names nv q hq hts hnv hB hl hn htx htn
theorem Zll (s:ByteArray) (w:World) (hm:s.size≤maxLen) (hs:800<s.size) :
  Calls Tryz.prog 106 #[.string s] w fun e w'=>e = .returned (.tuple #[.slice none 0 0,.int .i64 1,.int .i64 0])∧Below w.heap.size w w':=by
 unfold maxLen at hm
 go_enter Tryz.func106,Tryz.ntmps106
 go_wp2
 go_ret3
 exact ⟨rfl,Below.refl _ _⟩
theorem Zmh (s:ByteArray) (w:World) (hs:s.size≤800) (he:(Zcx (Zav s) (Zbd false)).1≠0) :
  Calls Tryz.prog 106 #[.string s] w fun e w'=>e = .returned (.tuple #[.slice none 0 0,.int .i64 (Zcx (Zav s) (Zbd false)).1,.int .i64 (Zcx (Zav s) (Zbd false)).2])∧Below w.heap.size w w':=by
 have he':(((Zcx (Zav s) (Zbd false)).1:Int) != 0)=true:=by rw [bne_iff_ne]; omega
 go_enter Tryz.func106,Tryz.ntmps106
 go_wp2_with fail
 refine (Zih s _ (by omega)).mono ?_
 rintro e w1 ⟨v,rfl,hb1,hts⟩
 have Hts:=Zaa hts
 have Hb1:=Zaa hb1
 clear hts hb1
 go_wp2_with fail
 refine (Zlb w1 _ s v (by omega) Hts.out).mono ?_
 rintro e w2 ⟨rfl,hb2⟩
 have Hb2:=Zaa hb2
 clear hb2
 go_wp2
 go_ret3
 exact ⟨rfl,Hb1.out.trans (Hb2.out.mono Hb1.out.size)⟩
theorem Znl (s:ByteArray) (w:World) (cs:List Cls) (hs:s.size≤800) (he:(Zcx (Zav s) (Zbd false)).1=0) (hq:Zhl 1000 (Zav s) []=some cs) :
  Calls Tryz.prog 106 #[.string s] w fun e w'=>∃ lv xs,e = .returned (.tuple #[lv,.int .i64 0,.int .i64 0])∧ClsRow w' w.heap.size lv cs xs∧Below w.heap.size w w':=by
 have he':(((Zcx (Zav s) (Zbd false)).1:Int) != 0)=false:=by rw [he]; rfl
 have hal:=Zdt s
 have Hq:=Zaa hq
 have Htx:Hid (∀ t ∈ Zav s,t.text.length≤4096):=fun t ht=>by have:=Zek s t ht; omega
 have Htn:=Zaa (Zhu s)
 clear hq
 go_enter Tryz.func106,Tryz.ntmps106
 go_wp2_with fail
 refine (Zih s _ (by omega)).mono ?_
 rintro e w1 ⟨v,rfl,hb1,hts⟩
 have Hts:=Zaa hts
 have Hb1:=Zaa hb1
 clear hts hb1
 go_wp2_with fail
 refine (Zlb w1 _ s v (by omega) Hts.out).mono ?_
 rintro e w2 ⟨rfl,hb2⟩
 have Hb12:=Zaa (Hb1.out.trans (hb2.mono Hb1.out.size))
 have Hts2:=Zaa (Znz hb2 Hts.out (Qe _))
 have hsz2:=Hb12.out.size
 obtain ⟨ta,tcap,rfl⟩:=Zad Hts2.out
 clear hb2 Hts Hb1
 generalize Zav s=ts at *
 go_wp2
 go_loopg [8,9] 1000 (fun gk lv i wr=>∃ (j:Nat) (acc:List Cls) (xs:List (List Value)),i = .int .i64 (j:Nat)∧j≤ts.length∧acc.length≤j∧Zhl gk (ts.drop j) acc=some cs ∧
   ClsRow wr w.heap.size lv acc xs∧Below w.heap.size w wr∧wr.ownsRow w.heap.size 243 3 (.slice ta ts.length tcap) ts.length (Zbc ts))
 case atStart=>exact ⟨0,[],[],rfl,by omega,by simp,Hq.out,ClsRow.nil _ _,Hb12.out,Hts2.out⟩
 case round =>
  obtain ⟨j,acc,xs,rfl,hj,haj,hpr,hrow,hbel,htsr⟩:=hrel
  obtain ⟨la,lcap,rfl⟩:=Zad hrow.owns
  cases hdj:ts.drop j with
  | nil=>rw [hdj] at hpr; cases gk <;> simp [Zhl] at hpr
  | cons x xr =>
   obtain ⟨hx,hxr,hxl⟩:=Zfr hdj
   obtain ⟨g,tcap',he2,hg2,x0,_,_⟩:=Zjr htsr hx
   simp only [Value.slice.injEq] at he2
   obtain ⟨rfl,_,rfl⟩:=he2
   cases gk with
   | zero=>simp [Zhl] at hpr
   | succ gk =>
    rw [hdj,Zhl] at hpr
    by_cases h4:x.kind=4
    ·rw [if_pos h4] at hpr
     simp only [Qo] at hpr
     have k4:((x.kind:Int) != 4)=false:=by rw [h4]; rfl
     have Hrow:=Zaa hrow
     have Hpr:=Zaa hpr
     clear hrow hpr hdj hx hxr htsr
     go_wp2
     go_ret3
     rw [← Hpr.out]
     exact ⟨_,xs,rfl,Hrow.out,hbel⟩
    ·rw [if_neg h4] at hpr
     have k4:((x.kind:Int) != 4)=true:=by rw [bne_iff_ne]; omega
     cases hpc:Zfv (x::xr) with
     | none=>rw [hpc] at hpr; simp at hpr
     | some cr =>
      rw [hpc] at hpr
      simp only at hpr
      rw [← hdj,Zfv] at hpc
      cases hpt:Zda 1000 (ts.drop j) [] with
      | none=>rw [hpt] at hpc; simp at hpc
      | some r =>
       rw [hpt] at hpc
       simp only at hpc
       obtain ⟨nb,hb1,hb2,hb3,hb4⟩:=Zdq 1000 _ [] r hpt
       simp only [List.length_drop,Qt] at hb2 hb4
       have hszr:=hbel.size
       have HI:=Zaa (Zvd 1000 wr ts j (.slice (some ⟨g,0,none⟩) ts.length tcap) w.heap.size wr.heap.size [] (.slice none 0 0) r hpt htsr (World.ownsRow_nil _ _ _ _) (Qe _) (by omega) (by simp; omega) Htx.out Htn.out)
       have Hrow:=Zaa hrow
       have Hpr:=Zaa hpr
       have Hpc:=Zaa hpc
       have Htsr:=Zaa htsr
       have Hb3:=Zaa hb3
       clear hrow hpr hpc htsr hdj hx hxr hpt hb3
       go_wp2_with fail
       refine HI.out.mono ?_
       rintro e w3 ⟨a,b,c,nv,j',rfl,hrest,hj1,hj2,hrep,hap⟩
       obtain ⟨sa,bn,ca,cl,cc,rfl,rfl,rfl⟩:=hrep.shape
       obtain ⟨na,ncap,rfl⟩:=Zad hap.owns
       have hkb:Kept Zbf wr w3:=hap.kept.mono (fun k _ h=>by simp [Zap,Value.ownBlock] at h)
       have hsz3:=hkb.size
       have hts3:=hkb.owns Htsr.out (fun _ _ h=>h)
       have Hts3:=Zaa hts3
       have Hkb:=Zaa hkb
       have Hrep:=Zaa hrep
       have Hap:=Zaa hap
       have Hrest:=Zaa hrest
       have hpc2:=Hpc.out
       rw [hrest] at hpc2
       cases hdj2:ts.drop j' with
       | nil=>rw [hdj2] at hpc2; simp at hpc2
       | cons y yr =>
        rw [hdj2] at hpc2
        simp only at hpc2
        obtain ⟨hy,hyr,hyl⟩:=Zfr hdj2
        obtain ⟨g',tcap',he2,hg3,y0,_,_⟩:=Zjr hts3 hy
        simp only [Value.slice.injEq,Qo,Addr.mk.injEq] at he2
        obtain ⟨⟨rfl,_⟩,_,rfl⟩:=he2
        have Hyr:=Zaa hyr
        clear hkb hts3 hrep hap hrest hdj2 hy hyr x0
        by_cases h3:y.kind=3
        ·rw [if_pos h3] at hpc2
         rw [Option.map_eq_some_iff] at hpc2
         obtain ⟨q,hq1,rfl⟩:=hpc2
         rw [h3] at y0
         have Hq1:=Zaa hq1
         clear hq1
         have Hnv:Hid (w3.ownsRow wr.heap.size 9 1 (.slice na r.2.2.length ncap) r.2.2.length (strs r.2.2)):=Hap.out.owns
         have hnb:r.2.2.length≤nb:=by omega
         have hj3:j'=j+nb:=by
          have h1:=congrArg List.length Hrest.out
          rw [Hb3.out] at h1
          simp only [List.length_drop] at h1
          omega
         have hnn:r.2.2.length+(ts.length - (j'+1))≤1000:=by omega
         clear hj3
         go_wp2_with fail
         refine (Yag 1000 1000 _ ts (j'+1) _ (.slice (some ⟨g,0,none⟩) ts.length tcap) w.heap.size wr.heap.size r.2.2 (.slice na r.2.2.length ncap) q (by omega) (by rw [Hyr.out]; exact Hq1.out) ((Hts3.out.alloc _).alloc _) ((Hnv.out.alloc _).alloc _) (by simp; omega) (by omega) hnn Htx.out Htn.out).mono ?_
         rintro e w5 ⟨bv,nv2,j2,ys,rfl,hrest2,hj5,hj6,hkids,hap5⟩
         obtain ⟨ba,bcap,rfl⟩:=Zad hkids.owns
         obtain ⟨n2a,n2cap,rfl⟩:=Zad hap5.owns
         have hN:∀ o o',((w3.alloc o).alloc o').heap[w3.heap.size+1]?=some o':=fun o o'=>by
          have:=heap_alloc_new (w3.alloc o) o'
          simpa using this
         have hN':=hN (.cells #[.string sa,.int .i64 bn,.slice ca cl cc] 183) (.cells #[.string sa,.int .i64 bn,.slice ca cl cc,.slice none 0 0,.int .i64 0] 185)
         have hsz5:=hap5.kept.size
         simp only [World.alloc,Array.size_push] at hsz5
         have hblk5:w5.heap[w3.heap.size+1]?=some (.cells #[.string sa,.int .i64 bn,.slice ca cl cc,.slice none 0 0,.int .i64 0] 185 (0,0)) :=
          (hap5.kept.block (w3.heap.size+1) (by simp) (Zah ((Hnv.out.alloc _).alloc _) (by decide) hN')).trans hN'
         have z3:w5.cell? ⟨w3.heap.size+1,3,none⟩=some (.slice none 0 0):=Zab hblk5 3 _ rfl
         have z4:w5.cell? ⟨w3.heap.size+1,4,none⟩=some (.int .i64 0):=Zab hblk5 4 _ rfl
         have z0:w5.cell? ⟨w3.heap.size+1,0,none⟩=some (.string sa):=Zab hblk5 0 _ rfl
         have z1:w5.cell? ⟨w3.heap.size+1,1,none⟩=some (.int .i64 bn):=Zab hblk5 1 _ rfl
         have z2:w5.cell? ⟨w3.heap.size+1,2,none⟩=some (.slice ca cl cc):=Zab hblk5 2 _ rfl
         have zf:=fun i=>Zae hblk5 i
         have zs:w3.heap.size+1<w5.heap.size:=Zac hblk5
         have k35:Kept (Zap (.slice na r.2.2.length ncap)) w3 w5:=(((Qx _ w3).alloc _).alloc _).trans hap5.kept
         have hrow3:w3.ownsRow w.heap.size 185 5 (.slice la acc.length lcap) acc.length xs.flatten:=Hkb.out.owns Hrow.out.owns (fun _ _ h=>h)
         have hrow5:w5.ownsRow w.heap.size 185 5 (.slice la acc.length lcap) acc.length xs.flatten:=k35.owns hrow3 (fun k hk=>by
          obtain ⟨cur,hc⟩:=Zar hrow3 k hk
          exact Zah Hnv.out (by decide) hc)
         have hts5:=k35.owns Hts3.out (fun k hk=>by
          obtain ⟨cur,hc⟩:=Zar Hts3.out k hk
          exact Zah Hnv.out (by decide) hc)
         have hnot:∀ k,(Value.slice la acc.length lcap).ownBlock=some k→¬ only (w3.heap.size+1) k:=fun k hk e=>by
          have e:k=w3.heap.size+1:=e
          have:=(hrow3.lt k hk).2
          omega
         have hkt1:KeepT wr w3:=KeepT.of_kept Hkb.out (fun _ _ h=>h)
         have hkt2:KeepT w3 w5:=KeepT.of_apart k35 Hnv.out (by decide)
         have hk56:∀ v3 v4:Value,Kept (only (w3.heap.size+1)) w5 ((w5.setCell ⟨w3.heap.size+1,3,none⟩ v3).setCell ⟨w3.heap.size+1,4,none⟩ v4):=fun v3 v4=>((Qx _ w5).put 3 v3).put 4 v4
         have hkt3:∀ v3 v4:Value,KeepT w5 ((w5.setCell ⟨w3.heap.size+1,3,none⟩ v3).setCell ⟨w3.heap.size+1,4,none⟩ v4):=fun v3 v4=>KeepT.of_kept (hk56 v3 v4) (fun k hk e=>by
          have e:k=w3.heap.size+1:=e
          subst e
          obtain ⟨cur,hc⟩:=hk
          rw [hblk5] at hc
          simp at hc)
         have Hcls:=Zaa (show ClsAt w5 [.string sa,.int .i64 bn,.slice ca cl cc,.slice ba q.1.length bcap,.int .i64 (q.2.2.length:Nat)] ⟨r.1,q.1,q.2.2⟩ from ⟨sa,bn,ca,cl,cc,_,_,_,_,ys,rfl,Hrep.out.keep hkt2,hkids⟩)
         have Hrow56:=Zaa (fun v3 v4:Value=>(hk56 v3 v4).owns hrow5 hnot)
         have Hk56:=Zaa hk56
         have Hkt3:=Zaa hkt3
         have Hkt:=Zaa (hkt1.trans hkt2)
         have Hts5:=Zaa hts5
         have Hrest2:=Zaa hrest2
         have H35:=Zaa k35
         have Hblk5:=Zaa hblk5
         have Hrow5:=Zaa hrow5
         clear hN hN' hblk5 k35 hrow3 hrow5 hts5 hnot hkt1 hkt2 hk56 hkt3 hkids hap5 hrest2 y0
         go_wp2_with (at_builtin; refine Zal _ rfl (.tmp 69) (.tmp 71) 145 rfl w.heap.size 185 Tryz.infoClause Tryz.underlying145 rfl (by decide) _ acc.length xs.flatten rfl (Hrow56.out _ _) _ rfl (by simp) rfl Zzy ?_ ?_ ?_)
         ·omega
         ·simp; omega
         intro lv' w6 hap6
         have Hap6:=Zaa hap6
         clear hap6
         go_wp2
         go_roundg gk
         case measure=>omega
         case rel =>
          have hr56:=Hrow56.out (.slice ba q.1.length bcap) (.int .i64 (q.2.2.length:Nat))
          have hk56:=Hk56.out (.slice ba q.1.length bcap) (.int .i64 (q.2.2.length:Nat))
          have hkt3:=Hkt3.out (.slice ba q.1.length bcap) (.int .i64 (q.2.2.length:Nat))
          have hktB:KeepT _ w6:=KeepT.of_apart Hap6.out.kept hr56 (by decide)
          have hrowW:=Hrow.out.keep (Hkt.out.trans hkt3) hr56
          have hts56:=hk56.owns Hts5.out (fun k hk e=>by
           have e:k=w3.heap.size+1:=e
           subst e
           exact Zah Hts5.out (by decide) Hblk5.out hk)
          refine ⟨j2,acc++[⟨r.1,q.1,q.2.2⟩],_,rfl,by omega,by simp; omega,by rw [← Hrest2.out]; exact Hpr.out,hrowW.add (Hcls.out.keep hkt3) rfl hktB Hap6.out.owns,?_,?_⟩
          ·have hz5:=H35.out.size
           have hz6:=hk56.size
           refine hbel.trans ((Hkb.out.below hszr (fun _ h=>h.elim)).trans ((H35.out.below (by omega) (fun k h => ?_)).trans ((hk56.below (by omega) (fun k h => ?_)).trans (Hap6.out.kept.below (by omega) (fun k h=>(hr56.lt k h).1)))))
           ·have:=(Hnv.out.lt k h).1; omega
           ·have h:k=w3.heap.size+1:=h
            omega
          ·exact Hap6.out.kept.owns hts56 (fun k hk=>by
            obtain ⟨cur,hc⟩:=Zar hts56 k hk
            exact Zah hr56 (by decide) hc)
        ·rw [if_neg h3] at hpc2
         simp only [Qo] at hpc2
         have k3:((y.kind:Int) == 3)=false:=by rw [Qu]; omega
         subst hpc2
         go_wp2_with (at_builtin; refine Zal _ rfl (.tmp 69) (.tmp 71) 145 rfl w.heap.size 185 Tryz.infoClause Tryz.underlying145 rfl (by decide) _ acc.length xs.flatten rfl (((Hkb.out.owns Hrow.out.owns (fun _ _ h=>h)).alloc _).alloc _) _ rfl (by simp) rfl Zzy ?_ ?_ ?_)
         ·omega
         ·simp; omega
         intro lv' w6 hap6
         have Hap6:=Zaa hap6
         clear hap6
         go_wp2
         go_roundg gk
         case measure=>omega
         case rel =>
          have hrow3:w3.ownsRow w.heap.size 185 5 (.slice la acc.length lcap) acc.length xs.flatten:=Hkb.out.owns Hrow.out.owns (fun _ _ h=>h)
          have k36:Kept (Zap (.slice la acc.length lcap)) w3 w6:=(((Qx _ w3).alloc _).alloc _).trans Hap6.out.kept
          have hkt1:KeepT wr w3:=KeepT.of_kept Hkb.out (fun _ _ h=>h)
          have hkt2:KeepT w3 w6:=KeepT.of_apart k36 hrow3 (by decide)
          have hcls:ClsAt w3 [.string sa,.int .i64 bn,.slice ca cl cc,.slice none 0 0,.int .i64 (r.2.2.length:Nat)] ⟨r.1,[],r.2.2⟩:=⟨sa,bn,ca,cl,cc,_,_,_,0,[],rfl,Hrep.out,Kids.nil _ _ _⟩
          have hrow3':=Hrow.out.keep hkt1 hrow3
          refine ⟨j'+1,acc++[⟨r.1,[],r.2.2⟩],_,by go_num,by omega,by simp; omega,by rw [Hyr.out]; exact Hpr.out,hrow3'.add hcls rfl hkt2 Hap6.out.owns,?_,?_⟩
          ·refine hbel.trans ((Hkb.out.below hszr (fun _ h=>h.elim)).trans (k36.below (by omega) (fun k h=>(hrow3.lt k h).1)))
          ·exact k36.owns Hts3.out (fun k hk=>by
            obtain ⟨cur,hc⟩:=Zar Hts3.out k hk
            exact Zah hrow3 (by decide) hc)
end Go.Proofs.YtlmjilpjmgjjcaaGreatDoor
namespace Go.Proofs.YtlmjilpjmgjjcaaGreatDoor
def okk (ts:List Tok) (L:LookS):Prop:=(Zcx ts L).1=0
def fin:List Tok→Prop
 | []=>False
 | t::ts=>t.kind=4∨fin ts
theorem Zgz {t:Tok} {ts:List Tok} {L:LookS} (h:okk (t::ts) L) (hn:¬ (t.kind=4∧(L.want=5∨L.want=0))):(Zat L t.kind t.text.length).err=0∧okk ts (Zat L t.kind t.text.length):=by
 unfold okk at h
 rw [Zcx,if_neg hn] at h
 by_cases he:(Zat L t.kind t.text.length).err=0
 ·rw [if_neg (by simp [he])] at h
  exact ⟨he,h⟩
 ·rw [if_pos he] at h
  exact absurd h he
structure Aft (rest:List Tok) (L L':LookS) (stk:List Nat):Prop where
 ok:okk rest L'
 fin:fin rest
 want:L'.want=4∨(L'.want=3∧∀ y ys,rest=y::ys→y.kind≠40)
 stk:L'.stk=stk
 err:L'.err=0
 query:L'.query=L.query
 body:L'.body=(if L.want=0 then false else L.body)
theorem Zjb {L:LookS} {kd tn:Nat} (he:L.err=0) (h:(Zau L kd tn).err=0):kd=1∨(kd=2∧L.want=2):=by
 unfold Zau at h
 split at h
 ·simp at h
 ·omega
theorem Zpq {L:LookS} {kd tn:Nat} (h:(Zau L kd tn).err=0) (hk:kd=1∨(kd=2∧L.want=2)) :
  (Zau L kd tn).want=(if kd=1 then 3 else 4)∧(Zau L kd tn).stk=(Zbm L).stk∧(Zau L kd tn).query=L.query∧(Zau L kd tn).body=(if L.want=0 then false else L.body):=by
 have hn:¬ (kd≠1∧(kd≠2∨L.want≠2)):=by omega
 unfold Zau
 rw [if_neg hn]
 refine ⟨rfl,rfl,?_,?_⟩
 ·show (Zbm L).query=_
  unfold Zbm
  split
  ·rfl
  ·split
   ·rfl
   ·split <;> rfl
 ·show (Zbm L).body=_
  unfold Zbm
  split
  ·rfl
  ·split
   ·rfl
   ·split <;> rfl
theorem Yil {y:Tok} {ys:List Tok} {L L':LookS} {n:Nat} {r:List Nat} (h:Aft (y::ys) L L' (n::r)) :
  (y.kind=44∧okk ys (Zaj L' 44)∧fin ys∧(Zaj L' 44) = { L' with want:=2 })∨(y.kind=41∧okk ys (Zaj L' 41)∧fin ys∧(Zaj L' 41) = { L' with stk:=r,want:=4 }):=by
 have hw:¬ L'.want≤2∧L'.want≠5∧L'.want≠0:=by rcases h.want with hw | ⟨hw,_⟩ <;> omega
 have h4:¬ (y.kind=4∧(L'.want=5∨L'.want=0)):=by omega
 obtain ⟨he,ho⟩:=Zgz h.ok h4
 unfold Zat at he ho
 rw [if_neg hw.1,if_neg hw.2.1] at he ho
 have hst:=h.stk
 have h40:¬ (y.kind=40∧L'.want=3):=by
  rintro ⟨h1,h2⟩
  rcases h.want with hw | ⟨_,hw⟩
  ·omega
  ·exact hw y ys rfl h1
 have hfin:y.kind≠4→fin ys:=fun hy=>by
  rcases h.fin with h | h
  ·exact absurd h hy
  ·exact h
 by_cases h44:y.kind=44
 ·left
  rw [h44] at ho
  exact ⟨h44,ho,hfin (by omega),by simp [Zaj,hst]⟩
 ·by_cases h41:y.kind=41
  ·right
   rw [h41] at ho
   exact ⟨h41,ho,hfin (by omega),by simp [Zaj,hst]⟩
  ·exfalso
   simp [Zaj,hst,h44,h41] at he
   split at he
   ·rename_i hc; exact h40 hc
   ·simp at he
end Go.Proofs.YtlmjilpjmgjjcaaGreatDoor
namespace Go.Proofs.YtlmjilpjmgjjcaaGreatDoor
open Go.RowKit
theorem Yah {y:Tok} {ys:List Tok} {L L':LookS} (h:Aft (y::ys) L L' []) :
  (y.kind=44∧L'.body=true∧okk ys (Zaj L' 44)∧fin ys∧(Zaj L' 44) = { L' with want:=1 }) ∨
  (y.kind=3∧L'.body=false∧okk ys (Zaj L' 3)∧fin ys∧(Zaj L' 3) = { L' with body:=true,goals:=0,want:=1 }) ∨
  (y.kind=46∧okk ys (Zaj L' 46)∧fin ys∧(Zaj L' 46) = { L' with want:=if L'.query then 5 else 0 }):=by
 have hw:¬ L'.want≤2∧L'.want≠5∧L'.want≠0:=by rcases h.want with hw | ⟨hw,_⟩ <;> omega
 have h4:¬ (y.kind=4∧(L'.want=5∨L'.want=0)):=by omega
 obtain ⟨he,ho⟩:=Zgz h.ok h4
 unfold Zat at he ho
 rw [if_neg hw.1,if_neg hw.2.1] at he ho
 have hst:=h.stk
 have h40:¬ (y.kind=40∧L'.want=3):=by
  rintro ⟨h1,h2⟩
  rcases h.want with hw | ⟨_,hw⟩
  ·omega
  ·exact hw y ys rfl h1
 have hfin:y.kind≠4→fin ys:=fun hy=>by
  rcases h.fin with h | h
  ·exact absurd h hy
  ·exact h
 by_cases h44:y.kind=44
 ·left
  rw [h44] at ho he
  cases hb:L'.body
  ·simp [Zaj,hst,hb] at he
  ·exact ⟨h44,rfl,ho,hfin (by omega),by simp [Zaj,hst,hb]⟩
 ·by_cases h3:y.kind=3
  ·right; left
   rw [h3] at ho he
   cases hb:L'.body
   ·exact ⟨h3,rfl,ho,hfin (by omega),by simp [Zaj,hst,hb]⟩
   ·simp [Zaj,hst,hb] at he
  ·by_cases h46:y.kind=46
   ·right; right
    rw [h46] at ho he
    refine ⟨h46,ho,hfin (by omega),?_⟩
    cases hq:L'.query <;> simp [Zaj,hst,hq]
   ·exfalso
    simp [Zaj,hst,h44,h3,h46] at he
    split at he
    ·rename_i hc; exact h40 hc
    ·simp at he
theorem Ygp {ts:List Tok} {L:LookS} (hok:okk ts L) (hw:L.want=1) (he:L.err=0):∀ t r,ts=t::r→t.kind≠4:=by
 rintro t r rfl h4
 have:=(Zgz hok (by omega)).1
 unfold Zat at this
 rw [if_pos (by omega)] at this
 rcases Zjb he this with h | h <;> omega
theorem Yai (l:List Tok) (p:Nat):fin (l++[⟨4,[],p⟩]):=by
 induction l with
 | nil=>exact Or.inl rfl
 | cons t l ih=>exact Or.inr ih
def kmap (k:Nat):Nat:=if k=1 then 1 else if k=2 then 2 else if k=40 then 3 else if k=41 then 4 else if k=44 then 5 else if k=46 then 6 else if k=3 then 7 else 8
def Zhi (k:Nat):Prop:=k=1∨k=2∨k=40∨k=41∨k=44∨k=46∨k=3∨k=5
theorem Ydm (c:UInt8) (h:inB c Zhn=true):c=40∨c=41∨c=44∨c=46:=by
 have:=Zeg (p:=fun c => !inB c Zhn || (c == 40 || c == 41 || c == 44 || c == 46)) (by decide +kernel) c
 simpa [h,or_assoc] using this
theorem Zxg (c:UInt8) (h:inB c Zhn=false):¬ c=40∧¬ c=41∧¬ c=44∧¬ c=46:=by
 have:=Zeg (p:=fun c=>inB c Zhn || !(c == 40 || c == 41 || c == 44 || c == 46)) (by decide +kernel) c
 simpa [h,not_or,and_assoc] using this
theorem Zog (c:UInt8) (r:List UInt8) :
  (Zbq c r=(1,Zbi r)∧Zdp c (r.head?.getD 0)=1∧inB c Zhj=true)∨(Zbq c r=(2,Zbi r)∧Zdp c (r.head?.getD 0)=2∧inB c Zhj=true) ∨
  (Zbq c r=(40,0)∧Zdp c (r.head?.getD 0)=3)∨(Zbq c r=(41,0)∧Zdp c (r.head?.getD 0)=4)∨(Zbq c r=(44,0)∧Zdp c (r.head?.getD 0)=5)∨(Zbq c r=(46,0)∧Zdp c (r.head?.getD 0)=6) ∨
  (Zbq c r=(3,1)∧Zdp c (r.head?.getD 0)=7)∨(Zbq c r=(5,0)∧Zdp c (r.head?.getD 0)=8):=by
 unfold Zbq Zdp
 cases h1:inB c Zeb
 ·cases h2:inB c Zfi
  ·cases h3:inB c Zhn
   ·obtain ⟨a1,a2,a3,a4⟩:=Zxg c h3
    have hd:(c=58∧r.head?=some 45)↔(c=58∧r.head?.getD 0=45):=by
     cases r with
     | nil=>simp
     | cons d r=>simp
    by_cases h:c=58∧r.head?=some 45
    ·have h':=hd.1 h
     simp only [Bool.false_eq_true,if_false,if_neg a1,if_neg a2,if_neg a3,if_neg a4,if_pos h,if_pos h']
     simp
    ·have h':¬ (c=58∧r.head?.getD 0=45):=fun e=>h (hd.2 e)
     simp only [Bool.false_eq_true,if_false,if_neg a1,if_neg a2,if_neg a3,if_neg a4,if_neg h,if_neg h']
     simp
   ·rcases Ydm c h3 with rfl | rfl | rfl | rfl <;> simp
  ·simp [Zip h2]
 ·simp [Zho h1]
theorem Zmi (c:UInt8) (r:List UInt8):kmap (Zbq c r).1=Zdp c (r.head?.getD 0)∧Zhi (Zbq c r).1:=by
 rcases Zog c r with ⟨h1,h2,_⟩ | ⟨h1,h2,_⟩ | ⟨h1,h2⟩ | ⟨h1,h2⟩ | ⟨h1,h2⟩ | ⟨h1,h2⟩ | ⟨h1,h2⟩ | ⟨h1,h2⟩ <;> rw [h1,h2] <;> exact ⟨rfl,by unfold Zhi; simp⟩
theorem Ydn (s:ByteArray) (p:Nat) (c:UInt8) (r:List UInt8) (hd:s.data.toList.drop p=c::r):endC s p (Zdp c (r.head?.getD 0))=p+((Zbq c r).2+1):=by
 rcases Zog c r with ⟨h1,h2,h3⟩ | ⟨h1,h2,h3⟩ | ⟨h1,h2⟩ | ⟨h1,h2⟩ | ⟨h1,h2⟩ | ⟨h1,h2⟩ | ⟨h1,h2⟩ | ⟨h1,h2⟩ <;> rw [h1,h2] <;> simp [endC,hd]
 ·rw [Zet c r h3]
 ·rw [Zet c r h3]
theorem Zmj (s:ByteArray) (p:Nat):Zdw s p=(s.data.toList.drop p).head?.getD 0:=by
 unfold Zdw
 rw [List.head?_drop]
theorem Zti:∀ (l:List UInt8) (p:Nat),toks l p=toks (l.drop (Zcz l)) (p+Zcz l):=by
 intro l
 induction l with
 | nil=>intro p; rfl
 | cons c r ih =>
  intro p
  unfold Zcz
  cases h:Zhk c
  ·simp
  ·rw [Zns c r p h,ih (p+1)]
   simp only [if_pos,List.drop_succ_cons]
   congr 1
   omega
theorem Zxh (l:List UInt8) (c:UInt8) (r:List UInt8) (h:l.drop (Zcz l)=c::r):Zhk c=false:=by
 induction l with
 | nil=>simp [Zcz] at h
 | cons d l ih =>
  unfold Zcz at h
  cases hb:Zhk d
  ·rw [hb] at h
   simp at h
   rw [← h.1]; exact hb
  ·rw [hb] at h
   simp only [if_pos,List.drop_succ_cons] at h
   exact ih h
theorem Yaj (s:ByteArray) (p k:Nat):(s.extract p (p+k)).data.toList=(s.data.toList.drop p).take k:=by
 rw [ByteArray.data_extract,Array.toList_extract,List.extract_eq_take_drop]
 congr 1
 omega
theorem Yak (s:ByteArray) (n:Nat) (hn:n≤s.size) :
  (Zmb s n=(0,s.size,s.size)∧toks (s.data.toList.drop n) n=[]) ∨
  ∃ t q,Zmb s n=(kmap t.kind,t.pos,q)∧toks (s.data.toList.drop n) n=t::toks (s.data.toList.drop q) q∧Zhi t.kind∧n≤t.pos∧t.pos<q∧q≤s.size∧s.extract t.pos q=⟨t.text.toArray⟩∧t.text.length=q - t.pos:=by
 have hl:s.data.toList.length=s.size:=by rw [Array.length_toList]; rfl
 rw [Zti,List.drop_drop]
 unfold Zmb
 obtain ⟨p,hp⟩:∃ p,p=n+Zcz (s.data.toList.drop n):=⟨_,rfl⟩
 rw [← hp]
 by_cases h:p<s.size
 ·right
  rw [if_pos h]
  obtain ⟨c,r,hd⟩:∃ c r,s.data.toList.drop p=c::r:=by
   cases hc:s.data.toList.drop p with
   | nil =>
    have:=congrArg List.length hc
    simp only [List.length_drop,Qt] at this
    omega
   | cons c r=>exact ⟨c,r,rfl⟩
  have hb:Zhk c=false:=Zxh (s.data.toList.drop n) c r (by rw [List.drop_drop,← hp]; exact hd)
  have hd1:s.data.toList.drop (p+1)=r:=by rw [← List.drop_drop,hd]; rfl
  have hc0:Zdw s p=c:=by rw [Zmj,hd]; rfl
  have hc1:Zdw s (p+1)=r.head?.getD 0:=by rw [Zmj,hd1]
  have hle:=Zqr c r
  have hlen:(s.data.toList.drop p).length=s.size - p:=by rw [List.length_drop,hl]
  rw [hd] at hlen
  simp only [Qf] at hlen
  rw [hc0,hc1,hd,Zqs c r p hb]
  refine ⟨⟨(Zbq c r).1,(c::r).take ((Zbq c r).2+1),p⟩,p+((Zbq c r).2+1),?_,?_,(Zmi c r).2,by simp only; omega,by simp only; omega,by omega,?_,?_⟩
  ·rw [Ydn s p c r hd,(Zmi c r).1]
  ·congr 2
   ·rw [← List.drop_drop,hd]; rfl
  ·have:(s.extract p (p+((Zbq c r).2+1))).data.toList=(c::r).take ((Zbq c r).2+1):=by rw [Yaj,hd]
   simp only
   rw [← this]
  ·simp; omega
 ·left
  rw [if_neg h]
  refine ⟨rfl,?_⟩
  rw [List.drop_eq_nil_of_le (by omega)]
  rfl
structure RI (k:Nat) (st:RS):Prop where
 opnl:st.opn.length≤k
 atoml:st.atom.length≤k
 bodyl:st.body.length≤k
 clsl:st.clauses.length≤k
 varsl:st.vars.length≤k
 args:∀ s ∈ st.atom,s.args≤k
 next:st.next≤5
 opn:∀ n ∈ st.opn,n<st.atom.length
 name:st.next=3→0<st.atom.length
theorem RI.bd {k:Nat} {st:RS} (h:RI k st) (hk:k≤4000):RBd st :=
 ⟨Qq h.opnl (by omega),Qq h.atoml (by omega),Qq h.bodyl (by omega),Qq h.clsl (by omega),fun s hs=>Qq (h.args s hs) (by omega)⟩
theorem Zjc {st:RS} {kd len:Nat} (h:Zbx st kd len=0):Zbo st kd=true:=by
 unfold Zbx at h
 split at h
 ·omega
 ·rename_i hs
  simpa using hs
theorem Zjd {st:RS} {kd:Nat} (h:Zbo st kd=true) (hn:st.next≤5):1≤kd∧kd≤7∧(kd=3→st.next=3)∧(kd=6∨kd=7→st.opn=[]):=by
 have fol:Zbw st kd=true→(kd=4∨kd=5∨kd=6∨kd=7)∧(kd=6∨kd=7→st.opn=[]):=by
  unfold Zbw
  cases ho:st.opn with
  | nil =>
   simp only [List.isEmpty_nil,if_true]
   intro h
   refine ⟨?_,fun _=>trivial⟩
   split at h
   ·simp at h; omega
   ·simp at h; omega
  | cons n r =>
   simp only [List.isEmpty_cons]
   intro h
   simp at h
   exact ⟨by omega,fun h=>by omega⟩
 unfold Zbo at h
 split at h
 ·simp at h; subst h; simp
 ·split at h
  ·simp at h; rcases h with rfl | rfl <;> simp
  ·split at h
   ·rename_i h3
    simp only [Bool.or_eq_true,beq_iff_eq] at h
    rcases h with rfl | h
    ·exact ⟨by omega,by omega,fun _=>h3,by omega⟩
    ·obtain ⟨h1,h2⟩:=fol h
     exact ⟨by omega,by omega,by omega,h2⟩
   ·split at h
    ·obtain ⟨h1,h2⟩:=fol h
     exact ⟨by omega,by omega,by omega,h2⟩
    ·simp at h
theorem RI.takes {k:Nat} {st:RS} {kd:Nat} (h:RI k st) (hk:k≤4000) (hs:Zbo st kd=true):TakeOk st kd:=by
 obtain ⟨h1,h2,h3,h4⟩:=Zjd hs h.next
 have:=h.varsl
 have:=h.bodyl
 exact ⟨h.bd hk,by omega,by omega,h.opn,h1,h2,fun e=>h.name (h3 e)⟩
theorem Zlq (st:RS):(Zco st).length=st.atom.length:=by unfold Zco; split <;> simp
theorem Yal {k:Nat} (st:RS) (h:∀ s ∈ st.atom,s.args≤k):∀ s ∈ Zco st,s.args≤k+1:=by
 unfold Zco
 split
 ·exact fun s hs=>Nat.le_succ_of_le (h s hs)
 ·rename_i n r ho
  intro s hs
  obtain ⟨i,hi⟩:=List.getElem?_of_mem hs
  rw [List.getElem?_modify] at hi
  cases hx:st.atom[i]? with
  | none=>rw [hx] at hi; simp at hi
  | some x =>
   rw [hx] at hi
   have:=h x (Qh hx)
   simp at hi
   split at hi
   ·subst hi; simpa using this
   ·subst hi; omega
theorem RI.mono {k:Nat} {st:RS} (h:RI k st):RI (k+1) st :=
 ⟨Nat.le_succ_of_le h.opnl,Nat.le_succ_of_le h.atoml,Nat.le_succ_of_le h.bodyl,Nat.le_succ_of_le h.clsl,Nat.le_succ_of_le h.varsl,fun s hs=>Nat.le_succ_of_le (h.args s hs),h.next,h.opn,h.name⟩
theorem RI.at {k m:Nat} {st:RS} (h:RI k st) (hk:k≤m):RI m st :=
 ⟨Qq h.opnl hk,Qq h.atoml hk,Qq h.bodyl hk,Qq h.clsl hk,Qq h.varsl hk,fun s hs=>Qq (h.args s hs) hk,h.next,h.opn,h.name⟩
theorem RI.add {k:Nat} {st:RS} (h:RI k st) (s:Sym) (hs:s.args=0) (n:Nat) (hn:n≤5) (vars:Names) (hv:vars.length≤k+1):RI (k+1) { addS st s with next:=n,vars:=vars }:=by
 have hl:=Zlq st
 have h0:=h.atoml
 have h1:=h.opnl
 refine ⟨by simp [addS]; omega,by simp [addS,hl]; omega,Nat.le_succ_of_le h.bodyl,Nat.le_succ_of_le h.clsl,hv,?_,hn,?_,?_⟩
 ·intro x hx
  simp only [addS,Qk,List.mem_singleton] at hx
  rcases hx with hx | rfl
  ·exact Yal st h.args x hx
  ·omega
 ·intro x hx
  have:=h.opn x hx
  simp only [addS,Qg,hl,Qn]
  omega
 ·intro _
  simp [addS]
theorem RI.ends {k:Nat} {st:RS} (h:RI k st) (ho:st.opn=[]) (n:Nat) (hn:n≤5) (h3:n≠3) (b:Bool):RI (k+1) { Zaw st with next:=n,inBody:=b }:=by
 have h0:=h.bodyl
 have ha:(Zaw st).atom=[]:=by unfold Zaw; split <;> rfl
 have hb:(Zaw st).body.length≤k+1:=by unfold Zaw; split <;> simp <;> omega
 have hc:(Zaw st).clauses=st.clauses:=by unfold Zaw; split <;> rfl
 have hv:(Zaw st).vars=st.vars:=by unfold Zaw; split <;> rfl
 have hp:(Zaw st).opn=[]:=by unfold Zaw; split <;> exact ho
 have:=h.clsl
 have:=h.varsl
 exact ⟨by simp [hp],by simp [ha],hb,by simp only [hc]; omega,by simp only [hv]; omega,by simp [ha],hn,by simp [hp],fun e=>absurd e h3⟩
theorem RI.take {k:Nat} {st:RS} {kd:Nat} (t:List UInt8) (h:RI k st) (hs:Zbo st kd=true):RI (k+1) (Zbp st kd t):=by
 obtain ⟨h1,h2,h3,h4⟩:=Zjd hs h.next
 have hc:kd=1∨kd=2∨kd=3∨kd=4∨kd=5∨kd=6∨kd=7:=by omega
 have a1:=h.opnl
 have a2:=h.atoml
 have a3:=h.varsl
 rcases hc with rfl | rfl | rfl | rfl | rfl | rfl | rfl
 ·exact h.add ⟨t,0,0⟩ rfl 3 (by omega) st.vars (by omega)
 ·have hv:=Zla st.vars t
  exact h.add ⟨[],(Zbl st.vars t).2,0⟩ rfl 4 (by omega) (Zbl st.vars t).1 (by omega)
 ·have hp:=h.name (h3 rfl)
  have m:=h.mono
  refine ⟨by simp [Zbp]; omega,m.atoml,m.bodyl,m.clsl,m.varsl,m.args,by simp [Zbp],?_,by simp [Zbp]⟩
  intro n hn
  simp only [Zbp,Qp] at hn
  simp at hn
  show n<st.atom.length
  rcases hn with rfl | hn
  ·omega
  ·exact h.opn n hn
 ·have m:=h.mono
  refine ⟨by simp [Zbp,Zis]; omega,m.atoml,m.bodyl,m.clsl,m.varsl,m.args,by simp [Zbp],?_,by simp [Zbp]⟩
  intro n hn
  simp [Zbp,Zis] at hn
  exact h.opn n (List.mem_of_mem_tail hn)
 ·show RI (k+1) (Zgc st)
  unfold Zgc
  cases ho:st.opn with
  | nil =>
   have:=h.ends ho 1 (by omega) (by omega) (Zaw st).inBody
   simpa using this
  | cons n r =>
   have m:=h.mono
   simp only [List.isEmpty_cons,Bool.false_eq_true,if_false]
   have m1:=m.opnl
   have m2:=m.opn
   rw [ho] at m1 m2
   exact ⟨m1,m.atoml,m.bodyl,m.clsl,m.varsl,m.args,by simp,m2,by simp⟩
 ·show RI (k+1) (Zas (Zaw st))
  have hw:=h.ends (h4 (by omega)) 0 (by omega) (by omega) false
  have hcl:(Zaw st).clauses=st.clauses:=by unfold Zaw; split <;> rfl
  have:=h.clsl
  refine ⟨hw.opnl,hw.atoml,by simp [Zas],by simp [Zas,hcl]; omega,by simp [Zas],hw.args,?_,hw.opn,?_⟩
  ·simp only [Zas]; split <;> omega
  ·simp only [Zas]; split <;> omega
 ·exact h.ends (h4 (by omega)) 1 (by omega) (by omega) true
def runT (e:Nat):List Tok→RS→Nat × Nat × RS
 | [],st=>if st.next≠0∧st.next≠5 then (2,e,st) else (0,0,st)
 | t::ts,st=>if Zbx st (kmap t.kind) t.text.length≠0 then (Zbx st (kmap t.kind) t.text.length,t.pos,st) else runT e ts (Zbp st (kmap t.kind) t.text)
end Go.Proofs.YtlmjilpjmgjjcaaGreatDoor
namespace Go.Proofs.YtlmjilpjmgjjcaaGreatDoor
def Zfe (l:List Sym) (n:Nat):Nat:=(l[n]?.map (fun s=>s.args)).getD 0
structure Sim (st:RS) (L:LookS):Prop where
 want:L.want=st.next
 query:L.query=st.query
 err:L.err=0
 n5:st.next≤5
 stk:L.stk=st.opn.map (Zfe st.atom)
 opn:∀ n ∈ st.opn,n<st.atom.length
 down:st.opn.Pairwise (fun a b=>b<a)
 flat:st.next=0∨st.next=1∨st.next=5→st.atom=[]∧st.opn=[]
 size:st.next=2∨st.next=3∨st.next=4→L.size=st.atom.length
 open2:st.next=2→st.opn≠[]
 name:st.next=3→0<st.atom.length∧Zfe st.atom (st.atom.length - 1)=0∧∀ n ∈ st.opn,n<st.atom.length - 1
 inb:st.next≠0→st.next≠5→L.body=st.inBody
 inb1:st.next=1→st.inBody=true
 goals:st.inBody=true→st.next≠0→st.next≠5→L.goals=st.body.length+(if st.next=1 then 0 else 1)
 heads:st.query=false→L.heads=st.clauses.length+(if st.next=0 then 0 else 1)
 hd:st.inBody=false→st.body=[]
 q0:st.query=true→st.next≠0
 h0:st.next=0→st.inBody=false
theorem Zxi (l:List Sym) (n:Nat) (s:Sym) (h:n<l.length):Zfe (l.modify n (fun s => { s with args:=s.args+1 })++[s]) n=Zfe l n+1:=by
 unfold Zfe
 rw [Qc (by simpa using h),List.getElem?_modify,Qb h]
 simp
theorem Ztj (l:List Sym) (n m:Nat) (s:Sym) (h:m<l.length) (hm:m≠n):Zfe (l.modify n (fun s => { s with args:=s.args+1 })++[s]) m=Zfe l m:=by
 unfold Zfe
 rw [Qc (by simpa using h),List.getElem?_modify]
 have:¬ n=m:=fun e=>hm e.symm
 cases l[m]? <;> simp [this]
theorem Zxj (l:List Sym) (s:Sym):Zfe (l++[s]) l.length=s.args:=by
 unfold Zfe; simp
theorem Ydo:kmap 1=1:=rfl
theorem Yim:kmap 2=2:=rfl
theorem Zvm:kmap 40=3:=rfl
theorem Yfw:kmap 41=4:=rfl
theorem Zvn:kmap 44=5:=rfl
theorem Zvo:kmap 46=6:=rfl
theorem Yin:kmap 3=7:=rfl
theorem Zhv {k:Nat} (hk:Zhi k):(kmap k=1↔k=1)∧(kmap k=2↔k=2):=by
 rcases hk with rfl | rfl | rfl | rfl | rfl | rfl | rfl | rfl <;> simp [kmap]
theorem Yam {st:RS} {L:LookS} (h:Sim st L) (k len:Nat) (t:List UInt8) (hk:Zhi k) (hn:st.next=0∨st.next=1) :
  Zbx st (kmap k) len=(Zat L k len).err∧((Zat L k len).err=0→Sim (Zbp st (kmap k) t) (Zat L k len)):=by
 obtain ⟨ha,ho⟩:=h.flat (by omega)
 have hs:=h.stk
 rw [ho] at hs
 simp only [List.map_nil] at hs
 have hw:=h.want
 have he:=h.err
 have hlst:Zat L k len=Zau L k len:=by rw [Zat,if_pos (by omega)]
 rw [hlst]
 by_cases hk1:k=1
 ·subst hk1
  have hst:Zbo st 1=true:=by unfold Zbo; rw [if_pos (by omega)]; rfl
  have hbk:Zco st=[]:=by simp [Zco,ho,ha]
  rcases hn with hn | hn
  ·have hq:st.query=false:=by
    cases hq:st.query
    ·rfl
    ·exact absurd hn (h.q0 hq)
   have hh:=h.heads hq
   rw [if_pos hn] at hh
   have hfull:Zfb st=decide (24≤st.clauses.length):=by simp [Zfb,hn]
   have hl:Zau L 1 len = { L with heads:=L.heads+1,body:=false,size:=1,err:=if 8<len∨30<0+1 then 3 else if 24<L.heads+1 then 3 else L.err,want:=3 }:=by
    simp [Zau,Zhr,Zbm,hw,hn]
   rw [hl,Ydo]
   constructor
   ·simp only [Zbx,hst,hfull,he]
    rw [hh]
    by_cases h8:8<len
    ·simp [h8]
    ·by_cases hc:24≤st.clauses.length
     ·rw [if_neg (by simp),if_pos (by simp [hc]),if_neg (by omega),if_pos (by omega)]
     ·rw [if_neg (by simp),if_neg (by simp [h8,hc] <;> omega),if_neg (by omega),if_neg (by omega)]
   ·intro he2
    have hst2:Zbp st 1 t = { st with atom:=[⟨t,0,0⟩],next:=3 }:=by simp [Zbp,addS,hbk]
    rw [hst2]
    exact {
     want:=rfl
     query:=h.query
     err:=he2
     n5:=by simp
     stk:=by simp [ho,hs]
     opn:=by simp [ho]
     down:=by simp [ho]
     flat:=by simp
     size:=by simp
     open2:=by simp
     name:=by simp [ho,Zfe]
     inb:=by simp [h.h0 hn]
     inb1:=by simp
     goals:=by simp [h.h0 hn]
     heads:=by simp [hh]
     hd:=h.hd
     q0:=by simp
     h0:=by simp }
  ·have hib:=h.inb1 hn
   have hg:=h.goals hib (by omega) (by omega)
   rw [if_pos hn] at hg
   have hfull:Zfb st=decide (6≤st.body.length):=by simp [Zfb,hn]
   have hl:Zau L 1 len = { L with goals:=L.goals+1,size:=1,err:=if 8<len∨30<0+1 then 3 else if 6<L.goals+1 then 3 else L.err,want:=3 }:=by
    simp [Zau,Zhr,Zbm,hw,hn]
   rw [hl,Ydo]
   constructor
   ·simp only [Zbx,hst,hfull,he]
    rw [hg]
    by_cases h8:8<len
    ·simp [h8]
    ·by_cases hc:6≤st.body.length
     ·rw [if_neg (by simp),if_pos (by simp [hc]),if_neg (by omega),if_pos (by omega)]
     ·rw [if_neg (by simp),if_neg (by simp [h8,hc] <;> omega),if_neg (by omega),if_neg (by omega)]
   ·intro he2
    have hst2:Zbp st 1 t = { st with atom:=[⟨t,0,0⟩],next:=3 }:=by simp [Zbp,addS,hbk]
    have hh:=h.heads
    rw [if_neg (by omega)] at hh
    rw [hst2]
    exact {
     want:=rfl
     query:=h.query
     err:=he2
     n5:=by simp
     stk:=by simp [ho,hs]
     opn:=by simp [ho]
     down:=by simp [ho]
     flat:=by simp
     size:=by simp
     open2:=by simp
     name:=by simp [ho,Zfe]
     inb:=fun _ _=>h.inb (by omega) (by omega)
     inb1:=by simp
     goals:=by simp [hg]
     heads:=by simpa using hh
     hd:=h.hd
     q0:=by simp
     h0:=by simp }
 ·have hkm:¬ kmap k=1:=fun e=>hk1 ((Zhv hk).1.1 e)
  have hst:Zbo st (kmap k)=false:=by unfold Zbo; rw [if_pos (by omega)]; simpa using hkm
  have hl:Zau L k len = { L with err:=2 }:=by
   unfold Zau
   rw [if_pos ⟨hk1,Or.inr (by omega)⟩]
  rw [hl]
  exact ⟨by simp [Zbx,hst],by simp⟩
theorem Ygq {st:RS} {L:LookS} (h:Sim st L) (k len:Nat) (t:List UInt8) (hk:Zhi k) (hn:st.next=2) :
  Zbx st (kmap k) len=(Zat L k len).err∧((Zat L k len).err=0→Sim (Zbp st (kmap k) t) (Zat L k len)):=by
 have hw:=h.want
 have he:=h.err
 have hlst:Zat L k len=Zau L k len:=by rw [Zat,if_pos (by omega)]
 rw [hlst]
 obtain ⟨n,r,ho⟩:∃ n r,st.opn=n::r:=by
  cases hc:st.opn with
  | nil=>exact absurd hc (h.open2 hn)
  | cons n r=>exact ⟨n,r,rfl⟩
 have hs:=h.stk
 rw [ho,List.map_cons] at hs
 have hnl:=h.opn n (by rw [ho]; simp)
 have hsz:=h.size (by omega)
 have hd:=h.down
 rw [ho,List.pairwise_cons] at hd
 by_cases hk12:k=1∨k=2
 ·have hst:Zbo st (kmap k)=true:=by
   unfold Zbo
   rw [if_neg (by omega),if_pos hn]
   rcases hk12 with rfl | rfl <;> rfl
  have hargs:Zkn st=Zfe st.atom n:=by
   unfold Zkn Zfe
   rw [ho]
   simp only
   cases st.atom[n]? <;> rfl
  have hfull:Zfb st=(decide (30≤st.atom.length) || decide (4≤Zfe st.atom n)):=by simp [Zfb,hn,hargs]
  have hl:Zau L k len = { L with stk:=(Zfe st.atom n+1)::r.map (Zfe st.atom),size:=L.size+1,err:=if 8<len∨30<L.size+1 then 3 else if 4<Zfe st.atom n+1 then 3 else L.err,want:=if k=1 then 3 else 4 }:=by
   unfold Zau
   rw [if_neg (by omega)]
   simp [Zhr,Zbm,hw,hn,hs]
  rw [hl]
  have hkm:kmap k=1∨kmap k=2:=by rcases hk12 with rfl | rfl <;> simp [kmap]
  have hbump:Zco st=st.atom.modify n (fun s => { s with args:=s.args+1 }):=by simp [Zco,ho]
  constructor
  ·simp only [Zbx,hst,hfull,he]
   rw [hsz]
   by_cases h8:8<len
   ·simp [h8,hkm]
   ·by_cases hc:30≤st.atom.length
    ·rw [if_neg (by simp),if_pos ⟨hkm,Or.inr (by simp [hc])⟩,if_pos (by omega)]
    ·by_cases hd4:4≤Zfe st.atom n
     ·rw [if_neg (by simp),if_pos ⟨hkm,Or.inr (by simp [hd4])⟩,if_neg (by omega),if_pos (by omega)]
     ·rw [if_neg (by simp),if_neg (by simp [h8,hc,hd4] <;> omega),if_neg (by omega),if_neg (by omega)]
  ·intro he2
   have hmap:∀ (s:Sym),st.opn.map (Zfe (Zco st++[s]))=(Zfe st.atom n+1)::r.map (Zfe st.atom):=by
    intro s
    rw [ho,List.map_cons,hbump,Zxi _ _ _ hnl]
    congr 1
    apply List.map_congr_left
    intro m hm
    exact Ztj _ _ _ _ (h.opn m (by rw [ho]; simp [hm])) (by have:=hd.1 m hm; omega)
   have hbl:=Zlq st
   have hopn':∀ m ∈ st.opn,m<st.atom.length+1:=fun m hm=>Nat.lt_succ_of_lt (h.opn m hm)
   have hh:=h.heads
   rw [if_neg (by omega)] at hh
   have hg:=h.goals
   rcases hk12 with rfl | rfl
   ·have hst2:Zbp st (kmap 1) t = { st with atom:=Zco st++[⟨t,0,0⟩],next:=3 }:=by simp [Ydo,Zbp,addS]
    rw [hst2]
    exact {
     want:=rfl
     query:=h.query
     err:=he2
     n5:=by simp
     stk:=(hmap _).symm
     opn:=by simpa [hbl] using hopn'
     down:=h.down
     flat:=by simp
     size:=by simp [hsz,hbl]
     open2:=by simp
     name:=by
      intro _
      refine ⟨by simp,?_,?_⟩
      ·have:=Zxj (Zco st) ⟨t,0,0⟩
       simpa using this
      ·simpa [hbl] using h.opn
     inb:=fun _ _=>h.inb (by omega) (by omega)
     inb1:=by simp
     goals:=fun hi _ _=>by have:=hg hi (by omega) (by omega); rw [if_neg (by omega)] at this; simpa using this
     heads:=by simpa using hh
     hd:=h.hd
     q0:=by simp
     h0:=by simp }
   ·have hst2:Zbp st (kmap 2) t = { st with atom:=Zco st++[⟨[],(Zbl st.vars t).2,0⟩],vars:=(Zbl st.vars t).1,next:=4 }:=by simp [Yim,Zbp,addS,varS,Zco,ho]
    rw [hst2]
    exact {
     want:=rfl
     query:=h.query
     err:=he2
     n5:=by simp
     stk:=(hmap _).symm
     opn:=by simpa [hbl] using hopn'
     down:=h.down
     flat:=by simp
     size:=by simp [hsz,hbl]
     open2:=by simp
     name:=by simp
     inb:=fun _ _=>h.inb (by omega) (by omega)
     inb1:=by simp
     goals:=fun hi _ _=>by have:=hg hi (by omega) (by omega); rw [if_neg (by omega)] at this; simpa using this
     heads:=by simpa using hh
     hd:=h.hd
     q0:=by simp
     h0:=by simp }
 ·have hkm:¬ kmap k=1∧¬ kmap k=2:=⟨fun e=>hk12 (Or.inl ((Zhv hk).1.1 e)),fun e=>hk12 (Or.inr ((Zhv hk).2.1 e))⟩
  have hst:Zbo st (kmap k)=false:=by unfold Zbo; rw [if_neg (by omega),if_pos hn]; simpa using hkm
  have hl:Zau L k len = { L with err:=2 }:=by
   unfold Zau
   rw [if_pos (by omega)]
  rw [hl]
  exact ⟨by simp [Zbx,hst],by simp⟩
theorem Zxk {st:RS} {L:LookS} (h:Sim st L) (k len:Nat) (t:List UInt8) (hk:Zhi k) (hn:st.next=3∨st.next=4) :
  Zbx st (kmap k) len=(Zat L k len).err∧((Zat L k len).err=0→Sim (Zbp st (kmap k) t) (Zat L k len)):=by
 have hw:=h.want
 have he:=h.err
 have hlst:Zat L k len=Zaj L k:=by rw [Zat,if_neg (by omega),if_neg (by omega)]
 rw [hlst]
 have hsz:=h.size (by omega)
 have hib:=h.inb (by omega) (by omega)
 have hs:=h.stk
 have hh:=h.heads
 rw [if_neg (by omega)] at hh
 have hq:=h.query
 have hse:L.stk=[]↔st.opn=[]:=by rw [hs]; simp
 have chk:∀ b,Zbo st (kmap k)=b→(kmap k≠1∧kmap k≠2)→Zbx st (kmap k) len=if b then 0 else 2:=by
  intro b hb hkm
  subst hb
  unfold Zbx
  cases Zbo st (kmap k) <;> simp [hkm]
 have stand:∀ kd,Zbo st kd=((kd == 3 && decide (st.next=3)) || Zbw st kd):=by
  intro kd
  unfold Zbo
  rw [if_neg (by omega),if_neg (by omega)]
  rcases hn with hn | hn <;> simp [hn]
 by_cases h12:k=1∨k=2∨k=5
 ·have hst:Zbo st (kmap k)=false:=by
   rw [stand]
   rcases h12 with rfl | rfl | rfl <;> (unfold Zbw; simp [kmap])
  have hl:Zaj L k = { L with err:=2 }:=by
   rcases h12 with rfl | rfl | rfl <;> (unfold Zaj; simp)
  rw [hl]
  exact ⟨by simp [Zbx,hst],by simp⟩
 ·have hkm:kmap k≠1∧kmap k≠2:=⟨fun e=>h12 (Or.inl ((Zhv hk).1.1 e)),fun e=>h12 (Or.inr (Or.inl ((Zhv hk).2.1 e)))⟩
  by_cases h40:k=40
  ·subst h40
   by_cases h3:st.next=3
   ·have hst:Zbo st (kmap 40)=true:=by rw [stand]; simp [Zvm,h3]
    have hl:Zaj L 40 = { L with stk:=0::L.stk,want:=2 }:=by simp [Zaj,hw,h3]
    rw [hl,chk true hst hkm]
    refine ⟨he.symm,fun _ => ?_⟩
    obtain ⟨n1,n2,n3⟩:=h.name h3
    have hst2:Zbp st (kmap 40) t = { st with opn:=(st.atom.length - 1)::st.opn,next:=2 }:=by simp [Zvm,Zbp]
    rw [hst2]
    exact {
     want:=rfl
     query:=hq
     err:=he
     n5:=by simp
     stk:=by simp [hs,n2]
     opn:=by
      intro m hm
      simp only [Qp] at hm
      rcases hm with rfl | hm
      ·show st.atom.length - 1<st.atom.length
       omega
      ·exact h.opn m hm
     down:=by
      rw [List.pairwise_cons]
      exact ⟨n3,h.down⟩
     flat:=by simp
     size:=fun _=>hsz
     open2:=by simp
     name:=by simp
     inb:=fun _ _=>hib
     inb1:=by simp
     goals:=fun hi _ _=>by have:=h.goals hi (by omega) (by omega); rw [if_neg (by omega)] at this; simpa using this
     heads:=by simpa using hh
     hd:=h.hd
     q0:=by simp
     h0:=by simp }
   ·have hst:Zbo st (kmap 40)=false:=by
     rw [stand]
     unfold Zbw
     simp [Zvm,h3]
    have hl:Zaj L 40 = { L with err:=2 }:=by
     unfold Zaj
     have:¬ L.want=3:=by omega
     simp [this]
    rw [hl]
    exact ⟨by simp [Zbx,hst],by simp⟩
  ·cases ho:st.opn with
   | nil =>
    have hsn:L.stk=[]:=hse.2 ho
    cases hb:st.inBody with
    | false =>
     have hfo:∀ kd,Zbw st kd=(kd == 7 || kd == 6):=by intro kd; simp [Zbw,ho,hb]
     have hLb:L.body=false:=hib.trans hb
     by_cases hk3:k=3
     ·subst hk3
      have hst:Zbo st (kmap 3)=true:=by rw [stand,hfo]; rfl
      have hl:Zaj L 3 = { L with body:=true,goals:=0,want:=1 }:=by simp [Zaj,hsn,hLb]
      rw [hl,chk true hst hkm]
      refine ⟨he.symm,fun _ => ?_⟩
      have hst2:Zbp st (kmap 3) t = { st with head:=st.atom,atom:=[],inBody:=true,next:=1 }:=by simp [Yin,Zbp,Zaw,hb]
      rw [hst2]
      exact {
       want:=rfl
       query:=hq
       err:=he
       n5:=by simp
       stk:=by simp [hsn,ho]
       opn:=by simp [ho]
       down:=by simp [ho]
       flat:=by simp [ho]
       size:=by simp
       open2:=by simp
       name:=by simp
       inb:=by simp
       inb1:=by simp
       goals:=by simp [h.hd hb]
       heads:=by simpa using hh
       hd:=by simp
       q0:=by simp
       h0:=by simp }
     ·by_cases hk46:k=46
      ·subst hk46
       have hst:Zbo st (kmap 46)=true:=by rw [stand,hfo]; rfl
       have hl:Zaj L 46 = { L with want:=if L.query then 5 else 0 }:=by cases hq:L.query <;> simp [Zaj,hsn,hLb,hq]
       rw [hl,chk true hst hkm]
       refine ⟨he.symm,fun _ => ?_⟩
       have hst2:Zbp st (kmap 46) t = { st with clauses:=st.clauses++[⟨st.atom,st.body,st.vars⟩],atom:=[],head:=[],body:=[],vars:=[],inBody:=false,next:=if st.query then 5 else 0 }:=by simp [Zvo,Zbp,Zaw,Zas,hb]
       rw [hst2]
       have hnx:(if st.query then 5 else 0:Nat)=0∨(if st.query then 5 else 0:Nat)=5:=by split <;> simp
       exact {
        want:=by rw [hq]
        query:=hq
        err:=he
        n5:=by simp only; omega
        stk:=by simp [hsn,ho]
        opn:=by simp [ho]
        down:=by simp [ho]
        flat:=by simp [ho]
        size:=by simp only; omega
        open2:=by simp only; omega
        name:=by simp only; omega
        inb:=by simp only; omega
        inb1:=by simp only; omega
        goals:=by simp
        heads:=by
         intro hqf
         have hqf:st.query=false:=hqf
         have:=hh hqf
         simp [hqf,this]
        hd:=by simp
        q0:=by intro hqt; have hqt:st.query=true:=hqt; simp [hqt]
        h0:=by simp }
      ·have hst:Zbo st (kmap k)=false:=by
        rw [stand,hfo]
        rcases hk with rfl | rfl | rfl | rfl | rfl | rfl | rfl | rfl <;> simp_all [kmap]
       have hl:Zaj L k = { L with err:=2 }:=by
        unfold Zaj
        simp [h40,hsn,hLb,hk3,hk46]
       rw [hl]
       exact ⟨by simp [Zbx,hst],by simp⟩
    | true =>
     have hfo:∀ kd,Zbw st kd=(kd == 5 || kd == 6):=by intro kd; simp [Zbw,ho,hb]
     have hLb:L.body=true:=hib.trans hb
     have hg:=h.goals hb (by omega) (by omega)
     rw [if_neg (by omega)] at hg
     by_cases hk44:k=44
     ·subst hk44
      have hst:Zbo st (kmap 44)=true:=by rw [stand,hfo]; rfl
      have hl:Zaj L 44 = { L with want:=1 }:=by simp [Zaj,hsn,hLb]
      rw [hl,chk true hst hkm]
      refine ⟨he.symm,fun _ => ?_⟩
      have hst2:Zbp st (kmap 44) t = { st with body:=st.body++[st.atom],atom:=[],next:=1 }:=by simp [Zvn,Zbp,Zgc,Zaw,ho,hb]
      rw [hst2]
      exact {
       want:=rfl
       query:=hq
       err:=he
       n5:=by simp
       stk:=by simp [hsn,ho]
       opn:=by simp [ho]
       down:=by simp [ho]
       flat:=by simp [ho]
       size:=by simp
       open2:=by simp
       name:=by simp
       inb:=fun _ _=>hib
       inb1:=fun _=>hb
       goals:=by simp [hg]
       heads:=by simpa using hh
       hd:=by simp [hb]
       q0:=by simp
       h0:=by simp }
     ·by_cases hk46:k=46
      ·subst hk46
       have hst:Zbo st (kmap 46)=true:=by rw [stand,hfo]; rfl
       have hl:Zaj L 46 = { L with want:=if L.query then 5 else 0 }:=by cases hq:L.query <;> simp [Zaj,hsn,hLb,hq]
       rw [hl,chk true hst hkm]
       refine ⟨he.symm,fun _ => ?_⟩
       have hst2:Zbp st (kmap 46) t = { st with clauses:=st.clauses++[⟨st.head,st.body++[st.atom],st.vars⟩],atom:=[],head:=[],body:=[],vars:=[],inBody:=false,next:=if st.query then 5 else 0 }:=by simp [Zvo,Zbp,Zaw,Zas,hb]
       rw [hst2]
       have hnx:(if st.query then 5 else 0:Nat)=0∨(if st.query then 5 else 0:Nat)=5:=by split <;> simp
       exact {
        want:=by rw [hq]
        query:=hq
        err:=he
        n5:=by simp only; omega
        stk:=by simp [hsn,ho]
        opn:=by simp [ho]
        down:=by simp [ho]
        flat:=by simp [ho]
        size:=by simp only; omega
        open2:=by simp only; omega
        name:=by simp only; omega
        inb:=by simp only; omega
        inb1:=by simp only; omega
        goals:=by simp
        heads:=by
         intro hqf
         have hqf:st.query=false:=hqf
         have:=hh hqf
         simp [hqf,this]
        hd:=by simp
        q0:=by intro hqt; have hqt:st.query=true:=hqt; simp [hqt]
        h0:=by simp }
      ·have hst:Zbo st (kmap k)=false:=by
        rw [stand,hfo]
        rcases hk with rfl | rfl | rfl | rfl | rfl | rfl | rfl | rfl <;> simp_all [kmap]
       have hl:Zaj L k = { L with err:=2 }:=by
        unfold Zaj
        simp [h40,hsn,hLb,hk44,hk46]
       rw [hl]
       exact ⟨by simp [Zbx,hst],by simp⟩
   | cons n r =>
    have hsn:L.stk=Zfe st.atom n::r.map (Zfe st.atom):=by rw [hs,ho]; rfl
    have hfo:∀ kd,Zbw st kd=(kd == 5 || kd == 4):=by intro kd; simp [Zbw,ho]
    by_cases hk44:k=44
    ·subst hk44
     have hst:Zbo st (kmap 44)=true:=by rw [stand,hfo]; rfl
     have hl:Zaj L 44 = { L with want:=2 }:=by simp [Zaj,hsn]
     rw [hl,chk true hst hkm]
     refine ⟨he.symm,fun _ => ?_⟩
     have hst2:Zbp st (kmap 44) t = { st with next:=2 }:=by simp [Zvn,Zbp,Zgc,ho]
     rw [hst2]
     exact {
      want:=rfl
      query:=hq
      err:=he
      n5:=by simp
      stk:=hs
      opn:=h.opn
      down:=h.down
      flat:=by simp
      size:=fun _=>hsz
      open2:=by simp [ho]
      name:=by simp
      inb:=fun _ _=>hib
      inb1:=by simp
      goals:=fun hi _ _=>by have:=h.goals hi (by omega) (by omega); rw [if_neg (by omega)] at this; simpa using this
      heads:=by simpa using hh
      hd:=h.hd
      q0:=by simp
      h0:=by simp }
    ·by_cases hk41:k=41
     ·subst hk41
      have hst:Zbo st (kmap 41)=true:=by rw [stand,hfo]; rfl
      have hl:Zaj L 41 = { L with stk:=r.map (Zfe st.atom),want:=4 }:=by simp [Zaj,hsn]
      rw [hl,chk true hst hkm]
      refine ⟨he.symm,fun _ => ?_⟩
      have hst2:Zbp st (kmap 41) t = { st with opn:=r,next:=4 }:=by simp [Yfw,Zbp,Zis,ho]
      rw [hst2]
      have hd:=h.down
      rw [ho,List.pairwise_cons] at hd
      exact {
       want:=rfl
       query:=hq
       err:=he
       n5:=by simp
       stk:=rfl
       opn:=fun m hm=>h.opn m (by rw [ho]; simp [hm])
       down:=hd.2
       flat:=by simp
       size:=fun _=>hsz
       open2:=by simp
       name:=by simp
       inb:=fun _ _=>hib
       inb1:=by simp
       goals:=fun hi _ _=>by have:=h.goals hi (by omega) (by omega); rw [if_neg (by omega)] at this; simpa using this
       heads:=by simpa using hh
       hd:=h.hd
       q0:=by simp
       h0:=by simp }
     ·have hst:Zbo st (kmap k)=false:=by
       rw [stand,hfo]
       rcases hk with rfl | rfl | rfl | rfl | rfl | rfl | rfl | rfl <;> simp_all [kmap]
      have hl:Zaj L k = { L with err:=2 }:=by
       unfold Zaj
       simp [h40,hsn,hk44,hk41]
      rw [hl]
      exact ⟨by simp [Zbx,hst],by simp⟩
theorem Ydp {st:RS} {L:LookS} (h:Sim st L) (k len:Nat) (t:List UInt8) (hk:Zhi k) :
  Zbx st (kmap k) len=(Zat L k len).err∧((Zat L k len).err=0→Sim (Zbp st (kmap k) t) (Zat L k len)):=by
 have h5:=h.n5
 have hw:=h.want
 have hc:(st.next=0∨st.next=1)∨st.next=2∨(st.next=3∨st.next=4)∨st.next=5:=by omega
 rcases hc with hn | hn | hn | hn
 ·exact Yam h k len t hk hn
 ·exact Ygq h k len t hk hn
 ·exact Zxk h k len t hk hn
 ·have hl:Zat L k len = { L with err:=2 }:=by rw [Zat,if_neg (by omega),if_pos (by omega)]
  have hst:Zbo st (kmap k)=false:=by unfold Zbo; simp [hn]
  rw [hl]
  exact ⟨by simp [Zbx,hst],by simp⟩
def takes:List Tok→RS→RS
 | [],st=>st
 | t::ts,st=>takes ts (Zbp st (kmap t.kind) t.text)
theorem Zlc (a b:List Tok) (st:RS):takes (a++b) st=takes b (takes a st):=by
 induction a generalizing st with
 | nil=>rfl
 | cons t a ih=>exact ih _
theorem Ygr {st:RS} {L:LookS} (h:Sim st L) (hn:st.next≠0∧st.next≠5):(Zat L 4 0).err=2:=by
 have h5:=h.n5
 have hw:=h.want
 unfold Zat
 by_cases h2:L.want≤2
 ·rw [if_pos h2]
  simp [Zau]
 ·rw [if_neg h2,if_neg (by omega)]
  unfold Zaj
  simp
theorem Yan (e:Nat):∀ (ts:List Tok) (st:RS) (L:LookS),Sim st L→(∀ t ∈ ts,Zhi t.kind) →
  (runT e ts st).1=(Zcx (ts++[⟨4,[],e⟩]) L).1∧((runT e ts st).1≠0→(runT e ts st).2.1=(Zcx (ts++[⟨4,[],e⟩]) L).2)∧((runT e ts st).1=0→(runT e ts st).2.2=takes ts st):=by
 intro ts
 induction ts with
 | nil =>
  intro st L h _
  have hw:=h.want
  simp only [List.nil_append,Zcx,runT,takes]
  by_cases hn:st.next≠0∧st.next≠5
  ·have he:=Ygr h hn
   simp only [Qt,he]
   rw [if_pos hn,if_neg (by omega)]
   simp
  ·rw [if_neg hn,if_pos (by refine ⟨trivial,?_⟩; omega)]
   simp
 | cons t ts ih =>
  intro st L h hk
  have hkt:=hk t (by simp)
  obtain ⟨h1,h2⟩:=Ydp h t.kind t.text.length t.text hkt
  have h4:¬ (t.kind=4∧(L.want=5∨L.want=0)):=by
   rintro ⟨h4,_⟩
   rcases hkt with h | h | h | h | h | h | h | h <;> omega
  simp only [List.cons_append,Zcx,runT,takes]
  rw [h1,if_neg h4]
  by_cases he:(Zat L t.kind t.text.length).err=0
  ·rw [if_neg (by simp [he]),if_neg (by simp [he])]
   exact ih _ _ (h2 he) (fun t' ht=>hk t' (by simp [ht]))
  ·rw [if_pos he,if_pos he]
   exact ⟨rfl,fun _=>rfl,fun h=>absurd h he⟩
theorem sim0 (q:Bool):Sim ⟨q,if q then 1 else 0,q,[],[],[],[],[],[]⟩ (Zbd q):=by
 cases q
 ·exact ⟨rfl,rfl,rfl,by simp,rfl,by simp,by simp,by simp,by simp,by simp,by simp,by simp,by simp,by simp,by simp [Zbd],by simp,by simp,by simp⟩
 ·exact ⟨rfl,rfl,rfl,by simp,rfl,by simp,by simp,by simp,by simp,by simp,by simp,by simp [Zbd],by simp,by simp [Zbd],by simp,by simp,by simp,by simp⟩
theorem Yao:∀ (f:Nat) (l:List UInt8) (p:Nat),∀ t ∈ lexF f l p,Zhi t.kind:=by
 intro f
 induction f with
 | zero=>intro l p t ht; simp [lexF] at ht
 | succ f ih =>
  intro l p t ht
  cases l with
  | nil=>simp [lexF] at ht
  | cons c r =>
   rw [lexF] at ht
   split at ht
   ·exact ih _ _ t ht
   ·simp only [Qp] at ht
    rcases ht with rfl | ht
    ·exact (Zmi c r).2
    ·exact ih _ _ t ht
theorem Zko (l:List UInt8) (p:Nat):∀ t ∈ toks l p,Zhi t.kind:=Yao _ l p
def Zgl (st:RS) (l:List Sym) (names:Names) (nx:Nat):RS := { st with atom:=Zco st++l,vars:=names,next:=nx }
def Yap (n:Nat):Prop:=∀ (ts:List Tok) (L:LookS) (f:Nat) (st:RS),ts.length≤n→ts.length≤f→okk ts L→fin ts→L.want≤2→L.err=0→(L.want=2→L.stk≠[])→(∀ t r,ts=t::r→t.kind≠4) →
 ∃ r L' m,Zda f ts st.vars=some r∧Aft r.2.1 L L' (Zbm L).stk∧r.2.1=ts.drop m∧r.2.1.length<ts.length∧takes (ts.take m) st=Zgl st r.1 r.2.2 L'.want
theorem Zeu {xs ys:List Tok} {y:Tok} {m1:Nat} (h:xs.drop m1=y::ys) (m2:Nat) (st:RS):takes (xs.take (m1+(1+m2))) st=takes (ys.take m2) (Zbp (takes (xs.take m1) st) (kmap y.kind) y.text)∧xs.drop (m1+(1+m2))=ys.drop m2:=by
 constructor
 ·rw [List.take_add,Zlc,h,Nat.add_comm 1 m2]
  rfl
 ·rw [← List.drop_drop,h,Nat.add_comm 1 m2]
  rfl
theorem Ygs (A:List Sym) (nm:List UInt8) (k:Nat) (B:List Sym):(A++(⟨nm,0,k⟩:Sym)::B).modify A.length (fun s => { s with args:=s.args+1 })=A++⟨nm,0,k+1⟩::B:=by
 induction A with
 | nil=>simp
 | cons a A ih=>simp [ih]
theorem Ydq (n f:Nat) (IH:Yap n):∀ (g:Nat) (x:Tok) (xs:List Tok) (L:LookS) (m:Nat) (r:List Nat) (acc:List (List Sym)) (st:RS) (A:List Sym) (nm:List UInt8) (o:List Nat),xs.length≤n→xs.length≤f→xs.length+1≤g→x.kind≠41 →
  okk xs L→fin xs→L.want=2→L.stk=m::r→L.err=0→st.atom=A++⟨nm,0,acc.length⟩::acc.flatten→st.opn=A.length::o →
  ∃ q L' i,Zer (Zda f) g (x::xs) st.vars acc=some q∧Aft q.2.1 L L' r∧L'.want=4∧q.2.1=xs.drop i∧q.2.1.length<xs.length ∧
   takes (xs.take i) st = { st with atom:=A++⟨nm,0,q.1.length⟩::q.1.flatten,opn:=o,vars:=q.2.2,next:=4 }:=by
 intro g
 induction g with
 | zero=>intro x xs L m r acc st A nm o h1 h1' h2; omega
 | succ g ih =>
  intro x xs L m r acc st A nm o h1 h1' h2 h41 hok hfin hw hst he hat hop
  have hx4:∀ t r,xs=t::r→t.kind≠4:=by
   rintro t r rfl h4
   have:=(Zgz hok (by omega)).1
   unfold Zat at this
   rw [if_pos (by omega)] at this
   rcases Zjb he this with h | h <;> omega
  obtain ⟨r1,L1,m1,hp,ha,hd,hl,htk⟩:=IH xs L f st h1 (by omega) hok hfin (by omega) he (by rw [hst]; simp) hx4
  have hls:(Zbm L).stk=(m+1)::r:=by simp [Zbm,hw,hst]
  rw [hls] at ha
  rw [Zer,if_neg h41,hp]
  simp only
  have hbump:Zco st=A++⟨nm,0,acc.length+1⟩::acc.flatten:=by
   unfold Zco
   rw [hop]
   simp only
   rw [hat,Ygs]
  cases hr:r1.2.1 with
  | nil=>rw [hr] at ha; exact ha.fin.elim
  | cons y ys =>
   rw [hr] at ha hl hd
   simp only [Qf] at hl
   have hat1:(Zgl st r1.1 r1.2.2 L1.want).atom=A++⟨nm,0,(acc++[r1.1]).length⟩::(acc++[r1.1]).flatten:=by
    unfold Zgl
    simp [hbump]
   rcases Yil ha with ⟨hy,ho,hf,hE⟩ | ⟨hy,ho,hf,hE⟩
   ·have hst1:Zbp (Zgl st r1.1 r1.2.2 L1.want) (kmap y.kind) y.text = { Zgl st r1.1 r1.2.2 L1.want with next:=2 }:=by
     rw [hy]
     simp [Zvn,Zbp,Zgc,Zgl,hop]
    obtain ⟨q,L2,i,h5,h6,h6',h7,h7',h8⟩:=ih y ys (Zaj L1 44) (m+1) r (acc++[r1.1]) { Zgl st r1.1 r1.2.2 L1.want with next:=2 } A nm o (by omega) (by omega) (by omega) (by omega) ho hf (by rw [hE]) (by rw [hE]; exact ha.stk) (by rw [hE]; exact ha.err) hat1 hop
    obtain ⟨hs1,hs2⟩:=Zeu hd.symm i st
    refine ⟨q,L2,m1+(1+i),h5,⟨h6.ok,h6.fin,h6.want,h6.stk,h6.err,?_,?_⟩,h6',?_,by omega,?_⟩
    ·rw [h6.query,hE]; exact ha.query
    ·rw [h6.body,hE]
     have:=ha.body
     simp [hw] at this ⊢
     exact this
    ·rw [hs2]; exact h7
    ·rw [hs1,htk,hst1,h8]
     rfl
   ·have hst1:Zbp (Zgl st r1.1 r1.2.2 L1.want) (kmap y.kind) y.text = { Zgl st r1.1 r1.2.2 L1.want with opn:=o,next:=4 }:=by
     rw [hy]
     simp [Yfw,Zbp,Zis,Zgl,hop]
    obtain ⟨hs1,hs2⟩:=Zeu hd.symm 0 st
    refine ⟨(acc++[r1.1],ys,r1.2.2),Zaj L1 41,m1+(1+0),?_,⟨ho,hf,Or.inl (by rw [hE]),by rw [hE],by rw [hE]; exact ha.err,by rw [hE]; exact ha.query,by rw [hE]; exact ha.body⟩,by rw [hE],?_,by simp; omega,?_⟩
    ·cases g with
     | zero=>omega
     | succ g=>rw [Zer,if_pos hy]
    ·rw [hs2]; rfl
    ·rw [hs1,htk,hst1]
     show ({ Zgl st r1.1 r1.2.2 L1.want with opn:=o,next:=4 }:RS)=_
     have:({ Zgl st r1.1 r1.2.2 L1.want with opn:=o,next:=4 }:RS) = { st with atom:=(Zgl st r1.1 r1.2.2 L1.want).atom,opn:=o,vars:=r1.2.2,next:=4 }:=rfl
     rw [this,hat1]
theorem Zvp:∀ n,Yap n:=by
 intro n
 induction n with
 | zero =>
  intro ts L f st h1 h2 hok hfin
  cases ts with
  | nil=>exact hfin.elim
  | cons t ts=>simp at h1
 | succ n IH =>
  intro ts L f st h1 h2 hok hfin hw he hst hne
  cases ts with
  | nil=>exact hfin.elim
  | cons t ts =>
   have h4:=hne t ts rfl
   simp only [Qf] at h1 h2
   cases f with
   | zero=>omega
   | succ f =>
    obtain ⟨he1,ho1⟩:=Zgz hok (by omega)
    unfold Zat at he1 ho1
    rw [if_pos hw] at he1 ho1
    have hk:=Zjb he he1
    obtain ⟨k1,k2,k3,k4⟩:=Zpq he1 hk
    have hfin1:fin ts:=by
     rcases hfin with h | h
     ·exact absurd h h4
     ·exact h
    by_cases hv:t.kind=2
    ·rw [Zda,if_pos hv]
     refine ⟨_,Zau L t.kind t.text.length,1,rfl,⟨ho1,hfin1,Or.inl (by rw [k1,hv]; rfl),k2,he1,k3,k4⟩,rfl,by simp,?_⟩
     have ht:Zbp st (kmap t.kind) t.text = { st with atom:=Zco st++[⟨[],(Zbl st.vars t.text).2,0⟩],vars:=(Zbl st.vars t.text).1,next:=4 }:=by rw [hv]; simp [Yim,Zbp,addS,varS,Zco]
     show Zbp st (kmap t.kind) t.text=_
     rw [ht,k1,if_neg (by omega)]
     rfl
    ·have hk1:t.kind=1:=by omega
     have ht1:Zbp st (kmap t.kind) t.text = { st with atom:=Zco st++[⟨t.text,0,0⟩],next:=3 }:=by rw [hk1]; simp [Ydo,Zbp,addS]
     rw [Zda,if_neg hv]
     cases ts with
     | nil=>exact hfin1.elim
     | cons u us =>
      rw [Zlk]
      simp only [Qf] at h1 h2
      rw [if_pos hk1] at k1
      by_cases hu:u.kind=40
      ·rw [if_neg (by simp [hu])]
       obtain ⟨he2,ho2⟩:=Zgz ho1 (by omega)
       unfold Zat at he2 ho2
       rw [if_neg (by omega),if_neg (by omega),hu] at he2 ho2
       have hE:Zaj (Zau L t.kind t.text.length) 40 = { Zau L t.kind t.text.length with stk:=0::(Zau L t.kind t.text.length).stk,want:=2 }:=by
        simp [Zaj,k1]
       have hfin2:fin us:=by
        rcases hfin1 with h | h
        ·omega
        ·exact h
       have ht2:Zbp { st with atom:=Zco st++[⟨t.text,0,0⟩],next:=3 } (kmap u.kind) u.text = { st with atom:=Zco st++[⟨t.text,0,0⟩],opn:=(Zco st).length::st.opn,next:=2 }:=by
        rw [hu]; simp [Zvm,Zbp]
       obtain ⟨q,L2,i,h5,h6,h6',h7,h7',h8⟩:=Ydq n f IH (us.length+1) u us _ 0 (Zbm L).stk [] { st with atom:=Zco st++[⟨t.text,0,0⟩],opn:=(Zco st).length::st.opn,next:=2 } (Zco st) t.text st.opn (by omega) (by omega) (by omega) (by omega) ho2 hfin2 (by rw [hE]) (by rw [hE,← k2]) (by rw [hE]; exact he1) rfl rfl
       rw [show Zer (Zda f) (us.length+1) (u::us) st.vars []=some q from h5]
       refine ⟨_,L2,i+2,rfl,⟨h6.ok,h6.fin,h6.want,h6.stk,h6.err,?_,?_⟩,?_,by simp; omega,?_⟩
       ·rw [h6.query,hE]; exact k3
       ·rw [h6.body,hE]
        simpa using k4
       ·exact h7
       ·show takes (us.take i) (Zbp (Zbp st (kmap t.kind) t.text) (kmap u.kind) u.text)=_
        rw [ht1,ht2,h8,h6']
        rfl
      ·rw [if_pos hu]
       refine ⟨_,Zau L t.kind t.text.length,1,rfl,⟨ho1,hfin1,Or.inr ⟨k1,?_⟩,k2,he1,k3,k4⟩,rfl,by simp,?_⟩
       ·intro y ys hy
        simp at hy
        rw [← hy.1]; exact hu
       ·show Zbp st (kmap t.kind) t.text=_
        rw [ht1,k1]
        rfl
def clsS (st:RS) (hd:List Sym) (bd:List (List Sym)) (vs:Names):RS := { st with clauses:=st.clauses++[⟨hd,bd,vs⟩],atom:=[],opn:=[],head:=[],body:=[],vars:=[],inBody:=false,next:=if st.query then 5 else 0 }
theorem Zro:∀ (g:Nat) (ts:List Tok) (L:LookS) (acc:List (List Sym)) (st:RS),ts.length≤g→ts.length≤1000→okk ts L→fin ts→L.want=1→L.stk=[]→L.body=true→L.err=0→st.opn=[]→st.atom=[]→st.inBody=true →
  ∃ q L' i ex,Zdc 1000 g ts st.vars acc=some q∧okk q.2.1 L'∧fin q.2.1∧L'.want=(if L.query then 5 else 0)∧L'.stk=[]∧L'.err=0∧L'.query=L.query∧q.2.1.length<ts.length∧q.2.1=ts.drop i∧q.1=acc++ex ∧
   takes (ts.take i) st=clsS st st.head (st.body++ex) q.2.2:=by
 intro g
 induction g with
 | zero =>
  intro ts L acc st h1 h2 hok hfin
  cases ts with
  | nil=>exact hfin.elim
  | cons t ts=>simp at h1
 | succ g ih =>
  intro ts L acc st h1 h2 hok hfin hw hst hb he hop hat hib
  obtain ⟨r1,L1,m1,hp,ha,hd,hl,htk⟩:=Zvp ts.length ts L 1000 st (Qe _) h2 hok hfin (by omega) he (by omega) (Ygp hok hw he)
  have hls:(Zbm L).stk=[]:=by simp [Zbm,hw,hst]
  rw [hls] at ha
  have hb1:L1.body=true:=by rw [ha.body,if_neg (by omega)]; exact hb
  have hbump:Zco st=[]:=by simp [Zco,hop,hat]
  rw [Zdc,hp]
  simp only
  cases hr:r1.2.1 with
  | nil=>rw [hr] at ha; exact ha.fin.elim
  | cons y ys =>
   rw [hr] at ha hl hd
   simp only [Qf] at hl
   simp only
   rcases Yah ha with ⟨hy,_,ho,hf,hE⟩ | ⟨hy,hb2,_⟩ | ⟨hy,ho,hf,hE⟩
   ·rw [if_neg (by omega)]
    have hst1:Zbp (Zgl st r1.1 r1.2.2 L1.want) (kmap y.kind) y.text = { st with body:=st.body++[r1.1],atom:=[],vars:=r1.2.2,next:=1 }:=by
     rw [hy]
     simp [Zvn,Zbp,Zgc,Zaw,Zgl,hop,hib,hbump]
    obtain ⟨q,L2,i,ex,h5,h6,h7,h8,h9,h10,h11,h12,h13,h14,h15⟩:=ih ys (Zaj L1 44) (acc++[r1.1]) { st with body:=st.body++[r1.1],atom:=[],vars:=r1.2.2,next:=1 } (by omega) (by omega) ho hf (by rw [hE]) (by rw [hE]; exact ha.stk) (by rw [hE]; exact hb1) (by rw [hE]; exact ha.err) hop rfl hib
    have hq:(Zaj L1 44).query=L.query:=by rw [hE]; exact ha.query
    rw [hq] at h8 h11
    obtain ⟨hs1,hs2⟩:=Zeu hd.symm i st
    refine ⟨q,L2,m1+(1+i),r1.1::ex,h5,h6,h7,h8,h9,h10,h11,by omega,by rw [hs2]; exact h13,by rw [h14]; simp,?_⟩
    rw [hs1,htk,hst1,h15]
    simp [clsS]
   ·rw [hb1] at hb2; cases hb2
   ·rw [if_pos hy]
    have hst1:Zbp (Zgl st r1.1 r1.2.2 L1.want) (kmap y.kind) y.text=clsS st st.head (st.body++[r1.1]) r1.2.2:=by
     rw [hy]
     simp [Zvo,Zbp,Zas,Zaw,Zgl,hop,hib,hbump,clsS]
    obtain ⟨hs1,hs2⟩:=Zeu hd.symm 0 st
    refine ⟨_,_,m1+(1+0),[r1.1],rfl,ho,hf,by rw [hE,ha.query],by rw [hE]; exact ha.stk,by rw [hE]; exact ha.err,by rw [hE]; exact ha.query,by simp; omega,by rw [hs2]; rfl,rfl,?_⟩
    rw [hs1,htk,hst1]
    rfl
structure Clean (st:RS):Prop where
 query:st.query=false
 next:st.next=0
 inb:st.inBody=false
 atom:st.atom=[]
 opn:st.opn=[]
 head:st.head=[]
 body:st.body=[]
 vars:st.vars=[]
theorem Zxl (ts:List Tok) (L:LookS) (st:RS) (h2:ts.length≤1000) (hok:okk ts L) (hfin:fin ts) (hw:L.want=0) (hst:L.stk=[]) (he:L.err=0) (hq:L.query=false) (hne:∀ t r,ts=t::r→t.kind≠4) (hc:Clean st) :
  ∃ c L' i,Zfv ts=some c∧okk c.2 L'∧fin c.2∧L'.want=0∧L'.stk=[]∧L'.err=0∧L'.query=false∧c.2.length<ts.length∧c.2=ts.drop i∧takes (ts.take i) st = { st with clauses:=st.clauses++[c.1] }:=by
 obtain ⟨r1,L1,m1,hp,ha,hd,hl,htk⟩:=Zvp ts.length ts L 1000 st (Qe _) h2 hok hfin (by omega) he (by omega) hne
 have hls:(Zbm L).stk=[]:=by simp [Zbm,hw,hst]
 rw [hls] at ha
 have hb1:L1.body=false:=by rw [ha.body,if_pos hw]
 have hbump:Zco st=[]:=by simp [Zco,hc.opn,hc.atom]
 have hback:∀ hd bd vs,clsS st hd bd vs = { st with clauses:=st.clauses++[⟨hd,bd,vs⟩] }:=by
  intro hd bd vs
  obtain ⟨c1,c2,c3,c4,c5,c6,c7,c8⟩:=hc
  cases st
  simp only at c1 c2 c3 c4 c5 c6 c7 c8
  subst c1 c2 c3 c4 c5 c6 c7 c8
  rfl
 rw [hc.vars] at hp
 rw [Zfv,hp]
 simp only
 cases hr:r1.2.1 with
 | nil=>rw [hr] at ha; exact ha.fin.elim
 | cons y ys =>
  rw [hr] at ha hl hd
  simp only [Qf] at hl
  simp only
  rcases Yah ha with ⟨hy,hb2,_⟩ | ⟨hy,_,ho,hf,hE⟩ | ⟨hy,ho,hf,hE⟩
  ·rw [hb1] at hb2; cases hb2
  ·rw [if_pos hy]
   have hst1:Zbp (Zgl st r1.1 r1.2.2 L1.want) (kmap y.kind) y.text = { st with head:=r1.1,atom:=[],vars:=r1.2.2,inBody:=true,next:=1 }:=by
    rw [hy]
    simp [Yin,Zbp,Zaw,Zgl,hc.inb,hbump]
   obtain ⟨q,L2,i,ex,h5,h6,h7,h8,h9,h10,h11,h12,h13,h14,h15⟩:=Zro 1000 ys (Zaj L1 3) [] { st with head:=r1.1,atom:=[],vars:=r1.2.2,inBody:=true,next:=1 } (by omega) (by omega) ho hf (by rw [hE]) (by rw [hE]; exact ha.stk) (by rw [hE]) (by rw [hE]; exact ha.err) hc.opn rfl rfl
   have hq2:(Zaj L1 3).query=false:=by rw [hE]; exact ha.query.trans hq
   rw [hq2] at h8 h11
   rw [h5]
   obtain ⟨hs1,hs2⟩:=Zeu hd.symm i st
   refine ⟨_,L2,m1+(1+i),rfl,h6,h7,by simpa using h8,h9,h10,h11,by simp; omega,by rw [hs2]; exact h13,?_⟩
   rw [hs1,htk,hst1,h15,← hback]
   simp only [List.nil_append] at h14
   simp [clsS,hc.body,h14]
  ·rw [if_neg (by omega)]
   have hq2:L1.query=false:=ha.query.trans hq
   have hst1:Zbp (Zgl st r1.1 r1.2.2 L1.want) (kmap y.kind) y.text=clsS st r1.1 [] r1.2.2:=by
    rw [hy]
    simp [Zvo,Zbp,Zas,Zaw,Zgl,hc.opn,hc.inb,hc.body,hbump,clsS]
   obtain ⟨hs1,hs2⟩:=Zeu hd.symm 0 st
   refine ⟨_,_,m1+(1+0),rfl,ho,hf,by rw [hE,hq2]; rfl,by rw [hE]; exact ha.stk,by rw [hE]; exact ha.err,by rw [hE]; exact hq2,by simp; omega,by rw [hs2]; rfl,?_⟩
   rw [hs1,htk,hst1,hback]
   rfl
theorem Ydr:∀ (g:Nat) (ts:List Tok) (L:LookS) (acc:List Cls) (st:RS),ts.length≤g→ts.length≤1000→okk ts L→fin ts→L.want=0→L.stk=[]→L.err=0→L.query=false→Clean st →
  ∃ cs i ex,Zhl g ts acc=some cs∧(∃ t r,ts.drop i=t::r∧t.kind=4)∧cs=acc++ex∧takes (ts.take i) st = { st with clauses:=st.clauses++ex }:=by
 intro g
 induction g with
 | zero =>
  intro ts L acc st h1 h2 hok hfin
  cases ts with
  | nil=>exact hfin.elim
  | cons t ts=>simp at h1
 | succ g ih =>
  intro ts L acc st h1 h2 hok hfin hw hst he hq hc
  cases ts with
  | nil=>exact hfin.elim
  | cons t ts =>
   rw [Zhl]
   by_cases h4:t.kind=4
   ·rw [if_pos h4]
    exact ⟨_,0,[],rfl,⟨t,ts,rfl,h4⟩,by simp,by simp [takes]⟩
   ·rw [if_neg h4]
    obtain ⟨c,L1,i,hp,h5,h6,h7,h8,h9,h10,h11,h12,h13⟩:=Zxl (t::ts) L st h2 hok hfin hw hst he hq (fun t' r' e=>by simp at e; rw [← e.1]; exact h4) hc
    rw [hp]
    simp only
    simp only [Qf] at h1 h2 h11
    obtain ⟨cs,j,ex,k1,k2,k3,k4⟩:=ih c.2 L1 (acc++[c.1]) { st with clauses:=st.clauses++[c.1] } (by omega) (by omega) h5 h6 h7 h8 h9 h10 ⟨hc.query,hc.next,hc.inb,hc.atom,hc.opn,hc.head,hc.body,hc.vars⟩
    refine ⟨cs,i+j,c.1::ex,k1,?_,by rw [k3]; simp,?_⟩
    ·rw [← List.drop_drop,← h12]; exact k2
    ·rw [List.take_add,Zlc,h13,← h12,k4]
     simp
theorem Yfx {ts:List Tok} {e:Tok} {i:Nat} (hk:∀ t ∈ ts,Zhi t.kind) (h:∃ t r,(ts++[e]).drop i=t::r∧t.kind=4):(ts++[e]).take i=ts:=by
 obtain ⟨t,r,hd,h4⟩:=h
 rcases Nat.lt_trichotomy i ts.length with hi | hi | hi
 ·exfalso
  rw [List.drop_append_of_le_length (by omega),List.drop_eq_getElem_cons hi,List.cons_append] at hd
  simp only [List.cons.injEq] at hd
  have:=hk ts[i] (List.getElem_mem hi)
  rw [hd.1] at this
  rcases this with h | h | h | h | h | h | h | h <;> omega
 ·subst hi
  simp
 ·exfalso
  rw [List.drop_eq_nil_of_le (by simp; omega)] at hd
  simp at hd
end Go.Proofs.YtlmjilpjmgjjcaaGreatDoor
