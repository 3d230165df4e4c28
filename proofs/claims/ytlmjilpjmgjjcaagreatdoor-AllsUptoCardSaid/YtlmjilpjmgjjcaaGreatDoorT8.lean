/-
  PROVED HERE: what the reference's 'kind' tells of a node that lies in memory (the conditions stand in the statement).
-/
import Derived.Test.YtlmjilpjmgjjcaaGreatDoorT7
set_option linter.unusedSimpArgs false
set_option linter.unusedVariables false
set_option maxRecDepth 10000
set_option maxHeartbeats 4000000
namespace Go.Proofs.YtlmjilpjmgjjcaaGreatDoor
open Go.RowKit
theorem Tryz.infoCell:(Tryz.prog.info? 314).map (fun i=>(i.zero,i.size,i.bytes))=some (some (.agg #[.string ⟨#[]⟩,.int .i64 0,.slice none 0 0,.int .i64 0]),4,56):=by kernel_rfl
theorem Zqb {s:ByteArray} {n m:Int} {ca:Option Addr} {cl cc:Nat}:∀ u ∈ (#[Value.string s,.int .i64 n,.slice ca cl cc,.int .i64 m]:Array Value).toList,u.oneCell'=true:=by
 intro u hu
 simp at hu
 rcases hu with rfl | rfl | rfl | rfl <;> rfl
structure LaidOut (w:World) (B:Nat) (lv:Value) (cs:List CellS) (vs:List Value) (lv':Value) (k:Nat) (cs':List CellS) (vs':List Value) (ts:List (List Sym)) (w':World):Prop where
 cells:CellsAt w' B lv' cs' vs'
 vals:∃ new,vs'=vs++new
 kept:Kept (Zap lv) w w'
 where_:lv'.ownBlock=lv.ownBlock∨∃ g,lv'.ownBlock=some g∧w.heap.size≤g
 fresh:∀ (i:Nat) v k,vs.length≤i→vs'[i]?=some v→v.ownBlock=some k→w.heap.size≤k
def Zvy (n:Nat):Prop:=∀ (w:World) (B:Nat) (lv:Value) (cs:List CellS) (vs:List Value) (X:Nat→Prop) (a b c:Value) (t:List Sym),t.length≤n→CellsAt w B lv cs vs→Rep X w a b c t→B≤w.heap.size→cs.length+t.length≤4000 →
 Calls Tryz.prog 210 #[lv,.agg #[a,b,c]] w fun e w'=>∃ (lv':Value) (k:Nat) (cs':List CellS) (vs':List Value),e = .returned (.tuple #[lv',.int .i64 k])∧LaidOut w B lv cs vs lv' k cs' vs' [t] w'∧LaidL cs cs' [k] [t]
theorem Zua:∀ {cs:List CellS} {vs:List Value} (c:CellS) (v:Value),vs.length=cs.length→Zdh (cs++[c]) (vs++[v])=Zdh cs vs++Zlm c v:=by
 intro cs
 induction cs with
 | nil=>intro vs c v h; cases vs with
  | nil=>simp [Zdh]
  | cons _ _=>simp at h
 | cons d cs ih =>
  intro vs c v h
  cases vs with
  | nil=>simp at h
  | cons u vs =>
   simp only [List.cons_append,Zdh]
   rw [ih c v (by simpa using h)]
   simp
theorem CellsAt.snoc {w w1:World} {B:Nat} {lv lv':Value} {cs:List CellS} {vs:List Value} (h:CellsAt w B lv cs vs) (c:CellS) (hk:c.kids=[]) (ha:Appended w B 314 4 lv (cs.length+1) (Zdh cs vs++Zlm c (.slice none 0 0)) lv' w1) :
  CellsAt w1 B lv' (cs++[c]) (vs++[.slice none 0 0]):=by
 refine ⟨by simp [h.len],?_,?_⟩
 ·rw [Zua c _ h.len]
  simpa using ha.owns
 ·intro i d v h1 h2
  rcases Nat.lt_or_ge i cs.length with hi | hi
  ·rw [Qc hi] at h1
   rw [Qc (by rw [h.len]; exact hi)] at h2
   have hkk:=h.kids i d v h1 h2
   exact ha.kept.owns hkk (fun k e e'=>by
    obtain ⟨cur,hc⟩:=Zar hkk k e
    exact Zah h.owns (by decide) hc e')
  ·have:=(Qa.1 h1).1
   simp at this
   have e:i=cs.length:=by omega
   subst e
   rw [Qd (by rw [h.len]; exact Qe _),h.len] at h2
   simp at h1 h2
   subst h1 h2
   rw [hk]
   exact World.ownsRow_nil _ _ _ _
theorem Zub:∀ {cs:List CellS} {vs:List Value} {x:Nat} {ks:List Nat} {v:Value},vs.length=cs.length→x<cs.length→Zdh (fill cs x ks) (vs.set x v)=(Zdh cs vs).set (x * 4+2) v:=by
 intro cs
 induction cs with
 | nil=>intro vs x ks v _ h; simp at h
 | cons d cs ih =>
  intro vs x ks v hl hx
  cases vs with
  | nil=>simp at hl
  | cons u vs =>
   cases x with
   | zero=>simp [fill,Zdh,Zlm]
   | succ x =>
    have e:=ih (vs:=vs) (x:=x) (ks:=ks) (v:=v) (by simpa using hl) (by simpa using hx)
    have e2:fill (d::cs) (x+1) ks=d::fill cs x ks:=by simp [fill]
    rw [e2,List.set_cons_succ,Zdh,Zdh,e,List.set_append_right _ _ (by simp [Zlm]; omega)]
    congr 2
    simp [Zlm]
    try omega
theorem Ybj {cs:List CellS} {x:Nat} {c:CellS} (h:cs[x]?=some c):fill cs x c.kids=cs:=by
 apply List.ext_getElem?
 intro i
 rw [Zqa]
 by_cases e:x=i
 ·subst e; rw [h]; simp
 ·cases cs[i]? with
  | none=>rfl
  | some d=>simp [e]
theorem CellsAt.fill {w:World} {B g cap n:Nat} {cs:List CellS} {vs:List Value} (h:CellsAt w B (.slice (some ⟨g,0,none⟩) n cap) cs vs) {x:Nat} (hx:x<cs.length) {ks:List Nat} {av:Value} (ha:w.ownsRow B 3 1 av ks.length (ints ks)) :
  CellsAt (w.setCell ⟨g,x * 4+2,none⟩ av) B (.slice (some ⟨g,0,none⟩) n cap) (YtlmjilpjmgjjcaaGreatDoor.fill cs x ks) (vs.set x av):=by
 have hap:∀ {m:Nat} {v:Value} {ys:List Value},w.ownsRow B 3 1 v m ys→∀ k,v.ownBlock=some k→k≠g:=fun hk k e e'=>by
  subst e'
  obtain ⟨cur,hcur⟩:=Zar hk k e
  obtain ⟨cur',hcur'⟩:=Zar h.owns k rfl
  rw [hcur] at hcur'
  simp at hcur'
 refine ⟨by rw [Zkb]; simpa using h.len,?_,?_⟩
 ·rw [Zkb,Zub h.len hx]
  have ho:=h.owns
  refine ⟨by simpa using ho.1,?_⟩
  rcases ho.2 with ⟨h1,_⟩ | ⟨g',cap',cur,h1,hb,hg,hn,hc,hs,ht⟩
  ·simp at h1
  ·simp at h1
   obtain ⟨rfl,rfl,rfl⟩:=h1
   refine .inr ⟨g,cap,cur.setIfInBounds (x * 4+2) av,rfl,hb,Zai hg _ _,hn,hc,by simpa using hs,?_⟩
   rw [← ht]
   simp [List.take_set]
 ·intro i c v h1 h2
  rw [Zqa] at h1
  cases hc:cs[i]? with
  | none=>rw [hc] at h1; simp at h1
  | some c' =>
   rw [hc] at h1
   simp only [Option.map_some,Qo] at h1
   by_cases e:x=i
   ·subst e
    rw [if_pos rfl] at h1
    subst h1
    rw [List.getElem?_set_self (by rw [h.len]; exact hx)] at h2
    simp only [Qo] at h2
    subst h2
    exact Zak ha (fun k e=>Below.heap_setCell _ _ _ _ (hap ha k e))
   ·rw [if_neg e] at h1
    subst h1
    rw [List.getElem?_set_ne e] at h2
    have hk:=h.kids i c' v hc h2
    exact Zak hk (fun k e=>Below.heap_setCell _ _ _ _ (hap hk k e))
theorem Yed (w:World) (B:Nat) (lv:Value) (cs:List CellS) (vs:List Value) (n:Nat) (h:CellsAt w B lv cs vs) (hB:B≤w.heap.size) (hl:cs.length+1≤4000) :
  Calls Tryz.prog 210 #[lv,.agg #[.string ⟨#[]⟩,.int .i64 n,.slice none 0 0]] w fun e w'=>∃ (lv':Value) (k:Nat) (cs':List CellS) (vs':List Value),e = .returned (.tuple #[lv',.int .i64 k])∧LaidOut w B lv cs vs lv' k cs' vs' [vr n] w'∧LaidL cs cs' [k] [vr n]:=by
 obtain ⟨la,lcap,rfl⟩:=Zad h.owns
 have H:=Zaa h
 clear h
 go_enter Tryz.func210,Tryz.ntmps210
 go_wp2
 go_loopg [6] (cs.length+1) (fun gk i wr=>∃ (k:Nat),i = .int .i64 k∧k≤cs.length∧cs.length - k<gk∧Kept Zbf w wr∧wr.heap[w.heap.size]?=some (.cells #[.string ⟨#[]⟩,.int .i64 n,.slice none 0 0] 183 (0,0)) ∧
   (∀ (i:Nat) c,i<k→cs[i]?=some c→c.sym.name=[]→c.sym.num≠n))
 case atStart=>exact ⟨0,by go_num,Qm _,by omega,(Qx _ w).alloc _,heap_alloc_new w _,fun i c h=>by omega⟩
 case round =>
  obtain ⟨k,rfl,hk,hg,hkp,h0,hno⟩:=hrel
  obtain ⟨b0,b1,b2,bf⟩:=box3 h0
  have Hkp:=Zaa hkp
  have H0:=Zaa h0
  have Hno:=Zaa hno
  have hs:=hkp.size
  have Hc:=Zaa (H.out.ext (w':=wr) (fun k hk=>hkp.block k hk (fun h=>h)))
  clear hkp h0 hno
  by_cases hlt:k<cs.length
  ·obtain ⟨g,cap,c,v,he,hc,hv,_,hgl,hcap,c0,c1,c2,c3,cf,_⟩:=Hc.out.at hlt
   simp only [Value.slice.injEq] at he
   obtain ⟨rfl,_,rfl⟩:=he
   have Hc':=Zaa hc
   clear hc hv
   by_cases hn:c.sym.name=[]
   ·have hn':c.sym.name.isEmpty=true:=by simpa using hn
    by_cases hq:c.sym.num=n
    ·have hq':((c.sym.num:Int) == (n:Int))=true:=by rw [beq_iff_eq]; omega
     have Hq:=Zaa hq
     clear hq
     go_wp2_with fail
     go_quiet (fail)
     go_wp2
     go_ret2
     exact ⟨_,k,cs,vs,rfl,⟨Hc.out.ext (fun _ _=>rfl),⟨[],by simp⟩,(Hkp.out.drewN _).mono (fun _ _ h=>h.elim),Or.inl rfl,fun i v k h1 h2=>by have:=(Qa.1 h2).1; omega⟩,LaidL.hit Hc'.out hn Hq.out⟩
    ·have hq':((c.sym.num:Int) == (n:Int))=false:=by rw [Qu]; omega
     have Hq:=Zaa hq
     clear hq
     go_wp2_with fail
     go_quiet (fail)
     go_wp2
     go_roundg (cs.length - k)
     case measure=>omega
     case rel =>
      refine ⟨k+1,by go_num,by omega,by omega,Hkp.out.drewN _,H0.out,fun i d hi hd hdn => ?_⟩
      by_cases e:i=k
      ·subst e; rw [Hc'.out] at hd; simp at hd; subst hd; exact Hq.out
      ·exact Hno.out i d (by omega) hd hdn
   ·have hn':c.sym.name.isEmpty=false:=by simpa using hn
    go_wp2_with fail
    go_quiet (fail)
    go_wp2
    go_roundg (cs.length - k)
    case measure=>omega
    case rel =>
     refine ⟨k+1,by go_num,by omega,by omega,Hkp.out.drewN _,H0.out,fun i d hi hd hdn => ?_⟩
     by_cases e:i=k
     ·subst e; rw [Hc'.out] at hd; simp at hd; subst hd; exact absurd hdn hn
     ·exact Hno.out i d (by omega) hd hdn
  ·have hek:k=cs.length:=by omega
   subst hek
   have hsb:=Zac H0.out
   go_wp2_with (at_builtin; refine Zal _ rfl (.tmp 43) (.tmp 50) 308 rfl B 314 Tryz.infoCell Tryz.underlying308 rfl (by decide) _ cs.length (Zdh cs vs) rfl Hc.out.owns _ rfl rfl rfl Zqb ?_ ?_ ?_)
   ·omega
   ·omega
   intro lv' w1 hap
   have hcs1:=CellsAt.snoc Hc.out ⟨⟨[],n,0⟩,[],cs.length⟩ rfl hap
   obtain ⟨g,cap,c,v,rfl,hc,hv,hBg,hgl,hcap,c0,c1,c2,c3,cf,_⟩:=hcs1.at (i:=cs.length) (by simp)
   have hblk:=(hap.kept.block _ hsb (Zah Hc.out.owns (by decide) H0.out)).trans H0.out
   obtain ⟨p0,p1,p2,pf⟩:=box3 hblk
   have Hcs1:=Zaa hcs1
   have Hap:=Zaa hap
   have Hblk:=Zaa hblk
   have hs1:=hap.kept.size
   have hls:(cs++[(⟨⟨[],n,0⟩,[],cs.length⟩:CellS)]).length=cs.length+1:=by simp
   clear hcs1 hap hblk hc hv
   rw [hls] at Hcs1 Hap hcap ⊢
   clear hls
   go_wp2
   go_loopg [0,8,9] 1 (fun gk l ar i wr=>l = .slice (some ⟨g,0,none⟩) (cs.length+1) cap∧ar = .slice none 0 0∧i = .int .i64 0∧0<gk∧wr=w1)
   case atStart=>exact ⟨rfl,rfl,rfl,by omega,rfl⟩
   case round =>
    obtain ⟨rfl,rfl,rfl,_,rfl⟩:=hrel
    go_wp2
    go_ret2
    have hf:=Hcs1.out.fill (x:=cs.length) (ks:=[]) (av := .slice none 0 0) (by simp) (World.ownsRow_nil _ _ _ _)
    rw [Ybj (c:=⟨⟨[],n,0⟩,[],cs.length⟩) (by simp)] at hf
    have hv:(vs++[Value.slice none 0 0]).set cs.length (.slice none 0 0)=vs++[.slice none 0 0]:=by
     rw [← Hc.out.len]; simp
    rw [hv] at hf
    refine ⟨_,cs.length,_,_,rfl,⟨hf,⟨_,rfl⟩,?_,?_,?_⟩,LaidL.miss (fun i c hc=>Hno.out i c (Qa.1 hc).1 hc)⟩
    ·have hk:=((Hkp.out.mono (fun _ _ h=>h.elim)).then (S:=Zap (.slice la cs.length lcap)) Hap.out.kept (fun _ _ h=>h))
     refine Qy hk (fun hlt => ?_) _
     rcases Hap.out.where_ with hw | ⟨g',hw,hg⟩
     ·exact hw.symm
     ·simp [Value.ownBlock] at hw; subst hw; simp only at hlt; omega
    ·rcases Hap.out.where_ with hw | ⟨g',hw,hg⟩
     ·exact Or.inl hw
     ·exact Or.inr ⟨g',hw,by omega⟩
    ·intro i v k h1 h2 h3
     have:=(Qa.1 h2).1
     simp at this
     have e:i=vs.length:=by omega
     subst e
     simp at h2
     subst h2
     simp [Value.ownBlock] at h3
theorem Ybk (m:Nat) (IH:Zvy m) (w:World) (B:Nat) (lv:Value) (cs:List CellS) (vs:List Value) (X:Nat→Prop) (nm:List UInt8) (hnm:nm≠[]) (c:Value) (ls:List (List Sym)) (xs:List Value) (h:CellsAt w B lv cs vs) (hrow:RowT X w c ls xs) (hB:B≤w.heap.size) (hm:ls.flatten.length≤m) (hl:cs.length+ls.flatten.length+1≤4000) :
  Calls Tryz.prog 210 #[lv,.agg #[.string ⟨nm.toArray⟩,.int .i64 0,c]] w fun e w'=>∃ (lv':Value) (k:Nat) (cs':List CellS) (vs':List Value),e = .returned (.tuple #[lv',.int .i64 k])∧LaidOut w B lv cs vs lv' k cs' vs' [⟨nm,0,ls.length⟩::ls.flatten] w'∧LaidL cs cs' [k] [⟨nm,0,ls.length⟩::ls.flatten]:=by
 obtain ⟨la,lcap,rfl⟩:=Zad h.owns
 obtain ⟨ca,ccap,rfl⟩:=Zad hrow.1
 have hwf:=hrow.wf
 have hll:ls.length≤ls.flatten.length:=Zcp (Zdd hwf)
 have he:nm.isEmpty=false:=by simpa using hnm
 have H:=Zaa h
 have Hrow:=Zaa hrow
 have Hih:=Zaa IH
 clear h hrow IH
 go_enter Tryz.func210,Tryz.ntmps210
 go_wp2
 go_loopg [6] 1 (fun gk i wr=>i = .int .i64 0∧0<gk∧wr=w.alloc (.cells #[.string ⟨nm.toArray⟩,.int .i64 0,.slice ca ls.length ccap] 183))
 case atStart=>exact ⟨rfl,by omega,rfl⟩
 case round =>
  obtain ⟨rfl,_,rfl⟩:=hrel
  have Hc:=Zaa (H.out.ext (w':=w.alloc (.cells #[.string ⟨nm.toArray⟩,.int .i64 0,.slice ca ls.length ccap] 183)) (fun k hk=>Below.heap_alloc _ _ _ hk))
  go_wp2_with (at_builtin; refine Zal _ rfl (.tmp 43) (.tmp 50) 308 rfl B 314 Tryz.infoCell Tryz.underlying308 rfl (by decide) _ cs.length (Zdh cs vs) rfl Hc.out.owns _ rfl (by simp) rfl Zqb ?_ ?_ ?_)
  ·omega
  ·simp; omega
  intro lv' w1 hap
  have hcs1:=CellsAt.snoc Hc.out ⟨⟨nm,0,ls.length⟩,[],cs.length⟩ rfl hap
  have h0:=(hap.kept.block _ (by simp) (Zah Hc.out.owns (by decide) (heap_alloc_new w _))).trans (heap_alloc_new w _)
  have Hcs1:=Zaa hcs1
  have Hap:=Zaa hap
  have H0:=Zaa h0
  have hs1:=hap.kept.size
  simp at hs1
  obtain ⟨la1,lcap1,rfl⟩:=Zad hap.owns
  clear hcs1 hap h0
  go_wp2
  go_loopg [0,8,9] (ls.length+1) (fun gk lv2 av i wr=>∃ (k:Nat) (cs2:List CellS) (vs2:List Value) (ks:List Nat),i = .int .i64 k∧k≤ls.length∧ls.length - k<gk∧CellsAt wr B lv2 cs2 vs2∧(∃ new,vs2=(vs++[.slice none 0 0])++new)∧LaidL (cs++[⟨⟨nm,0,ls.length⟩,[],cs.length⟩]) cs2 ks (ls.take k)∧ks.length=k ∧
    wr.ownsRow (w.heap.size+1) 3 1 av ks.length (ints ks)∧Kept (Zap (.slice la cs.length lcap)) w wr∧(lv2.ownBlock=(Value.slice la cs.length lcap).ownBlock∨∃ g,lv2.ownBlock=some g∧w.heap.size<g)∧(∀ (i:Nat) v k,vs2[i]?=some v→v.ownBlock=some k→¬ Zap av k∧(vs.length≤i→w.heap.size≤k)) ∧
    wr.heap[w.heap.size]?=some (.cells #[.string ⟨nm.toArray⟩,.int .i64 0,.slice ca ls.length ccap] 183 (0,0)))
  case atStart =>
   refine ⟨0,_,_,[],by go_num,Qm _,by omega,Hcs1.out,⟨[],by simp⟩,LaidL.nil _,rfl,World.ownsRow_nil _ _ _ _,((Qx _ w).alloc _).then Hap.out.kept (fun _ _ h=>h),?_,?_,H0.out⟩
   rcases Hap.out.where_ with hw | ⟨g',hw,hg⟩
   ·exact Or.inl hw
   ·exact Or.inr ⟨g',hw,by simp at hg; omega⟩
   ·intro i v k h1 h2
    refine ⟨fun e=>by simp [Zap,Value.ownBlock] at e,fun hi => ?_⟩
    have:=(Qa.1 h1).1
    simp at this
    have e:i=vs.length:=by omega
    subst e
    simp at h1
    subst h1
    simp [Value.ownBlock] at h2
  case round =>
   obtain ⟨k,cs2,vs2,ks,rfl,hk,hg,hcs,hvs,hlay,rfl,hav,hkp,hwh,hfr,hb⟩:=hrel
   obtain ⟨b0,b1,b2,bf⟩:=box3 hb
   obtain ⟨l2a,l2cap,rfl⟩:=Zad hcs.owns
   obtain ⟨ava,avcap,rfl⟩:=Zad hav
   have hsz:=Zac hb
   have hlen2:cs2.length+(ls.drop ks.length).flatten.length≤4000:=by
    have h1:=hlay.len
    have h2:=congrArg List.length (congrArg List.flatten (List.take_append_drop ks.length ls))
    simp only [List.flatten_append,Qg,Qf,Qt] at h1 h2
    omega
   have hle2:=hlay.le
   simp only [Qg,Qf,Qt] at hle2
   have Hcs:=Zaa hcs
   have Hvs:=Zaa hvs
   have Hlay:=Zaa hlay
   have Hav:=Zaa hav
   have Hkp:=Zaa hkp
   have Hwh:=Zaa hwh
   have Hb:=Zaa hb
   have Hfr:=Zaa hfr
   clear hcs hvs hlay hav hkp hwh hb hs1 hfr
   by_cases hlt:ks.length<ls.length
   ·obtain ⟨l',hl'⟩:∃ l',ls[ks.length]?=some l':=⟨_,Qb hlt⟩
    obtain ⟨_,hdk,hlf,_⟩:=Zjh hl' hwf
    obtain ⟨a',b',c',x0,x1,x2,hrep⟩:=Hrow.out.2.2 ks.length l' hl'
    obtain ⟨s1,n1,c1a,c1l,c1c,rfl,rfl,rfl⟩:=hrep.shape
    have hon:∀ j,j<w.heap.size→¬ X j→Zeo w j→wr.heap[j]?=w.heap[j]?∧¬ X j:=fun j hj hx ht=>by
     obtain ⟨cur,hcur⟩:=ht
     exact ⟨Hkp.out.block j hj (Zah H.out.owns (by decide) hcur),hx⟩
    have hrow':=Hrow.out.on hon
    obtain ⟨g,cap',cur,hge,hBg,hgb,hcp⟩:=Zan hrow'.1 (by omega)
    simp only [Value.slice.injEq] at hge
    obtain ⟨rfl,_,rfl⟩:=hge
    have y0:wr.cell? ⟨g,ks.length * 3,none⟩=some (.string s1):=Zaf hrow'.1 _ _ x0
    have y1:wr.cell? ⟨g,ks.length * 3+1,none⟩=some (.int .i64 n1):=Zaf hrow'.1 _ _ x1
    have y2:wr.cell? ⟨g,ks.length * 3+2,none⟩=some (.slice c1a c1l c1c):=Zaf hrow'.1 _ _ x2
    have hl'4:cs2.length+l'.length≤4000:=by
     rw [hdk] at hlen2
     simp only [List.flatten_cons,Qg] at hlen2
     omega
    have HI:=Zaa (Hih.out wr B (.slice l2a cs2.length l2cap) cs2 vs2 X (.string s1) (.int .i64 n1) (.slice c1a c1l c1c) l' (by omega) Hcs.out (hrep.on hon) (by omega) hl'4)
    have Hlk:=Zaa hl'
    clear hgb hrow' hrep x0 x1 x2 hl' hdk hon
    go_wp2_with fail
    refine HI.out.mono ?_
    rintro e w2 ⟨lv3,k3,cs3,vs3,rfl,ho,hlay3⟩
    obtain ⟨l3a,l3cap,rfl⟩:=Zad ho.cells.owns
    have hav2:=ho.kept.owns Hav.out (fun j e e'=>by
     obtain ⟨cur,hc⟩:=Zar Hav.out j e
     exact Zah Hcs.out.owns (by decide) hc e')
    have hb2:=(ho.kept.block _ hsz (Zah Hcs.out.owns (by decide) Hb.out)).trans Hb.out
    have hs2:=ho.kept.size
    have Ho:=Zaa ho
    have Hlay3:=Zaa hlay3
    have Hav2:=Zaa hav2
    have Hb2:=Zaa hb2
    clear ho hlay3 hav2 hb2 y0 y1 y2
    go_wp2_with (at_builtin; refine Zal _ rfl (.tmp 70) (.tmp 72) 25 rfl (w.heap.size+1) 3 Tryz.infoInt Tryz.underlying25 rfl (by decide) _ ks.length (ints ks) rfl Hav2.out _ rfl rfl rfl (Ziv _) ?_ ?_ ?_)
    ·omega
    ·omega
    intro av' w3 hap3
    have Hap3:=Zaa hap3
    clear hap3
    go_wp2
    go_roundg (ls.length - ks.length)
    case measure=>omega
    case rel =>
     have hapart:∀ j,Zap (.slice ava ks.length avcap) j→w.heap.size<j:=fun j e=>(Hav2.out.lt j e).1
     have hdis:∀ (i:Nat) v,vs3[i]?=some v→∀ j,v.ownBlock=some j→¬ Zap (.slice ava ks.length avcap) j:=fun i v h2 j e=>by
      obtain ⟨new3,hnew3⟩:=Ho.out.vals
      rcases Nat.lt_or_ge i vs2.length with hi | hi
      ·rw [hnew3,Qc hi] at h2
       exact (Hfr.out i v j h2 e).1
      ·have h5:=Ho.out.fresh i v j hi h2 e
       intro e'
       have:=(Hav.out.lt j e').2
       omega
     have hcs4:CellsAt w3 B (.slice l3a cs3.length l3cap) cs3 vs3:=by
      refine ⟨Ho.out.cells.len,Hap3.out.kept.owns Ho.out.cells.owns (fun j e e' => ?_),fun i c v h1 h2 => ?_⟩
      ·obtain ⟨cur,hc⟩:=Zar Ho.out.cells.owns j e
       exact Zah Hav2.out (by decide) hc e'
      ·have hk:=Ho.out.cells.kids i c v h1 h2
       exact Hap3.out.kept.owns hk (hdis i v h2)
     have htk:ls.take (ks.length+1)=ls.take ks.length++[l']:=by rw [List.take_add_one,Hlk.out]; rfl
     obtain ⟨new,hnew⟩:=Hvs.out
     obtain ⟨new3,hnew3⟩:=Ho.out.vals
     refine ⟨ks.length+1,cs3,vs3,ks++[k3],by go_num,by omega,by omega,hcs4,⟨new++new3,by rw [hnew3,hnew]; simp⟩,by rw [htk]; exact Hlay.out.snoc Hlay3.out,by simp,by simpa [ints] using Hap3.out.owns,?_,?_,?_,?_⟩
     ·refine (Hkp.out.then Ho.out.kept (fun i hi e => ?_)).then Hap3.out.kept (fun i hi e=>absurd (hapart i e) (by omega))
      rcases Hwh.out with hw | ⟨g',hw,hg'⟩
      ·exact hw.symm.trans e
      ·have:some g'=some i:=hw.symm.trans e
       simp at this; omega
     ·rcases Ho.out.where_ with hw | ⟨g',hw,hg'⟩
      ·rcases Hwh.out with hw2 | ⟨g2,hw2,hg2⟩
       ·exact Or.inl (hw.trans hw2)
       ·exact Or.inr ⟨g2,hw.trans hw2,hg2⟩
      ·exact Or.inr ⟨g',hw,by omega⟩
     ·intro i v j h2 e
      have hvl:v.ownBlock=some j→j<w2.heap.size:=fun e=>by
       have hi:=(Qa.1 h2).1
       rw [Ho.out.cells.len] at hi
       exact ((Ho.out.cells.kids i _ v (Qb hi) h2).lt j e).2
      refine ⟨fun e' => ?_,fun hi => ?_⟩
      ·rcases Hap3.out.where_ with hw | ⟨g',hw,hg'⟩
       ·exact hdis i v h2 j e (hw.symm.trans e')
       ·have h6:some g'=some j:=hw.symm.trans e'
        have:=hvl e
        simp at h6; omega
      ·rcases Nat.lt_or_ge i vs2.length with hi2 | hi2
       ·obtain ⟨new3,hnew3⟩:=Ho.out.vals
        rw [hnew3,Qc hi2] at h2
        exact (Hfr.out i v j h2 e).2 hi
       ·have:=Ho.out.fresh i v j hi2 h2 e
        omega
     ·exact (Hap3.out.kept.block _ (by omega) (fun e=>by have:=hapart _ e; omega)).trans Hb2.out
   ·have hek:ks.length=ls.length:=by omega
    have Hek:=Zaa hek
    have hlt2:cs.length<cs2.length:=by omega
    obtain ⟨g,cap,c,v,he2,hc,hv,hBg,hgl,hcap,c0,c1,c2,c3,cf,_⟩:=Hcs.out.at hlt2
    simp only [Value.slice.injEq] at he2
    obtain ⟨rfl,_,rfl⟩:=he2
    have Hvc:Hid (vs.length=cs.length):=H.out.len
    clear hek hc hv
    go_wp2
    go_ret2
    have hlay4:=Hlay.out
    rw [List.take_of_length_le (by rw [Hek.out]; exact Qe _)] at hlay4
    have hf:=Hcs.out.fill hlt2 (Zbb Hav.out (by omega))
    obtain ⟨new,hnew⟩:=Hvs.out
    refine ⟨_,cs.length,_,_,rfl,⟨hf,?_,?_,?_,?_⟩,LaidL.name hnm (by omega) hlay4⟩
    ·refine ⟨.slice ava ks.length avcap::new,?_⟩
     rw [hnew,← Hvc.out]
     simp
    ·refine Qy Hkp.out (fun hlt3 => ?_) _
     rcases Hwh.out with hw | ⟨g',hw,hg'⟩
     ·exact hw.symm
     ·simp [Value.ownBlock] at hw; subst hw; simp only at hlt3; omega
    ·rcases Hwh.out with hw | ⟨g',hw,hg'⟩
     ·exact Or.inl hw
     ·exact Or.inr ⟨g',hw,by omega⟩
    ·intro i v j h1 h2 e
     by_cases ei:cs.length=i
     ·subst ei
      rw [List.getElem?_set_self (by rw [Hcs.out.len]; exact hlt2)] at h2
      simp only [Qo] at h2
      subst h2
      have:=(Hav.out.lt j e).1
      omega
     ·rw [List.getElem?_set_ne ei] at h2
      exact (Hfr.out i v j h2 e).2 h1
theorem Zvz:∀ n,Zvy n:=by
 intro n
 induction n with
 | zero =>
  intro w B lv cs vs X a b c t hl _ h
  have:=Zcp (h.wf _ (Qe _))
  omega
 | succ n ih =>
  intro w B lv cs vs X a b c t hl hc h hB hlen
  rcases h.out with ⟨k,rfl,rfl,rfl,rfl⟩ | ⟨nm,ls,xs,h1,rfl,rfl,rfl,h5⟩
  ·exact Yed w B lv cs vs k hc hB (by simpa using hlen)
  ·simp only [Qf] at hl hlen
   exact Ybk n ih w B lv cs vs X nm h1 c ls xs hc h5 hB (by omega) (by omega)
theorem Yee {cs1 cs2:List CellS} {x y:Nat} {a b:List Sym} (h1:LaidL [] cs1 [x] [a]) (h2:LaidL cs1 cs2 [y] [b]) :
  ∃ tm,Lay (gr cs2) tm a b∧x<cs2.length∧y<cs2.length∧tm x=a∧tm y=b∧Firsts (gr cs2) (fun i=>i)∧UpOk cs2 (fun i=>i) (fun _=>0)∧∀ i,((gr cs2).kids i).length≤4000:=by
 have h:=h1.snoc h2
 obtain ⟨tm,_,e2,e3⟩:=h.tm (fun _=>[]) (fun i c hc=>by simp at hc)
 simp only [List.cons_append,List.nil_append,List.map_cons,List.map_nil,List.cons.injEq,and_true] at e3
 have hu:=h.uniq (fun i j c d hc=>by simp at hc)
 have hat:∀ i,i<cs2.length→∃ c,cs2[i]?=some c∧(gr cs2).hd i=c.sym∧(gr cs2).kids i=c.kids:=fun i hi=>by
  have hc:cs2[i]?=some cs2[i]:=Qb hi
  exact ⟨_,hc,(Zdy hc).1,(Zdy hc).2⟩
 refine ⟨tm,⟨⟨?_,?_,?_,?_⟩,?_,?_⟩,h.kl x (by simp),h.kl y (by simp),e3.1,e3.2,⟨⟨fun i hi=>hi,fun i _=>rfl⟩,?_,fun _ _ _=>rfl,fun i _ hn=>⟨hn,rfl⟩⟩,?_,?_⟩
 ·intro i hi k hk
  obtain ⟨c,hc,_,e⟩:=hat i hi
  rw [e] at hk
  exact (h.ok i c (Qm _) hc).2.1 k hk
 ·intro i hi
  obtain ⟨c,hc,e,e'⟩:=hat i hi
  rw [e,e']
  exact (h.ok i c (Qm _) hc).1
 ·intro i hi hn
  obtain ⟨c,hc,e,e'⟩:=hat i hi
  rw [e] at hn
  rw [e']
  exact (h.ok i c (Qm _) hc).2.2.1 hn
 ·intro i hi hn
  obtain ⟨c,hc,e,e'⟩:=hat i hi
  rw [e] at hn ⊢
  exact (h.ok i c (Qm _) hc).2.2.2.1 hn
 ·intro i hi
  obtain ⟨c,hc,e,e'⟩:=hat i hi
  rw [e,e']
  exact e2 i c (Qm _) hc
 ·intro i hi hn
  obtain ⟨c,hc,e,_⟩:=hat i hi
  rw [e] at hn ⊢
  have:=h.occ i c (Qm _) hc hn
  simp only [List.cons_append,List.nil_append,List.flatten_cons,List.flatten_nil,Qs,Zcn] at this
  exact this
 ·intro i j hi hj h1 h2 h3
  obtain ⟨c,hc,e,_⟩:=hat i hi
  obtain ⟨d,hd,e',_⟩:=hat j hj
  rw [e] at h1 h3
  rw [e'] at h2 h3
  exact hu i j c d hc hd h1 h2 h3
 ·intro i c hc
  have:=h.up i c (Qm _) hc
  exact ⟨by rw [this]; exact (Qa.1 hc).1,this,fun _=>rfl,fun e=>absurd this e⟩
 ·intro i
  rcases Nat.lt_or_ge i cs2.length with hi | hi
  ·obtain ⟨c,hc,_,e⟩:=hat i hi
   rw [e]
   exact (h.ok i c (Qm _) hc).2.2.2.2
  ·simp [gr,List.getElem?_eq_none hi]
theorem Ybl (w:World) (n:Nat) (hn:n≤100000):∃ w',(Instr.makeSlice 25 (.int .i64 (n:Int)) (.int .i64 (n:Int))).run Tryz.prog w = .ok (.slice (some ⟨w.heap.size,0,none⟩) n n) w' ∧
  w'.ownsRow w.heap.size 3 1 (.slice (some ⟨w.heap.size,0,none⟩) n n) (List.replicate n 0).length (ints (List.replicate n 0))∧w.grownBy w' none:=by
 obtain ⟨i,h1,h2,h3,h4⟩:=info_parts Tryz.infoInt
 obtain ⟨w',r1,r2,r3⟩:=run_make_full (P:=Tryz.prog) w w.heap.size 25 3 i _ 1 Tryz.underlying25 h1 h2 h3 .i64 .i64 n (by rw [h4]; omega) (by simp only [maxLen]; omega) (Qe _)
 refine ⟨w',r1,?_,r3⟩
 have e:(madeCells (Value.int .i64 0).cells (n * 1)).toList=ints (List.replicate n 0):=by
  have:(Value.int .i64 0).cells=#[.int .i64 0]:=rfl
  rw [this,toList_madeCells_one]
  simp [ints]
 rw [e] at r2
 simpa using r2
theorem Zkc (w:World) (X:Nat→Prop) (a b c a' b' c':Value) (l m:List Sym) (h:Rep X w a b c l) (h':Rep X w a' b' c' m) (hl:l.length+m.length≤4000) :
  Calls Tryz.prog 206 #[.agg #[a,b,c],.agg #[a',b',c']] w fun e w'=>∃ qv,e = .returned qv∧Ext w w'∧((qv = .bool true∧∃ θ,Ts θ∧ap θ l=ap θ m)∨(qv = .bool false∧NoFit l m)):=by
 obtain ⟨s1,n1,c1a,c1l,c1c,rfl,rfl,rfl⟩:=h.shape
 obtain ⟨s2,n2,c2a,c2l,c2c,rfl,rfl,rfl⟩:=h'.shape
 have Hl:=Zaa (Zvz l.length ((w.alloc (.cells #[.string s1,.int .i64 n1,.slice c1a c1l c1c] 183)).alloc (.cells #[.string s2,.int .i64 n2,.slice c2a c2l c2c] 183)) (w.heap.size+2) (.slice none 0 0) [] [] X _ _ _ l (Qe _)
  ⟨rfl,World.ownsRow_nil _ _ _ _,fun i c v h=>by simp at h⟩ (h.ext (Ext.of (by repeat' (first | with_reducible(first|exact Qx _ _|apply Kept.drew|apply Kept.drewN|apply Qz|refine Qy ?_ ?_ _)|exact fun h=>absurd h (by simp <;> omega)))) (fun _ _ h=>h)) (by simp) (by simp; omega))
 have H':=Zaa h'
 clear h h'
 go_enter Tryz.func206,Tryz.ntmps206
 go_wp2_with fail
 refine Hl.out.mono ?_
 rintro e w1 ⟨lv1,x,cs1,vs1,rfl,ho1,hlay1⟩
 obtain ⟨l1a,l1cap,rfl⟩:=Zad ho1.cells.owns
 have hk1:Kept Zbf w w1:=(((Qx Zbf w).alloc _).alloc _).then ho1.kept (fun i hi e=>by simp [Zap,Value.ownBlock] at e)
 have hb1:w1.heap[w.heap.size+1]?=some (.cells #[.string s2,.int .i64 n2,.slice c2a c2l c2c] 183 (0,0)):=(ho1.kept.block (w.heap.size+1) (by simp) (fun e=>by simp [Zap,Value.ownBlock] at e)).trans
  (by have:=heap_alloc_new (w.alloc (.cells #[.string s1,.int .i64 n1,.slice c1a c1l c1c] 183)) (.cells #[.string s2,.int .i64 n2,.slice c2a c2l c2c] 183); simp only [World.alloc,Array.size_push] at this ⊢; exact this)
 obtain ⟨p0,p1,p2,pf⟩:=box3 hb1
 have hs1:=ho1.kept.size
 simp at hs1
 have hlen1:=hlay1.len
 simp only [Qt,List.flatten_cons,List.flatten_nil,Qs] at hlen1
 have Hl2:=Zaa (Zvz m.length w1 (w.heap.size+2) _ cs1 vs1 X _ _ _ m (Qe _) ho1.cells (H'.out.ext (Ext.of hk1) (fun _ _ h=>h)) (by omega) (by omega))
 have Ho1:=Zaa ho1
 have Hlay1:=Zaa hlay1
 have Hk1:=Zaa hk1
 clear ho1 hlay1 hk1 hb1
 go_wp2_with fail
 refine Hl2.out.mono ?_
 rintro e w2 ⟨lv2,y,cs2,vs2,rfl,ho2,hlay2⟩
 obtain ⟨l2a,l2cap,rfl⟩:=Zad ho2.cells.owns
 obtain ⟨tm,hlay,hxl,hyl,htx,hty,hfirst,hup,hk4⟩:=Yee Hlay1.out hlay2
 have hlen2:=hlay2.len
 simp only [List.flatten_cons,List.flatten_nil,Qs] at hlen2
 have hs2:=ho2.kept.size
 have hk2:Below w.heap.size w w2:=(Ext.of Hk1.out).trans (ho2.kept.below (by omega) (fun k e=>by have:=(Ho1.out.cells.owns.lt k e).1; omega))
 have Hj:=Zaa (Zyf (Zcq cs2) w2 (w.heap.size+2) _ cs2 vs2 _ _ x y ho2.cells hup hlay.ok (Qe _) hxl hyl (by omega) hk4)
 have Ho2:=Zaa ho2
 have Hlay:=Zaa hlay
 have Hfirst:=Zaa hfirst
 have Hk2:=Zaa hk2
 have Hk4:=Zaa hk4
 have Htx:=Zaa htx
 have Hty:=Zaa hty
 clear ho2 hlay2 hlay hfirst hk2 hup hk4 htx hty p0 p1 p2 pf
 go_wp2_with fail
 refine Hj.out.mono ?_
 rintro e w3 ⟨q,cs3,ρ,rk,rfl,hcs3,hgr,hup3,_,hk3,hq1,hq2⟩
 have hcl3:=Ygc hgr
 have hk3':Below w.heap.size w w3:=Hk2.out.trans (hk3.below (by omega) (fun k e=>by have:=(Ho2.out.cells.owns.lt k e).1; omega))
 have hs3:=hk3.size
 have Hcs3:=Zaa hcs3
 have Hgr:=Zaa hgr
 have Hup3:=Zaa hup3
 have Hk3:=Zaa hk3'
 have Hq1:=Zaa hq1
 have Hq2:=Zaa hq2
 have Hcl3:=Zaa hcl3
 clear hcs3 hgr hup3 hk3 hk3' hq1 hq2 hcl3
 cases q
 ·go_wp2
  refine bodyPost_ret (v := .bool false) (by simp [results,Tryz.results206,go_sem]) rfl ?_
  exact ⟨_,rfl,Hk3.out,Or.inr ⟨rfl,Zvh Hlay.out Hfirst.out hxl hyl Htx.out Hty.out (Hq2.out trivial)⟩⟩
 ·obtain ⟨w4,hrun,hown,hgrown⟩:=Ybl w3 cs2.length (by omega)
  have hsz4:=hgrown.size
  have hk4:Kept Zbf w3 w4:=(Kept.of_grown hgrown).mono (fun _ _ e=>by simp at e)
  have hup4:=Hup3.out
  have hcs4:CellsAt w4 (w.heap.size+2) _ cs3 vs2:=Hcs3.out.ext (fun k hk=>hk4.block k hk (fun h=>h))
  have hj:=Hq1.out rfl
  have hst:Known (gr cs3) ρ (dn (List.replicate cs2.length 0)) (fun _=>[]):=(Known.none (gr cs3) ρ (fun _=>[])).congr (fun i=>by
   unfold dn
   simp only [iff_false]
   intro h
   have:=Qh h
   simp at this) (fun _ h=>h.elim)
  have He:=Zaa (Yec (fresh (List.replicate cs2.length 0)) w4 (w.heap.size+2) w3.heap.size _ _ cs3 vs2 ρ rk (List.replicate cs2.length 0) (fun _=>[]) x hcs4 hup4 (by rw [Hgr.out]; exact Hlay.out.ok) hown (fun j c v h1 h2 k e e'=>by
    have h5:=((Hcs3.out.kids j c v h1 h2).lt k e).2
    have h6:some w3.heap.size=some k:=e'
    simp at h6; omega) (by simp [Hcl3.out]) (by simp) (Qe _) (by rw [Hcl3.out]; exact hxl) (by rw [Hcl3.out]; omega) (by rw [Hgr.out]; exact Hk4.out) hst)
  have Hk4':=Zaa hk4
  have Hj:=Zaa hj
  have Hown4:=Zaa hown
  clear hk4 hcs4 hj hst hown hgrown hup4
  go_wp2_with fail
  refine He.out.mono ?_
  rintro e w5 ⟨qv,st',T',rfl,_,hk5,_,hres⟩
  have hk5':Below w.heap.size w w5:=(Hk3.out.trans (Kept.below (Hk4'.out) (by omega) (fun _ h=>h.elim))).trans (hk5.below (by omega) (fun k e=>by
   have h6:some w3.heap.size=some k:=e
   simp at h6; omega))
  have Hk5:=Zaa hk5'
  have Hres:=Zaa hres
  clear hk5 hk5' hres
  rcases Hres.out with ⟨rfl,_,_,hkn,hd,_,_⟩ | ⟨rfl,hst⟩
  ·have Hu:Hid (∃ θ,Ts θ∧ap θ l=ap θ m):=by
    rw [Hgr.out] at hkn
    have hm:=(Zvj Hlay.out Hfirst.out hxl hyl Htx.out Hty.out Hj.out hkn hd).1
    exact ⟨_,hm.ts,hm.unif⟩
   clear hkn hd Hres
   go_wp2
   refine bodyPost_ret (v := .bool true) (by simp [results,Tryz.results206,go_sem]) rfl ?_
   exact ⟨_,rfl,Hk5.out,Or.inl ⟨rfl,Hu.out⟩⟩
  ·have Hn:Hid (NoFit l m):=by
    rw [Hgr.out] at hst
    refine Zvi Hlay.out Hfirst.out hxl hyl Htx.out Hty.out Hj.out (i:=x) (fun val hv hc => ?_)
    obtain ⟨r,hr,hle⟩:=hst val hv hc
    unfold on at hr
    have:=Qh hr
    simp at this
   clear hst Hres
   go_wp2
   refine bodyPost_ret (v := .bool false) (by simp [results,Tryz.results206,go_sem]) rfl ?_
   exact ⟨_,rfl,Hk5.out,Or.inr ⟨rfl,Hn.out⟩⟩
def sgm:List (Nat × List Sym)→Nat→List Sym
 | L=>fun n=>L.foldl (fun t s=>ap (sub1 s.1 s.2) t) (vr n)
theorem Zqc (L:List (Nat × List Sym)) (v:Nat) (t:List Sym):sgm (L++[(v,t)])=fun n=>ap (sub1 v t) (sgm L n):=by
 funext n; simp [sgm]
theorem Tryz.infoSub:(Tryz.prog.info? 300).map (fun i=>(i.zero,i.size,i.bytes))=some (some (.agg #[.int .i64 0,.string ⟨#[]⟩,.int .i64 0,.slice none 0 0]),4,56):=by kernel_rfl
theorem Ybm {s:ByteArray} {n m:Int} {ca:Option Addr} {cl cc:Nat}:∀ u ∈ (#[Value.int .i64 m,.string s,.int .i64 n,.slice ca cl cc]:Array Value).toList,u.oneCell'=true:=by
 intro u hu
 simp at hu
 rcases hu with rfl | rfl | rfl | rfl <;> rfl
structure RowS (X:Nat→Prop) (w:World) (B:Nat) (cv:Value) (n:Nat) (L:List (Nat × List Sym)) (xs:List Value):Prop where
 owns:w.ownsRow B 300 4 cv n xs
 len:L.length=n
 all:∀ (i:Nat) (s:Nat × List Sym),L[i]?=some s→∃ a b c,xs[i * 4]?=some (.int .i64 s.1)∧xs[i * 4+1]?=some a∧xs[i * 4+2]?=some b∧xs[i * 4+3]?=some c∧Rep X w a b c s.2
theorem RowS.nil (X:Nat→Prop) (w:World) (B:Nat):RowS X w B (.slice none 0 0) 0 [] []:=⟨World.ownsRow_nil _ _ _ _,rfl,fun i l' h=>by simp at h⟩
theorem RowS.on {X Y:Nat→Prop} {w w':World} {B n:Nat} {cv:Value} {L:List (Nat × List Sym)} {xs:List Value} (h:RowS X w B cv n L xs) (ho:∀ k,cv.ownBlock=some k→w'.heap[k]?=w.heap[k]?) (hk:∀ k,k<w.heap.size→¬ X k→Zeo w k→w'.heap[k]?=w.heap[k]?∧¬ Y k):RowS Y w' B cv n L xs :=
 ⟨Zak h.owns ho,h.len,fun i s hs=>by
  obtain ⟨a,b,c,x0,x1,x2,x3,g⟩:=h.all i s hs
  exact ⟨a,b,c,x0,x1,x2,x3,g.on hk⟩⟩
theorem RowS.ext {X Y:Nat→Prop} {w w':World} {B B' n:Nat} {cv:Value} {L:List (Nat × List Sym)} {xs:List Value} (h:RowS X w B cv n L xs) (e:Ext w w') (hy:∀ k,Y k→X k) (hB:B'≤B):RowS Y w' B' cv n L xs:=by
 have:=h.on (Y:=Y) (w':=w') (fun k hk=>e.block k (h.owns.lt k hk).2) (fun k hk hn _=>⟨e.block k hk,fun h=>hn (hy k h)⟩)
 exact ⟨Zbb this.owns hB,this.len,this.all⟩
theorem RowS.step {X:Nat→Prop} {w w':World} {B n:Nat} {cv cv':Value} {L:List (Nat × List Sym)} {xs:List Value} {a b c:Value} {v:Nat} {t:List Sym} (h:RowS X w B cv n L xs) (hr:Rep X w a b c t) (ha:Appended w B 300 4 cv (n+1) (xs++[.int .i64 v,a,b,c]) cv' w') :
  RowS X w' B cv' (n+1) (L++[(v,t)]) (xs++[.int .i64 v,a,b,c]):=by
 have hon:∀ {a b c:Value} {l:List Sym},Rep X w a b c l→Rep X w' a b c l:=fun hr=>hr.on (fun k hk hx ht=>by
  obtain ⟨cur,hc⟩:=ht
  exact ⟨ha.kept.block k hk (Zah h.owns (by decide) hc),hx⟩)
 have hxl:=h.owns.1
 have hL:=h.len
 refine ⟨ha.owns,by simp [hL],fun i s hs => ?_⟩
 rcases Nat.lt_or_ge i L.length with hi | hi
 ·rw [Qc hi] at hs
  obtain ⟨a',b',c',x0,x1,x2,x3,g⟩:=h.all i s hs
  refine ⟨a',b',c',?_,?_,?_,?_,hon g⟩
  ·rw [Qc (by omega)]; exact x0
  ·rw [Qc (by omega)]; exact x1
  ·rw [Qc (by omega)]; exact x2
  ·rw [Qc (by omega)]; exact x3
 ·have:=(Qa.1 hs).1
  simp at this
  have e:i=L.length:=by omega
  subst e
  simp at hs
  subst hs
  rw [hL]
  refine ⟨a,b,c,?_,?_,?_,?_,hon hr⟩
  ·rw [Qd (by omega),hxl]; simp
  ·rw [Qd (by omega),hxl]; simp
  ·rw [Qd (by omega),hxl]; simp
  ·rw [Qd (by omega),hxl]; simp
structure Stay (Y:Nat→Prop) (B:Nat) (u u':World):Prop where
 size:u.heap.size≤u'.heap.size
 block:∀ k,k<u.heap.size→¬ Y k→u'.heap[k]?=u.heap[k]?
 low:Below B u u'
theorem Stay.ext {Y:Nat→Prop} {B:Nat} {u u':World} (h:Ext u u') (hB:B≤u.heap.size):Stay Y B u u':=⟨h.size,fun k hk _=>h.block k hk,h.mono hB⟩
theorem Stay.of {Y:Nat→Prop} {B:Nat} {S:Nat→Prop} {u u':World} (h:Kept S u u') (hB:B≤u.heap.size) (h1:∀ k,S k→Y k) (h2:∀ k,S k→B≤k):Stay Y B u u':=⟨h.size,fun k hk hn=>h.block k hk (fun e=>hn (h1 k e)),h.below hB h2⟩
theorem Stay.trans {Y:Nat→Prop} {B:Nat} {u u' u'':World} (h:Stay Y B u u') (k:Stay Y B u' u''):Stay Y B u u'':=⟨Qq h.size k.size,fun i hi hn=>(k.block i (Nat.lt_of_lt_of_le hi h.size) hn).trans (h.block i hi hn),h.low.trans k.low⟩
theorem Rep.stay {Y:Nat→Prop} {B:Nat} {u u':World} {a b c:Value} {l:List Sym} (h:Rep Y u a b c l) (hs:Stay Y B u u'):Rep Y u' a b c l:=h.on (fun k hk hn _=>⟨hs.block k hk hn,hn⟩)
theorem RowS.stay {Y:Nat→Prop} {B:Nat} {u u':World} {B' n:Nat} {cv:Value} {L:List (Nat × List Sym)} {xs:List Value} (h:RowS Y u B' cv n L xs) (hs:Stay Y B u u') (hc:∀ k,B'≤k→¬ Y k):RowS Y u' B' cv n L xs :=
 h.on (fun k e=>hs.block k (h.owns.lt k e).2 (hc k (h.owns.lt k e).1)) (fun k hk hn _=>⟨hs.block k hk hn,hn⟩)
theorem Stay.put3 {X:Nat→Prop} {B n b:Nat} {u:World} (hb:B≤b∧b<B+n) (hB:B≤u.heap.size) (x y z:Value):Stay (boxed X B n) B u (((u.setCell ⟨b,0,none⟩ x).setCell ⟨b,1,none⟩ y).setCell ⟨b,2,none⟩ z) :=
 Stay.of (S:=only b) ((((Qx (only b) u).put 0 x).put 1 y).put 2 z) hB (fun k e=>Or.inr (by have e:k=b:=e; omega)) (fun k e=>by have e:k=b:=e; omega)
theorem Zfm {X:Nat→Prop} {B n k:Nat} (h:boxed X B n k) (hk:k<B):X k:=by
 rcases h with h | h
 ·exact h
 ·omega
def Zgv (V:List Nat) (l:List Sym):Nat:=(V.filter (fun v=>l.any (fun s=>s.name.isEmpty && s.num == v))).length
theorem Zqd {v:Nat} {l:List Sym}:l.any (fun s=>s.name.isEmpty && s.num == v)=true↔Occ v l:=by
 simp only [List.any_eq_true,Bool.and_eq_true,beq_iff_eq,List.isEmpty_iff]
 constructor
 ·rintro ⟨s,h,h1,h2⟩; exact ⟨s,h,h1,h2⟩
 ·rintro ⟨s,h,h1,h2⟩; exact ⟨s,h,h1,h2⟩
theorem Zsc {V:List Nat} {l l':List Sym} {v:Nat} (hv:v ∈ V) (ho:Occ v l) (hn:¬ Occ v l') (hs:∀ n,Occ n l'→Occ n l):Zgv V l'<Zgv V l:=by
 unfold Zgv
 refine Zmo (x:=v) (fun n _ h=>Zqd.2 (hs n (Zqd.1 h))) hv (Zqd.2 ho) ?_
 cases h:l'.any (fun s=>s.name.isEmpty && s.num == v) with
 | false=>rfl
 | true=>exact absurd (Zqd.1 h) hn
theorem Zgh {v n:Nat} {y l:List Sym} (h:Occ n (ap (sub1 v y) l)):(n≠v∧Occ n l)∨(Occ v l∧Occ n y):=by
 rw [Zob] at h
 obtain ⟨k,h1,h2⟩:=h
 unfold sub1 at h2
 split at h2
 ·rename_i e; subst e; exact Or.inr ⟨h1,h2⟩
 ·rename_i e; rw [Zgb] at h2; subst h2; exact Or.inl ⟨e,h1⟩
def LsOk (L:List (Nat × List Sym)):Prop:=(∀ s ∈ L,Wf 1 s.2∧s.2.length≤30)∧∀ k n,(sgm (L.take k) n).length≤30
theorem LsOk.nil:LsOk []:=⟨by simp,fun k n=>by simp [sgm,vr]⟩
theorem LsOk.snoc {L:List (Nat × List Sym)} (h:LsOk L) {v:Nat} {t l m la lb:List Sym} (ht:Wf 1 t∧t.length≤30) (hc:Carr l m (sgm (L++[(v,t)])) la lb) (ha:la.length≤30) (hb:lb.length≤30):LsOk (L++[(v,t)]):=by
 refine ⟨fun s hs => ?_,fun k n => ?_⟩
 ·rcases Qk.1 hs with hs | hs
  ·exact h.1 s hs
  ·simp at hs; subst hs; exact ht
 ·rcases Nat.lt_or_ge k (L.length+1) with hk | hk
  ·rw [List.take_append_of_le_length (by omega)]
   exact h.2 k n
  ·rw [List.take_of_length_le (by simp; omega)]
   have hp:∀ {l:List Sym},Occ n l→1≤l.length:=fun ⟨s,hs,_⟩=>by cases ‹List Sym› with | nil=>simp at hs | cons _ _=>simp
   by_cases h1:Occ n l
   ·have:=Zgp hc.ts h1
    rw [← hc.ha] at this
    have:=hp h1
    omega
   ·by_cases h2:Occ n m
    ·have:=Zgp hc.ts h2
     rw [← hc.hb] at this
     have:=hp h2
     omega
    ·rw [hc.own n h1 h2]; simp [vr]
def FitOut (X:Nat→Prop) (l m:List Sym) (w w':World) (r:Value):Prop :=
 (r = .tuple #[.slice none 0 0,.int .i64 0]∧NoFit l m)∨(r = .tuple #[.slice none 0 0,.int .i64 3]∧Vast l m) ∨
 (∃ cv L xs,r = .tuple #[cv,.int .i64 1]∧RowS X w' w.heap.size cv L.length L xs∧Mgu (sgm L) l m∧(ap (sgm L) l).length≤30∧LsOk L∧L.length≤60)
theorem Zhz {σ:Nat→List Sym} {k:Nat} (hk:1≤k) (h:∀ n,(σ n).length≤k) (l:List Sym):(ap σ l).length≤l.length * k:=by
 induction l with
 | nil=>simp [ap]
 | cons s l ih =>
  rw [Zca]
  have:(ap1 σ s).length≤k:=by
   unfold ap1; split
   ·exact h _
   ·simpa using hk
  simp only [Qg,Qf,Nat.add_mul,Nat.one_mul]
  omega
theorem Zgi {v:Nat} {t l:List Sym} (ht:t.length≤30) (hl:l.length≤30):(ap (sub1 v t) l).length≤900:=by
 have:=Zhz (σ:=sub1 v t) (k:=30) (by omega) (fun n=>by
  unfold sub1; split
  ·exact ht
  ·simp [vr]) l
 omega
theorem Parts.len {a b x y:List Sym} (h:Parts a b x y):x.length≤a.length∧y.length≤b.length:=by
 obtain ⟨p,ra,rb,rfl,rfl⟩:=h.ex
 simp; omega
set_option maxHeartbeats 8000000 in
theorem Yhf (w:World) (X:Nat→Prop) (a b c a' b' c':Value) (l m:List Sym) (h:Rep X w a b c l) (h':Rep X w a' b' c' m) (hX:∀ k,X k→k<w.heap.size) (hl:l.length≤30) (hm:m.length≤30) :
  Calls Tryz.prog 181 #[.agg #[a,b,c],.agg #[a',b',c']] w fun e w'=>∃ r,e = .returned r∧Ext w w'∧FitOut X l m w w' r:=by
 have w1:=h.wf _ (Qe _)
 have w2:=h'.wf _ (Qe _)
 obtain ⟨s1,n1,c1a,c1l,c1c,rfl,rfl,rfl⟩:=h.shape
 obtain ⟨s2,n2,c2a,c2l,c2c,rfl,rfl,rfl⟩:=h'.shape
 have H:=Zaa h
 have H':=Zaa h'
 have HX:=Zaa hX
 have W1:=Zaa w1
 have W2:=Zaa w2
 obtain ⟨V,hV⟩:∃ V:List Nat,V=(l++m).map Sym.num:=⟨_,rfl⟩
 have HV:Hid (V.length≤60∧∀ v,Occ v l∨Occ v m→v ∈ V):=by
  subst hV
  refine ⟨by simp; omega,fun v hv => ?_⟩
  rw [← Zcn] at hv
  obtain ⟨s,hs,_,e⟩:=hv
  exact List.mem_map.2 ⟨s,hs,e⟩
 clear h h' hX w1 w2 hV
 go_enter Tryz.func181,Tryz.ntmps181
 go_wp2
 go_loopg [8] (Zgv V (l++m)+1) (fun gk cv wr=>∃ (L:List (Nat × List Sym)) (xs:List Value) (la lb:List Sym) (s3:ByteArray) (n3:Nat) (c3a:Option Addr) (c3l c3c:Nat) (s4:ByteArray) (n4:Nat) (c4a:Option Addr) (c4l c4c:Nat),
   Ext w wr∧RowS (boxed X w.heap.size 4) wr (w.heap.size+4) cv L.length L xs∧Carr l m (sgm L) la lb∧la.length≤30∧lb.length≤30∧LsOk L∧Zgv V (la++lb)<gk∧L.length+Zgv V (la++lb)≤60 ∧
   wr.heap[w.heap.size]?=some (.cells #[.string s3,.int .i64 n3,.slice c3a c3l c3c] 183 (0,0))∧wr.heap[w.heap.size+1]?=some (.cells #[.string s4,.int .i64 n4,.slice c4a c4l c4c] 183 (0,0)) ∧
   wr.heap[w.heap.size+1+1]?=some (.cells #[.string s1,.int .i64 n1,.slice c1a c1l c1c] 183 (0,0))∧wr.heap[w.heap.size+1+1+1]?=some (.cells #[.string s2,.int .i64 n2,.slice c2a c2l c2c] 183 (0,0)) ∧
   Rep (boxed X w.heap.size 4) wr (.string s3) (.int .i64 n3) (.slice c3a c3l c3c) la∧Rep (boxed X w.heap.size 4) wr (.string s4) (.int .i64 n4) (.slice c4a c4l c4c) lb)
 case atStart =>
  have hbx:∀ k,k<w.heap.size→boxed X w.heap.size 4 k→X k:=fun k hk h=>by
   rcases h with h | h
   ·exact h
   ·omega
  refine ⟨[],[],l,m,s1,n1,c1a,c1l,c1c,s2,n2,c2a,c2l,c2c,(Ext.of (by repeat' (first | with_reducible(first|exact Qx _ _|apply Kept.drew|apply Kept.drewN|apply Qz|refine Qy ?_ ?_ _)|exact fun h=>absurd h (by simp <;> omega)))),RowS.nil _ _ _,Carr.start W1.out W2.out,hl,hm,LsOk.nil,by omega,?_,?_,?_,?_,?_,H.out.ext (Ext.of (by repeat' (first | with_reducible(first|exact Qx _ _|apply Kept.drew|apply Kept.drewN|apply Qz|refine Qy ?_ ?_ _)|exact fun h=>absurd h (by simp <;> omega)))) hbx,H'.out.ext (Ext.of (by repeat' (first | with_reducible(first|exact Qx _ _|apply Kept.drew|apply Kept.drewN|apply Qz|refine Qy ?_ ?_ _)|exact fun h=>absurd h (by simp <;> omega)))) hbx⟩
  ·have:Zgv V (l++m)≤V.length:=List.length_filter_le _ _
   have:=HV.out.1
   simp; omega
  ·exact Zag (Zag (Zag (heap_alloc_new w _) _) _) _
  ·simpa using Zag (Zag (heap_alloc_new (w.alloc _) _) _) _
  ·simpa using Zag (heap_alloc_new ((w.alloc _).alloc _) _) _
  ·simpa using heap_alloc_new (((w.alloc _).alloc _).alloc _) _
 case round =>
  obtain ⟨L,xs,la,lb,s3,n3,c3a,c3l,c3c,s4,n4,c4a,c4l,c4c,hext,hrow,hcarr,hla,hlb,hLs,hg,h60,h0,h1,h2,h3,hra,hrb⟩:=hrel
  obtain ⟨b0,b1,b2,bf⟩:=box3 h0
  obtain ⟨d0,d1,d2,df⟩:=box3 h1
  obtain ⟨cva,cvcap,rfl⟩:=Zad hrow.owns
  have hsz:=Zac h3
  have hYl:∀ k,boxed X w.heap.size 4 k→k<wr.heap.size:=fun k h=>by have:=Zdv HX.out k h; omega
  have HI:=Zaa (Zya la.length wr (boxed X w.heap.size 4) _ _ _ _ _ _ la lb (Qe _) (by omega) (by omega) hra hrb hYl)
  have Hext:=Zaa hext
  have Hrow:=Zaa hrow
  have Hcarr:=Zaa hcarr
  have HLs:=Zaa hLs
  have B0:=Zaa h0
  have B1:=Zaa h1
  have B2:=Zaa h2
  have B3:=Zaa h3
  have Hra:=Zaa hra
  have Hrb:=Zaa hrb
  have Hg:=Zaa hg
  have H60:=Zaa h60
  clear hext hrow hcarr hLs h0 h1 h2 h3 hra hrb hYl hg h60
  go_wp2_with fail
  refine HI.out.mono ?_
  rintro e w1 ⟨r,rfl,hext1,s5,n5,c5a,c5l,c5c,s6,n6,c6a,c6l,c6c,q,rfl,hq1,hq2⟩
  have Hext1:=Zaa hext1
  have hs1:=hext1.size
  have Hq1:=Zaa hq1
  have Hq2:=Zaa hq2
  clear hext1 hq1 hq2
  cases q
  ·have Hm:Hid (la=lb):=Hq1.out rfl
   go_wp2
   go_ret2
   have hk:∀ o o',Ext wr ((w1.alloc o).alloc o'):=fun o o'=>Hext1.out.trans (((Below.refl _ w1).alloc (by omega) _).alloc (by simp; omega) _)
   refine ⟨_,rfl,Hext.out.trans ((hk _ _).mono Hext.out.size),Or.inr (Or.inr ⟨_,L,xs,rfl,?_,Hcarr.out.done Hm.out,by rw [← Hcarr.out.ha]; exact hla,HLs.out,by have:=H60.out; omega⟩)⟩
   exact Hrow.out.ext (hk _ _) (fun k h=>Or.inl h) (by omega)
  ·obtain ⟨x,y,hrx,hry,hpart⟩:=Hq2.out rfl
   have hpl:=hpart.len
   rcases hrx.out with ⟨v,hs5,hn5,hc5,rfl⟩ | ⟨nm,ls,ys,hnm,hs5,hn5,hx,_⟩
   ·simp only [Value.string.injEq,Value.int.injEq,true_and,Value.slice.injEq] at hs5 hn5 hc5
    obtain ⟨rfl,rfl,rfl⟩:=hc5
    subst hs5
    have hn5':n5=v:=by omega
    subst hn5'
    have Hstand:=Zaa (fun wq (hq:Ext w1 wq)=>Zom y.length wq (boxed X w.heap.size 4) _ _ _ y n5 (Qe _) (by omega) (hry.ext hq (fun j _ h=>Or.inl h)))
    have Hry:=Zaa hry
    have Hpx:=Zaa hpart
    clear hrx hry hpart
    go_wp2_with fail
    refine (Hstand.out _ (Ext.of (by repeat' (first | with_reducible(first|exact Qx _ _|apply Kept.drew|apply Kept.drewN|apply Qz|refine Qy ?_ ?_ _)|exact fun h=>absurd h (by simp <;> omega))))).mono ?_
    rintro e w2 ⟨r,rfl,hext2,hin⟩
    have HE12:Hid (Ext w1 w2):=Below.trans (Ext.of (by repeat' (first | with_reducible(first|exact Qx _ _|apply Kept.drew|apply Kept.drewN|apply Qz|refine Qy ?_ ?_ _)|exact fun h=>absurd h (by simp <;> omega)))) (hext2.mono (by simp; omega))
    have Hin:=Zaa hin
    have hs2:=hext2.size
    simp at hs2
    have hb9:w2.heap[w1.heap.size]?=some (.cells #[.string ⟨#[]⟩,.int .i64 n5,.slice none 0 0] 183 (0,0)):=(hext2.block _ (by simp; omega)).trans (Zag (heap_alloc_new w1 _) _)
    have hb10:w2.heap[w1.heap.size+1]?=some (.cells #[.string s6,.int .i64 n6,.slice c6a c6l c6c] 183 (0,0)):=(hext2.block _ (by simp)).trans (by simpa using heap_alloc_new (w1.alloc _) _)
    obtain ⟨z0,z1,z2,zf⟩:=box3 hb9
    obtain ⟨t0,t1,t2,tf⟩:=box3 hb10
    have Hb9:=Zaa hb9
    have Hb10:=Zaa hb10
    clear hext2 hin hb9 hb10
    cases r
    ·have hst2:Stay (boxed X w.heap.size 4) w.heap.size wr w2:=(Stay.ext Hext1.out (by omega)).trans (Stay.ext HE12.out (by omega))
     have hsw:=hst2.size
     have ha2:=((HE12.out.block w.heap.size (by omega)).trans (Hext1.out.block _ (by omega))).trans B0.out
     have hb2:=((HE12.out.block (w.heap.size+1) (by omega)).trans (Hext1.out.block _ (by omega))).trans B1.out
     obtain ⟨g0,g1,g2,gf⟩:=box3 ha2
     obtain ⟨k0,k1,k2,kf⟩:=box3 hb2
     have m0:w.heap.size<w2.heap.size:=by omega
     have m1:w.heap.size+1<w2.heap.size:=by omega
     have m2:w1.heap.size<w2.heap.size:=by omega
     have m3:w1.heap.size+1<w2.heap.size:=by omega
     have Hry2:Hid (Rep (boxed X w.heap.size 4) w2 (.string s6) (.int .i64 n6) (.slice c6a c6l c6c) y):=(Hry.out.ext (Y:=boxed X w.heap.size 4) (w':=w2) HE12.out (fun k _ h=>Or.inl h))
     have HIp:=Zaa (fun wq (hq:Ext w2 wq)=>Zmp la.length wq (boxed X w.heap.size 4) (.string s3) (.int .i64 n3) (.slice c3a c3l c3c) la n5 (.string s6) (.int .i64 n6) (.slice c6a c6l c6c) y (Qe _) ((Hra.out.stay hst2).ext hq (fun _ _ h=>h)) (Hry2.out.ext hq (fun _ _ h=>h)) (fun k h=>by have:=Zdv HX.out k h; have:=hq.size; omega) (by have:=Zgi (v:=n5) (t:=y) (l:=la) (by omega) hla; omega))
     have Hst2:=Zaa hst2
     have Ha2:=Zaa ha2
     have Hb2:=Zaa hb2
     clear hst2 ha2 hb2
     go_wp2_with fail
     refine (HIp.out _ (Ext.of (by repeat' (first | with_reducible(first|exact Qx _ _|apply Kept.drew|apply Kept.drewN|apply Qz|refine Qy ?_ ?_ _)|exact fun h=>absurd h (by simp <;> omega))))).mono ?_
     rintro e w3 ⟨a7,b7,c7,rfl,hext3,hrep7⟩
     obtain ⟨s7,n7,c7a,c7l,c7c,rfl,rfl,rfl⟩:=hrep7.shape
     have hs3:=hext3.size
     simp at hs3
     have hE3:Ext w2 w3:=((Ext.of (by repeat' (first | with_reducible(first|exact Qx _ _|apply Kept.drew|apply Kept.drewN|apply Qz|refine Qy ?_ ?_ _)|exact fun h=>absurd h (by simp <;> omega)))):Ext w2 _).trans (hext3.mono (by simp))
     have hs23:=hE3.size
     obtain ⟨g0,g1,g2,gf⟩:=box3 ((hE3.block _ m0).trans Ha2.out)
     have hb3:=(hE3.block _ m1).trans Hb2.out
     obtain ⟨k0,k1,k2,kf⟩:=box3 hb3
     have hS3:w3.heap[w2.heap.size]?=some (.cells #[.int .i64 n5,.string s6,.int .i64 n6,.slice c6a c6l c6c] 300 (0,0)):=(hext3.block _ (by simp)).trans (heap_alloc_new w2 _)
     have q0:w3.cell? ⟨w2.heap.size,0,none⟩=some (.int .i64 n5):=Zab hS3 0 _ rfl
     have q1:w3.cell? ⟨w2.heap.size,1,none⟩=some (.string s6):=Zab hS3 1 _ rfl
     have q2:w3.cell? ⟨w2.heap.size,2,none⟩=some (.int .i64 n6):=Zab hS3 2 _ rfl
     have q3:w3.cell? ⟨w2.heap.size,3,none⟩=some (.slice c6a c6l c6c):=Zab hS3 3 _ rfl
     have hst3:Stay (boxed X w.heap.size 4) w.heap.size wr w3:=Hst2.out.trans (Stay.ext hE3 (by omega))
     have HE3:=Zaa hE3
     have HS3:=Zaa hS3
     have Hst3:=Zaa hst3
     have Hrep7:=Zaa hrep7
     have Hry3:=Zaa (Hry2.out.ext hE3 (fun _ _ h=>h))
     have Hb3:=Zaa hb3
     have ne0:¬ w2.heap.size=w.heap.size:=by omega
     have ne1:¬ w.heap.size+1=w.heap.size:=by omega
     clear hext3 hrep7 hE3 hS3 hst3 hb3
     have HIq:=Zaa (fun wq (hq:Stay (boxed X w.heap.size 4) w.heap.size w3 wq)=>Zmp lb.length wq (boxed X w.heap.size 4) (.string s4) (.int .i64 n4) (.slice c4a c4l c4c) lb n5 (.string s6) (.int .i64 n6) (.slice c6a c6l c6c) y (Qe _) (Hrb.out.stay (Hst3.out.trans hq)) (Hry3.out.stay hq) (fun k h=>by have:=Zdv HX.out k h; have:=hq.size; omega) (by have:=Zgi (v:=n5) (t:=y) (l:=lb) (by omega) hlb; omega))
     go_wp2_with fail
     refine (HIq.out _ (Stay.put3 (by omega) (by omega) _ _ _)).mono ?_
     rintro e w4 ⟨a8,b8,c8,rfl,hext4,hrep8⟩
     obtain ⟨s8,n8,c8a,c8l,c8c,rfl,rfl,rfl⟩:=hrep8.shape
     have hs4:=hext4.size
     simp at hs4
     have hW3:=Zjy ((HE3.out.block _ m0).trans Ha2.out) (.string s7) (.int .i64 n7) (.slice c7a c7l c7c)
     have hst4:Stay (boxed X w.heap.size 4) w.heap.size w3 w4:=(Stay.put3 (by omega) (by omega) _ _ _).trans (Stay.ext hext4 (by simp; omega))
     have ha4:=(hext4.block w.heap.size (by simp; omega)).trans hW3.1
     have hb4:=(hext4.block (w.heap.size+1) (by simp; omega)).trans ((hW3.2.block _ (by omega) (by omega)).trans Hb3.out)
     have hS4:=(hext4.block w2.heap.size (by simp; omega)).trans ((hW3.2.block _ (by omega) (by omega)).trans HS3.out)
     have hc4:=(hext4.block (w.heap.size+1+1) (by simp; omega)).trans ((hW3.2.block _ (by omega) (by omega)).trans ((HE3.out.block _ (by omega)).trans (((HE12.out.block _ (by omega)).trans (Hext1.out.block _ (by omega))).trans B2.out)))
     have hd4:=(hext4.block (w.heap.size+1+1+1) (by simp; omega)).trans ((hW3.2.block _ (by omega) (by omega)).trans ((HE3.out.block _ (by omega)).trans (((HE12.out.block _ (by omega)).trans (Hext1.out.block _ (by omega))).trans B3.out)))
     obtain ⟨g0,g1,g2,gf⟩:=box3 ha4
     obtain ⟨k0,k1,k2,kf⟩:=box3 hb4
     have q0:w4.cell? ⟨w2.heap.size,0,none⟩=some (.int .i64 n5):=Zab hS4 0 _ rfl
     have q1:w4.cell? ⟨w2.heap.size,1,none⟩=some (.string s6):=Zab hS4 1 _ rfl
     have q2:w4.cell? ⟨w2.heap.size,2,none⟩=some (.int .i64 n6):=Zab hS4 2 _ rfl
     have q3:w4.cell? ⟨w2.heap.size,3,none⟩=some (.slice c6a c6l c6c):=Zab hS4 3 _ rfl
     have hW4:=Zjy hb4 (.string s8) (.int .i64 n8) (.slice c8a c8l c8c)
     obtain ⟨W4,hW4e⟩:∃ W,W=((w4.setCell ⟨w.heap.size+1,0,none⟩ (.string s8)).setCell ⟨w.heap.size+1,1,none⟩ (.int .i64 n8)).setCell ⟨w.heap.size+1,2,none⟩ (.slice c8a c8l c8c):=⟨_,rfl⟩
     have hstW:Stay (boxed X w.heap.size 4) w.heap.size w4 W4:=by rw [hW4e]; exact Stay.put3 (by omega) (by omega) _ _ _
     rw [← hW4e] at hW4
     have hsW:=hstW.size
     have hYc:∀ k,w.heap.size+4≤k→¬ boxed X w.heap.size 4 k:=fun k hk h=>by have:=Zdv HX.out k h; omega
     have hrowW:=Hrow.out.stay (Hst3.out.trans (hst4.trans hstW)) hYc
     have hrepA:=Hrep7.out.stay (hst4.trans hstW)
     have hrepB:=hrep8.stay hstW
     have hrepY:=Hry3.out.stay (hst4.trans hstW)
     have hstA:=Hst3.out.trans (hst4.trans hstW)
     have haW:=(hW4.2.block w.heap.size (by omega) (by omega)).trans ha4
     have hcW:=(hW4.2.block (w.heap.size+1+1) (by omega) (by omega)).trans hc4
     have hdW:=(hW4.2.block (w.heap.size+1+1+1) (by omega) (by omega)).trans hd4
     have HrowW:=Zaa hrowW
     have HrepA:=Zaa hrepA
     have HrepB:=Zaa hrepB
     have HrepY:=Zaa hrepY
     have HstA:=Zaa hstA
     have HaW:=Zaa haW
     have HbW:=Zaa hW4.1
     have HcW:=Zaa hcW
     have HdW:=Zaa hdW
     have HW4e:=Zaa hW4e
     have HrowO:Hid ((((w4.setCell ⟨w.heap.size+1,0,none⟩ (.string s8)).setCell ⟨w.heap.size+1,1,none⟩ (.int .i64 n8)).setCell ⟨w.heap.size+1,2,none⟩ (.slice c8a c8l c8c)).ownsRow (w.heap.size+4) 300 4 (.slice cva L.length cvcap) L.length xs):=by
      rw [← hW4e]; exact hrowW.owns
     have ne2:¬ w2.heap.size=w.heap.size+1:=by omega
     have hL60:=H60.out
     clear hext4 hrep8 hst4 ha4 hb4 hS4 hc4 hd4 hW3 hW4 hstW hrowW hrepA hrepB hrepY hstA haW hcW hdW hW4e hYc
     go_wp2_with (at_builtin; refine Zal _ rfl (.tmp 52) (.tmp 54) 283 rfl (w.heap.size+4) 300 Tryz.infoSub Tryz.underlying283 rfl (by decide) _ L.length xs rfl HrowO.out _ rfl (by simp) rfl Ybm ?_ ?_ ?_)
     ·omega
     ·simp; omega
     rw [← HW4e.out]
     intro cv' w5 hap5
     obtain ⟨c9a,c9cap,rfl⟩:=Zad hap5.owns
     have hnow:∀ k,k<w.heap.size+4→¬ Zap (.slice cva L.length cvcap) k:=fun k hk e=>by have:=(HrowW.out.owns.lt k e).1; omega
     have ha5:=(hap5.kept.block _ (by omega) (hnow w.heap.size (by omega))).trans HaW.out
     have hb5:=(hap5.kept.block _ (by omega) (hnow (w.heap.size+1) (by omega))).trans HbW.out
     have hc5':=(hap5.kept.block _ (by omega) (hnow (w.heap.size+1+1) (by omega))).trans HcW.out
     have hd5:=(hap5.kept.block _ (by omega) (hnow (w.heap.size+1+1+1) (by omega))).trans HdW.out
     have hon5:∀ {a b c:Value} {t:List Sym},Rep (boxed X w.heap.size 4) W4 a b c t→Rep (boxed X w.heap.size 4) w5 a b c t:=fun hr=>hr.on (fun k hk hx ht=>by
      obtain ⟨cur,hc⟩:=ht
      exact ⟨hap5.kept.block k hk (Zah HrowW.out.owns (by decide) hc),hx⟩)
     have hrow5:=HrowW.out.step HrepY.out hap5
     have hrep5a:=hon5 HrepA.out
     have hrep5b:=hon5 HrepB.out
     have hlow5:Below w.heap.size w w5:=(Hext.out.trans HstA.out.low).trans (hap5.kept.below (by omega) (fun k e=>by have:=(HrowW.out.owns.lt k e).1; omega))
     have hrepC:=hon5 ((H.out.ext Hext.out (fun k hk h=>Zfm h hk)).stay HstA.out)
     have hrepD:=hon5 ((H'.out.ext Hext.out (fun k hk h=>Zfm h hk)).stay HstA.out)
     obtain ⟨g0,g1,g2,gf⟩:=box3 ha5
     obtain ⟨k0,k1,k2,kf⟩:=box3 hb5
     obtain ⟨i0,i1,i2,if'⟩:=box3 hc5'
     obtain ⟨j0,j1,j2,jf⟩:=box3 hd5
     have hs5:=hap5.kept.size
     have hcarr2:=Hcarr.out.step (v:=n5) (y:=y) (Or.inl Hpx.out) rfl
     rw [← Zqc] at hcarr2
     have hla2:=Zgi (v:=n5) (t:=y) (l:=la) (by omega) hla
     have hlb2:=Zgi (v:=n5) (t:=y) (l:=lb) (by omega) hlb
     have HIs:=Zaa (Zgd (ap (sub1 n5 y) la).length w5 (boxed X w.heap.size 4) _ _ _ (ap (sub1 n5 y) la) (Qe _) (by omega) hrep5a)
     have HIs2:=Zaa (fun wq (hq:Ext w5 wq)=>Zgd (ap (sub1 n5 y) lb).length wq (boxed X w.heap.size 4) _ _ _ (ap (sub1 n5 y) lb) (Qe _) (by omega) (hrep5b.ext hq (fun _ _ h=>h)))
     have Ha5:=Zaa ha5
     have Hb5:=Zaa hb5
     have Hc5:=Zaa hc5'
     have Hd5:=Zaa hd5
     have Hrow5:=Zaa hrow5
     have Hrep5a:=Zaa hrep5a
     have Hrep5b:=Zaa hrep5b
     have Hlow5:=Zaa hlow5
     have HrepC:=Zaa hrepC
     have HrepD:=Zaa hrepD
     have Hcarr2:=Zaa hcarr2
     have Hpv:Hid (Occ n5 la):=Hpx.out.occ.1 (Zgb.2 rfl)
     have Hyb:Hid (∀ k,Occ k y→Occ k lb):=fun k=>Hpx.out.occ.2
     have Hwy:Hid (Wf 1 y∧y.length≤30):=⟨Hpx.out.wy,by omega⟩
     clear ha5 hb5 hc5' hd5 hon5 hrow5 hrep5a hrep5b hlow5 hrepC hrepD hcarr2 hnow hap5
     go_wp2_with fail
     refine HIs.out.mono ?_
     rintro e w6 ⟨rfl,hext6⟩
     have Hext6:=Zaa hext6
     have hs6:=hext6.size
     obtain ⟨k0,k1,k2,kf⟩:=box3 ((hext6.block _ (by omega)).trans Hb5.out)
     obtain ⟨i0,i1,i2,if'⟩:=box3 ((hext6.block _ (by omega)).trans Hc5.out)
     obtain ⟨j0,j1,j2,jf⟩:=box3 ((hext6.block _ (by omega)).trans Hd5.out)
     clear hext6
     by_cases h30:30<(ap (sub1 n5 y) la).length
     ·have h30':(30:Int)<((ap (sub1 n5 y) la).length:Nat):=by omega
      have HIj:=Zaa (fun wq (hq:Ext w5 wq)=>Zkc wq (boxed X w.heap.size 4) _ _ _ _ _ _ l m (HrepC.out.ext hq (fun _ _ h=>h)) (HrepD.out.ext hq (fun _ _ h=>h)) (by omega))
      go_wp2_with fail
      refine (HIj.out _ Hext6.out).mono ?_
      rintro e w8 ⟨qv,rfl,hext8,⟨rfl,hfit⟩ | ⟨rfl,hfit⟩⟩
      ·have Hext8:=Zaa hext8
       have Hfit:=Zaa (Hcarr2.out.vast (Or.inl h30) hfit)
       clear hext8 hfit
       go_wp2
       refine bodyPost_ret (v := .tuple #[.slice none 0 0,.int .i64 3]) (by simp [results,Tryz.results181,go_sem]) rfl ?_
       exact ⟨_,rfl,Hlow5.out.trans ((Below.trans Hext6.out (Hext8.out.mono (by omega))).mono (by omega)),Or.inr (Or.inl ⟨rfl,Hfit.out⟩)⟩
      ·have Hext8:=Zaa hext8
       have Hfit:=Zaa hfit
       clear hext8 hfit
       go_wp2
       refine bodyPost_ret (v := .tuple #[.slice none 0 0,.int .i64 0]) (by simp [results,Tryz.results181,go_sem]) rfl ?_
       exact ⟨_,rfl,Hlow5.out.trans ((Below.trans Hext6.out (Hext8.out.mono (by omega))).mono (by omega)),Or.inl ⟨rfl,Hfit.out⟩⟩
     ·have h30':¬ (30:Int)<((ap (sub1 n5 y) la).length:Nat):=by omega
      have hla3:(ap (sub1 n5 y) la).length≤30:=by omega
      clear h30
      go_wp2_with fail
      refine (HIs2.out _ Hext6.out).mono ?_
      rintro e w7 ⟨rfl,hext7⟩
      have Hext7:=Zaa (Below.trans Hext6.out (hext7.mono hs6))
      have hs7:=hext7.size
      obtain ⟨i0,i1,i2,if'⟩:=box3 ((Hext7.out.block _ (by omega)).trans Hc5.out)
      obtain ⟨j0,j1,j2,jf⟩:=box3 ((Hext7.out.block _ (by omega)).trans Hd5.out)
      clear hext7
      by_cases h30:30<(ap (sub1 n5 y) lb).length
      ·have h30b:(30:Int)<((ap (sub1 n5 y) lb).length:Nat):=by omega
       have HIj:=Zaa (fun wq (hq:Ext w5 wq)=>Zkc wq (boxed X w.heap.size 4) _ _ _ _ _ _ l m (HrepC.out.ext hq (fun _ _ h=>h)) (HrepD.out.ext hq (fun _ _ h=>h)) (by omega))
       go_wp2_with fail
       refine (HIj.out _ Hext7.out).mono ?_
       rintro e w8 ⟨qv,rfl,hext8,⟨rfl,hfit⟩ | ⟨rfl,hfit⟩⟩
       ·have Hext8:=Zaa hext8
        have Hfit:=Zaa (Hcarr2.out.vast (Or.inr h30) hfit)
        clear hext8 hfit
        go_wp2
        refine bodyPost_ret (v := .tuple #[.slice none 0 0,.int .i64 3]) (by simp [results,Tryz.results181,go_sem]) rfl ?_
        exact ⟨_,rfl,Hlow5.out.trans ((Below.trans Hext7.out (Hext8.out.mono (by omega))).mono (by omega)),Or.inr (Or.inl ⟨rfl,Hfit.out⟩)⟩
       ·have Hext8:=Zaa hext8
        have Hfit:=Zaa hfit
        clear hext8 hfit
        go_wp2
        refine bodyPost_ret (v := .tuple #[.slice none 0 0,.int .i64 0]) (by simp [results,Tryz.results181,go_sem]) rfl ?_
        exact ⟨_,rfl,Hlow5.out.trans ((Below.trans Hext7.out (Hext8.out.mono (by omega))).mono (by omega)),Or.inl ⟨rfl,Hfit.out⟩⟩
      ·have h30b:¬ (30:Int)<((ap (sub1 n5 y) lb).length:Nat):=by omega
       have hno:¬ Occ n5 y:=fun h=>by have:=Hin.out.2 h; simp at this
       have hvars:Zgv V (ap (sub1 n5 y) la++ap (sub1 n5 y) lb)<Zgv V (la++lb):=by
        refine Zsc (v:=n5) (HV.out.2 n5 (Hcarr.out.occs (Or.inl Hpv.out))) (Zcn.2 (Or.inl Hpv.out)) (fun h => ?_) (fun k h => ?_)
        ·rw [Zcn] at h
         rcases h with h | h
         ·rcases Zgh h with ⟨h,_⟩ | ⟨_,h⟩
          ·exact h rfl
          ·exact hno h
         ·rcases Zgh h with ⟨h,_⟩ | ⟨_,h⟩
          ·exact h rfl
          ·exact hno h
        ·rw [Zcn] at h ⊢
         rcases h with h | h
         ·rcases Zgh h with ⟨_,h⟩ | ⟨_,h⟩
          ·exact Or.inl h
          ·exact Or.inr (Hyb.out k h)
         ·rcases Zgh h with ⟨_,h⟩ | ⟨_,h⟩
          ·exact Or.inr h
          ·exact Or.inr (Hyb.out k h)
       have Hvars:=Zaa hvars
       clear hvars hno
       go_wp2
       go_roundg (Zgv V (la++lb))
       case measure=>exact Hg.out
       case rel =>
        refine ⟨L++[(n5,y)],xs++[.int .i64 n5,.string s6,.int .i64 n6,.slice c6a c6l c6c],ap (sub1 n5 y) la,ap (sub1 n5 y) lb,s7,n7,c7a,c7l,c7c,s8,n8,c8a,c8l,c8c,Hlow5.out.trans (Hext7.out.mono (by omega)),?_,Hcarr2.out,hla3,by omega,?_,Hvars.out,?_,
         (Hext7.out.block _ (by omega)).trans Ha5.out,(Hext7.out.block _ (by omega)).trans Hb5.out,(Hext7.out.block _ (by omega)).trans Hc5.out,(Hext7.out.block _ (by omega)).trans Hd5.out,Hrep5a.out.ext Hext7.out (fun _ _ h=>h),Hrep5b.out.ext Hext7.out (fun _ _ h=>h)⟩
        ·have:=Hrow5.out.ext Hext7.out (Y:=boxed X w.heap.size 4) (B':=w.heap.size+4) (fun _ h=>h) (Qe _)
         simpa using this
        ·exact HLs.out.snoc Hwy.out Hcarr2.out hla3 (by omega)
        ·have:=Hvars.out
         have:=H60.out
         simp; omega
    ·go_wp2
     refine bodyPost_ret (v := .tuple #[.slice none 0 0,.int .i64 0]) (by simp [results,Tryz.results181,go_sem]) rfl ?_
     refine ⟨_,rfl,(Hext.out.trans (Hext1.out.mono Hext.out.size)).trans (HE12.out.mono (by omega)),Or.inl ⟨rfl,Hcarr.out.none (Or.inl (Zmc Hpx.out rfl (Hin.out.1 trivial)))⟩⟩
   ·have hx0:s5.toList.isEmpty=false:=by
     simp only [Value.string.injEq] at hs5
     subst hs5
     rw [Zef]; simpa using hnm
    have hx1:¬ s5.toList=[]:=by
     intro e; rw [e] at hx0; simp at hx0
    have Hx:=Zaa hx
    clear hs5 hn5 hx
    rcases hry.out with ⟨v,hs6,hn6,hc6,rfl⟩ | ⟨nm',ls',ys',hnm',hs6,hn6,hy,_⟩
    ·simp only [Value.string.injEq,Value.int.injEq,true_and,Value.slice.injEq] at hs6 hn6 hc6
     obtain ⟨rfl,rfl,rfl⟩:=hc6
     subst hs6
     have hn6':n6=v:=by omega
     subst hn6'
     have Hstand:=Zaa (fun wq (hq:Ext w1 wq)=>Zom x.length wq (boxed X w.heap.size 4) _ _ _ x n6 (Qe _) (by omega) (hrx.ext hq (fun j _ h=>Or.inl h)))
     have Hry:=Zaa hrx
     have Hpx:=Zaa hpart.symm
     clear hry hrx hpart
     go_wp2_with fail
     refine (Hstand.out _ (Ext.of (by repeat' (first | with_reducible(first|exact Qx _ _|apply Kept.drew|apply Kept.drewN|apply Qz|refine Qy ?_ ?_ _)|exact fun h=>absurd h (by simp <;> omega))))).mono ?_
     rintro e w2 ⟨r,rfl,hext2,hin⟩
     have HE12:Hid (Ext w1 w2):=Below.trans (Ext.of (by repeat' (first | with_reducible(first|exact Qx _ _|apply Kept.drew|apply Kept.drewN|apply Qz|refine Qy ?_ ?_ _)|exact fun h=>absurd h (by simp <;> omega)))) (hext2.mono (by simp; omega))
     have Hin:=Zaa hin
     have hs2:=hext2.size
     simp at hs2
     have hb9:w2.heap[w1.heap.size]?=some (.cells #[.string ⟨#[]⟩,.int .i64 n6,.slice none 0 0] 183 (0,0)):=(hext2.block _ (by simp; omega)).trans (Zag (Zag (heap_alloc_new w1 _) _) _)
     have hb10:w2.heap[w1.heap.size+1]?=some (.cells #[.string s5,.int .i64 n5,.slice c5a c5l c5c] 183 (0,0)):=(hext2.block _ (by simp)).trans (by simpa using Zag (heap_alloc_new (w1.alloc _) _) _)
     obtain ⟨z0,z1,z2,zf⟩:=box3 hb9
     obtain ⟨t0,t1,t2,tf⟩:=box3 hb10
     have Hb9:=Zaa hb9
     have Hb10:=Zaa hb10
     clear hext2 hin hb9 hb10
     cases r
     ·have hst2:Stay (boxed X w.heap.size 4) w.heap.size wr w2:=(Stay.ext Hext1.out (by omega)).trans (Stay.ext HE12.out (by omega))
      have hsw:=hst2.size
      have ha2:=((HE12.out.block w.heap.size (by omega)).trans (Hext1.out.block _ (by omega))).trans B0.out
      have hb2:=((HE12.out.block (w.heap.size+1) (by omega)).trans (Hext1.out.block _ (by omega))).trans B1.out
      obtain ⟨g0,g1,g2,gf⟩:=box3 ha2
      obtain ⟨k0,k1,k2,kf⟩:=box3 hb2
      have m0:w.heap.size<w2.heap.size:=by omega
      have m1:w.heap.size+1<w2.heap.size:=by omega
      have m2:w1.heap.size<w2.heap.size:=by omega
      have m3:w1.heap.size+1<w2.heap.size:=by omega
      have Hry2:Hid (Rep (boxed X w.heap.size 4) w2 (.string s5) (.int .i64 n5) (.slice c5a c5l c5c) x):=(Hry.out.ext (Y:=boxed X w.heap.size 4) (w':=w2) HE12.out (fun k _ h=>Or.inl h))
      have HIp:=Zaa (fun wq (hq:Ext w2 wq)=>Zmp la.length wq (boxed X w.heap.size 4) (.string s3) (.int .i64 n3) (.slice c3a c3l c3c) la n6 (.string s5) (.int .i64 n5) (.slice c5a c5l c5c) x (Qe _) ((Hra.out.stay hst2).ext hq (fun _ _ h=>h)) (Hry2.out.ext hq (fun _ _ h=>h)) (fun k h=>by have:=Zdv HX.out k h; have:=hq.size; omega) (by have:=Zgi (v:=n6) (t:=x) (l:=la) (by omega) hla; omega))
      have Hst2:=Zaa hst2
      have Ha2:=Zaa ha2
      have Hb2:=Zaa hb2
      clear hst2 ha2 hb2
      go_wp2_with fail
      refine (HIp.out _ (Ext.of (by repeat' (first | with_reducible(first|exact Qx _ _|apply Kept.drew|apply Kept.drewN|apply Qz|refine Qy ?_ ?_ _)|exact fun h=>absurd h (by simp <;> omega))))).mono ?_
      rintro e w3 ⟨a7,b7,c7,rfl,hext3,hrep7⟩
      obtain ⟨s7,n7,c7a,c7l,c7c,rfl,rfl,rfl⟩:=hrep7.shape
      have hs3:=hext3.size
      simp at hs3
      have hE3:Ext w2 w3:=((Ext.of (by repeat' (first | with_reducible(first|exact Qx _ _|apply Kept.drew|apply Kept.drewN|apply Qz|refine Qy ?_ ?_ _)|exact fun h=>absurd h (by simp <;> omega)))):Ext w2 _).trans (hext3.mono (by simp))
      have hs23:=hE3.size
      obtain ⟨g0,g1,g2,gf⟩:=box3 ((hE3.block _ m0).trans Ha2.out)
      have hb3:=(hE3.block _ m1).trans Hb2.out
      obtain ⟨k0,k1,k2,kf⟩:=box3 hb3
      have hS3:w3.heap[w2.heap.size]?=some (.cells #[.int .i64 n6,.string s5,.int .i64 n5,.slice c5a c5l c5c] 300 (0,0)):=(hext3.block _ (by simp)).trans (heap_alloc_new w2 _)
      have q0:w3.cell? ⟨w2.heap.size,0,none⟩=some (.int .i64 n6):=Zab hS3 0 _ rfl
      have q1:w3.cell? ⟨w2.heap.size,1,none⟩=some (.string s5):=Zab hS3 1 _ rfl
      have q2:w3.cell? ⟨w2.heap.size,2,none⟩=some (.int .i64 n5):=Zab hS3 2 _ rfl
      have q3:w3.cell? ⟨w2.heap.size,3,none⟩=some (.slice c5a c5l c5c):=Zab hS3 3 _ rfl
      have hst3:Stay (boxed X w.heap.size 4) w.heap.size wr w3:=Hst2.out.trans (Stay.ext hE3 (by omega))
      have HE3:=Zaa hE3
      have HS3:=Zaa hS3
      have Hst3:=Zaa hst3
      have Hrep7:=Zaa hrep7
      have Hry3:=Zaa (Hry2.out.ext hE3 (fun _ _ h=>h))
      have Hb3:=Zaa hb3
      have ne0:¬ w2.heap.size=w.heap.size:=by omega
      have ne1:¬ w.heap.size+1=w.heap.size:=by omega
      clear hext3 hrep7 hE3 hS3 hst3 hb3
      have HIq:=Zaa (fun wq (hq:Stay (boxed X w.heap.size 4) w.heap.size w3 wq)=>Zmp lb.length wq (boxed X w.heap.size 4) (.string s4) (.int .i64 n4) (.slice c4a c4l c4c) lb n6 (.string s5) (.int .i64 n5) (.slice c5a c5l c5c) x (Qe _) (Hrb.out.stay (Hst3.out.trans hq)) (Hry3.out.stay hq) (fun k h=>by have:=Zdv HX.out k h; have:=hq.size; omega) (by have:=Zgi (v:=n6) (t:=x) (l:=lb) (by omega) hlb; omega))
      go_wp2_with fail
      refine (HIq.out _ (Stay.put3 (by omega) (by omega) _ _ _)).mono ?_
      rintro e w4 ⟨a8,b8,c8,rfl,hext4,hrep8⟩
      obtain ⟨s8,n8,c8a,c8l,c8c,rfl,rfl,rfl⟩:=hrep8.shape
      have hs4:=hext4.size
      simp at hs4
      have hW3:=Zjy ((HE3.out.block _ m0).trans Ha2.out) (.string s7) (.int .i64 n7) (.slice c7a c7l c7c)
      have hst4:Stay (boxed X w.heap.size 4) w.heap.size w3 w4:=(Stay.put3 (by omega) (by omega) _ _ _).trans (Stay.ext hext4 (by simp; omega))
      have ha4:=(hext4.block w.heap.size (by simp; omega)).trans hW3.1
      have hb4:=(hext4.block (w.heap.size+1) (by simp; omega)).trans ((hW3.2.block _ (by omega) (by omega)).trans Hb3.out)
      have hS4:=(hext4.block w2.heap.size (by simp; omega)).trans ((hW3.2.block _ (by omega) (by omega)).trans HS3.out)
      have hc4:=(hext4.block (w.heap.size+1+1) (by simp; omega)).trans ((hW3.2.block _ (by omega) (by omega)).trans ((HE3.out.block _ (by omega)).trans (((HE12.out.block _ (by omega)).trans (Hext1.out.block _ (by omega))).trans B2.out)))
      have hd4:=(hext4.block (w.heap.size+1+1+1) (by simp; omega)).trans ((hW3.2.block _ (by omega) (by omega)).trans ((HE3.out.block _ (by omega)).trans (((HE12.out.block _ (by omega)).trans (Hext1.out.block _ (by omega))).trans B3.out)))
      obtain ⟨g0,g1,g2,gf⟩:=box3 ha4
      obtain ⟨k0,k1,k2,kf⟩:=box3 hb4
      have q0:w4.cell? ⟨w2.heap.size,0,none⟩=some (.int .i64 n6):=Zab hS4 0 _ rfl
      have q1:w4.cell? ⟨w2.heap.size,1,none⟩=some (.string s5):=Zab hS4 1 _ rfl
      have q2:w4.cell? ⟨w2.heap.size,2,none⟩=some (.int .i64 n5):=Zab hS4 2 _ rfl
      have q3:w4.cell? ⟨w2.heap.size,3,none⟩=some (.slice c5a c5l c5c):=Zab hS4 3 _ rfl
      have hW4:=Zjy hb4 (.string s8) (.int .i64 n8) (.slice c8a c8l c8c)
      obtain ⟨W4,hW4e⟩:∃ W,W=((w4.setCell ⟨w.heap.size+1,0,none⟩ (.string s8)).setCell ⟨w.heap.size+1,1,none⟩ (.int .i64 n8)).setCell ⟨w.heap.size+1,2,none⟩ (.slice c8a c8l c8c):=⟨_,rfl⟩
      have hstW:Stay (boxed X w.heap.size 4) w.heap.size w4 W4:=by rw [hW4e]; exact Stay.put3 (by omega) (by omega) _ _ _
      rw [← hW4e] at hW4
      have hsW:=hstW.size
      have hYc:∀ k,w.heap.size+4≤k→¬ boxed X w.heap.size 4 k:=fun k hk h=>by have:=Zdv HX.out k h; omega
      have hrowW:=Hrow.out.stay (Hst3.out.trans (hst4.trans hstW)) hYc
      have hrepA:=Hrep7.out.stay (hst4.trans hstW)
      have hrepB:=hrep8.stay hstW
      have hrepY:=Hry3.out.stay (hst4.trans hstW)
      have hstA:=Hst3.out.trans (hst4.trans hstW)
      have haW:=(hW4.2.block w.heap.size (by omega) (by omega)).trans ha4
      have hcW:=(hW4.2.block (w.heap.size+1+1) (by omega) (by omega)).trans hc4
      have hdW:=(hW4.2.block (w.heap.size+1+1+1) (by omega) (by omega)).trans hd4
      have HrowW:=Zaa hrowW
      have HrepA:=Zaa hrepA
      have HrepB:=Zaa hrepB
      have HrepY:=Zaa hrepY
      have HstA:=Zaa hstA
      have HaW:=Zaa haW
      have HbW:=Zaa hW4.1
      have HcW:=Zaa hcW
      have HdW:=Zaa hdW
      have HW4e:=Zaa hW4e
      have HrowO:Hid ((((w4.setCell ⟨w.heap.size+1,0,none⟩ (.string s8)).setCell ⟨w.heap.size+1,1,none⟩ (.int .i64 n8)).setCell ⟨w.heap.size+1,2,none⟩ (.slice c8a c8l c8c)).ownsRow (w.heap.size+4) 300 4 (.slice cva L.length cvcap) L.length xs):=by
       rw [← hW4e]; exact hrowW.owns
      have ne2:¬ w2.heap.size=w.heap.size+1:=by omega
      have hL60:=H60.out
      clear hext4 hrep8 hst4 ha4 hb4 hS4 hc4 hd4 hW3 hW4 hstW hrowW hrepA hrepB hrepY hstA haW hcW hdW hW4e hYc
      go_wp2_with (at_builtin; refine Zal _ rfl (.tmp 52) (.tmp 54) 283 rfl (w.heap.size+4) 300 Tryz.infoSub Tryz.underlying283 rfl (by decide) _ L.length xs rfl HrowO.out _ rfl (by simp) rfl Ybm ?_ ?_ ?_)
      ·omega
      ·simp; omega
      rw [← HW4e.out]
      intro cv' w5 hap5
      obtain ⟨c9a,c9cap,rfl⟩:=Zad hap5.owns
      have hnow:∀ k,k<w.heap.size+4→¬ Zap (.slice cva L.length cvcap) k:=fun k hk e=>by have:=(HrowW.out.owns.lt k e).1; omega
      have ha5:=(hap5.kept.block _ (by omega) (hnow w.heap.size (by omega))).trans HaW.out
      have hb5:=(hap5.kept.block _ (by omega) (hnow (w.heap.size+1) (by omega))).trans HbW.out
      have hc5':=(hap5.kept.block _ (by omega) (hnow (w.heap.size+1+1) (by omega))).trans HcW.out
      have hd5:=(hap5.kept.block _ (by omega) (hnow (w.heap.size+1+1+1) (by omega))).trans HdW.out
      have hon5:∀ {a b c:Value} {t:List Sym},Rep (boxed X w.heap.size 4) W4 a b c t→Rep (boxed X w.heap.size 4) w5 a b c t:=fun hr=>hr.on (fun k hk hx ht=>by
       obtain ⟨cur,hc⟩:=ht
       exact ⟨hap5.kept.block k hk (Zah HrowW.out.owns (by decide) hc),hx⟩)
      have hrow5:=HrowW.out.step HrepY.out hap5
      have hrep5a:=hon5 HrepA.out
      have hrep5b:=hon5 HrepB.out
      have hlow5:Below w.heap.size w w5:=(Hext.out.trans HstA.out.low).trans (hap5.kept.below (by omega) (fun k e=>by have:=(HrowW.out.owns.lt k e).1; omega))
      have hrepC:=hon5 ((H.out.ext Hext.out (fun k hk h=>Zfm h hk)).stay HstA.out)
      have hrepD:=hon5 ((H'.out.ext Hext.out (fun k hk h=>Zfm h hk)).stay HstA.out)
      obtain ⟨g0,g1,g2,gf⟩:=box3 ha5
      obtain ⟨k0,k1,k2,kf⟩:=box3 hb5
      obtain ⟨i0,i1,i2,if'⟩:=box3 hc5'
      obtain ⟨j0,j1,j2,jf⟩:=box3 hd5
      have hs5:=hap5.kept.size
      have hcarr2:=Hcarr.out.step (v:=n6) (y:=x) (Or.inr Hpx.out) rfl
      rw [← Zqc] at hcarr2
      have hla2:=Zgi (v:=n6) (t:=x) (l:=la) (by omega) hla
      have hlb2:=Zgi (v:=n6) (t:=x) (l:=lb) (by omega) hlb
      have HIs:=Zaa (Zgd (ap (sub1 n6 x) la).length w5 (boxed X w.heap.size 4) _ _ _ (ap (sub1 n6 x) la) (Qe _) (by omega) hrep5a)
      have HIs2:=Zaa (fun wq (hq:Ext w5 wq)=>Zgd (ap (sub1 n6 x) lb).length wq (boxed X w.heap.size 4) _ _ _ (ap (sub1 n6 x) lb) (Qe _) (by omega) (hrep5b.ext hq (fun _ _ h=>h)))
      have Ha5:=Zaa ha5
      have Hb5:=Zaa hb5
      have Hc5:=Zaa hc5'
      have Hd5:=Zaa hd5
      have Hrow5:=Zaa hrow5
      have Hrep5a:=Zaa hrep5a
      have Hrep5b:=Zaa hrep5b
      have Hlow5:=Zaa hlow5
      have HrepC:=Zaa hrepC
      have HrepD:=Zaa hrepD
      have Hcarr2:=Zaa hcarr2
      have Hpv:Hid (Occ n6 lb):=Hpx.out.occ.1 (Zgb.2 rfl)
      have Hyb:Hid (∀ k,Occ k x→Occ k la):=fun k=>Hpx.out.occ.2
      have Hwy:Hid (Wf 1 x∧x.length≤30):=⟨Hpx.out.wy,by omega⟩
      clear ha5 hb5 hc5' hd5 hon5 hrow5 hrep5a hrep5b hlow5 hrepC hrepD hcarr2 hnow hap5
      go_wp2_with fail
      refine HIs.out.mono ?_
      rintro e w6 ⟨rfl,hext6⟩
      have Hext6:=Zaa hext6
      have hs6:=hext6.size
      obtain ⟨k0,k1,k2,kf⟩:=box3 ((hext6.block _ (by omega)).trans Hb5.out)
      obtain ⟨i0,i1,i2,if'⟩:=box3 ((hext6.block _ (by omega)).trans Hc5.out)
      obtain ⟨j0,j1,j2,jf⟩:=box3 ((hext6.block _ (by omega)).trans Hd5.out)
      clear hext6
      by_cases h30:30<(ap (sub1 n6 x) la).length
      ·have h30':(30:Int)<((ap (sub1 n6 x) la).length:Nat):=by omega
       have HIj:=Zaa (fun wq (hq:Ext w5 wq)=>Zkc wq (boxed X w.heap.size 4) _ _ _ _ _ _ l m (HrepC.out.ext hq (fun _ _ h=>h)) (HrepD.out.ext hq (fun _ _ h=>h)) (by omega))
       go_wp2_with fail
       refine (HIj.out _ Hext6.out).mono ?_
       rintro e w8 ⟨qv,rfl,hext8,⟨rfl,hfit⟩ | ⟨rfl,hfit⟩⟩
       ·have Hext8:=Zaa hext8
        have Hfit:=Zaa (Hcarr2.out.vast (Or.inl h30) hfit)
        clear hext8 hfit
        go_wp2
        refine bodyPost_ret (v := .tuple #[.slice none 0 0,.int .i64 3]) (by simp [results,Tryz.results181,go_sem]) rfl ?_
        exact ⟨_,rfl,Hlow5.out.trans ((Below.trans Hext6.out (Hext8.out.mono (by omega))).mono (by omega)),Or.inr (Or.inl ⟨rfl,Hfit.out⟩)⟩
       ·have Hext8:=Zaa hext8
        have Hfit:=Zaa hfit
        clear hext8 hfit
        go_wp2
        refine bodyPost_ret (v := .tuple #[.slice none 0 0,.int .i64 0]) (by simp [results,Tryz.results181,go_sem]) rfl ?_
        exact ⟨_,rfl,Hlow5.out.trans ((Below.trans Hext6.out (Hext8.out.mono (by omega))).mono (by omega)),Or.inl ⟨rfl,Hfit.out⟩⟩
      ·have h30':¬ (30:Int)<((ap (sub1 n6 x) la).length:Nat):=by omega
       have hla3:(ap (sub1 n6 x) la).length≤30:=by omega
       clear h30
       go_wp2_with fail
       refine (HIs2.out _ Hext6.out).mono ?_
       rintro e w7 ⟨rfl,hext7⟩
       have Hext7:=Zaa (Below.trans Hext6.out (hext7.mono hs6))
       have hs7:=hext7.size
       obtain ⟨i0,i1,i2,if'⟩:=box3 ((Hext7.out.block _ (by omega)).trans Hc5.out)
       obtain ⟨j0,j1,j2,jf⟩:=box3 ((Hext7.out.block _ (by omega)).trans Hd5.out)
       clear hext7
       by_cases h30:30<(ap (sub1 n6 x) lb).length
       ·have h30b:(30:Int)<((ap (sub1 n6 x) lb).length:Nat):=by omega
        have HIj:=Zaa (fun wq (hq:Ext w5 wq)=>Zkc wq (boxed X w.heap.size 4) _ _ _ _ _ _ l m (HrepC.out.ext hq (fun _ _ h=>h)) (HrepD.out.ext hq (fun _ _ h=>h)) (by omega))
        go_wp2_with fail
        refine (HIj.out _ Hext7.out).mono ?_
        rintro e w8 ⟨qv,rfl,hext8,⟨rfl,hfit⟩ | ⟨rfl,hfit⟩⟩
        ·have Hext8:=Zaa hext8
         have Hfit:=Zaa (Hcarr2.out.vast (Or.inr h30) hfit)
         clear hext8 hfit
         go_wp2
         refine bodyPost_ret (v := .tuple #[.slice none 0 0,.int .i64 3]) (by simp [results,Tryz.results181,go_sem]) rfl ?_
         exact ⟨_,rfl,Hlow5.out.trans ((Below.trans Hext7.out (Hext8.out.mono (by omega))).mono (by omega)),Or.inr (Or.inl ⟨rfl,Hfit.out⟩)⟩
        ·have Hext8:=Zaa hext8
         have Hfit:=Zaa hfit
         clear hext8 hfit
         go_wp2
         refine bodyPost_ret (v := .tuple #[.slice none 0 0,.int .i64 0]) (by simp [results,Tryz.results181,go_sem]) rfl ?_
         exact ⟨_,rfl,Hlow5.out.trans ((Below.trans Hext7.out (Hext8.out.mono (by omega))).mono (by omega)),Or.inl ⟨rfl,Hfit.out⟩⟩
       ·have h30b:¬ (30:Int)<((ap (sub1 n6 x) lb).length:Nat):=by omega
        have hno:¬ Occ n6 x:=fun h=>by have:=Hin.out.2 h; simp at this
        have hvars:Zgv V (ap (sub1 n6 x) la++ap (sub1 n6 x) lb)<Zgv V (la++lb):=by
         refine Zsc (v:=n6) (HV.out.2 n6 (Hcarr.out.occs (Or.inr Hpv.out))) (Zcn.2 (Or.inr Hpv.out)) (fun h => ?_) (fun k h => ?_)
         ·rw [Zcn] at h
          rcases h with h | h
          ·rcases Zgh h with ⟨h,_⟩ | ⟨_,h⟩
           ·exact h rfl
           ·exact hno h
          ·rcases Zgh h with ⟨h,_⟩ | ⟨_,h⟩
           ·exact h rfl
           ·exact hno h
         ·rw [Zcn] at h ⊢
          rcases h with h | h
          ·rcases Zgh h with ⟨_,h⟩ | ⟨_,h⟩
           ·exact Or.inl h
           ·exact Or.inl (Hyb.out k h)
          ·rcases Zgh h with ⟨_,h⟩ | ⟨_,h⟩
           ·exact Or.inr h
           ·exact Or.inl (Hyb.out k h)
        have Hvars:=Zaa hvars
        clear hvars hno
        go_wp2
        go_roundg (Zgv V (la++lb))
        case measure=>exact Hg.out
        case rel =>
         refine ⟨L++[(n6,x)],xs++[.int .i64 n6,.string s5,.int .i64 n5,.slice c5a c5l c5c],ap (sub1 n6 x) la,ap (sub1 n6 x) lb,s7,n7,c7a,c7l,c7c,s8,n8,c8a,c8l,c8c,Hlow5.out.trans (Hext7.out.mono (by omega)),?_,Hcarr2.out,hla3,by omega,?_,Hvars.out,?_,
          (Hext7.out.block _ (by omega)).trans Ha5.out,(Hext7.out.block _ (by omega)).trans Hb5.out,(Hext7.out.block _ (by omega)).trans Hc5.out,(Hext7.out.block _ (by omega)).trans Hd5.out,Hrep5a.out.ext Hext7.out (fun _ _ h=>h),Hrep5b.out.ext Hext7.out (fun _ _ h=>h)⟩
         ·have:=Hrow5.out.ext Hext7.out (Y:=boxed X w.heap.size 4) (B':=w.heap.size+4) (fun _ h=>h) (Qe _)
          simpa using this
         ·exact HLs.out.snoc Hwy.out Hcarr2.out hla3 (by omega)
         ·have:=Hvars.out
          have:=H60.out
          simp; omega
     ·go_wp2
      refine bodyPost_ret (v := .tuple #[.slice none 0 0,.int .i64 0]) (by simp [results,Tryz.results181,go_sem]) rfl ?_
      refine ⟨_,rfl,(Hext.out.trans (Hext1.out.mono Hext.out.size)).trans (HE12.out.mono (by omega)),Or.inl ⟨rfl,Hcarr.out.none (Or.inr (Zmc Hpx.out rfl (Hin.out.1 trivial)))⟩⟩
    ·have hy0:s6.toList.isEmpty=false:=by
      simp only [Value.string.injEq] at hs6
      subst hs6
      rw [Zef]; simpa using hnm'
     have hy1:¬ s6.toList=[]:=by
      intro e; rw [e] at hy0; simp at hy0
     have Hno:Hid (NoFit l m):=Hcarr.out.none (Or.inl (Zwz hpart Hx.out hy hnm hnm'))
     clear hs6 hn6 hy hpart hrx hry
     go_wp2
     refine bodyPost_ret (v := .tuple #[.slice none 0 0,.int .i64 0]) (by simp [results,Tryz.results181,go_sem]) rfl ?_
     exact ⟨_,rfl,(Hext.out.trans (Hext1.out.mono Hext.out.size)).trans (((Ext.of (by repeat' (first | with_reducible(first|exact Qx _ _|apply Kept.drew|apply Kept.drewN|apply Qz|refine Qy ?_ ?_ _)|exact fun h=>absurd h (by simp <;> omega)))):Ext w1 _).mono (by omega)),Or.inl ⟨rfl,Hno.out⟩⟩
theorem Zwa (w:World) (X:Nat→Prop) (Bs:Nat) (cv:Value) (L:List (Nat × List Sym)) (xs:List Value) (a b c:Value) (l:List Sym) (h:Rep X w a b c l) (hS:RowS X w Bs cv L.length L xs) (hX:∀ k,X k→k<w.heap.size) (hb:∀ k,(ap (sgm (L.take k)) l).length≤4000) (hL:L.length≤4000) :
  Calls Tryz.prog 183 #[.agg #[a,b,c],cv] w fun e w'=>∃ a' b' c',e = .returned (.agg #[a',b',c'])∧Ext w w'∧Rep X w' a' b' c' (ap (sgm L) l):=by
 have hw:=h.wf _ (Qe _)
 obtain ⟨s1,n1,c1a,c1l,c1c,rfl,rfl,rfl⟩:=h.shape
 obtain ⟨sa,scap,rfl⟩:=Zad hS.owns
 have H:=Zaa h
 have HS:=Zaa hS
 have HX:=Zaa hX
 have Hb:=Zaa hb
 have Hw:=Zaa hw
 clear h hS hX hb hw
 go_enter Tryz.func183,Tryz.ntmps183
 go_wp2
 go_loopg [5] (L.length+1) (fun gk i wr=>∃ (k:Nat) (s2:ByteArray) (n2:Nat) (c2a:Option Addr) (c2l c2c:Nat),i = .int .i64 k∧k≤L.length∧L.length - k<gk∧Ext w wr ∧
   wr.heap[w.heap.size]?=some (.cells #[.string s2,.int .i64 n2,.slice c2a c2l c2c] 183 (0,0))∧wr.heap[w.heap.size+1]?=some (.cells #[.string ⟨#[]⟩,.int .i64 0,.slice none 0 0] 183 (0,0)) ∧
   Rep (boxed X w.heap.size 2) wr (.string s2) (.int .i64 n2) (.slice c2a c2l c2c) (ap (sgm (L.take k)) l))
 case atStart =>
  refine ⟨0,s1,n1,c1a,c1l,c1c,by go_num,Qm _,by omega,(Ext.of (by repeat' (first | with_reducible(first|exact Qx _ _|apply Kept.drew|apply Kept.drewN|apply Qz|refine Qy ?_ ?_ _)|exact fun h=>absurd h (by simp <;> omega)))),Zag (heap_alloc_new w _) _,by simpa using heap_alloc_new (w.alloc _) _,?_⟩
  have e:ap (sgm (L.take 0)) l=l:=by rw [List.take_zero]; exact Ydf Hw.out
  rw [e]
  exact H.out.ext (Ext.of (by repeat' (first | with_reducible(first|exact Qx _ _|apply Kept.drew|apply Kept.drewN|apply Qz|refine Qy ?_ ?_ _)|exact fun h=>absurd h (by simp <;> omega)))) (fun k hk h=>Zfm h hk)
 case round =>
  obtain ⟨k,s2,n2,c2a,c2l,c2c,rfl,hk,hg,hext,h0,h1,hrep⟩:=hrel
  obtain ⟨b0,b1,b2,bf⟩:=box3 h0
  obtain ⟨d0,d1,d2,df⟩:=box3 h1
  have hsz:=Zac h1
  have Hext:=Zaa hext
  have H0:=Zaa h0
  have H1:=Zaa h1
  have Hrep:=Zaa hrep
  clear hext h0 h1 hrep
  by_cases hlt:k<L.length
  ·obtain ⟨p,hp⟩:∃ p,L[k]?=some p:=⟨_,Qb hlt⟩
   obtain ⟨v,t⟩:=p
   obtain ⟨a',b',c',x0,x1,x2,x3,hrt⟩:=HS.out.all k _ hp
   obtain ⟨s3,n3,c3a,c3l,c3c,rfl,rfl,rfl⟩:=hrt.shape
   have hrow':=HS.out.ext (Y:=X) (B':=Bs) Hext.out (fun _ h=>h) (Qe _)
   obtain ⟨g,cap',cur,hge,hBg,hgb,hcp⟩:=Zan hrow'.owns (by omega)
   simp only [Value.slice.injEq] at hge
   obtain ⟨rfl,_,rfl⟩:=hge
   have y0:wr.cell? ⟨g,k * 4,none⟩=some (.int .i64 v):=Zaf hrow'.owns _ _ x0
   have y1:wr.cell? ⟨g,k * 4+1,none⟩=some (.string s3):=Zaf hrow'.owns _ _ x1
   have y2:wr.cell? ⟨g,k * 4+2,none⟩=some (.int .i64 n3):=Zaf hrow'.owns _ _ x2
   have y3:wr.cell? ⟨g,k * 4+3,none⟩=some (.slice c3a c3l c3c):=Zaf hrow'.owns _ _ x3
   have hsg:ap (sgm (L.take (k+1))) l=ap (sub1 v t) (ap (sgm (L.take k)) l):=by
    rw [List.take_add_one,hp,Option.toList_some,Zqc,Zwy]
   have hb1:=Hb.out (k+1)
   rw [hsg] at hb1
   have HI:=Zaa (Zmp (ap (sgm (L.take k)) l).length wr.drew (boxed X w.heap.size 2) (.string s2) (.int .i64 n2) (.slice c2a c2l c2c) (ap (sgm (L.take k)) l) v (.string s3) (.int .i64 n3) (.slice c3a c3l c3c) t (Qe _) (Hrep.out.on (fun k _ hn _=>⟨rfl,hn⟩)) (hrt.ext (Hext.out.trans ⟨rfl,rfl,rfl,Qe _,fun _ _=>rfl⟩) (fun k hk h=>Zfm h hk)) (fun k h=>by have:=Zdv HX.out k h; show k<wr.heap.size; omega) hb1)
   have Hsg:=Zaa hsg
   clear hgb hrow' hrt x0 x1 x2 x3 hp hsg hb1
   go_wp2_with fail
   refine Zji (by kernel_rfl) [.pur (.agg #[.string s2,.int .i64 n2,.slice c2a c2l c2c]),.pur (.slice (some ⟨g,0,none⟩) L.length scap),.pur (.int .i64 k),.pur (.pointer (some ⟨g,k * 4,none⟩)),.pur (.agg #[.int .i64 v,.string s3,.int .i64 n3,.slice c3a c3l c3c]),.cal,.sto 0] 5 6 (by kernel_rfl)
    (fun r u=>∃ (s:ByteArray) (n:Nat) (ca:Option Addr) (cl cc:Nat),r = .agg #[.string s,.int .i64 n,.slice ca cl cc]∧Ext wr u∧Rep (boxed X w.heap.size 2) u (.string s) (.int .i64 n) (.slice ca cl cc) (ap (sub1 v t) (ap (sgm (L.take k)) l)))
    (fun r u=>∃ (s:ByteArray) (n:Nat) (ca:Option Addr) (cl cc:Nat) (u0:World),Ext wr u0∧Rep (boxed X w.heap.size 2) u0 (.string s) (.int .i64 n) (.slice ca cl cc) (ap (sub1 v t) (ap (sgm (L.take k)) l)) ∧
     u=((u0.setCell ⟨w.heap.size,0,none⟩ (.string s)).setCell ⟨w.heap.size,1,none⟩ (.int .i64 n)).setCell ⟨w.heap.size,2,none⟩ (.slice ca cl cc)) 204
    #[.agg #[.string s2,.int .i64 n2,.slice c2a c2l c2c],.agg #[.int .i64 v,.string s3,.int .i64 n3,.slice c3a c3l c3c]] ?_ ?_ rfl (by decide) (Or.inl ⟨0,rfl⟩) ?_
   ·refine HI.out.mono ?_
    rintro e u ⟨a',b',c',rfl,he,hr⟩
    obtain ⟨s4,n4,c4a,c4l,c4c,rfl,rfl,rfl⟩:=hr.shape
    exact ⟨_,rfl,s4,n4,c4a,c4l,c4c,rfl,he.undrew,hr⟩
   ·refine ⟨fun vc => ?_,fun vc => ?_,fun vc => ?_,fun vc => ?_,fun vc => ?_,fun vc => ?_,?_,trivial⟩
    all_goals try (simp [pa,Kd.val,go_sem,b0,b1,b2,y0,y1,y2,y3,hlt]; done)
    rintro vc u ⟨s,n,ca,cl,cc,rfl,he,hr⟩
    obtain ⟨q0,q1,q2,qf⟩:=box3 ((he.block _ (by omega)).trans H0.out)
    refine ⟨_,?_,s,n,ca,cl,cc,u,he,hr,rfl⟩
    simp [pa,Kd.val,go_sem,q0,q1,q2,qf]
   rintro vc w1 ⟨s,n,ca,cl,cc,u0,he,hr,rfl⟩
   simp only [paAll,pa,Kd.val,if_true,Act.put]
   have He:=Zaa he
   have Hr:=Zaa hr
   have hs0:=he.size
   clear he hr
   go_wp2
   go_roundg (L.length - k)
   case measure=>omega
   case rel =>
    have hst:=Zjy ((He.out.block _ (by omega)).trans H0.out) (.string s) (.int .i64 n) (.slice ca cl cc)
    refine ⟨k+1,s,n,ca,cl,cc,by go_num,by omega,by omega,?_,hst.1,(hst.2.block _ (by omega) (by omega)).trans ((He.out.block _ (by omega)).trans H1.out),?_⟩
    ·exact (Hext.out.trans (He.out.mono Hext.out.size)).trans (hst.2.below (by omega) (fun j e=>by have e:j=w.heap.size:=e; omega))
    ·rw [Hsg.out]
     exact Hr.out.on (fun j hj hn _=>⟨hst.2.block j hj (fun e=>hn (Or.inr (by omega))),hn⟩)
  ·have hek:k=L.length:=by omega
   subst hek
   go_wp2
   refine bodyPost_ret (v := .agg #[.string s2,.int .i64 n2,.slice c2a c2l c2c]) (by simp [results,Tryz.results183,go_sem,d0,d1,d2,df]) rfl ?_
   have hr:=Hrep.out
   rw [List.take_length] at hr
   refine ⟨_,_,_,rfl,Hext.out.trans (Kept.below (S:=fun k=>w.heap.size≤k∧k<w.heap.size+2) (by repeat' (first | with_reducible(first|exact Qx _ _|apply Kept.drew|apply Kept.drewN|apply Qz|refine Qy ?_ ?_ _)|(intro _; simp only; omega))) (by omega) (fun j h=>h.1)),?_⟩
   refine (hr.stay (B:=w.heap.size) (Stay.of (S:=fun k=>w.heap.size≤k∧k<w.heap.size+2) (by repeat' (first | with_reducible(first|exact Qx _ _|apply Kept.drew|apply Kept.drewN|apply Qz|refine Qy ?_ ?_ _)|(intro _; simp only; omega))) (by omega) (fun j h=>Or.inr h) (fun j h=>h.1))).ext (Below.refl _ _) (fun k _ h=>Or.inl h)
theorem Tryz.infoGoal:(Tryz.prog.info? 200).map (fun i=>(i.zero,i.size,i.bytes))=some (some (.agg #[.string ⟨#[]⟩,.int .i64 0,.slice none 0 0,.int .i64 0]),4,56):=by kernel_rfl
structure RowG (X:Nat→Prop) (w:World) (B:Nat) (cv:Value) (n:Nat) (gs:List (List Sym × Nat)) (xs:List Value):Prop where
 owns:w.ownsRow B 200 4 cv n xs
 len:gs.length=n
 all:∀ (i:Nat) (g:List Sym × Nat),gs[i]?=some g→∃ a b c,xs[i * 4]?=some a∧xs[i * 4+1]?=some b∧xs[i * 4+2]?=some c∧xs[i * 4+3]?=some (.int .i64 g.2)∧Rep X w a b c g.1
theorem RowG.nil (X:Nat→Prop) (w:World) (B:Nat):RowG X w B (.slice none 0 0) 0 [] []:=⟨World.ownsRow_nil _ _ _ _,rfl,fun i l' h=>by simp at h⟩
theorem RowG.on {X Y:Nat→Prop} {w w':World} {B n:Nat} {cv:Value} {gs:List (List Sym × Nat)} {xs:List Value} (h:RowG X w B cv n gs xs) (ho:∀ k,cv.ownBlock=some k→w'.heap[k]?=w.heap[k]?) (hk:∀ k,k<w.heap.size→¬ X k→Zeo w k→w'.heap[k]?=w.heap[k]?∧¬ Y k):RowG Y w' B cv n gs xs :=
 ⟨Zak h.owns ho,h.len,fun i s hs=>by
  obtain ⟨a,b,c,x0,x1,x2,x3,g⟩:=h.all i s hs
  exact ⟨a,b,c,x0,x1,x2,x3,g.on hk⟩⟩
theorem RowG.ext {X Y:Nat→Prop} {w w':World} {B B' n:Nat} {cv:Value} {gs:List (List Sym × Nat)} {xs:List Value} (h:RowG X w B cv n gs xs) (e:Ext w w') (hy:∀ k,k<w.heap.size→Y k→X k) (hB:B'≤B):RowG Y w' B' cv n gs xs:=by
 have:=h.on (Y:=Y) (w':=w') (fun k hk=>e.block k (h.owns.lt k hk).2) (fun k hk hn _=>⟨e.block k hk,fun h=>hn (hy k hk h)⟩)
 exact ⟨Zbb this.owns hB,this.len,this.all⟩
theorem RowG.step {X:Nat→Prop} {w w':World} {B n d:Nat} {cv cv':Value} {gs:List (List Sym × Nat)} {xs:List Value} {a b c:Value} {t:List Sym} (h:RowG X w B cv n gs xs) (hr:Rep X w a b c t) (ha:Appended w B 200 4 cv (n+1) (xs++[a,b,c,.int .i64 d]) cv' w') :
  RowG X w' B cv' (n+1) (gs++[(t,d)]) (xs++[a,b,c,.int .i64 d]):=by
 have hon:∀ {a b c:Value} {l:List Sym},Rep X w a b c l→Rep X w' a b c l:=fun hr=>hr.on (fun k hk hx ht=>by
  obtain ⟨cur,hc⟩:=ht
  exact ⟨ha.kept.block k hk (Zah h.owns (by decide) hc),hx⟩)
 have hxl:=h.owns.1
 have hL:=h.len
 refine ⟨ha.owns,by simp [hL],fun i s hs => ?_⟩
 rcases Nat.lt_or_ge i gs.length with hi | hi
 ·rw [Qc hi] at hs
  obtain ⟨a',b',c',x0,x1,x2,x3,g⟩:=h.all i s hs
  refine ⟨a',b',c',?_,?_,?_,?_,hon g⟩
  ·rw [Qc (by omega)]; exact x0
  ·rw [Qc (by omega)]; exact x1
  ·rw [Qc (by omega)]; exact x2
  ·rw [Qc (by omega)]; exact x3
 ·have:=(Qa.1 hs).1
  simp at this
  have e:i=gs.length:=by omega
  subst e
  simp at hs
  subst hs
  rw [hL]
  refine ⟨a,b,c,?_,?_,?_,?_,hon hr⟩
  ·rw [Qd (by omega),hxl]; simp
  ·rw [Qd (by omega),hxl]; simp
  ·rw [Qd (by omega),hxl]; simp
  ·rw [Qd (by omega),hxl]; simp
theorem Zls {s:ByteArray} {n m:Int} {ca:Option Addr} {cl cc:Nat}:∀ u ∈ (#[Value.string s,.int .i64 n,.slice ca cl cc,.int .i64 m]:Array Value).toList,u.oneCell'=true:=Zqb
theorem Zmr (w:World) (X:Nat→Prop) (Bg Bs:Nat) (gv cv:Value) (gs:List (List Sym × Nat)) (L:List (Nat × List Sym)) (ys xs:List Value) (hG:RowG X w Bg gv gs.length gs ys) (hS:RowS X w Bs cv L.length L xs) (hX:∀ k,X k→k<w.heap.size) (hb:∀ k,∀ g ∈ gs,(ap (sgm (L.take k)) g.1).length≤4000) (hL:L.length≤4000) (hg:gs.length≤4000) :
  Calls Tryz.prog 182 #[gv,cv] w fun e w'=>∃ gv' zs,e = .returned gv'∧Ext w w'∧RowG X w' w.heap.size gv' gs.length (carr (sgm L) gs) zs:=by
 obtain ⟨sa,scap,rfl⟩:=Zad hS.owns
 obtain ⟨ga,gcap,rfl⟩:=Zad hG.owns
 have HG:=Zaa hG
 have HS:=Zaa hS
 have HX:=Zaa hX
 have Hb:=Zaa hb
 clear hG hS hX hb
 go_enter Tryz.func182,Tryz.ntmps182
 go_wp2
 go_loopg [5,6] (gs.length+1) (fun gk ov i wr=>∃ (k:Nat) (zs:List Value),i = .int .i64 k∧k≤gs.length∧gs.length - k<gk∧Ext w wr∧RowG X wr w.heap.size ov k (carr (sgm L) (gs.take k)) zs)
 case atStart=>exact ⟨0,[],by go_num,Qm _,by omega,Below.refl _ _,RowG.nil _ _ _⟩
 case round =>
  obtain ⟨k,zs,rfl,hk,hgk,hext,hrow⟩:=hrel
  obtain ⟨oa,ocap,rfl⟩:=Zad hrow.owns
  have Hext:=Zaa hext
  have Hrow:=Zaa hrow
  have hsz:=hext.size
  clear hext hrow
  by_cases hlt:k<gs.length
  ·obtain ⟨p,hp⟩:∃ p,gs[k]?=some p:=⟨_,Qb hlt⟩
   obtain ⟨t,d⟩:=p
   obtain ⟨a',b',c',x0,x1,x2,x3,hrt⟩:=HG.out.all k _ hp
   obtain ⟨s3,n3,c3a,c3l,c3c,rfl,rfl,rfl⟩:=hrt.shape
   have hrow':=HG.out.ext (Y:=X) (B':=Bg) Hext.out (fun _ _ h=>h) (Qe _)
   obtain ⟨g,cap',cur,hge,hBg,hgb,hcp⟩:=Zan hrow'.owns (by omega)
   simp only [Value.slice.injEq] at hge
   obtain ⟨rfl,_,rfl⟩:=hge
   have y0:wr.cell? ⟨g,k * 4,none⟩=some (.string s3):=Zaf hrow'.owns _ _ x0
   have y1:wr.cell? ⟨g,k * 4+1,none⟩=some (.int .i64 n3):=Zaf hrow'.owns _ _ x1
   have y2:wr.cell? ⟨g,k * 4+2,none⟩=some (.slice c3a c3l c3c):=Zaf hrow'.owns _ _ x2
   have y3:wr.cell? ⟨g,k * 4+3,none⟩=some (.int .i64 d):=Zaf hrow'.owns _ _ x3
   have HI:=Zaa (Zwa wr X Bs _ L xs _ _ _ t (hrt.ext Hext.out (fun _ _ h=>h)) (HS.out.ext Hext.out (fun _ h=>h) (Qe _)) (fun k h=>by have:=HX.out k h; omega) (fun j=>Hb.out j _ (Qh hp)) hL)
   have Hp:=Zaa hp
   have hgl:=Zac hgb
   clear hgb hrow' hrt x0 x1 x2 x3 hp
   go_wp2_with fail
   refine HI.out.mono ?_
   rintro e w1 ⟨a',b',c',rfl,hext1,hrep1⟩
   obtain ⟨s4,n4,c4a,c4l,c4c,rfl,rfl,rfl⟩:=hrep1.shape
   have z3:w1.cell? ⟨g,k * 4+3,none⟩=some (.int .i64 d):=(hext1.cell (p:=⟨g,k * 4+3,none⟩) hgl).trans y3
   have hs1:=hext1.size
   have hg1:g<w1.heap.size:=by omega
   have hrow1:=Hrow.out.ext (Y:=X) (B':=w.heap.size) (w':=(w1.alloc (.cells #[.string s4,.int .i64 n4,.slice c4a c4l c4c] 183)).drewN 1) (hext1.trans (Ext.of ((((Qx Zbf w1).alloc _).drewN 1)) |>.mono hs1)) (fun _ _ h=>h) (Qe _)
   have Hrow1:=Zaa hrow1
   have Hext1:=Zaa hext1
   have Hrep1:=Zaa hrep1
   clear hrow1 hext1 hrep1 y0 y1 y2 y3
   go_wp2_with fail
   go_region_law (refine Zch ((w1.alloc (.cells #[.string s4,.int .i64 n4,.slice c4a c4l c4c] 183)).drewN 1) rfl (.tmp 21) (.tmp 29) 150 rfl w.heap.size 200 Tryz.infoGoal Tryz.underlying150 rfl (by decide) (.slice oa k ocap) k zs rfl Hrow1.out.owns #[.string s4,.int .i64 n4,.slice c4a c4l c4c,.int .i64 d] rfl (by simp) rfl Zls (by omega) (by simp; omega) rfl ?_; intro v' w2 hap; obtain ⟨v1a,v1cap,rfl⟩:=Zad hap.owns; have Hap:=Zaa hap; clear hap)
   all_goals
    have htk:carr (sgm L) (gs.take (k+1))=carr (sgm L) (gs.take k)++[(ap (sgm L) t,d)]:=by
     rw [List.take_add_one,Hp.out]; simp [carr]
    have Htk:=Zaa htk
    clear htk z3
    go_wp2
    go_roundg (gs.length - k)
    case measure=>omega
    case rel =>
     have hr1:=Hrep1.out.ext (Y:=X) (w':=(w1.alloc (.cells #[.string s4,.int .i64 n4,.slice c4a c4l c4c] 183)).drewN 1) (Ext.of ((((Qx Zbf w1).alloc _).drewN 1))) (fun _ _ h=>h)
     have:=Hrow1.out.step hr1 Hap.out
     rw [← Htk.out] at this
     refine ⟨k+1,_,by go_num,by omega,by omega,?_,this⟩
     have h1:Below w.heap.size w w1:=Hext.out.trans (Hext1.out.mono hsz)
     have h2:Below w.heap.size w1 ((w1.alloc (.cells #[.string s4,.int .i64 n4,.slice c4a c4l c4c] 183)).drewN 1):=(Ext.of ((((Qx Zbf w1).alloc _).drewN 1))).mono (by omega)
     exact (h1.trans h2).trans (Hap.out.kept.below (by show w.heap.size≤(w1.alloc _).heap.size; simp; omega) (fun j e=>(Hrow1.out.owns.lt j e).1))
  ·have hek:k=gs.length:=by omega
   subst hek
   go_wp2
   go_ret
   have hr:=Hrow.out
   rw [List.take_length] at hr
   exact ⟨_,zs,rfl,Hext.out,hr⟩
structure RepN (X:Nat→Prop) (w:World) (gv vv dv uv:Value) (n:ND):Prop where
 goals:∃ xs,RowG X w 0 gv n.goals.length n.goals xs
 vals:∃ xs,RowT X w vv n.vals xs
 done:∃ xs,RowG X w 0 dv n.done.length n.done xs
 used:w.ownsRow 0 3 1 uv n.used.length (ints n.used)
theorem RepN.ext {X Y:Nat→Prop} {w w':World} {gv vv dv uv:Value} {n:ND} (h:RepN X w gv vv dv uv n) (e:Ext w w') (hy:∀ k,k<w.heap.size→Y k→X k):RepN Y w' gv vv dv uv n:=by
 obtain ⟨xs,h1⟩:=h.goals
 obtain ⟨ys,h2⟩:=h.vals
 obtain ⟨zs,h3⟩:=h.done
 exact ⟨⟨xs,h1.ext e hy (Qe _)⟩,⟨ys,h2.ext e hy⟩,⟨zs,h3.ext e hy (Qe _)⟩,Zak h.used (fun k hk=>e.block k (h.used.lt k hk).2)⟩
theorem box5 {w:World} {b:Nat} {u0 u1 u2 u3 u4:Value} {t:TypeId} (h:w.heap[b]?=some (.cells #[u0,u1,u2,u3,u4] t (0,0))) :
  w.cell? ⟨b,0,none⟩=some u0∧w.cell? ⟨b,1,none⟩=some u1∧w.cell? ⟨b,2,none⟩=some u2∧w.cell? ⟨b,3,none⟩=some u3∧w.cell? ⟨b,4,none⟩=some u4∧∀ i,w.frozen? ⟨b,i,none⟩=false :=
 ⟨Zab h 0 _ rfl,Zab h 1 _ rfl,Zab h 2 _ rfl,Zab h 3 _ rfl,Zab h 4 _ rfl,fun i=>Zae h i⟩
theorem Zlt {α:Type} {l:List α} {k:Nat} {x:α} {p:α→Bool} (h:l[k]?=some x):(l.take (k+1)).any p=((l.take k).any p || p x):=by
 rw [List.take_add_one,h]; simp
theorem Yef (w:World) (X:Nat→Prop) (gv vv dv uv:Value) (n:ND) (h:RepN X w gv vv dv uv n) (hg:n.goals.length≤4000) (hd:n.done.length≤4000) (hu:n.used.length≤4000) (hs:∀ g ∈ n.goals,g.1.length≤4000) (hs2:∀ g ∈ n.done,g.1.length≤4000) :
  Calls Tryz.prog 184 #[.agg #[gv,vv,dv,uv,.int .i64 n.vars]] w fun e w'=>e = .returned (.int .i64 (Zcw n))∧Ext w w':=by
 obtain ⟨xs,h1⟩:=h.goals
 obtain ⟨ys,h2⟩:=h.vals
 obtain ⟨zs,h3⟩:=h.done
 have h4:=h.used
 obtain ⟨ga,gcap,rfl⟩:=Zad h1.owns
 obtain ⟨va,vcap,rfl⟩:=Zad h2.1
 obtain ⟨da,dcap,rfl⟩:=Zad h3.owns
 obtain ⟨ua,ucap,rfl⟩:=Zad h4
 have H1:=Zaa h1
 have H3:=Zaa h3
 have Hs:=Zaa hs
 have Hs2:=Zaa hs2
 obtain ⟨q0,hq0⟩:∃ q:Bool,q=(decide (40<n.goals.length) || decide (100<n.used.length)):=⟨_,rfl⟩
 have Hq0:=Zaa hq0
 clear h h1 h2 h3 h4 hs hs2
 clear hq0
 by_cases c1:40<n.goals.length
 ·have c1':(40:Int)<n.goals.length:=by omega
  go_enter Tryz.func184,Tryz.ntmps184
  go_wp2
  go_loopg [3,4] (n.goals.length+1) (fun gk ov i wr=>∃ (k:Nat) (o:Bool),i = .int .i64 k∧ov = .bool o∧k≤n.goals.length∧n.goals.length - k<gk∧Ext w wr∧o=(q0 || (n.goals.take k).any bigG) ∧
    wr.heap[w.heap.size]?=some (.cells #[.slice ga n.goals.length gcap,.slice va n.vals.length vcap,.slice da n.done.length dcap,.slice ua n.used.length ucap,.int .i64 n.vars] 152 (0,0)))
  case atStart=>exact ⟨0,q0,by go_num,(by rw [Hq0.out]; simp [c1] <;> omega),Qm _,by omega,(Ext.of (by repeat' (first | with_reducible(first|exact Qx _ _|apply Kept.drew|apply Kept.drewN|apply Qz|refine Qy ?_ ?_ _)|exact fun h=>absurd h (by simp <;> omega)))),by simp,heap_alloc_new w _⟩
  case round =>
   obtain ⟨k,o,rfl,rfl,hk,hgk,hext,ho,hb⟩:=hrel
   obtain ⟨b0,b1,b2,b3,b4,bf⟩:=box5 hb
   have Hext:=Zaa hext
   have Hb:=Zaa hb
   have Ho:=Zaa ho
   have hsz:=Zac hb
   clear hext hb ho
   by_cases hlt:k<n.goals.length
   ·obtain ⟨p,hp⟩:∃ p,n.goals[k]?=some p:=⟨_,Qb hlt⟩
    obtain ⟨t,d⟩:=p
    obtain ⟨a',b',c',x0,x1,x2,x3,hrt⟩:=H1.out.all k _ hp
    obtain ⟨s3,n3,c3a,c3l,c3c,rfl,rfl,rfl⟩:=hrt.shape
    have hrow':=H1.out.ext (Y:=X) (B':=0) Hext.out (fun _ _ h=>h) (Qe _)
    obtain ⟨g,cap',cur,hge,hBg,hgb,hcp⟩:=Zan hrow'.owns (by omega)
    simp only [Value.slice.injEq] at hge
    obtain ⟨rfl,_,rfl⟩:=hge
    have y0:wr.cell? ⟨g,k * 4,none⟩=some (.string s3):=Zaf hrow'.owns _ _ x0
    have y1:wr.cell? ⟨g,k * 4+1,none⟩=some (.int .i64 n3):=Zaf hrow'.owns _ _ x1
    have y2:wr.cell? ⟨g,k * 4+2,none⟩=some (.slice c3a c3l c3c):=Zaf hrow'.owns _ _ x2
    have ht4:t.length≤4000:=Hs.out _ (Qh hp)
    have HI:=Zaa (Zgd t.length wr X _ _ _ t (Qe _) ht4 (hrt.ext Hext.out (fun _ _ h=>h)))
    have Hn:Hid ((n.goals.take (k+1)).any bigG=((n.goals.take k).any bigG || decide (30<t.length))):=Zlt hp
    clear hgb hrow' hrt x0 x1 x2 x3 hp
    go_wp2_with fail
    refine HI.out.mono ?_
    rintro e w1 ⟨rfl,hext1⟩
    have Hext1:=Zaa hext1
    clear hext1 y0 y1 y2
    cases o
    ·go_wp2
     go_roundg (n.goals.length - k)
     case measure=>omega
     case rel =>
      refine ⟨k+1,decide (30<t.length),by go_num,(by simp <;> omega),by omega,by omega,Hext.out.trans (Hext1.out.mono Hext.out.size),?_,(Hext1.out.block _ hsz).trans Hb.out⟩
      have:=Ho.out
      rw [Hn.out,← Bool.or_assoc,← this]; simp
    ·go_wp2
     go_roundg (n.goals.length - k)
     case measure=>omega
     case rel =>
      refine ⟨k+1,true,by go_num,rfl,by omega,by omega,Hext.out.trans (Hext1.out.mono Hext.out.size),?_,(Hext1.out.block _ hsz).trans Hb.out⟩
      have:=Ho.out
      rw [Hn.out,← Bool.or_assoc,← this]; simp
   ·have hek:k=n.goals.length:=by omega
    subst hek
    have Ho':Hid (o=(q0 || n.goals.any bigG)):=by have:=Ho.out; rw [List.take_length] at this; exact this
    clear Ho
    go_wp2
    have Hext2:=Zaa Hext.out
    have Hb2:=Zaa Hb.out
    have Ho2:=Zaa Ho'.out
    obtain ⟨o2,ho2⟩:∃ o2:Bool,o2=o:=⟨_,rfl⟩
    subst ho2
    clear Ho' Hext Hb b0 b1 b2 b3 b4 bf
    go_loopg [3,6] (n.done.length+1) (fun gk ov i wr=>∃ (k:Nat) (o:Bool),i = .int .i64 k∧ov = .bool o∧k≤n.done.length∧n.done.length - k<gk∧Ext w wr∧o=(o2 || (n.done.take k).any bigG) ∧
      wr.heap[w.heap.size]?=some (.cells #[.slice ga n.goals.length gcap,.slice va n.vals.length vcap,.slice da n.done.length dcap,.slice ua n.used.length ucap,.int .i64 n.vars] 152 (0,0)))
    case atStart=>exact ⟨0,o2,by go_num,rfl,Qm _,by omega,Hext2.out,by simp,Hb2.out⟩
    case round =>
     obtain ⟨k,o,rfl,rfl,hk,hgk,hext,ho,hb⟩:=hrel
     obtain ⟨b0,b1,b2,b3,b4,bf⟩:=box5 hb
     have Hext:=Zaa hext
     have Hb:=Zaa hb
     have Ho:=Zaa ho
     have hsz:=Zac hb
     clear hext hb ho
     by_cases hlt:k<n.done.length
     ·obtain ⟨p,hp⟩:∃ p,n.done[k]?=some p:=⟨_,Qb hlt⟩
      obtain ⟨t,d⟩:=p
      obtain ⟨a',b',c',x0,x1,x2,x3,hrt⟩:=H3.out.all k _ hp
      obtain ⟨s3,n3,c3a,c3l,c3c,rfl,rfl,rfl⟩:=hrt.shape
      have hrow':=H3.out.ext (Y:=X) (B':=0) Hext.out (fun _ _ h=>h) (Qe _)
      obtain ⟨g,cap',cur,hge,hBg,hgb,hcp⟩:=Zan hrow'.owns (by omega)
      simp only [Value.slice.injEq] at hge
      obtain ⟨rfl,_,rfl⟩:=hge
      have y0:wr.cell? ⟨g,k * 4,none⟩=some (.string s3):=Zaf hrow'.owns _ _ x0
      have y1:wr.cell? ⟨g,k * 4+1,none⟩=some (.int .i64 n3):=Zaf hrow'.owns _ _ x1
      have y2:wr.cell? ⟨g,k * 4+2,none⟩=some (.slice c3a c3l c3c):=Zaf hrow'.owns _ _ x2
      have ht4:t.length≤4000:=Hs2.out _ (Qh hp)
      have HI:=Zaa (Zgd t.length wr X _ _ _ t (Qe _) ht4 (hrt.ext Hext.out (fun _ _ h=>h)))
      have Hn:Hid ((n.done.take (k+1)).any bigG=((n.done.take k).any bigG || decide (30<t.length))):=Zlt hp
      clear hgb hrow' hrt x0 x1 x2 x3 hp
      go_wp2_with fail
      refine HI.out.mono ?_
      rintro e w1 ⟨rfl,hext1⟩
      have Hext1:=Zaa hext1
      clear hext1 y0 y1 y2
      cases o
      ·go_wp2
       go_roundg (n.done.length - k)
       case measure=>omega
       case rel =>
        refine ⟨k+1,decide (30<t.length),by go_num,(by simp <;> omega),by omega,by omega,Hext.out.trans (Hext1.out.mono Hext.out.size),?_,(Hext1.out.block _ hsz).trans Hb.out⟩
        have:=Ho.out
        rw [Hn.out,← Bool.or_assoc,← this]; simp
      ·go_wp2
       go_roundg (n.done.length - k)
       case measure=>omega
       case rel =>
        refine ⟨k+1,true,by go_num,rfl,by omega,by omega,Hext.out.trans (Hext1.out.mono Hext.out.size),?_,(Hext1.out.block _ hsz).trans Hb.out⟩
        have:=Ho.out
        rw [Hn.out,← Bool.or_assoc,← this]; simp
     ·have hek:k=n.done.length:=by omega
      subst hek
      have Ho':Hid (o=(o2 || n.done.any bigG)):=by have:=Ho.out; rw [List.take_length] at this; exact this
      clear Ho
      cases o
      ·by_cases hg0:n.goals=[]
       ·have hg1:((n.goals.length:Int) == 0)=true:=by rw [hg0]; rfl
        have Hg0:=Zaa hg0
        clear hg0
        go_wp2
        go_ret
        refine ⟨?_,Hext.out⟩
        have hk:Zcw n=2:=by unfold Zcw Ziz; rw [← Hq0.out,← Ho2.out,← Ho'.out,if_neg (by simp),if_pos Hg0.out]
        rw [hk]; rfl
       ·have hg1:((n.goals.length:Int) == 0)=false:=by
         rw [Qu]
         cases hgg:n.goals with
         | nil=>exact absurd hgg hg0
         | cons _ _=>simp; omega
        have Hg0:=Zaa hg0
        clear hg0
        go_wp2
        go_ret
        refine ⟨?_,Hext.out⟩
        have hk:Zcw n=1:=by unfold Zcw Ziz; rw [← Hq0.out,← Ho2.out,← Ho'.out,if_neg (by simp),if_neg Hg0.out]
        rw [hk]; rfl
      ·go_wp2
       go_ret
       refine ⟨?_,Hext.out⟩
       have hk:Zcw n=3:=by unfold Zcw Ziz; rw [← Hq0.out,← Ho2.out,← Ho'.out]; rfl
       rw [hk]; rfl
 ·have c1':¬ (40:Int)<n.goals.length:=by omega
  go_enter Tryz.func184,Tryz.ntmps184
  go_wp2
  go_loopg [3,4] (n.goals.length+1) (fun gk ov i wr=>∃ (k:Nat) (o:Bool),i = .int .i64 k∧ov = .bool o∧k≤n.goals.length∧n.goals.length - k<gk∧Ext w wr∧o=(q0 || (n.goals.take k).any bigG) ∧
    wr.heap[w.heap.size]?=some (.cells #[.slice ga n.goals.length gcap,.slice va n.vals.length vcap,.slice da n.done.length dcap,.slice ua n.used.length ucap,.int .i64 n.vars] 152 (0,0)))
  case atStart=>exact ⟨0,q0,by go_num,(by rw [Hq0.out]; simp [c1] <;> omega),Qm _,by omega,(Ext.of (by repeat' (first | with_reducible(first|exact Qx _ _|apply Kept.drew|apply Kept.drewN|apply Qz|refine Qy ?_ ?_ _)|exact fun h=>absurd h (by simp <;> omega)))),by simp,heap_alloc_new w _⟩
  case round =>
   obtain ⟨k,o,rfl,rfl,hk,hgk,hext,ho,hb⟩:=hrel
   obtain ⟨b0,b1,b2,b3,b4,bf⟩:=box5 hb
   have Hext:=Zaa hext
   have Hb:=Zaa hb
   have Ho:=Zaa ho
   have hsz:=Zac hb
   clear hext hb ho
   by_cases hlt:k<n.goals.length
   ·obtain ⟨p,hp⟩:∃ p,n.goals[k]?=some p:=⟨_,Qb hlt⟩
    obtain ⟨t,d⟩:=p
    obtain ⟨a',b',c',x0,x1,x2,x3,hrt⟩:=H1.out.all k _ hp
    obtain ⟨s3,n3,c3a,c3l,c3c,rfl,rfl,rfl⟩:=hrt.shape
    have hrow':=H1.out.ext (Y:=X) (B':=0) Hext.out (fun _ _ h=>h) (Qe _)
    obtain ⟨g,cap',cur,hge,hBg,hgb,hcp⟩:=Zan hrow'.owns (by omega)
    simp only [Value.slice.injEq] at hge
    obtain ⟨rfl,_,rfl⟩:=hge
    have y0:wr.cell? ⟨g,k * 4,none⟩=some (.string s3):=Zaf hrow'.owns _ _ x0
    have y1:wr.cell? ⟨g,k * 4+1,none⟩=some (.int .i64 n3):=Zaf hrow'.owns _ _ x1
    have y2:wr.cell? ⟨g,k * 4+2,none⟩=some (.slice c3a c3l c3c):=Zaf hrow'.owns _ _ x2
    have ht4:t.length≤4000:=Hs.out _ (Qh hp)
    have HI:=Zaa (Zgd t.length wr X _ _ _ t (Qe _) ht4 (hrt.ext Hext.out (fun _ _ h=>h)))
    have Hn:Hid ((n.goals.take (k+1)).any bigG=((n.goals.take k).any bigG || decide (30<t.length))):=Zlt hp
    clear hgb hrow' hrt x0 x1 x2 x3 hp
    go_wp2_with fail
    refine HI.out.mono ?_
    rintro e w1 ⟨rfl,hext1⟩
    have Hext1:=Zaa hext1
    clear hext1 y0 y1 y2
    cases o
    ·go_wp2
     go_roundg (n.goals.length - k)
     case measure=>omega
     case rel =>
      refine ⟨k+1,decide (30<t.length),by go_num,(by simp <;> omega),by omega,by omega,Hext.out.trans (Hext1.out.mono Hext.out.size),?_,(Hext1.out.block _ hsz).trans Hb.out⟩
      have:=Ho.out
      rw [Hn.out,← Bool.or_assoc,← this]; simp
    ·go_wp2
     go_roundg (n.goals.length - k)
     case measure=>omega
     case rel =>
      refine ⟨k+1,true,by go_num,rfl,by omega,by omega,Hext.out.trans (Hext1.out.mono Hext.out.size),?_,(Hext1.out.block _ hsz).trans Hb.out⟩
      have:=Ho.out
      rw [Hn.out,← Bool.or_assoc,← this]; simp
   ·have hek:k=n.goals.length:=by omega
    subst hek
    have Ho':Hid (o=(q0 || n.goals.any bigG)):=by have:=Ho.out; rw [List.take_length] at this; exact this
    clear Ho
    go_wp2
    have Hext2:=Zaa Hext.out
    have Hb2:=Zaa Hb.out
    have Ho2:=Zaa Ho'.out
    obtain ⟨o2,ho2⟩:∃ o2:Bool,o2=o:=⟨_,rfl⟩
    subst ho2
    clear Ho' Hext Hb b0 b1 b2 b3 b4 bf
    go_loopg [3,6] (n.done.length+1) (fun gk ov i wr=>∃ (k:Nat) (o:Bool),i = .int .i64 k∧ov = .bool o∧k≤n.done.length∧n.done.length - k<gk∧Ext w wr∧o=(o2 || (n.done.take k).any bigG) ∧
      wr.heap[w.heap.size]?=some (.cells #[.slice ga n.goals.length gcap,.slice va n.vals.length vcap,.slice da n.done.length dcap,.slice ua n.used.length ucap,.int .i64 n.vars] 152 (0,0)))
    case atStart=>exact ⟨0,o2,by go_num,rfl,Qm _,by omega,Hext2.out,by simp,Hb2.out⟩
    case round =>
     obtain ⟨k,o,rfl,rfl,hk,hgk,hext,ho,hb⟩:=hrel
     obtain ⟨b0,b1,b2,b3,b4,bf⟩:=box5 hb
     have Hext:=Zaa hext
     have Hb:=Zaa hb
     have Ho:=Zaa ho
     have hsz:=Zac hb
     clear hext hb ho
     by_cases hlt:k<n.done.length
     ·obtain ⟨p,hp⟩:∃ p,n.done[k]?=some p:=⟨_,Qb hlt⟩
      obtain ⟨t,d⟩:=p
      obtain ⟨a',b',c',x0,x1,x2,x3,hrt⟩:=H3.out.all k _ hp
      obtain ⟨s3,n3,c3a,c3l,c3c,rfl,rfl,rfl⟩:=hrt.shape
      have hrow':=H3.out.ext (Y:=X) (B':=0) Hext.out (fun _ _ h=>h) (Qe _)
      obtain ⟨g,cap',cur,hge,hBg,hgb,hcp⟩:=Zan hrow'.owns (by omega)
      simp only [Value.slice.injEq] at hge
      obtain ⟨rfl,_,rfl⟩:=hge
      have y0:wr.cell? ⟨g,k * 4,none⟩=some (.string s3):=Zaf hrow'.owns _ _ x0
      have y1:wr.cell? ⟨g,k * 4+1,none⟩=some (.int .i64 n3):=Zaf hrow'.owns _ _ x1
      have y2:wr.cell? ⟨g,k * 4+2,none⟩=some (.slice c3a c3l c3c):=Zaf hrow'.owns _ _ x2
      have ht4:t.length≤4000:=Hs2.out _ (Qh hp)
      have HI:=Zaa (Zgd t.length wr X _ _ _ t (Qe _) ht4 (hrt.ext Hext.out (fun _ _ h=>h)))
      have Hn:Hid ((n.done.take (k+1)).any bigG=((n.done.take k).any bigG || decide (30<t.length))):=Zlt hp
      clear hgb hrow' hrt x0 x1 x2 x3 hp
      go_wp2_with fail
      refine HI.out.mono ?_
      rintro e w1 ⟨rfl,hext1⟩
      have Hext1:=Zaa hext1
      clear hext1 y0 y1 y2
      cases o
      ·go_wp2
       go_roundg (n.done.length - k)
       case measure=>omega
       case rel =>
        refine ⟨k+1,decide (30<t.length),by go_num,(by simp <;> omega),by omega,by omega,Hext.out.trans (Hext1.out.mono Hext.out.size),?_,(Hext1.out.block _ hsz).trans Hb.out⟩
        have:=Ho.out
        rw [Hn.out,← Bool.or_assoc,← this]; simp
      ·go_wp2
       go_roundg (n.done.length - k)
       case measure=>omega
       case rel =>
        refine ⟨k+1,true,by go_num,rfl,by omega,by omega,Hext.out.trans (Hext1.out.mono Hext.out.size),?_,(Hext1.out.block _ hsz).trans Hb.out⟩
        have:=Ho.out
        rw [Hn.out,← Bool.or_assoc,← this]; simp
     ·have hek:k=n.done.length:=by omega
      subst hek
      have Ho':Hid (o=(o2 || n.done.any bigG)):=by have:=Ho.out; rw [List.take_length] at this; exact this
      clear Ho
      cases o
      ·by_cases hg0:n.goals=[]
       ·have hg1:((n.goals.length:Int) == 0)=true:=by rw [hg0]; rfl
        have Hg0:=Zaa hg0
        clear hg0
        go_wp2
        go_ret
        refine ⟨?_,Hext.out⟩
        have hk:Zcw n=2:=by unfold Zcw Ziz; rw [← Hq0.out,← Ho2.out,← Ho'.out,if_neg (by simp),if_pos Hg0.out]
        rw [hk]; rfl
       ·have hg1:((n.goals.length:Int) == 0)=false:=by
         rw [Qu]
         cases hgg:n.goals with
         | nil=>exact absurd hgg hg0
         | cons _ _=>simp; omega
        have Hg0:=Zaa hg0
        clear hg0
        go_wp2
        go_ret
        refine ⟨?_,Hext.out⟩
        have hk:Zcw n=1:=by unfold Zcw Ziz; rw [← Hq0.out,← Ho2.out,← Ho'.out,if_neg (by simp),if_neg Hg0.out]
        rw [hk]; rfl
      ·go_wp2
       go_ret
       refine ⟨?_,Hext.out⟩
       have hk:Zcw n=3:=by unfold Zcw Ziz; rw [← Hq0.out,← Ho2.out,← Ho'.out]; rfl
       rw [hk]; rfl
end Go.Proofs.YtlmjilpjmgjjcaaGreatDoor
