/-
  PROVED HERE: plain facts on the program's cells that lie in memory; what its 'leaderOf', 'isVariable' and 'isSameVariable' tell (the conditions stand in each statement).
-/
import Derived.Test.YtlmjilpjmgjjcabDoorT3
import Derived.Deep.RegionWith
import Derived.Deep.QuietTactic
import Derived.BigQuiet
set_option linter.unusedSimpArgs false
set_option linter.unusedVariables false
set_option maxRecDepth 10000
set_option maxHeartbeats 4000000
namespace Go.Proofs.YtlmjilpjmgjjcabDoor
open Go.RowKit
def TokAt (w:World) (b:Nat) (t:Nat × Nat × Nat):Prop:=w.heap[b]?=some (.cells #[.int .i64 t.1,.int .i64 t.2.1,.int .i64 t.2.2] 109 (0,0))
def FaultAt (w:World) (b:Nat) (e p:Nat):Prop:=w.heap[b]?=some (.cells #[.int .i64 e,.int .i64 p] 69 (0,0))
theorem TokAt.cells {w:World} {b:Nat} {t:Nat × Nat × Nat} (h:TokAt w b t):b<w.heap.size∧w.cell? ⟨b,0,none⟩=some (.int .i64 t.1)∧w.cell? ⟨b,1,none⟩=some (.int .i64 t.2.1)∧w.cell? ⟨b,2,none⟩=some (.int .i64 t.2.2)∧∀ i,w.frozen? ⟨b,i,none⟩=false :=
 ⟨Zab h,Zaa h 0 _ rfl,Zaa h 1 _ rfl,Zaa h 2 _ rfl,fun i=>Zae h i⟩
theorem FaultAt.cells {w:World} {b e p:Nat} (h:FaultAt w b e p):b<w.heap.size∧w.cell? ⟨b,0,none⟩=some (.int .i64 e)∧w.cell? ⟨b,1,none⟩=some (.int .i64 p)∧∀ i,w.frozen? ⟨b,i,none⟩=false :=
 ⟨Zab h,Zaa h 0 _ rfl,Zaa h 1 _ rfl,fun i=>Zae h i⟩
theorem TokAt.held {w w':World} {B b:Nat} {t:Nat × Nat × Nat} (h:TokAt w b t) (hk:Held B w w'):TokAt w' b t:=(hk.other b _ _ _ h (Or.inl rfl)).trans h
theorem FaultAt.held {w w':World} {B b e p:Nat} (h:FaultAt w b e p) (hk:Held B w w'):FaultAt w' b e p:=(hk.other b _ _ _ h (Or.inr rfl)).trans h
theorem TokAt.kept {S:Nat→Prop} {w w':World} {b:Nat} {t:Nat × Nat × Nat} (h:TokAt w b t) (hk:Kept S w w') (hs:¬ S b):TokAt w' b t:=(hk.block b (Zab h) hs).trans h
theorem FaultAt.kept {S:Nat→Prop} {w w':World} {b e p:Nat} (h:FaultAt w b e p) (hk:Kept S w w') (hs:¬ S b):FaultAt w' b e p:=(hk.block b (Zab h) hs).trans h
theorem Kept.untouched {w w':World} (h:Below w.heap.size w w'):Kept Zch w w':=⟨h.os,h.tape,h.output,h.size,fun k hk _=>h.block k hk⟩
theorem IsRx.fresh {w w':World} {B rb:Nat} {st:RS} (h:IsRx w B rb st) (hk:Kept Zch w w'):IsRx w' B rb st:=by
 obtain ⟨V,Sa,Sb,vs,xs,h⟩:=h
 exact ⟨V,Sa,Sb,vs,xs,h.fresh hk⟩
theorem IsRx.aside {w w':World} {B rb k:Nat} {st:RS} {cs:Array Value} {T:TypeId} {fr:Nat × Nat} (h:IsRx w B rb st) (hb:w.heap[k]?=some (.cells cs T fr)) (hT:T=109∨T=69) (hk:Kept (only k) w w'):IsRx w' B rb st:=by
 obtain ⟨V,Sa,Sb,vs,xs,h⟩:=h
 have hr:rb≠k:=fun e=>by
  have e1:=h.blk
  rw [e,hb] at e1
  simp only [Qo,Obj.cells.injEq] at e1
  rcases hT with h1 | h1 <;> exact absurd (e1.2.1.symm.trans h1) (by decide)
 have hX:∀ {Br:Nat} {e:TypeId} {s n:Nat} {v:Value} {ys:List Value},w.ownsRow Br e s v n ys→e≠109→e≠69→w'.ownsRow Br e s v n ys:=fun ho h1 h2 =>
  hk.owns ho (fun i hi e=>by
   have e:i=k:=e
   subst e
   rcases hT with rfl | rfl
   ·exact Zaf ho h1 hb hi
   ·exact Zaf ho h2 hb hi)
 have hS:∀ {v:Value} {l:List Sym},SymRow w B Sa v l→SymRow w' B Sa v l:=fun hs=>⟨hX hs.1 (by decide) (by decide),hs.2⟩
 have hBd:∀ {v:Value} {ls:List (List Sym)} {us:List Value},BodyRow w B Sa v ls us→BodyRow w' B Sa v ls us:=fun hs=>⟨hX hs.1 (by decide) (by decide),fun i l hl=>by
  obtain ⟨x,h1,h2⟩:=hs.2 i l hl
  exact ⟨x,h1,hS h2⟩⟩
 have r:=h.rest
 exact ⟨V,Sa,Sb,vs,xs,(hk.block rb (Zab h.blk) hr).trans h.blk,⟨hX r.atom (by decide) (by decide),hX r.opn (by decide) (by decide),hX r.vars (by decide) (by decide),hS r.head,hBd r.body,
  ⟨hX r.cls.1 (by decide) (by decide),r.cls.2.1,r.cls.2.2.1,fun i c hc=>by
   obtain ⟨hv,bv,vv,us,e1,e2,e3,e4⟩:=r.cls.2.2.2 i c hc
   exact ⟨hv,bv,vv,us,e1,hS e2,hBd e3,e4.1,hX e4.2.1 (by decide) (by decide),e4.2.2⟩⟩,r.ta,r.tb,r.tv,Qq r.la hk.size,Qq r.lb hk.size⟩,h.le⟩
theorem IsRx.le {w:World} {B rb:Nat} {st:RS} (h:IsRx w B rb st):B≤w.heap.size:=by
 obtain ⟨V,Sa,Sb,vs,xs,h⟩:=h
 have:=h.le
 have:=Zab h.blk
 omega
theorem IsRx.look {w:World} {B rb:Nat} {st:RS} (h:IsRx w B rb st):∃ V,ROpen w B rb st V:=by
 obtain ⟨V,Sa,Sb,vs,xs,h⟩:=h
 exact ⟨V,h.opens⟩
theorem Zgg {w wr:World} {B rb b e0 p0:Nat} {st:RS} (hr:IsRx wr B rb st) (hf:FaultAt wr b e0 p0) (hB:B≤b) (hbw:Below B w wr) (x y:Value) :
  IsRx ((wr.setCell ⟨b,0,none⟩ x).setCell ⟨b,1,none⟩ y) B rb st∧Below B w ((wr.setCell ⟨b,0,none⟩ x).setCell ⟨b,1,none⟩ y) :=
 ⟨hr.aside hf (Or.inr rfl) (((Qx (only b) wr).put 0 x).put 1 y),(hbw.setCell (p:=⟨b,0,none⟩) hB x).setCell (p:=⟨b,1,none⟩) hB y⟩
theorem Zha (w:World) (B rb:Nat) (st:RS) (s:ByteArray) (h:IsRx w B rb st) (hi:RI 0 st) (hs:s.size≤4000) :
  Calls Tryd.prog 44 #[.pointer (some ⟨rb,0,none⟩),.string s] w fun e w' =>
   e = .returned (.agg #[.int .i64 (runT s.size (toks s.data.toList 0) st).1,.int .i64 (runT s.size (toks s.data.toList 0) st).2.1])∧IsRx w' B rb (runT s.size (toks s.data.toList 0) st).2.2∧Below B w w':=by
 obtain ⟨R,hR⟩:∃ R,R=runT s.size (toks s.data.toList 0) st:=⟨_,rfl⟩
 rw [← hR]
 have hBw:=h.le
 have HR:=Zac hR
 have H:=Zac h
 have Hi:=Zac hi
 clear h hi hR
 go_enter Tryd.func44,Tryd.ntmps44
 go_wp2_with fail
 refine (Zqj s 0 _ (by omega) (Qm _)).mono ?_
 rintro e w1 ⟨rfl,hb1⟩
 have hF0:FaultAt (w.alloc (.cells #[.int .i64 0,.int .i64 0] 69)) w.heap.size 0 0:=heap_alloc_new w _
 have hk1:Kept Zch w w1:=((Qx _ w).alloc _).trans (Kept.untouched hb1)
 have HF1:=Zac (hF0.kept (Kept.untouched hb1) (fun h=>h))
 have H1:=Zac (H.out.fresh hk1)
 have HB1:=Zac (hk1.below hBw (fun _ h=>h.elim))
 have hlt:w.heap.size<w1.heap.size:=Zab HF1.out
 clear hF0 hk1 hb1
 go_wp2
 go_loopg [] (s.size+1) (fun gk wr=>∃ (n:Nat) (st':RS),n≤s.size∧s.size - n<gk∧TokAt wr w1.heap.size (Zjn s n)∧FaultAt wr w.heap.size 0 0∧IsRx wr B rb st'∧RI n st'∧runT s.size (toks (s.data.toList.drop n) n) st'=R∧Below B w wr)
 case atStart =>
  refine ⟨0,st,Qm _,by omega,heap_alloc_new w1 _,HF1.out.kept ((Qx Zch w1).alloc _) (fun h=>h),H1.out.fresh ((Qx _ w1).alloc _),Hi.out,?_,HB1.out.alloc (Qq hBw HB1.out.size) _⟩
  rw [HR.out]; rfl
 case round =>
  obtain ⟨n,st',hn,hgk,htok,hflt,hr,hri,hrun,hbw⟩:=hrel
  obtain ⟨hrb,c0,c1,c2,_,cf⟩:=hr.cells
  obtain ⟨hT4,f0,f1,ff⟩:=hflt.cells
  have hn5:=hri.next
  have h45:¬ w.heap.size=w1.heap.size:=by omega
  have hr4:¬ rb=w.heap.size:=fun e=>by
   obtain ⟨V,Sa,Sb,vs,xs,h⟩:=hr
   have e1:=h.blk
   rw [e,hflt] at e1
   simp at e1
  rcases Zva s n hn with ⟨hnx,htk⟩ | ⟨t,q,hnx,htk,hkd,hnp,hpq,hqs,htx,htl⟩
  ·rw [hnx] at htok
   rw [htk,runT] at hrun
   obtain ⟨hT5,t0,t1,t2,tf⟩:=htok.cells
   simp only at t0 t1 t2
   have Hr:=Zac hr
   have Hflt:=Zac hflt
   have Hbw:=Zac hbw
   clear htok hflt hr hri htk hnx hbw
   by_cases h0:st'.next=0
   ·rw [if_neg (by omega)] at hrun
    rw [h0] at c1
    have Hrun:=Zac hrun
    clear hrun h0
    go_wp2
    refine bodyPost_ret (v := .agg #[.int .i64 0,.int .i64 0]) (by simp [results,Tryd.results44,go_sem,f0,f1,ff,hT4]) rfl ?_
    rw [← Hrun.out]
    exact ⟨rfl,Zgg Hr.out Hflt.out (by omega) Hbw.out _ _⟩
   ·by_cases h5:st'.next=5
    ·rw [if_neg (by omega)] at hrun
     rw [h5] at c1
     have Hrun:=Zac hrun
     clear hrun h0 h5
     go_wp2
     refine bodyPost_ret (v := .agg #[.int .i64 0,.int .i64 0]) (by simp [results,Tryd.results44,go_sem,f0,f1,ff,hT4]) rfl ?_
     rw [← Hrun.out]
     exact ⟨rfl,Zgg Hr.out Hflt.out (by omega) Hbw.out _ _⟩
    ·rw [if_pos ⟨h0,h5⟩] at hrun
     have b0:((st'.next:Int) != 0)=true:=by rw [bne_iff_ne]; omega
     have b5:((st'.next:Int) != 5)=true:=by rw [bne_iff_ne]; omega
     have Hrun:=Zac hrun
     clear hrun h0 h5
     go_wp2
     refine bodyPost_ret (v := .agg #[.int .i64 2,.int .i64 s.size]) (by simp [results,Tryd.results44,go_sem,f0,f1,ff,hT4]) rfl ?_
     rw [← Hrun.out]
     exact ⟨rfl,Zgg Hr.out Hflt.out (by omega) Hbw.out _ _⟩
  ·rw [hnx] at htok
   rw [htk,runT,htl] at hrun
   obtain ⟨hT5,t0,t1,t2,tf⟩:=htok.cells
   simp only at t0 t1 t2
   obtain ⟨kd,hkm⟩:∃ kd,kd=kmap t.kind:=⟨_,rfl⟩
   rw [← hkm] at htok t0 hrun
   have hkd1:1≤kd:=by
    rw [hkm]
    rcases hkd with h | h | h | h | h | h | h | h <;> rw [h] <;> decide
   have bk:((kd:Int) != 0)=true:=by rw [bne_iff_ne]; omega
   obtain ⟨V,hlook⟩:=hr.look
   have HC:=Zac (Zur wr B rb st' V kd t.pos q hlook (hri.bd (by omega)) hn5 (by omega) (by omega))
   have Hr:=Zac hr
   have Hflt:=Zac hflt
   have Htok:=Zac htok
   have Hbw:=Zac hbw
   have Hri:=Zac hri
   have Htx:=Zac htx
   clear htok hflt hr hri htk hnx hbw hlook htx hkd hkm htl
   by_cases hc:Zbh st' kd (q - t.pos)=0
   ·rw [if_neg (by simp [hc])] at hrun
    have hstand:=Zgy hc
    have Hrun:=Zac hrun
    have HT:=Zac (Hri.out.takes (by omega) hstand)
    have Hri':=Zac ((Hri.out.take t.text hstand).at (m:=q) (by omega))
    rw [hc] at HC
    clear hrun hc hstand
    go_wp2_with fail
    refine HC.out.mono ?_
    rintro e w2 ⟨rfl,hk2⟩
    have Hr2:=Zac (Hr.out.fresh hk2)
    have Hflt2:=Zac (Hflt.out.kept hk2 (fun h=>h))
    have Htok2:=Zac (Htok.out.kept hk2 (fun h=>h))
    have Hbw2:=Zac (Hbw.out.trans (hk2.below (by omega) (fun _ h=>h.elim)))
    obtain ⟨x5,x0,x1,x2,xf⟩:=Htok2.out.cells
    simp only at x0 x1 x2
    have hsz2:=hk2.size
    clear hk2 t0 t1 t2 tf c0 c1 c2 cf f0 f1 ff
    go_wp2_with fail
    go_region_with (first
     | (go_at_call 54; refine (Zsb s kd t.pos q _ ?_ ?_ ?_).mono ?_; (· omega); (· omega); (· omega); rintro e w3 ⟨rfl,hk3⟩; rw [Htx.out]; have Hr3:=Zac (Hr2.out.fresh (((Qx Zch w2).drewN 1).trans hk3)); have Hflt3:=Zac (Hflt2.out.kept (((Qx Zch w2).drewN 1).trans hk3) (fun h=>h)); have Htok3:=Zac (Htok2.out.kept (((Qx Zch w2).drewN 1).trans hk3) (fun h=>h)); obtain ⟨y5,y0,y1,y2,yf⟩:=Htok3.out.cells; simp only at y0 y1 y2; have Hk3:=Zac hk3; clear hk3)
     | (go_at_call 53; refine (Zxr _ B rb st' kd t.text Hr3.out HT.out).mono ?_; rintro e w4 ⟨rfl,hr4',hh4⟩; have Hr4:=Zac hr4'; have Hh4:=Zac hh4; clear hr4' hh4))
    all_goals
     have hbw4:Below B w w4:=(Hbw2.out.trans (Kept.below (((Qx Zch w2).drewN 1).trans Hk3.out) (by omega) (fun _ h=>h.elim))).trans Hh4.out.below
     have Hflt4:=Zac (Hflt3.out.held Hh4.out)
     have Htok4:=Zac (Htok3.out.held Hh4.out)
     obtain ⟨z5,z0,z1,z2,zf⟩:=Htok4.out.cells
     simp only at z0 z1 z2
     have Hbw4:=Zac hbw4
     clear hbw4 x0 x1 x2 xf y0 y1 y2 yf
     go_wp2_with fail
     refine (Zqj s q _ (by omega) hqs).mono ?_
     rintro e w5 ⟨rfl,hb5⟩
     have hk5:=Kept.untouched hb5
     have Htok5:=Zac (Htok4.out.kept hk5 (fun h=>h))
     have Hflt5:=Zac (Hflt4.out.kept hk5 (fun h=>h))
     have Hr5:=Zac (Hr4.out.fresh hk5)
     have Hbw5:=Zac (Hbw4.out.trans (hk5.below Hr4.out.le (fun _ h=>h.elim)))
     obtain ⟨v5,v0,v1,v2,vf⟩:=Htok5.out.cells
     simp only at v0 v1 v2
     clear hk5 hb5 z0 z1 z2 zf
     go_wp2
     go_roundg (s.size - q+1)
     case measure=>omega
     case rel =>
      have hB5:B≤w1.heap.size:=by omega
      refine ⟨q,Zbb st' kd t.text,hqs,by omega,?_,?_,?_,Hri'.out,Hrun.out,?_⟩
      ·unfold TokAt
       rw [Zah (Zah (Zah Htok5.out 0 _) 1 _) 2 _]
       rfl
      ·exact Hflt5.out.kept ((((Qx (only w1.heap.size) w5).put 0 _).put 1 _).put 2 _) (fun e=>h45 e)
      ·exact Hr5.out.aside Htok5.out (Or.inl rfl) ((((Qx (only w1.heap.size) w5).put 0 _).put 1 _).put 2 _)
      ·exact ((Hbw5.out.setCell (p:=⟨w1.heap.size,0,none⟩) hB5 _).setCell (p:=⟨w1.heap.size,1,none⟩) hB5 _).setCell (p:=⟨w1.heap.size,2,none⟩) hB5 _
   ·rw [if_pos hc] at hrun
    have bc:((Zbh st' kd (q - t.pos):Int) != 0)=true:=by rw [bne_iff_ne]; omega
    have Hrun:=Zac hrun
    clear hrun hc
    go_wp2_with fail
    refine HC.out.mono ?_
    rintro e w2 ⟨rfl,hk2⟩
    have Hr2:=Zac (Hr.out.fresh hk2)
    have Hflt2:=Zac (Hflt.out.kept hk2 (fun h=>h))
    have Htok2:=Zac (Htok.out.kept hk2 (fun h=>h))
    have Hbw2:=Zac (Hbw.out.trans (hk2.below (by omega) (fun _ h=>h.elim)))
    obtain ⟨x5,x0,x1,x2,xf⟩:=Htok2.out.cells
    simp only at x0 x1 x2
    obtain ⟨g4,g0,g1,gf⟩:=Hflt2.out.cells
    clear hk2 t0 t1 t2 tf c0 c1 c2 cf f0 f1 ff
    go_wp2
    refine bodyPost_ret (v := .agg #[.int .i64 (Zbh st' kd (q - t.pos)),.int .i64 t.pos]) (by simp [results,Tryd.results44,go_sem,g0,g1,gf,g4]) rfl ?_
    rw [← Hrun.out]
    exact ⟨rfl,Zgg Hr2.out Hflt2.out (by omega) Hbw2.out _ _⟩
def Zbj:List Nat→List UInt8 × List Nat
 | []=>([],[])
 | n::r=>if 1<n then ([44],(n - 1)::r) else (41::(Zbj r).1,(Zbj r).2)
def Zbu:List Sym→List Nat→List UInt8
 | [],_=>[]
 | s::r,miss=>if 0<s.args then symC s++40::Zbu r (s.args::miss) else symC s++((Zbj miss).1++Zbu r (Zbj miss).2)
theorem Zpa {a b c:List UInt8} (h:a++b=c):a.length+b.length=c.length:=by rw [← h]; simp
theorem Znm (w:World) (B:Nat) (v:Value) (l:List Sym) (ho:w.ownsRow B 79 3 v l.length (Zag l)) (hl:l.length≤4000) (hn:∀ s ∈ l,s.num<2600∧s.args≤4096) (hL:(Zbu l []).length≤100000000) :
  Calls Tryd.prog 56 #[v] w fun e w'=>e = .returned (.string ⟨(Zbu l []).toArray⟩)∧Below w.heap.size w w':=by
 obtain ⟨F,hF⟩:∃ F,F=Zbu l []:=⟨_,rfl⟩
 rw [← hF] at hL ⊢
 obtain ⟨va,vcap,rfl⟩:=Zad ho
 have Ho:=Zac ho
 have HF:=Zac hF
 have Hn:=Zac hn
 clear ho hF hn
 go_enter Tryd.func56,Tryd.ntmps56
 go_wp2
 go_loopg [3,4,10] (l.length+1) (fun gk tx mv i wr=>∃ (k:Nat) (acc:List UInt8) (miss:List Nat),i = .int .i64 k∧k≤l.length∧l.length - k<gk∧tx = .string ⟨acc.toArray⟩∧acc++Zbu (l.drop k) miss=F ∧
   wr.ownsRow w.heap.size 3 1 mv miss.length (ints miss.reverse)∧Below w.heap.size w wr∧miss.length≤k∧∀ m ∈ miss,1≤m∧m≤4096)
 case atStart=>exact ⟨0,[],[],rfl,Qm _,by omega,rfl,by rw [HF.out]; rfl,World.ownsRow_nil _ _ _ _,Below.refl _ _,Qm _,by simp⟩
 case round =>
  obtain ⟨k,acc,miss,rfl,hk,hgk,rfl,hacc,hmo,hbw,hmk,hmm⟩:=hrel
  obtain ⟨ma,mcap,rfl⟩:=Zad hmo
  have hsz:=hbw.size
  by_cases hlt:k<l.length
  ·obtain ⟨s,hs⟩:∃ s,l[k]?=some s:=⟨_,Qb hlt⟩
   have hd:l.drop k=s::l.drop (k+1):=by
    rw [List.drop_eq_getElem_cons hlt]
    rw [Qb hlt] at hs
    simp at hs
    rw [hs]
   rw [hd,Zbu] at hacc
   obtain ⟨hsn,hsa⟩:=Hn.out s (Qh hs)
   have ho:=(Kept.untouched hbw).owns Ho.out (fun _ _ h=>h)
   obtain ⟨g,cap',cur,he,hBg,hg,hcp⟩:=Zat ho (by omega)
   simp only [Value.slice.injEq] at he
   obtain ⟨rfl,_,rfl⟩:=he
   have hgl:g<w.heap.size:=(Ho.out.lt g rfl).2
   have e0:wr.cell? ⟨g,k * 3,none⟩=some (.string ⟨s.name.toArray⟩):=Zai ho _ _ (by have:=Zav l k s hs 0 (by omega); rw [Nat.add_zero] at this; rw [this]; rfl)
   have e1:wr.cell? ⟨g,k * 3+1,none⟩=some (.int .i64 s.num):=Zai ho _ _ (by rw [Zav l k s hs 1 (by omega)]; rfl)
   have e2:wr.cell? ⟨g,k * 3+2,none⟩=some (.int .i64 s.args):=Zai ho _ _ (by rw [Zav l k s hs 2 (by omega)]; rfl)
   have Hacc:=Zac hacc
   have Hmo:=Zac hmo
   have Hbw:=Zac hbw
   have Hmm:=Zac hmm
   have Hd:=Zac hd
   clear hacc hmo hbw hmm hd hs ho hg
   go_wp2_with fail
   refine (Zkg s _ hsn).mono ?_
   rintro e w1 ⟨rfl,hb1⟩
   have hk1:Kept Zch wr w1:=((Qx _ wr).alloc _).trans (Kept.untouched hb1)
   have hbox:w1.heap[wr.heap.size]?=some (.cells #[.string ⟨s.name.toArray⟩,.int .i64 s.num,.int .i64 s.args] 79 (0,0)):=(hb1.block _ (by simp)).trans (heap_alloc_new wr _)
   have b2:w1.cell? ⟨wr.heap.size,2,none⟩=some (.int .i64 s.args):=Zaa hbox 2 _ rfl
   have bl:=Zab hbox
   have Hmo1:=Zac (hk1.owns Hmo.out (fun _ _ h=>h))
   have Hbw1:=Zac (Hbw.out.trans (hk1.below hsz (fun _ h=>h.elim)))
   have hlen:=Zpa Hacc.out
   clear hk1 hbox hb1 e0 e1 e2
   by_cases ha:0<s.args
   ·have Hacc2:Hid (acc++symC s++[40]++Zbu (l.drop (k+1)) (s.args::miss)=F):=by show _=_; rw [← Hacc.out,if_pos ha]; simp
    rw [if_pos ha] at hlen
    simp only [Qg,Qf] at hlen
    go_wp2_with (at_builtin; refine Zam _ rfl (.tmp 23) (.tmp 26) 22 rfl w.heap.size 3 Tryd.infoInt Tryd.underlying22 rfl (by decide) _ miss.length (ints miss.reverse) rfl Hmo1.out _ rfl (by simp) rfl (Zlt _) ?_ ?_ ?_)
    ·omega
    ·omega
    intro v' w2 hap
    have Hap:=Zac hap
    clear hap
    go_wp2
    go_roundg (l.length - k)
    case measure=>omega
    case rel =>
     have hrow:=Hap.out.owns
     refine ⟨k+1,acc++symC s++[40],s.args::miss,by go_num,by omega,by omega,?_,Hacc2.out,?_,?_,by simp; omega,?_⟩
     ·show Value.string (_++_++(⟨[40].toArray⟩:ByteArray))=_
      rw [Zbp,Zbp]
     ·simpa [ints] using hrow
     ·refine Hbw1.out.trans (Hap.out.kept.below (by omega) (fun k hk=>(Hmo1.out.lt k hk).1))
     ·intro m hm
      simp only [Qp] at hm
      rcases hm with rfl | hm
      ·exact ⟨ha,hsa⟩
      ·exact Hmm.out m hm
   ·have Hacc2:Hid (acc++symC s++((Zbj miss).1++Zbu (l.drop (k+1)) (Zbj miss).2)=F):=by show _=_; rw [← Hacc.out,if_neg ha]; simp
    rw [if_neg ha] at hlen
    simp only [Qg] at hlen
    go_wp2
    go_loopg [3,4] (miss.length+1) (fun gj ty mw wi=>∃ (acc':List UInt8) (miss':List Nat),miss'.length<gj∧ty = .string ⟨acc'.toArray⟩∧acc'++((Zbj miss').1++Zbu (l.drop (k+1)) (Zbj miss').2)=F ∧
     wi.ownsRow w.heap.size 3 1 mw miss'.length (ints miss'.reverse)∧Below w.heap.size w wi∧miss'.length≤k∧∀ m ∈ miss',1≤m∧m≤4096)
    case atStart =>
     exact ⟨acc++symC s,miss,by omega,congrArg Value.string (Zbp _ _),Hacc2.out,Hmo1.out,Hbw1.out,hmk,Hmm.out⟩
    case round =>
     obtain ⟨acc',miss',hgj,rfl,hacc',hmo',hbw',hmk',hmm'⟩:=hrel
     obtain ⟨ma',mcap',rfl⟩:=Zad hmo'
     have hszi:=hbw'.size
     have hlen':=Zpa hacc'
     simp only [Qg] at hlen'
     cases hm:miss' with
     | nil =>
      have Hacc':=Zac hacc'
      have Hmo':=Zac hmo'
      have Hbw':=Zac hbw'
      have Hm:=Zac hm
      have hml:miss'.length=0:=by rw [hm]; rfl
      clear hacc' hmo' hbw' hm
      go_wp2
      go_roundg (l.length - k)
      case measure=>omega
      case rel =>
       refine ⟨k+1,acc',[],by go_num,by omega,by omega,rfl,?_,?_,Hbw'.out,by simp,by simp⟩
       ·have h:=Hacc'.out
        rw [Hm.out] at h
        simpa [Zbj] using h
       ·have h:=Hmo'.out
        rw [Hm.out] at h
        exact h
     | cons n r =>
      subst hm
      obtain ⟨hn1,hn2⟩:=hmm' n (by simp)
      obtain ⟨g',gcap',gcur',he',hBg',hg',hcap'⟩:=Zat hmo' (by simp)
      simp only [Value.slice.injEq] at he'
      obtain ⟨rfl,_,rfl⟩:=he'
      simp only [Qf] at hcap' hmo' hgj hmk'
      have cg:wr.cell? ⟨g',r.length,none⟩=some (.int .i64 n):=Zai hmo' r.length _ (by simp [ints])
      have fg:=Zae hg' r.length
      have hgl':=Zab hg'
      have Hset:=Zac (Zjp hmo' r.length (.int .i64 ((n:Int) - 1)))
      have Hacc':=Zac hacc'
      have Hbw':=Zac hbw'
      have Hmm':=Zac hmm'
      have Hbs:=Zac (hbw'.setCell (p:=⟨g',r.length,none⟩) hBg' (.int .i64 ((n:Int) - 1)))
      clear hacc' hbw' hmm' hmo' hg'
      by_cases h1:1<n
      ·have Hcl:Hid (acc'++[44]++Zbu (l.drop (k+1)) ((n - 1)::r)=F):=by show _=_; rw [← Hacc'.out]; simp [Zbj,h1]
       have hl1:(Zbj (n::r)).1.length=1:=by simp [Zbj,h1]
       rw [hl1] at hlen'
       have hd0:(0:Int)<(n:Int) - 1:=by omega
       go_wp2
       go_roundg (l.length - k)
       case measure=>omega
       case rel =>
        have hcast:(n:Int) - 1=((n - 1:Nat):Int):=by omega
        refine ⟨k+1,acc'++[44],(n - 1)::r,by go_num,by omega,by omega,?_,Hcl.out,?_,Hbs.out,by simp; omega,?_⟩
        ·show Value.string (_++(⟨[44].toArray⟩:ByteArray))=_
         rw [Zbp]
        ·have h:=Hset.out
         rw [hcast] at h ⊢
         simpa [ints] using h
        ·intro m hm
         simp only [Qp] at hm
         rcases hm with rfl | hm
         ·omega
         ·exact Hmm'.out m (by simp [hm])
      ·have Hcl:Hid (acc'++[41]++((Zbj r).1++Zbu (l.drop (k+1)) (Zbj r).2)=F):=by show _=_; rw [← Hacc'.out]; simp [Zbj,h1]
       have hl1:(Zbj (n::r)).1.length=(Zbj r).1.length+1:=by simp [Zbj,h1]
       rw [hl1] at hlen'
       have hd0:¬ (0:Int)<(n:Int) - 1:=by omega
       have Hpop:=Zac (Zqg (n:=r.length) Hset.out)
       go_wp2
       go_roundg (r.length+1)
       case measure=>omega
       case rel =>
        refine ⟨acc'++[41],r,by omega,?_,Hcl.out,?_,Hbs.out,by omega,fun m hm=>Hmm'.out m (by simp [hm])⟩
        ·show Value.string (_++(⟨[41].toArray⟩:ByteArray))=_
         rw [Zbp]
        ·have h:=Hpop.out
         have e:((ints (n::r).reverse).set r.length (.int .i64 ((n:Int) - 1))).take r.length=ints r.reverse:=by
          simp [ints,List.take_set]
         rw [e] at h
         exact h
  ·have hke:k=l.length:=by omega
   have Hacc:Hid (acc=F):=by
    show _=_
    rw [hke,List.drop_eq_nil_of_le (Qe _)] at hacc
    simpa [Zbu] using hacc
   have Hbw:=Zac hbw
   clear hacc hbw hmo
   go_wp2
   go_ret
   rw [← Hacc.out]
   exact ⟨rfl,Hbw.out⟩
def st0 (q:Bool):RS:=⟨q,if q then 1 else 0,q,[],[],[],[],[],[]⟩
theorem Zpb (q:Bool):RI 0 (st0 q):=by
 refine ⟨by simp [st0],by simp [st0],by simp [st0],by simp [st0],by simp [st0],by simp [st0],?_,by simp [st0],?_⟩
 ·cases q <;> simp [st0]
 ·cases q <;> simp [st0]
def nilV:RV:=⟨.slice none 0 0,.slice none 0 0,.slice none 0 0,.slice none 0 0,.slice none 0 0,.slice none 0 0⟩
theorem Zvi (w:World) (q:Bool):IsRx (w.alloc (.cells (Zce (st0 q) nilV) 95)) w.heap.size w.heap.size (st0 q):=by
 refine ⟨nilV,0,0,[],[],heap_alloc_new w _,⟨World.ownsRow_nil _ _ _ _,World.ownsRow_nil _ _ _ _,World.ownsRow_nil _ _ _ _,⟨World.ownsRow_nil _ _ _ _,fun k e=>by simp [nilV,Value.ownBlock] at e⟩,⟨World.ownsRow_nil _ _ _ _,fun i l hl=>by simp [st0] at hl⟩,
  ⟨World.ownsRow_nil _ _ _ _,rfl,fun x hx=>by simp at hx,fun i c hc=>by simp [st0] at hc⟩,fun k e=>by simp [nilV,Value.ownBlock] at e,fun k e=>by simp [nilV,Value.ownBlock] at e,fun k e=>by simp [nilV,Value.ownBlock] at e,Qm _,Qm _⟩,Qe _⟩
def runs (s:ByteArray) (q:Bool):Nat × Nat × RS:=runT s.size (toks s.data.toList 0) (st0 q)
theorem Zqo {S:Nat→Prop} {w w':World} {B Sa Sb:Nat} {v:Value} {cs:List CC} {xs:List (List Value)} (h:CCRow w B Sa Sb v cs xs) (hk:Kept S w w') (hs:∀ k cur T fr,S k→w.heap[k]?=some (.cells cur T fr)→T≠79∧T≠52∧T≠55∧T≠9):CCRow w' B Sa Sb v cs xs:=by
 have hX:∀ {Br:Nat} {e:TypeId} {s n:Nat} {v:Value} {ys:List Value},w.ownsRow Br e s v n ys→(e=79∨e=52∨e=55∨e=9)→w'.ownsRow Br e s v n ys:=fun ho he =>
  hk.owns ho (fun i hi hS=>by
   obtain ⟨cur,hc⟩:=Zbr ho i hi
   obtain ⟨h1,h2,h3,h4⟩:=hs i _ _ _ hS hc
   rcases he with he | he | he | he
   ·exact h1 he
   ·exact h2 he
   ·exact h3 he
   ·exact h4 he)
 have hS:∀ {v:Value} {l:List Sym},SymRow w B Sa v l→SymRow w' B Sa v l:=fun hs=>⟨hX hs.1 (Or.inl rfl),hs.2⟩
 refine ⟨hX h.1 (Or.inr (Or.inr (Or.inl rfl))),h.2.1,h.2.2.1,fun i c hc => ?_⟩
 obtain ⟨hv,bv,vv,us,e1,e2,e3,e4⟩:=h.2.2.2 i c hc
 exact ⟨hv,bv,vv,us,e1,hS e2,⟨hX e3.1 (Or.inr (Or.inl rfl)),fun i l hl=>by
  obtain ⟨x,h1,h2⟩:=e3.2 i l hl
  exact ⟨x,h1,hS h2⟩⟩,e4.1,hX e4.2.1 (Or.inr (Or.inr (Or.inr rfl))),e4.2.2⟩
theorem Zvj {S:Nat→Prop} {w w':World} {B Sa:Nat} {v:Value} {ls:List (List Sym)} {us:List Value} (h:BodyRow w B Sa v ls us) (hk:Kept S w w') (hs:∀ k,S k→k<B):BodyRow w' B Sa v ls us:=by
 have hX:∀ {e:TypeId} {s n:Nat} {v:Value} {ys:List Value},w.ownsRow B e s v n ys→w'.ownsRow B e s v n ys:=fun ho =>
  hk.owns ho (fun i hi hS=>by
   have h1:=(ho.lt i hi).1
   have h2:=hs i hS
   omega)
 exact ⟨hX h.1,fun i l hl=>by
  obtain ⟨x,h1,h2⟩:=h.2 i l hl
  exact ⟨x,h1,hX h2.1,h2.2⟩⟩
theorem Zmd (s:ByteArray) (w:World) (hm:s.size≤maxLen) (hl:800<s.size) :
  Calls Tryd.prog 33 #[.string s] w fun e w'=>e = .returned (.tuple #[.slice none 0 0,.agg #[.int .i64 1,.int .i64 0]])∧Below w.heap.size w w':=by
 go_enter Tryd.func33,Tryd.ntmps33
 go_wp2
 refine bodyPost_ret (v := .tuple #[.slice none 0 0,.agg #[.int .i64 1,.int .i64 0]]) (by simp [results,Tryd.results33,go_sem]) rfl ⟨rfl,(Below.refl _ _).alloc (Qe _) _⟩
theorem Zzg (s:ByteArray) (w:World) (hl:s.size≤800) :
  Calls Tryd.prog 33 #[.string s] w fun e w'=>Below w.heap.size w w'∧(((runs s false).1≠0∧e = .returned (.tuple #[.slice none 0 0,.agg #[.int .i64 (runs s false).1,.int .i64 (runs s false).2.1]])) ∨
   ((runs s false).1=0∧∃ v B Sa Sb xs,e = .returned (.tuple #[v,.agg #[.int .i64 0,.int .i64 0]])∧CCRow w' B Sa Sb v (runs s false).2.2.clauses xs)):=by
 obtain ⟨R,hR⟩:∃ R,R=runs s false:=⟨_,rfl⟩
 have hA:=Zha ((w.alloc (.cells #[.int .i64 0,.int .i64 0] 69)).alloc (.cells (Zce (st0 false) nilV) 95)) _ _ (st0 false) s (Zvi (w.alloc (.cells #[.int .i64 0,.int .i64 0] 69)) false) (Zpb false) (by omega)
 rw [show runT s.size (toks s.data.toList 0) (st0 false)=R from hR.symm] at hA
 rw [show (w.alloc (.cells #[.int .i64 0,.int .i64 0] 69)).heap.size=w.heap.size+1 from by simp] at hA
 have HA:=Zac hA
 rw [← hR]
 clear hR hA
 go_enter Tryd.func33,Tryd.ntmps33
 go_wp2_with fail
 refine HA.out.mono ?_
 rintro e w2 ⟨rfl,hr,hb⟩
 have hF:FaultAt w2 w.heap.size 0 0:=(hb.block w.heap.size (by omega)).trans (Zap (heap_alloc_new w _) _)
 have hB:Below w.heap.size w w2:=((Below.refl _ w).alloc (Qe _) _).trans ((((Below.refl _ _).alloc (by simp) _)).trans (hb.mono (by omega)))
 obtain ⟨V,Sa,Sb,vs,xs,h⟩:=hr
 have hrb:=Zab h.blk
 obtain ⟨c0,c1,c2,c3,c4,c5,c6,c7,c8⟩:=h.opens.facts
 have cf:=fun i=>Zae h.blk i
 obtain ⟨ca,ccap,hvc⟩:=Zad h.rest.cls.1
 rw [hvc] at c8
 obtain ⟨hT4,f0,f1,ff⟩:=hF.cells
 have HF:=Zac hF
 have HB:=Zac hB
 have HC:=Zac h.rest.cls
 have Hvc:=Zac hvc
 clear hF hB h hvc hb c0 c1 c2 c3 c4 c5 c6 c7
 by_cases hc:R.1=0
 ·have b0:((R.1:Int) != 0)=false:=by rw [hc]; rfl
  have Hc:=Zac hc
  clear hc
  go_wp2
  refine bodyPost_ret (v := .tuple #[.slice ca R.2.2.clauses.length ccap,.agg #[.int .i64 0,.int .i64 0]]) (by simp [results,Tryd.results33,go_sem,f0,f1,ff,hT4]) rfl ?_
  refine ⟨?_,Or.inr ⟨Hc.out,_,w.heap.size+1,Sa,Sb,xs,rfl,?_⟩⟩
  ·exact ((HB.out.setCell (p:=⟨w.heap.size,0,none⟩) (Qe _) _).setCell (p:=⟨w.heap.size,1,none⟩) (Qe _) _).alloc (by simp; omega) _
  ·rw [← Hvc.out]
   exact Zqo HC.out ((((Qx (only w.heap.size) w2).put 0 _).put 1 _).alloc _) (fun k cur T fr hk hb=>by
    have hk:k=w.heap.size:=hk
    rw [hk,HF.out] at hb
    simp only [Qo,Obj.cells.injEq] at hb
    rw [← hb.2.1]
    decide)
 ·have b0:((R.1:Int) != 0)=true:=by rw [bne_iff_ne]; omega
  have Hc:=Zac hc
  clear hc
  go_wp2_with fail
  go_region
  all_goals
   go_wp2
   refine bodyPost_ret (v := .tuple #[.slice none 0 0,.agg #[.int .i64 R.1,.int .i64 R.2.1]]) (by simp [results,Tryd.results33,go_sem,f0,f1,ff,hT4]) rfl ?_
   refine ⟨?_,Or.inl ⟨Hc.out,rfl⟩⟩
   exact (((HB.out.setCell (p:=⟨w.heap.size,0,none⟩) (Qe _) _).setCell (p:=⟨w.heap.size,1,none⟩) (Qe _) _).alloc (by simp; omega) _).drew
theorem Zpc (s:ByteArray) (w:World) (hm:s.size≤maxLen) (hl:120<s.size) :
  Calls Tryd.prog 34 #[.string s] w fun e w'=>e = .returned (.tuple #[.agg #[.slice none 0 0,.slice none 0 0,.slice none 0 0],.agg #[.int .i64 1,.int .i64 0]])∧Below w.heap.size w w':=by
 go_enter Tryd.func34,Tryd.ntmps34
 go_wp2
 refine bodyPost_ret (v := .tuple #[.agg #[.slice none 0 0,.slice none 0 0,.slice none 0 0],.agg #[.int .i64 1,.int .i64 0]]) (by simp [results,Tryd.results34,go_sem]) rfl ⟨rfl,((Below.refl _ _).alloc (Qe _) _).alloc (by simp) _⟩
theorem Zsl (s:ByteArray) (w:World) (hl:s.size≤120) (hcl:(runs s true).1=0→∃ c cs,(runs s true).2.2.clauses=c::cs) :
  Calls Tryd.prog 34 #[.string s] w fun e w'=>Below w.heap.size w w'∧(((runs s true).1≠0∧e = .returned (.tuple #[.agg #[.slice none 0 0,.slice none 0 0,.slice none 0 0],.agg #[.int .i64 (runs s true).1,.int .i64 (runs s true).2.1]])) ∨
   ((runs s true).1=0∧∃ hv bv vv B Sa vs c cs,e = .returned (.tuple #[.agg #[hv,bv,vv],.agg #[.int .i64 0,.int .i64 0]])∧(runs s true).2.2.clauses=c::cs∧(∃ a n x,hv = .slice a n x)∧w'.ownsRow B 9 1 vv c.names.length (strs c.names)∧BodyRow w' B Sa bv c.body vs)):=by
 obtain ⟨R,hR⟩:∃ R,R=runs s true:=⟨_,rfl⟩
 have hA:=Zha (((w.alloc (.cells #[.slice none 0 0,.slice none 0 0,.slice none 0 0] 55)).alloc (.cells #[.int .i64 0,.int .i64 0] 69)).alloc (.cells (Zce (st0 true) nilV) 95)) _ _ (st0 true) s (Zvi ((w.alloc (.cells #[.slice none 0 0,.slice none 0 0,.slice none 0 0] 55)).alloc (.cells #[.int .i64 0,.int .i64 0] 69)) true) (Zpb true) (by omega)
 rw [show runT s.size (toks s.data.toList 0) (st0 true)=R from hR.symm] at hA
 rw [show ((w.alloc (.cells #[.slice none 0 0,.slice none 0 0,.slice none 0 0] 55)).alloc (.cells #[.int .i64 0,.int .i64 0] 69)).heap.size=w.heap.size+1+1 from by simp] at hA
 have HA:=Zac hA
 rw [← hR] at hcl ⊢
 have Hcl:=Zac hcl
 clear hR hA hcl
 go_enter Tryd.func34,Tryd.ntmps34
 go_wp2_with fail
 refine HA.out.mono ?_
 rintro e w2 ⟨rfl,hr,hb⟩
 have hF:FaultAt w2 (w.heap.size+1) 0 0:=(hb.block (w.heap.size+1) (by omega)).trans (Zap (by have:=heap_alloc_new (w.alloc (.cells #[.slice none 0 0,.slice none 0 0,.slice none 0 0] 55)) (.cells #[.int .i64 0,.int .i64 0] 69); simpa using this) _)
 have hC:w2.heap[w.heap.size]?=some (.cells #[.slice none 0 0,.slice none 0 0,.slice none 0 0] 55 (0,0)):=(hb.block w.heap.size (by omega)).trans (Zap (Zap (heap_alloc_new w _) _) _)
 have hB:Below w.heap.size w w2:=((Below.refl _ w).alloc (Qe _) _).trans (((Below.refl _ _).alloc (by simp) _).trans (((Below.refl _ _).alloc (by simp; omega) _).trans (hb.mono (by omega))))
 obtain ⟨V,Sa,Sb,vs,xs,h⟩:=hr
 have hrb:=Zab h.blk
 obtain ⟨c0,c1,c2,c3,c4,c5,c6,c7,c8⟩:=h.opens.facts
 have cf:=fun i=>Zae h.blk i
 obtain ⟨ca,ccap,hvc⟩:=Zad h.rest.cls.1
 rw [hvc] at c8
 obtain ⟨hT4,f0,f1,ff⟩:=hF.cells
 have q0:w2.cell? ⟨w.heap.size,0,none⟩=some (.slice none 0 0):=Zaa hC 0 _ rfl
 have q1:w2.cell? ⟨w.heap.size,1,none⟩=some (.slice none 0 0):=Zaa hC 1 _ rfl
 have q2:w2.cell? ⟨w.heap.size,2,none⟩=some (.slice none 0 0):=Zaa hC 2 _ rfl
 have qf:=fun i=>Zae hC i
 have hT2:=Zab hC
 have HF:=Zac hF
 have HQ:=Zac hC
 have HB:=Zac hB
 have HC:=Zac h.rest.cls
 have Hvc:=Zac hvc
 clear hF hB h hb c0 c1 c2 c3 c4 c5 c6 c7 hC hvc
 have Hdone:Hid (∀ x0 x1 x2 y0 y1 o,Below w.heap.size w ((((((w2.setCell ⟨w.heap.size,0,none⟩ x0).setCell ⟨w.heap.size,1,none⟩ x1).setCell ⟨w.heap.size,2,none⟩ x2).setCell ⟨w.heap.size+1,0,none⟩ y0).setCell ⟨w.heap.size+1,1,none⟩ y1).alloc o)):=fun x0 x1 x2 y0 y1 o =>
  (((((HB.out.setCell (p:=⟨w.heap.size,0,none⟩) (Qe _) _).setCell (p:=⟨w.heap.size,1,none⟩) (Qe _) _).setCell (p:=⟨w.heap.size,2,none⟩) (Qe _) _).setCell (p:=⟨w.heap.size+1,0,none⟩) (Nat.le_succ _) _).setCell (p:=⟨w.heap.size+1,1,none⟩) (Nat.le_succ _) _).alloc (by simp; omega) _
 by_cases hc:R.1=0
 ·have b0:((R.1:Int) != 0)=false:=by rw [hc]; rfl
  obtain ⟨c,cs,hcs⟩:=Hcl.out hc
  obtain ⟨hv,bv,vv,us,e1,e2,e3,e4,e5,e6⟩:=HC.out.2.2.2 0 c (by rw [hcs]; rfl)
  obtain ⟨va,vcap,rfl⟩:=Zad e5
  obtain ⟨ha,hcap,rfl⟩:=Zad e2.1
  obtain ⟨ba,bcap,rfl⟩:=Zad e3.1
  have hcl:0<R.2.2.clauses.length:=by rw [hcs]; simp
  have hcr:=HC.out.1
  rw [Hvc.out] at hcr
  obtain ⟨g,gcap,gcur,he,hBg,hg,hcp⟩:=Zat hcr (by omega)
  simp only [Value.slice.injEq] at he
  obtain ⟨rfl,_,rfl⟩:=he
  obtain ⟨xr,hxs⟩:∃ xr,xs=[.slice ha c.head.length hcap,.slice ba c.body.length bcap,.slice va c.names.length vcap]::xr:=by
   cases xs with
   | nil=>simp at e1
   | cons x xr=>simp at e1; exact ⟨xr,by rw [e1]⟩
  have k0:w2.cell? ⟨g,0,none⟩=some (.slice ha c.head.length hcap):=Zai hcr 0 _ (by rw [hxs]; rfl)
  have k1:w2.cell? ⟨g,1,none⟩=some (.slice ba c.body.length bcap):=Zai hcr 1 _ (by rw [hxs]; rfl)
  have k2:w2.cell? ⟨g,2,none⟩=some (.slice va c.names.length vcap):=Zai hcr 2 _ (by rw [hxs]; rfl)
  have hgl:=Zab hg
  have bl0:(((R.2.2.clauses.length:Nat):Int) == 0)=false:=by rw [Qu]; omega
  have Hc:=Zac hc
  have Hcs:=Zac hcs
  have He3:=Zac e3
  have He5:=Zac e5
  clear hc hcs e1 e2 e3 e4 e5 e6 hcr hg hxs
  go_wp2
  refine bodyPost_ret (v := .tuple #[.agg #[.slice ha c.head.length hcap,.slice ba c.body.length bcap,.slice va c.names.length vcap],.agg #[.int .i64 0,.int .i64 0]]) (by simp [results,Tryd.results34,go_sem,f0,f1,ff,hT4,q0,q1,q2,qf,hT2]) rfl ?_
  refine ⟨Hdone.out _ _ _ _ _ _,Or.inr ⟨Hc.out,_,_,_,w.heap.size+1+1,Sa,us,c,cs,rfl,Hcs.out,⟨_,_,_,rfl⟩,?_,?_⟩⟩
  rotate_left
  refine Zvj He3.out (S:=fun k=>k=w.heap.size∨k=w.heap.size+1) ?_ (fun k hk=>by omega)
  rotate_left
  refine Kept.owns (S:=fun k=>k=w.heap.size∨k=w.heap.size+1) ?_ He5.out (fun k hk e=>by have:=(He5.out.lt k hk).1; omega)
  all_goals exact ((((((Qx _ w2).setCell (p:=⟨w.heap.size,0,none⟩) (fun _=>Or.inl rfl) _).setCell (p:=⟨w.heap.size,1,none⟩) (fun _=>Or.inl rfl) _).setCell (p:=⟨w.heap.size,2,none⟩) (fun _=>Or.inl rfl) _).setCell (p:=⟨w.heap.size+1,0,none⟩) (fun _=>Or.inr rfl) _).setCell (p:=⟨w.heap.size+1,1,none⟩) (fun _=>Or.inr rfl) _).alloc _
 ·have b0:((R.1:Int) != 0)=true:=by rw [bne_iff_ne]; omega
  have Hc:=Zac hc
  clear hc
  go_wp2_with fail
  go_region
  all_goals
   go_wp2
   refine bodyPost_ret (v := .tuple #[.agg #[.slice none 0 0,.slice none 0 0,.slice none 0 0],.agg #[.int .i64 R.1,.int .i64 R.2.1]]) (by simp [results,Tryd.results34,go_sem,f0,f1,ff,hT4,q0,q1,q2,qf,hT2]) rfl ?_
   refine ⟨?_,Or.inl ⟨Hc.out,rfl⟩⟩
   exact (Hdone.out _ _ _ _ _ _).drew
def Zxy (l:List Sym):Prop:=l.length≤4000∧∀ s ∈ l,s.num<2600∧s.args≤4096
def Zvk:List UInt8→List (List Sym)→List UInt8
 | _,[]=>[]
 | sep,l::ls=>sep++(Zbu l []++Zvk [44,32] ls)
end Go.Proofs.YtlmjilpjmgjjcabDoor
namespace Go.Proofs.YtlmjilpjmgjjcabDoor
def scan:List Sym→Nat→Option Nat
 | [],k=>some k
 | s::r,k=>if s.name=[] then (if s.num<k then scan r k else if s.num=k then scan r (k+1) else none) else scan r k
theorem Zhb (a b:List Sym) (k:Nat):scan (a++b) k=(scan a k).bind (scan b):=by
 induction a generalizing k with
 | nil=>rfl
 | cons s a ih =>
  simp only [List.cons_append,scan]
  split
  ·split
   ·exact ih k
   ·split
    ·exact ih (k+1)
    ·rfl
  ·exact ih k
theorem Zme {a b:List Sym} {k k':Nat} (h:scan (a++b) k=some k'):∃ j,scan a k=some j∧scan b j=some k':=by
 rw [Zhb] at h
 cases ha:scan a k with
 | none=>rw [ha] at h; simp at h
 | some j=>rw [ha] at h; exact ⟨j,rfl,h⟩
theorem Zdj:∀ (l:List Sym) (k k':Nat),scan l k=some k'→k≤k'∧k'≤k+l.length∧∀ s ∈ l,s.name=[]→s.num<k':=by
 intro l
 induction l with
 | nil=>intro k k' h; simp [scan] at h; subst h; simp
 | cons s l ih =>
  intro k k' h
  simp only [scan] at h
  split at h
  ·split at h
   ·rename_i h1 h2
    obtain ⟨g1,g2,g3⟩:=ih _ _ h
    refine ⟨g1,by simp; omega,?_⟩
    intro x hx hn
    simp at hx
    rcases hx with rfl | hx
    ·omega
    ·exact g3 x hx hn
   ·split at h
    ·rename_i h1 h2 h3
     obtain ⟨g1,g2,g3⟩:=ih _ _ h
     refine ⟨by omega,by simp; omega,?_⟩
     intro x hx hn
     simp at hx
     rcases hx with rfl | hx
     ·omega
     ·exact g3 x hx hn
    ·simp at h
  ·rename_i h1
   obtain ⟨g1,g2,g3⟩:=ih _ _ h
   refine ⟨g1,by simp; omega,?_⟩
   intro x hx hn
   simp at hx
   rcases hx with rfl | hx
   ·exact absurd hn h1
   ·exact g3 x hx hn
theorem Zvl (n k:Nat) (h:n<k):(List.range k).idxOf n=n:=by
 have hm:n ∈ List.range k:=by simpa using h
 have h1:=List.idxOf_lt_length_of_mem hm
 have h2:=List.getElem_idxOf h1
 rw [List.getElem_range] at h2
 exact h2
theorem Zpd (f:Nat) (IH:∀ l,IsT f l→∀ k k',scan l k=some k'→(Zca f l (List.range k)).2.1=List.range k'∧∀ rest miss,Zbu (l++rest) miss=(Zca f l (List.range k)).1++((Zbj miss).1++Zbu rest (Zbj miss).2)) :
  ∀ (ls:List (List Sym)),ls≠[]→(∀ l ∈ ls,IsT f l)→∀ (k k':Nat) (sep:UInt8),scan ls.flatten k=some k'→(Zdv f sep ls (List.range k)).2=List.range k' ∧
   ∀ rest miss,sep::Zbu (ls.flatten++rest) (ls.length::miss)=(Zdv f sep ls (List.range k)).1++(41::((Zbj miss).1++Zbu rest (Zbj miss).2)):=by
 intro ls
 induction ls with
 | nil=>intro h; exact absurd rfl h
 | cons l ls ih =>
  intro _ hls k k' sep hsc
  rw [List.flatten_cons] at hsc
  obtain ⟨j,h1,h2⟩:=Zme hsc
  obtain ⟨w1,w2⟩:=IH l (hls l (by simp)) k j h1
  cases ls with
  | nil =>
   simp only [List.flatten_nil,scan,Qo] at h2
   subst h2
   simp only [Zdv,w1,List.flatten_cons,List.flatten_nil,Qs]
   refine ⟨trivial,fun rest miss => ?_⟩
   rw [w2]
   simp [Zbj]
  | cons l2 ls2 =>
   obtain ⟨v1,v2⟩:=ih (by simp) (fun x hx=>hls x (by simp [hx])) j k' 44 h2
   have hk:Zdv f sep (l::l2::ls2) (List.range k)=(sep::((Zca f l (List.range k)).1++(Zdv f 44 (l2::ls2) (List.range j)).1),(Zdv f 44 (l2::ls2) (List.range j)).2):=by
    rw [Zdv,w1]
   rw [hk]
   refine ⟨v1,fun rest miss => ?_⟩
   rw [List.flatten_cons,Qi,w2]
   have hc:Zbj ((l::l2::ls2).length::miss)=([44],(l2::ls2).length::miss):=by simp [Zbj]
   rw [hc]
   have:=v2 rest miss
   simp only [List.cons_append,List.nil_append,Qi]
   rw [this]
theorem Ybg:∀ (f:Nat) (l:List Sym),IsT f l→∀ k k',scan l k=some k'→(Zca f l (List.range k)).2.1=List.range k'∧∀ rest miss,Zbu (l++rest) miss=(Zca f l (List.range k)).1++((Zbj miss).1++Zbu rest (Zbj miss).2):=by
 intro f
 induction f with
 | zero=>intro l h; exact h.elim
 | succ f ih =>
  intro l h k k' hsc
  rcases h with ⟨n,rfl⟩ | ⟨nm,ls,h1,rfl,h2⟩
  ·simp only [scan,if_true] at hsc
   split at hsc
   ·rename_i hn
    simp at hsc; subst hsc
    have hv:wvar n (List.range k)=(Zdu n,List.range k):=by
     unfold wvar
     rw [if_pos (by simpa using hn),Zvl n k hn]
    simp [Zca,hv,Zbu,symC]
   ·split at hsc
    ·rename_i hn1 hn2
     simp at hsc; subst hsc
     have hv:wvar n (List.range k)=(Zdu n,List.range (k+1)):=by
      unfold wvar
      rw [if_neg (by simpa using hn1),List.range_succ,hn2]
      simp
     simp [Zca,hv,Zbu,symC]
    ·simp at hsc
  ·have hsc':scan ls.flatten k=some k':=by simpa [scan,h1] using hsc
   cases hls:ls with
   | nil =>
    rw [hls] at hsc'
    simp [scan] at hsc'
    subst hsc'
    simp [Zca,Zbu,symC,h1]
   | cons l0 ls0 =>
    rw [← hls]
    have hne:ls≠[]:=by rw [hls]; simp
    have hw:=Zid f nm ls h1 h2 hne (List.range k)
    obtain ⟨v1,v2⟩:=Zpd f ih ls hne h2 k k' 40 hsc'
    rw [hw]
    refine ⟨v1,fun rest miss => ?_⟩
    have hpos:0<ls.length:=by rw [hls]; simp
    have:=v2 rest miss
    simp only [List.cons_append,Zbu,hpos,if_true,symC,h1,if_false,Qi]
    rw [this]
    simp
theorem Zpe (f:Nat):∀ (ls:List (List Sym)),(∀ l ∈ ls,IsT f l)→∀ (k k':Nat) (sep:List UInt8),scan ls.flatten k=some k'→Zvk sep ls=Zgu f sep ls (List.range k):=by
 intro ls
 induction ls with
 | nil=>intro _ k k' sep _; rfl
 | cons l ls ih =>
  intro hls k k' sep hsc
  rw [List.flatten_cons] at hsc
  obtain ⟨j,h1,h2⟩:=Zme hsc
  obtain ⟨w1,w2⟩:=Ybg f l (hls l (by simp)) k j h1
  have h3:=w2 [] []
  simp only [Qs,Zbj,Zbu,List.nil_append] at h3
  rw [Zvk,Zgu,w1,h3,ih (fun x hx=>hls x (by simp [hx])) j k' _ h2]
  simp
def Worded (ts:List Tok):Prop:=∀ i t,ts[i]?=some t→i+1<ts.length→t.text≠[]
theorem Worded.drop {ts:List Tok} (h:Worded ts) (n:Nat):Worded (ts.drop n):=by
 intro i t hi hl
 rw [List.getElem?_drop] at hi
 rw [List.length_drop] at hl
 exact h (n+i) t hi (by omega)
theorem Worded.tail {t:Tok} {ts:List Tok} (h:Worded (t::ts)):Worded ts:=by simpa using h.drop 1
theorem Zpf (names:Names) (s:List UInt8) (r:List Sym):scan (⟨[],(Zbk names s).2,0⟩::r) names.length=scan r (Zbk names s).1.length:=by
 unfold Zbk
 split
 ·rename_i h
  have:=List.idxOf_lt_length_of_mem h
  simp [scan,this]
 ·simp [scan]
theorem Zvm (f:Nat) (IH:∀ ts names r,Worded ts→Zcz f ts names=some r→IsT f r.1∧scan r.1 names.length=some r.2.2.length) (k0:Nat) :
  ∀ (g:Nat) (ts:List Tok) (names:Names) (acc:List (List Sym)) r,Worded ts→(∀ l ∈ acc,IsT f l)→scan acc.flatten k0=some names.length→Zen (Zcz f) g ts names acc=some r→(∀ l ∈ r.1,IsT f l)∧scan r.1.flatten k0=some r.2.2.length:=by
 intro g
 induction g with
 | zero=>intro ts names acc r _ _ _ h; simp [Zen] at h
 | succ g ih =>
  intro ts names acc r hw ha hs h
  cases ts with
  | nil=>simp [Zen] at h
  | cons t ts =>
   rw [Zen] at h
   split at h
   ·simp at h; subst h; exact ⟨ha,hs⟩
   ·cases hq:Zcz f ts names with
    | none=>rw [hq] at h; simp at h
    | some q =>
     rw [hq] at h
     simp only at h
     obtain ⟨i1,i2⟩:=IH ts names q hw.tail hq
     obtain ⟨n,_,_,hn,_⟩:=Zeo f ts names q hq
     refine ih q.2.1 q.2.2 (acc++[q.1]) r (by rw [hn]; exact hw.tail.drop n) ?_ ?_ h
     ·intro l hl
      simp at hl
      rcases hl with hl | rfl
      ·exact ha l hl
      ·exact i1
     ·simp only [List.flatten_append,List.flatten_cons,List.flatten_nil,Qs]
      rw [Zhb,hs]
      exact i2
theorem Zjs:∀ (f:Nat) (ts:List Tok) (names:Names) r,Worded ts→Zcz f ts names=some r→IsT f r.1∧scan r.1 names.length=some r.2.2.length:=by
 intro f
 induction f with
 | zero=>intro ts names r _ h; simp [Zcz] at h
 | succ f ih =>
  intro ts names r hw h
  cases ts with
  | nil=>simp [Zcz] at h
  | cons t ts =>
   rw [Zcz] at h
   split at h
   ·simp at h; subst h
    exact ⟨Or.inl ⟨_,rfl⟩,by rw [Zpf]; rfl⟩
   ·cases ts with
    | nil=>simp [Zkf] at h
    | cons u us =>
     have ht:t.text≠[]:=hw 0 t rfl (by simp)
     rw [Zkf] at h
     split at h
     ·simp at h; subst h
      exact ⟨Or.inr ⟨t.text,[],ht,rfl,by simp⟩,by simp [scan,ht]⟩
     ·rw [Option.map_eq_some_iff] at h
      obtain ⟨q,hq,rfl⟩:=h
      obtain ⟨g1,g2⟩:=Zvm f ih names.length _ _ _ _ _ hw.tail (by simp) rfl hq
      exact ⟨Or.inr ⟨t.text,q.1,ht,rfl,g1⟩,by simpa [scan,ht] using g2⟩
theorem Zfc (f:Nat) (k0:Nat):∀ (g:Nat) (ts:List Tok) (names:Names) (acc:List (List Sym)) q,Worded ts→(∀ l ∈ acc,IsT f l)→scan acc.flatten k0=some names.length→Zdd f g ts names acc=some q →
  (∀ l ∈ q.1,IsT f l)∧scan q.1.flatten k0=some q.2.2.length∧Worded q.2.1:=by
 intro g
 induction g with
 | zero=>intro ts names acc q _ _ _ h; simp [Zdd] at h
 | succ g ih =>
  intro ts names acc q hw ha hs h
  rw [Zdd] at h
  cases hq:Zcz f ts names with
  | none=>rw [hq] at h; simp at h
  | some r =>
   rw [hq] at h
   simp only at h
   obtain ⟨i1,i2⟩:=Zjs f ts names r hw hq
   obtain ⟨n,_,_,hn,_⟩:=Zeo f ts names r hq
   have hw1:Worded r.2.1:=by rw [hn]; exact hw.drop n
   have ha1:∀ l ∈ acc++[r.1],IsT f l:=by
    intro l hl
    simp at hl
    rcases hl with hl | rfl
    ·exact ha l hl
    ·exact i1
   have hs1:scan (acc++[r.1]).flatten k0=some r.2.2.length:=by
    simp only [List.flatten_append,List.flatten_cons,List.flatten_nil,Qs]
    rw [Zhb,hs]
    exact i2
   cases hr:r.2.1 with
   | nil=>rw [hr] at h; simp at h
   | cons x rest =>
    rw [hr] at h hw1
    simp only at h
    split at h
    ·simp at h; subst h
     exact ⟨ha1,hs1,hw1.tail⟩
    ·exact ih rest r.2.2 (acc++[r.1]) q hw1.tail ha1 hs1 h
def Good (c:Cls):Prop:=IsT 1000 c.head∧(∀ l ∈ c.body,IsT 1000 l)∧∃ k1 k2,scan c.head 0=some k1∧scan c.body.flatten k1=some k2
theorem Zjt (ts:List Tok) (c:Cls × List Tok) (hw:Worded ts) (h:Zfk ts=some c):Good c.1∧Worded c.2:=by
 rw [Zfk] at h
 cases hp:Zcz 1000 ts [] with
 | none=>rw [hp] at h; simp at h
 | some r =>
  rw [hp] at h
  simp only at h
  obtain ⟨i1,i2⟩:=Zjs 1000 ts [] r hw hp
  obtain ⟨n,_,_,hn,_⟩:=Zeo 1000 ts [] r hp
  have hw1:Worded r.2.1:=by rw [hn]; exact hw.drop n
  cases hr:r.2.1 with
  | nil=>rw [hr] at h; simp at h
  | cons y ys =>
   rw [hr] at h hw1
   simp only at h
   split at h
   ·rw [Option.map_eq_some_iff] at h
    obtain ⟨q,hq,rfl⟩:=h
    obtain ⟨g1,g2,g3⟩:=Zfc 1000 r.2.2.length 1000 ys r.2.2 [] q hw1.tail (by simp) rfl hq
    exact ⟨⟨i1,g1,_,_,i2,g2⟩,g3⟩
   ·simp at h
    subst h
    exact ⟨⟨i1,by simp,_,_,i2,rfl⟩,hw1.tail⟩
theorem Zvn:∀ (g:Nat) (ts:List Tok) (acc cs:List Cls),Worded ts→(∀ c ∈ acc,Good c)→Zie g ts acc=some cs→∀ c ∈ cs,Good c:=by
 intro g
 induction g with
 | zero=>intro ts acc cs _ _ h; simp [Zie] at h
 | succ g ih =>
  intro ts acc cs hw ha h
  cases ts with
  | nil=>simp [Zie] at h
  | cons t ts =>
   rw [Zie] at h
   split at h
   ·simp at h; subst h; exact ha
   ·cases hc:Zfk (t::ts) with
    | none=>rw [hc] at h; simp at h
    | some c =>
     rw [hc] at h
     simp only at h
     obtain ⟨g1,g2⟩:=Zjt _ c hw hc
     refine ih c.2 (acc++[c.1]) cs g2 ?_ h
     intro x hx
     simp at hx
     rcases hx with hx | rfl
     ·exact ha x hx
     ·exact g1
theorem Znn (ls:List (List Sym)) (l:List Sym) (h:l ∈ ls):l.length≤ls.flatten.length:=by
 induction ls with
 | nil=>simp at h
 | cons x ls ih =>
  simp only [Qp] at h
  rw [List.flatten_cons,Qg]
  rcases h with rfl | h
  ·omega
  ·have:=ih h; omega
theorem Zxz:∀ (f:Nat) (l:List Sym),IsT f l→∀ s ∈ l,s.args≤l.length∧(s.name=[]∨s.num=0):=by
 intro f
 induction f with
 | zero=>intro l h; exact h.elim
 | succ f ih =>
  intro l h s hs
  rcases h with ⟨n,rfl⟩ | ⟨nm,ls,h1,rfl,h2⟩
  ·simp at hs; subst hs; simp
  ·have hfl:=Zlw f ls h2
   simp only [Qp] at hs
   rcases hs with rfl | hs
   ·exact ⟨by simp only [Qf]; omega,Or.inr rfl⟩
   ·rw [List.mem_flatten] at hs
    obtain ⟨l',hl',hs⟩:=hs
    obtain ⟨a1,a2⟩:=ih l' (h2 l' hl') s hs
    have:=Znn ls l' hl'
    exact ⟨by simp only [Qf]; omega,a2⟩
theorem Ybh (f:Nat) (l:List Sym) (k k':Nat) (h:IsT f l) (hs:scan l k=some k') (hl:l.length≤1000) (hk:k'≤2600):Zxy l:=by
 refine ⟨by omega,fun s hm => ?_⟩
 obtain ⟨a1,a2⟩:=Zxz f l h s hm
 obtain ⟨_,_,b3⟩:=Zdj l k k' hs
 refine ⟨?_,by omega⟩
 rcases a2 with a2 | a2
 ·have:=b3 s hm a2; omega
 ·omega
theorem Zzt (f:Nat):∀ (ls:List (List Sym)) (k k':Nat),(∀ l ∈ ls,IsT f l)→scan ls.flatten k=some k'→ls.flatten.length≤1000→k'≤2600→∀ l ∈ ls,Zxy l:=by
 intro ls
 induction ls with
 | nil=>intro k k' _ _ _ _ l hl; simp at hl
 | cons l ls ih =>
  intro k k' hT hs hl hk x hx
  rw [List.flatten_cons] at hs hl
  rw [Qg] at hl
  obtain ⟨j,h1,h2⟩:=Zme hs
  obtain ⟨b1,_,_⟩:=Zdj _ _ _ h2
  simp only [Qp] at hx
  rcases hx with rfl | hx
  ·exact Ybh f x k j (hT x (by simp)) h1 (by omega) (by omega)
  ·exact ih j k' (fun y hy=>hT y (by simp [hy])) h2 (by omega) hk x hx
theorem Zcy (s:ByteArray):Worded (Zbd s):=Znd s
theorem Zcr (s:ByteArray) (q:Bool):(runs s q).1=(Zjh (Zbd s) (Zdw q)).1∧((runs s q).1≠0→(runs s q).2.1=(Zjh (Zbd s) (Zdw q)).2)∧((runs s q).1=0→(runs s q).2.2=takes (toks s.data.toList 0) (st0 q)) :=
 Zvd s.size _ _ _ (sim0 q) (Zih _ _)
theorem Zya {ts:List Tok} {L:LookS} (hok:okk ts L) (hf:fin ts) (hw:L.want=5):∃ t r,ts=t::r∧t.kind=4:=by
 cases ts with
 | nil=>exact hf.elim
 | cons t r =>
  refine ⟨t,r,rfl,?_⟩
  apply Classical.byContradiction
  intro hk
  have h:=(Zfm hok (fun hc=>hk hc.1)).1
  unfold Zcn at h
  rw [if_neg (by omega),if_pos hw] at h
  simp at h
theorem Zgh (s:ByteArray) (hs:s.size≤120) (h0:(runs s true).1=0) :
  ∃ q,Zdd 1000 1000 (Zbd s) [] []=some q∧(runs s true).2.2.clauses=[⟨[],q.1,q.2.2⟩]∧Zvk [] q.1=Zgu 1000 [] q.1 []∧q.1.length≤4000∧(∀ l ∈ q.1,Zxy l)∧(Zvk [] q.1).length≤100000000:=by
 obtain ⟨r1,_,r3⟩:=Zcr s true
 have hl:=Zfj s
 have hok:okk (Zbd s) (Zdw true):=r1.symm.trans h0
 obtain ⟨q,L',i,ex,h1,h2,h3,h4,_,_,_,_,h9,h10,h11⟩:=Znl 1000 (Zbd s) (Zdw true) [] (st0 true) (by omega) (by omega) hok (Zuy _ _) rfl rfl rfl rfl rfl rfl rfl
 have hend:(Zbd s).take i=toks s.data.toList 0:=Zzf (Zih _ _) (by
  obtain ⟨t,r,e1,e2⟩:=Zya h2 h3 (by rw [h4]; rfl)
  exact ⟨t,r,by rw [← e1,h9]; rfl,e2⟩)
 rw [hend] at h11
 have h1':Zdd 1000 1000 (Zbd s) [] []=some q:=h1
 have hM:=Zjj (M:=120) 1000 (Zbd s) [] [] q (fun t ht=>Qq (Ziq s t ht) hs) (by simp) h1'
 obtain ⟨g1,g2,_⟩:=Zfc 1000 0 1000 (Zbd s) [] [] q (Zcy s) (by simp) rfl h1'
 have hfl:=Zlw 1000 q.1 g1
 have hlen:q.1.flatten.length≤121:=by have:=hM.1; simp only [List.flatten_nil,Jt] at this; omega
 obtain ⟨_,b2,_⟩:=Zdj _ _ _ g2
 have hw:=Zpe 1000 q.1 g1 0 _ [] g2
 simp only [List.range_zero] at hw
 have hwl:=Zot 1000 q.1 g1 (fun x hx=>Qq (hM.2.1 x hx) (by omega)) [] [] (by simp) (by simp only [Jt]; omega)
 refine ⟨q,h1',?_,hw,by omega,Zzt 1000 q.1 0 _ g1 g2 (by omega) (by omega),?_⟩
 ·rw [r3 h0,h11,h10]
  rfl
 ·rw [hw]; omega
theorem Zsm (n:Nat) (seen:List Nat):wvar n seen=(Zdu (seen.idxOf n),meet n seen):=by
 unfold wvar meet
 by_cases h:n ∈ seen
 ·have:=List.idxOf_lt_length_of_mem h
  rw [if_pos h,if_neg (by omega)]
 ·have e:seen.idxOf n=seen.length:=List.idxOf_eq_length h
  rw [if_neg h,if_pos e,e]
theorem Zsn (f:Nat) (IH:∀ l,IsT f l→∀ seen,(Zca f l seen).2.1=(Zar l seen).2∧∀ rest miss,Zbu ((Zar l seen).1++rest) miss=(Zca f l seen).1++((Zbj miss).1++Zbu rest (Zbj miss).2)) :
  ∀ (ls:List (List Sym)),ls≠[]→(∀ l ∈ ls,IsT f l)→∀ (seen:List Nat) (sep:UInt8),(Zdv f sep ls seen).2=(Zar ls.flatten seen).2 ∧
   ∀ rest miss,sep::Zbu ((Zar ls.flatten seen).1++rest) (ls.length::miss)=(Zdv f sep ls seen).1++(41::((Zbj miss).1++Zbu rest (Zbj miss).2)):=by
 intro ls
 induction ls with
 | nil=>intro h; exact absurd rfl h
 | cons l ls ih =>
  intro _ hls seen sep
  rw [List.flatten_cons,Zhm]
  obtain ⟨w1,w2⟩:=IH l (hls l (by simp)) seen
  cases ls with
  | nil =>
   simp only [List.flatten_nil,Zar,Zdv,w1,Qs]
   refine ⟨trivial,fun rest miss => ?_⟩
   rw [w2]
   simp [Zbj]
  | cons l2 ls2 =>
   obtain ⟨v1,v2⟩:=ih (by simp) (fun x hx=>hls x (by simp [hx])) (Zar l seen).2 44
   have hk:Zdv f sep (l::l2::ls2) seen=(sep::((Zca f l seen).1++(Zdv f 44 (l2::ls2) (Zar l seen).2).1),(Zdv f 44 (l2::ls2) (Zar l seen).2).2):=by
    rw [Zdv,w1]
   rw [hk]
   refine ⟨v1,fun rest miss => ?_⟩
   simp only [Qi]
   rw [w2]
   have hc:Zbj ((l::l2::ls2).length::miss)=([44],(l2::ls2).length::miss):=by simp [Zbj]
   rw [hc]
   have:=v2 rest miss
   simp only [List.cons_append,List.nil_append,Qi]
   rw [this]
theorem Zno:∀ (f:Nat) (l:List Sym),IsT f l→∀ seen,(Zca f l seen).2.1=(Zar l seen).2∧∀ rest miss,Zbu ((Zar l seen).1++rest) miss=(Zca f l seen).1++((Zbj miss).1++Zbu rest (Zbj miss).2):=by
 intro f
 induction f with
 | zero=>intro l h; exact h.elim
 | succ f ih =>
  intro l h seen
  rcases h with ⟨n,rfl⟩ | ⟨nm,ls,h1,rfl,h2⟩
  ·simp [Zca,Zsm,Zar,Zbu,symC]
  ·have hc:Zar (⟨nm,0,ls.length⟩::ls.flatten) seen=(⟨nm,0,ls.length⟩::(Zar ls.flatten seen).1,(Zar ls.flatten seen).2):=by
    simp [Zar,h1]
   rw [hc]
   cases hls:ls with
   | nil=>simp [Zca,Zbu,symC,h1,Zar]
   | cons l0 ls0 =>
    rw [← hls]
    have hne:ls≠[]:=by rw [hls]; simp
    have hw:=Zid f nm ls h1 h2 hne seen
    obtain ⟨v1,v2⟩:=Zsn f ih ls hne h2 seen 40
    rw [hw]
    refine ⟨v1,fun rest miss => ?_⟩
    have hpos:0<ls.length:=by rw [hls]; simp
    have:=v2 rest miss
    simp only [List.cons_append,Zbu,hpos,if_true,symC,h1,if_false,Qi]
    rw [this]
    simp
theorem Zpg {f:Nat} {l:List Sym} (h:IsT f l) (seen:List Nat):(Zca f l seen).1=Zbu (Zar l seen).1 []∧(Zca f l seen).2.1=(Zar l seen).2:=by
 obtain ⟨h1,h2⟩:=Zno f l h seen
 have:=h2 [] []
 simp only [Qs,Zbj,Zbu] at this
 exact ⟨this.symm,h1⟩
theorem Ybi:∀ (n:Nat) {l:List Sym},l.length≤n→Wf 1 l→IsT n l:=by
 intro n
 induction n with
 | zero=>intro l hl h; have:=Zdh h; omega
 | succ n ih =>
  intro l hl h
  obtain ⟨s,r,rfl,hr,hv⟩:=Zin h
  by_cases hs:s.name=[]
  ·exact Or.inl ⟨s.num,hv hs⟩
  ·obtain ⟨_,_,h3,_⟩:=h
   obtain ⟨ls,e1,rfl,hls⟩:=Zms _ hr
   refine Or.inr ⟨s.name,ls,hs,?_,fun l' hl' => ?_⟩
   ·rw [e1,← h3 hs]
   ·have:=Zbz hl'
    simp only [Qf] at hl
    exact ih (by omega) (hls l' hl')
def Zde (s:ByteArray):Option (List Cls) :=
 if 800<s.size then none else if (Zjh (Zbd s) (Zdw false)).1≠0 then none else Zie 1000 (Zbd s) []
def Zey (s:ByteArray):Option (List (List Sym) × Names) :=
 if 120<s.size then none else if (Zjh (Zbd s) (Zdw true)).1≠0 then none else (Zdd 1000 1000 (Zbd s) [] []).map (fun q=>(q.1,q.2.2))
def Zgk:List UInt8→Names→List (List Sym)→List UInt8
 | sep,x::xs,t::ts=>sep++(x++(61::(Zbu t []++Zgk [44] xs ts)))
 | _,_,_=>[]
def Zdk (names:Names) (n:ND):List UInt8:=if names=[] then [121,101,115] else Zgk [] names (Zau n.vals []).1
def Zdt:List UInt8→List Nat→List UInt8
 | _,[]=>[]
 | sep,k::ks=>sep++(Lib.decDigits k++Zdt [46] ks)
def Zhp (n:ND):List UInt8:=Zdt [] n.used
theorem Zvo:∀ (f:Nat) {l:List Sym},IsT f l→Wf 1 l:=by
 intro f
 induction f with
 | zero=>intro l h; exact h.elim
 | succ f ih =>
  intro l h
  rcases h with ⟨n,rfl⟩ | ⟨nm,ls,h1,rfl,h2⟩
  ·exact Zoo n
  ·refine ⟨by omega,fun e=>absurd e h1,fun _=>rfl,?_⟩
   have:=Zia (fun l hl=>ih (h2 l hl))
   simpa using this
theorem Zyb:∀ (l:List Sym) (k k':Nat),scan l k=some k'→∀ i,k≤i→i<k'→Occ i l:=by
 intro l
 induction l with
 | nil=>intro k k' h i h1 h2; simp [scan] at h; omega
 | cons s l ih =>
  intro k k' h i h1 h2
  simp only [scan] at h
  have up:Occ i l→Occ i (s::l):=fun ⟨t,ht,e1,e2⟩=>⟨t,by simp [ht],e1,e2⟩
  split at h
  ·rename_i hn
   split at h
   ·exact up (ih _ _ h i h1 h2)
   ·split at h
    ·rename_i hk
     rcases Nat.lt_or_ge k i with h3 | h3
     ·exact up (ih _ _ h i h3 h2)
     ·exact ⟨s,by simp,hn,by omega⟩
    ·simp at h
  ·exact up (ih _ _ h i h1 h2)
theorem Zph {f:Nat}:∀ {g:Nat} {ts:List Tok} {names:Names} {acc:List (List Sym)} {q},Zdd f g ts names acc=some q→acc.length<q.1.length:=by
 intro g
 induction g with
 | zero=>intro ts names acc q h; simp [Zdd] at h
 | succ g ih =>
  intro ts names acc q h
  rw [Zdd] at h
  cases hq:Zcz f ts names with
  | none=>rw [hq] at h; simp at h
  | some r =>
   rw [hq] at h
   simp only at h
   cases hr:r.2.1 with
   | nil=>rw [hr] at h; simp at h
   | cons x rest =>
    rw [hr] at h
    simp only at h
    split at h
    ·simp at h; subst h; simp
    ·have:=ih h; simp at this; omega
def Zzu (c:Cls):Prop:=∃ k1,scan c.head 0=some k1∧scan c.body.flatten k1=some c.n
theorem Znp (ts:List Tok) (c:Cls × List Tok) (hw:Worded ts) (h:Zfk ts=some c):Zzu c.1:=by
 rw [Zfk] at h
 cases hp:Zcz 1000 ts [] with
 | none=>rw [hp] at h; simp at h
 | some r =>
  rw [hp] at h
  simp only at h
  obtain ⟨i1,i2⟩:=Zjs 1000 ts [] r hw hp
  obtain ⟨n,_,_,hn,_⟩:=Zeo 1000 ts [] r hp
  have hw1:Worded r.2.1:=by rw [hn]; exact hw.drop n
  cases hr:r.2.1 with
  | nil=>rw [hr] at h; simp at h
  | cons y ys =>
   rw [hr] at h hw1
   simp only at h
   split at h
   ·rw [Option.map_eq_some_iff] at h
    obtain ⟨q,hq,rfl⟩:=h
    obtain ⟨g1,g2,g3⟩:=Zfc 1000 r.2.2.length 1000 ys r.2.2 [] q hw1.tail (by simp) rfl hq
    exact ⟨_,i2,g2⟩
   ·simp at h
    subst h
    exact ⟨_,i2,rfl⟩
theorem Zso:∀ (g:Nat) (ts:List Tok) (acc cs:List Cls),Worded ts→(∀ c ∈ acc,Zzu c)→Zie g ts acc=some cs→∀ c ∈ cs,Zzu c:=by
 intro g
 induction g with
 | zero=>intro ts acc cs _ _ h; simp [Zie] at h
 | succ g ih =>
  intro ts acc cs hw ha h
  cases ts with
  | nil=>simp [Zie] at h
  | cons t ts =>
   rw [Zie] at h
   split at h
   ·simp at h; subst h; exact ha
   ·cases hc:Zfk (t::ts) with
    | none=>rw [hc] at h; simp at h
    | some c =>
     rw [hc] at h
     simp only at h
     obtain ⟨_,g2⟩:=Zjt _ c hw hc
     have g1:=Znp _ c hw hc
     refine ih c.2 (acc++[c.1]) cs g2 ?_ h
     intro x hx
     simp at hx
     rcases hx with hx | rfl
     ·exact ha x hx
     ·exact g1
theorem Znq (s:ByteArray) (hs:s.size≤800) (h0:(runs s false).1=0):∃ cs,Zie 1000 (Zbd s) []=some cs∧(runs s false).2.2.clauses=cs:=by
 obtain ⟨r1,_,r3⟩:=Zcr s false
 have hl:=Zfj s
 have hok:okk (Zbd s) (Zdw false):=r1.symm.trans h0
 obtain ⟨cs,i,ex,h1,h2,h3,h4⟩:=Zxx 1000 (Zbd s) (Zdw false) [] (st0 false) (by omega) (by omega) hok (Zuy _ _) rfl rfl rfl rfl ⟨rfl,rfl,rfl,rfl,rfl,rfl,rfl,rfl⟩
 rw [show (Zbd s).take i=toks s.data.toList 0 from Zzf (Zih _ _) h2] at h4
 rw [List.nil_append] at h3
 subst h3
 refine ⟨cs,h1,?_⟩
 rw [r3 h0,h4]
 rfl
theorem Zek {s:ByteArray} {cs:List Cls} (h:Zde s=some cs):s.size≤800∧(runs s false).1=0∧(runs s false).2.2.clauses=cs∧(∀ c ∈ cs,COk c∧CNm c)∧cs.length≤24:=by
 unfold Zde at h
 split at h
 ·simp at h
 ·split at h
  ·simp at h
  ·rename_i hs he
   have hs:s.size≤800:=by omega
   obtain ⟨r1,_,_⟩:=Zcr s false
   have h0:(runs s false).1=0:=by rw [r1]; omega
   obtain ⟨cs',e1,e2⟩:=Znq s hs h0
   rw [e1] at h
   simp at h
   subst h
   have hB:SB (runs s false).2.2:=(SB.start false).run h0
   have hg:=Zvn 1000 (Zbd s) [] cs' (Zcy s) (by simp) e1
   have hgn:=Zso 1000 (Zbd s) [] cs' (Zcy s) (by simp) e1
   refine ⟨hs,h0,e2,fun c hc => ?_,by rw [← e2]; exact hB.clsn⟩
   obtain ⟨g1,g2,_⟩:=hg c hc
   obtain ⟨k1,n1,n2⟩:=hgn c hc
   obtain ⟨b1,b2,b3⟩:=hB.cls c (by rw [e2]; exact hc)
   obtain ⟨c1,c2,c3⟩:=hB.cn c (by rw [e2]; exact hc)
   obtain ⟨x1,x2,x3⟩:=Zdj _ _ _ n1
   obtain ⟨y1,y2,y3⟩:=Zdj _ _ _ n2
   have hfl:c.body.flatten.length≤180:=by
    have key:∀ ls:List (List Sym),(∀ t ∈ ls,t.length≤30)→ls.flatten.length≤30 * ls.length:=by
     intro ls
     induction ls with
     | nil=>intro _; simp
     | cons t ts ih =>
      intro h
      have h1:=h t (by simp)
      have h2:=ih (fun y hy=>h y (by simp [hy]))
      simp only [List.flatten_cons,Qg,Qf]; omega
    have:=key c.body b2
    omega
   refine ⟨⟨Zvo 1000 g1,fun t ht=>Zvo 1000 (g2 t ht),?_,?_,by omega,b1,b2,b3⟩,fun x hx=>Qq (c1 x hx) (by omega),fun t ht x hx=>Qq (c2 t ht x hx) (by omega)⟩
   ·rintro v ⟨x,hx,e1,e2⟩
    have:=x3 x hx e1
    omega
   ·rintro t ht v ⟨x,hx,e1,e2⟩
    have:=y3 x (List.mem_flatten.2 ⟨t,ht,hx⟩) e1
    omega
theorem Zee {s:ByteArray} {a:List (List Sym) × Names} (h:Zey s=some a):s.size≤120∧(runs s true).1=0∧(runs s true).2.2.clauses=[⟨[],a.1,a.2⟩]∧NOk (topN a)∧NNm (topN a)∧a.1.length≤6∧a.1≠[]∧a.2.length≤121∧(∀ x ∈ a.2,x.length≤8):=by
 unfold Zey at h
 split at h
 ·simp at h
 ·split at h
  ·simp at h
  ·rename_i hs he
   have hs:s.size≤120:=by omega
   obtain ⟨r1,_,_⟩:=Zcr s true
   have h0:(runs s true).1=0:=by rw [r1]; omega
   obtain ⟨q,e1,e2,_⟩:=Zgh s hs h0
   rw [e1] at h
   simp at h
   subst h
   have hB:SB (runs s true).2.2:=(SB.start true).run h0
   obtain ⟨g1,g2,_⟩:=Zfc 1000 0 1000 (Zbd s) [] [] q (Zcy s) (by simp) rfl e1
   obtain ⟨b1,b2,b3⟩:=hB.cls ⟨[],q.1,q.2.2⟩ (by rw [e2]; simp)
   obtain ⟨c1,c2,c3⟩:=hB.cn ⟨[],q.1,q.2.2⟩ (by rw [e2]; simp)
   obtain ⟨x1,x2,x3⟩:=Zdj _ _ _ g2
   have hl:=Zfj s
   have hM:=Zjj (M:=120) 1000 (Zbd s) [] [] q (fun t ht=>Qq (Ziq s t ht) hs) (by simp) e1
   have hM1:=hM.1
   simp only [List.flatten_nil,Jt] at hM1
   simp only at b2 b3 c2 c3
   have hwf:∀ t ∈ q.1,Wf 1 t:=fun t ht=>Zvo 1000 (g1 t ht)
   have hne:q.1≠[]:=by
    intro e
    have:=Zph e1
    rw [e] at this
    simp at this
   refine ⟨hs,h0,e2,⟨?_,?_,?_,by simp [topN],?_,by simp [topN]; omega,by simp [topN],by simp [topN],by simp [topN]; omega,by simp [topN]; omega⟩,?_,b3,hne,by simp only; omega,c3⟩
   ·intro t ht
    simp only [ND.terms,topN,List.map_map,List.map_nil,Qs,Qk,List.mem_map,Function.comp] at ht
    rcases ht with ⟨u,hu,rfl⟩ | ⟨i,_,rfl⟩
    ·exact hwf u hu
    ·exact Zoo i
   ·intro t ht v hv
    simp only [ND.terms,topN,List.map_map,List.map_nil,Qs,Qk,List.mem_map,Function.comp,List.mem_range] at ht
    show v<q.2.2.length
    rcases ht with ⟨u,hu,rfl⟩ | ⟨i,hi,rfl⟩
    ·obtain ⟨x,hx,e3,e4⟩:=hv
     have:=x3 x (List.mem_flatten.2 ⟨_,hu,hx⟩) e3
     omega
    ·have:=Zim.1 hv; omega
   ·intro g hg
    simp only [topN,List.mem_map] at hg
    obtain ⟨t,ht,rfl⟩:=hg
    exact ⟨b2 t ht,by simp [topN]⟩
   ·intro t ht
    simp only [topN,List.mem_map,List.mem_range] at ht
    obtain ⟨i,hi,rfl⟩:=ht
    obtain ⟨x,hx,e3,e4⟩:=Zyb _ _ _ g2 i (Qm _) hi
    obtain ⟨u,hu,hxu⟩:=List.mem_flatten.1 hx
    obtain ⟨p,r,e5⟩:=List.append_of_mem hxu
    have hargs:=Zov (hwf u hu) x hxu e3
    have ex:x=⟨[],i,0⟩:=by
     cases x
     simp only at e3 e4 hargs
     subst e3 e4 hargs
     rfl
    refine ⟨(u,0),by simp only [topN,Qs,List.mem_map]; exact ⟨u,hu,rfl⟩,p,r,?_⟩
    show u=p++vr i++r
    rw [e5,ex]; simp [vr]
   ·intro t ht
    simp only [ND.terms,topN,List.map_map,List.map_nil,Qs,Qk,List.mem_map,Function.comp] at ht
    rcases ht with ⟨u,hu,rfl⟩ | ⟨i,_,rfl⟩
    ·exact fun x hx=>Qq (c2 u hu x hx) (by omega)
    ·exact Znh i
end Go.Proofs.YtlmjilpjmgjjcabDoor
namespace Go.Proofs.YtlmjilpjmgjjcabDoor
open Go.RowKit
theorem Znr {l:List Sym} (hl:l.length≤1000) (hw:Wf 1 l) (hn:∀ s ∈ l,s.name.length≤4096) {seen:List Nat} (hs:seen.length+l.length≤4000) :
  (Zbu (Zar l seen).1 []).length≤4100 * l.length∧(Zar l seen).2.length≤seen.length+l.length:=by
 have hT:=Ybi 1000 hl hw
 obtain ⟨h1,h2⟩:=Zpg hT seen
 have:=Zmx 1000 l hT hn seen hs
 rw [h1,h2] at this
 omega
theorem Zvp:∀ (names:Names) (ts:List (List Sym)) (sep:List UInt8) (seen:List Nat),(∀ x ∈ names,x.length≤4096)→(∀ t ∈ ts,Wf 1 t∧t.length≤1000∧∀ s ∈ t,s.name.length≤4096)→sep.length≤1→seen.length+ts.flatten.length≤4000 →
  (Zgk sep names (Zau ts seen).1).length≤4098 * names.length+4100 * ts.flatten.length:=by
 intro names
 induction names with
 | nil=>intro ts sep seen _ _ _ _; cases ts <;> simp [Zau,Zgk]
 | cons x xs ih =>
  intro ts sep seen h1 h2 h3 h4
  cases ts with
  | nil=>simp [Zau,Zgk]
  | cons t ts =>
   obtain ⟨t1,t2,t3⟩:=h2 t (by simp)
   simp only [List.flatten_cons,Qg] at h4 ⊢
   obtain ⟨c1,c2⟩:=Znr t2 t1 t3 (seen:=seen) (by omega)
   have h:=ih ts [44] (Zar t seen).2 (fun y hy=>h1 y (by simp [hy])) (fun y hy=>h2 y (by simp [hy])) (by simp) (by omega)
   have hx:=h1 x (by simp)
   simp only [Zau,Zgk,Qg,Qf]
   omega
theorem Zvq {n:ND} {c:Cls} {k:Nat} (h:(tryN n c k).2=1∨(tryN n c k).2=2):(tryN n c k).1.vals.length=n.vals.length:=by
 by_cases hex:∃ r:ND × Nat,∃ m,NOk m∧Same m n∧Out m c k r.2 r.1
 ·have e:tryN n c k=Classical.choose hex:=by unfold tryN; rw [dif_pos hex]
  obtain ⟨m,_,hS,g,gs,_,ho⟩:=Classical.choose_spec hex
  rw [e] at h ⊢
  rcases ho with ⟨h0,_⟩ | ⟨h0,_⟩ | ⟨σ,_,_,_,h4⟩
  ·omega
  ·omega
  ·rw [h4]; simp [Zas,hS.vl]
 ·have e:tryN n c k=(⟨[],[],[],[],0⟩,0):=by unfold tryN; rw [dif_neg hex]
  rw [e] at h
  simp at h
theorem Zhq {n:ND} {c:Cls} {k:Nat} (h:(tryN n c k).2=1∨(tryN n c k).2=2):(tryN n c k).1.used=n.used++[k]:=by
 by_cases hex:∃ r:ND × Nat,∃ m,NOk m∧Same m n∧Out m c k r.2 r.1
 ·have e:tryN n c k=Classical.choose hex:=by unfold tryN; rw [dif_pos hex]
  obtain ⟨m,_,hS,g,gs,_,ho⟩:=Classical.choose_spec hex
  rw [e] at h ⊢
  rcases ho with ⟨h0,_⟩ | ⟨h0,_⟩ | ⟨σ,_,_,_,h4⟩
  ·omega
  ·omega
  ·rw [h4]; simp [Zas,hS.used]
 ·have e:tryN n c k=(⟨[],[],[],[],0⟩,0):=by unfold tryN; rw [dif_neg hex]
  rw [e] at h
  simp at h
theorem Zsp:∀ (ks:List Nat) (sep:List UInt8),sep.length≤1→(∀ k ∈ ks,k≤99)→(Zdt sep ks).length≤101 * ks.length:=by
 intro ks
 induction ks with
 | nil=>intro sep _ _; simp [Zdt]
 | cons k ks ih =>
  intro sep hs hk
  have h1:=ih [46] (by simp) (fun j hj=>hk j (by simp [hj]))
  have h2:=hk k (by simp)
  have h3:=Zic k
  simp only [Zdt,Qg,Qf]
  omega
mutual
inductive TreeR (cs:List Cls):ND→List UInt8→Prop
 | leaf (n:ND) (h:n.goals=[]):TreeR cs n [33]
 | node (n:ND) (t:List UInt8) (h:n.goals≠[]) (hp:Part cs n cs.length t):TreeR cs n ([40]++t++[41])
inductive Part (cs:List Cls):ND→Nat→List UInt8→Prop
 | zero (n:ND):Part cs n 0 []
 | miss (n:ND) (k:Nat) (t:List UInt8) (c:Cls) (h:Part cs n k t) (hc:cs[k]?=some c) (hq:(tryN n c k).2=0):Part cs n (k+1) t
 | kid (n:ND) (k:Nat) (t u:List UInt8) (c:Cls) (h:Part cs n k t) (hc:cs[k]?=some c) (hq:(tryN n c k).2=1∨(tryN n c k).2=2) (hu:TreeR cs (tryN n c k).1 u):Part cs n (k+1) (t++Lib.decDigits k++u)
end
structure SN where
 way:List (ND × Nat)
 tries:Nat
 status:Nat
 found:ND
 tree:List UInt8
def Zcm (cs:List Cls):List (ND × Nat)→List UInt8→List (ND × Nat) × List UInt8
 | (n,k)::r,t=>if cs.length≤k then Zcm cs r (t++[41]) else ((n,k)::r,t)
 | [],t=>([],t)
noncomputable def Zbw (s:SN) (n:ND):SN:=open Classical in if n.goals=[] then { s with tree:=s.tree++[33],status:=1,found:=n } else { s with way:=(n,0)::s.way,tree:=s.tree++[40] }
noncomputable def Zcs (cs:List Cls) (s:SN):SN := { s with way:=(Zcm cs s.way s.tree).1,tree:=(Zcm cs s.way s.tree).2 }
noncomputable def Zaw (cs:List Cls) (s:SN):SN:=match s.way with
 | []=>s
 | (n,k)::r=>match cs[k]? with
  | none=>s
  | some c=>Zcs cs (if (tryN n c k).2=3 then { s with way:=(n,k+1)::r,tries:=s.tries+1,status:=3 }
    else if (tryN n c k).2=1∨(tryN n c k).2=2 then Zbw { s with way:=(n,k+1)::r,tries:=s.tries+1,tree:=s.tree++Lib.decDigits k } (tryN n c k).1
    else { s with way:=(n,k+1)::r,tries:=s.tries+1 })
def PH (cs:List Cls) (top:ND):List (ND × Nat)→ND→Nat→List UInt8→Prop
 | [],n,k,T=>n=top∧n.goals≠[]∧k≤cs.length∧∃ t,Part cs n k t∧T=[40]++t
 | x::r,n,k,T=>n.goals≠[]∧k≤cs.length∧∃ t j' c T',x.2=j'+1∧cs[j']?=some c∧((tryN x.1 c j').2=1∨(tryN x.1 c j').2=2)∧n=(tryN x.1 c j').1∧PH cs top r x.1 j' T'∧Part cs n k t∧T=T'++Lib.decDigits j'++([40]++t)
def PW (cs:List Cls) (top:ND):List (ND × Nat)→List UInt8→Prop
 | [],T=>TreeR cs top T
 | (n,k)::r,T=>PH cs top r n k T
theorem PW.part {cs:List Cls} {top n:ND} {k:Nat} {r:List (ND × Nat)} {T:List UInt8} (h:PW cs top ((n,k)::r) T):n.goals≠[]∧k≤cs.length∧∃ t0 t,Part cs n k t∧T=t0++([40]++t)∧∀ k' t',Part cs n k' t'→k'≤cs.length→PW cs top ((n,k')::r) (t0++([40]++t')):=by
 cases r with
 | nil =>
  obtain ⟨h1,h2,h3,t,h4,h5⟩:=h
  exact ⟨h2,h3,[],t,h4,by simpa using h5,fun k' t' hp hk=>⟨h1,h2,hk,t',hp,by simp⟩⟩
 | cons m r =>
  obtain ⟨m,j⟩:=m
  obtain ⟨h1,h2,t,j',c,T',h3,h4,h5,h6,h7,h8,h9⟩:=h
  exact ⟨h1,h2,T'++Lib.decDigits j',t,h8,h9,fun k' t' hp hk=>⟨h1,hk,t',j',c,T',h3,h4,h5,h6,h7,hp,rfl⟩⟩
theorem PW.miss {cs:List Cls} {top n:ND} {k:Nat} {r:List (ND × Nat)} {T:List UInt8} {c:Cls} (h:PW cs top ((n,k)::r) T) (hc:cs[k]?=some c) (hq:(tryN n c k).2=0):PW cs top ((n,k+1)::r) T:=by
 obtain ⟨h1,h2,t0,t,h3,h4,h5⟩:=h.part
 rw [h4]
 exact h5 (k+1) t (.miss n k t c h3 hc hq) (by have:=(Qa.1 hc).1; omega)
theorem PW.kid {cs:List Cls} {top n:ND} {k:Nat} {r:List (ND × Nat)} {T u:List UInt8} {c:Cls} (h:PW cs top ((n,k)::r) T) (hc:cs[k]?=some c) (hq:(tryN n c k).2=1∨(tryN n c k).2=2) (hu:TreeR cs (tryN n c k).1 u):PW cs top ((n,k+1)::r) (T++Lib.decDigits k++u):=by
 obtain ⟨h1,h2,t0,t,h3,h4,h5⟩:=h.part
 rw [h4]
 have:=h5 (k+1) (t++Lib.decDigits k++u) (.kid n k t u c h3 hc hq hu) (by have:=(Qa.1 hc).1; omega)
 simpa using this
theorem PW.down {cs:List Cls} {top n:ND} {k:Nat} {r:List (ND × Nat)} {T:List UInt8} {c:Cls} (h:PW cs top ((n,k)::r) T) (hc:cs[k]?=some c) (hq:(tryN n c k).2=1∨(tryN n c k).2=2) (hg:(tryN n c k).1.goals≠[]):PW cs top (((tryN n c k).1,0)::(n,k+1)::r) (T++Lib.decDigits k++[40]) :=
 ⟨hg,Qm _,[],k,c,T,rfl,hc,hq,rfl,h,.zero _,by simp⟩
theorem PW.up {cs:List Cls} {top n:ND} {k:Nat} {r:List (ND × Nat)} {T:List UInt8} (h:PW cs top ((n,k)::r) T) (hk:cs.length≤k):PW cs top r (T++[41]):=by
 cases r with
 | nil =>
  obtain ⟨h1,h2,h3,t,h4,h5⟩:=h
  have e:k=cs.length:=by omega
  subst e h1 h5
  exact .node n t h2 h4
 | cons m r =>
  obtain ⟨m,j⟩:=m
  obtain ⟨h1,h2,t,j',c,T',h3,h4,h5,h6,h7,h8,h9⟩:=h
  have e:k=cs.length:=by omega
  simp only at h3 h5 h6 h7
  subst e h3 h6 h9
  have h7':PW cs top ((m,j')::r) T':=h7
  have:=h7'.kid h4 h5 (.node _ t h1 h8)
  simpa using this
theorem PW.leave {cs:List Cls} {top:ND}:∀ {way:List (ND × Nat)} {T:List UInt8},PW cs top way T→PW cs top (Zcm cs way T).1 (Zcm cs way T).2:=by
 intro way
 induction way with
 | nil=>intro T h; exact h
 | cons x r ih =>
  obtain ⟨n,k⟩:=x
  intro T h
  unfold Zcm
  split
  ·rename_i hk
   exact ih (h.up hk)
  ·exact h
theorem Zju (n:ND) (c:Cls) (k:Nat):(tryN n c k).2=0∨(tryN n c k).2=1∨(tryN n c k).2=2∨(tryN n c k).2=3:=by
 by_cases hex:∃ r:ND × Nat,∃ m,NOk m∧Same m n∧Out m c k r.2 r.1
 ·have e:tryN n c k=Classical.choose hex:=by unfold tryN; rw [dif_pos hex]
  obtain ⟨m,_,_,g,gs,_,ho⟩:=Classical.choose_spec hex
  rw [e]
  rcases ho with ⟨h0,_⟩ | ⟨h0,_⟩ | ⟨σ,_,_,h3,_⟩
  ·exact Or.inl h0
  ·exact Or.inr (Or.inr (Or.inr h0))
  ·rw [h3]
   unfold Zdy
   split
   ·simp
   ·split <;> simp
 ·have e:tryN n c k=(⟨[],[],[],[],0⟩,0):=by unfold tryN; rw [dif_neg hex]
  rw [e]; simp
theorem PW.try' {cs:List Cls} {top:ND} {s:SN} (h:PW cs top s.way s.tree) (hf:(Zaw cs s).status≠3):PW cs top (Zaw cs s).way (Zaw cs s).tree:=by
 unfold Zaw at hf ⊢
 cases hw:s.way with
 | nil=>rw [hw] at hf h; simpa [hw] using h
 | cons x r =>
  obtain ⟨n,k⟩:=x
  rw [hw] at hf h
  simp only at hf ⊢
  cases hc:cs[k]? with
  | none=>rw [hc] at hf; simp only [hw]; exact h
  | some c =>
   rw [hc] at hf
   simp only at hf ⊢
   by_cases h3:(tryN n c k).2=3
   ·rw [if_pos h3] at hf
    exact absurd rfl hf
   ·rw [if_neg h3]
    by_cases h12:(tryN n c k).2=1∨(tryN n c k).2=2
    ·rw [if_pos h12]
     by_cases hg:(tryN n c k).1.goals=[]
     ·simp only [Zbw,if_pos hg,Zcs]
      have h':PW cs top ((n,k)::r) s.tree:=h
      exact (h'.kid hc h12 (.leaf _ hg)).leave
     ·simp only [Zbw,if_neg hg,Zcs]
      have h':PW cs top ((n,k)::r) s.tree:=h
      exact (h'.down hc h12 hg).leave
    ·rw [if_neg h12]
     simp only [Zcs]
     have h0:(tryN n c k).2=0:=by have:=Zju n c k; omega
     have h':PW cs top ((n,k)::r) s.tree:=h
     exact (h'.miss hc h0).leave
theorem Zvr {w:World} {B:Nat} {e:TypeId} {s g n cap:Nat} {xs:List Value} (h:w.ownsRow B e s (.slice (some ⟨g,0,none⟩) (n+1) cap) (n+1) xs) :
  w.ownsRow B e s (.slice (some ⟨g,0,none⟩) n cap) n (xs.take (n * s)):=by
 have hm:(n+1) * s=n * s+s:=Nat.succ_mul n s
 refine ⟨by have:=h.1; rw [List.length_take]; omega,?_⟩
 rcases h.2 with ⟨h1,_⟩ | ⟨g',cap',cur,h1,hb,hg,hn,hc,hs,ht⟩
 ·simp at h1
 ·simp at h1
  obtain ⟨rfl,rfl⟩:=h1
  refine .inr ⟨g,cap,cur,rfl,hb,hg,by omega,hc,hs,?_⟩
  rw [← ht,List.take_take]
  congr 1
  omega
def Zfw (N:Nat):List (ND × Nat)→List (ND × Nat)
 | []=>[]
 | x::r=>if N≤x.2 then Zfw N r else x::r
theorem Zda (cs:List Cls):∀ (way:List (ND × Nat)) (t:List UInt8),(Zcm cs way t).1=Zfw cs.length way:=by
 intro way
 induction way with
 | nil=>intro t; rfl
 | cons x r ih =>
  obtain ⟨n,k⟩:=x
  intro t
  simp only [Zcm,Zfw]
  split
  ·exact ih _
  ·rfl
theorem Zkx {N:Nat}:∀ {way:List (ND × Nat)} {x:ND × Nat} {r:List (ND × Nat)},Zfw N way=x::r→x.2<N:=by
 intro way
 induction way with
 | nil=>intro x r h; simp [Zfw] at h
 | cons y s ih =>
  intro x r h
  simp only [Zfw] at h
  split at h
  ·exact ih h
  ·rename_i hn
   simp at h
   rw [← h.1]; omega
theorem Zky (N:Nat) (way:List (ND × Nat)):Zfw N (Zfw N way)=Zfw N way:=by
 cases h:Zfw N way with
 | nil=>rfl
 | cons x r =>
  have:=Zkx h
  simp only [Zfw]
  rw [if_neg (by omega)]
noncomputable def Zci (a:List (List Sym) × Names) (st:Nat) (found:ND) (T:List UInt8):List UInt8 × List UInt8 × List UInt8 :=
 if st=1 then (Zdk a.2 found,Zhp found,[]) else if st=2 then ([],[],T) else ([],[],[])
noncomputable def Zjv (n:ND) (c:Cls) (k:Nat) (r:List (ND × Nat)):List (ND × Nat):=if (tryN n c k).2=1 then ((tryN n c k).1,0)::(n,k+1)::r else (n,k+1)::r
noncomputable def Zfx (n:ND) (c:Cls) (k:Nat):Nat:=if (tryN n c k).2=2 then 1 else if (tryN n c k).2=3 then 3 else 0
theorem Zgi {n:ND} {c:Cls} {k:Nat} (h:(tryN n c k).2=1∨(tryN n c k).2=2):(tryN n c k).2=2↔(tryN n c k).1.goals=[]:=by
 by_cases hex:∃ r:ND × Nat,∃ m,NOk m∧Same m n∧Out m c k r.2 r.1
 ·have e:tryN n c k=Classical.choose hex:=by unfold tryN; rw [dif_pos hex]
  obtain ⟨m,_,hS,g,gs,_,ho⟩:=Classical.choose_spec hex
  rw [e] at h ⊢
  rcases ho with ⟨h0,_⟩ | ⟨h0,_⟩ | ⟨σ,_,_,h3,h4⟩
  ·omega
  ·omega
  ·rw [h3,← h4] at h
   rw [h3,← h4]
   unfold Zdy at h ⊢
   split at h
   ·omega
   ·rename_i ho
    rw [if_neg ho]
    split
    ·rename_i hg; simp [hg]
    ·rename_i hg; simp [hg]
 ·have e:tryN n c k=(⟨[],[],[],[],0⟩,0):=by unfold tryN; rw [dif_neg hex]
  rw [e] at h
  simp at h
def Zfd (way:List (ND × Nat)):List Nat:=(way.map (fun x=>x.2 - 1)).reverse
theorem Zkz (n:ND) (k:Nat) (r:List (ND × Nat)):Zfd ((n,k+1)::r)=Zfd r++[k]:=by simp [Zfd]
def UsedW:List (ND × Nat)→Prop
 | []=>True
 | x::r=>x.1.used=Zfd r∧(∀ y ∈ r,1≤y.2)∧UsedW r
theorem UsedW.trim {N:Nat}:∀ {way:List (ND × Nat)},UsedW way→UsedW (Zfw N way):=by
 intro way
 induction way with
 | nil=>intro h; exact h
 | cons x r ih =>
  intro h
  simp only [Zfw]
  split
  ·exact ih h.2.2
  ·exact h
theorem Zns {N:Nat}:∀ {way:List (ND × Nat)} {x:ND × Nat},x ∈ Zfw N way→x ∈ way:=by
 intro way
 induction way with
 | nil=>intro x h; exact h
 | cons y r ih =>
  intro x h
  simp only [Zfw] at h
  split at h
  ·exact List.mem_cons_of_mem _ (ih h)
  ·exact h
theorem Zla (cs:List Cls):∀ (way:List (ND × Nat)) (t:List UInt8),(Zcm cs way t).2.length+(Zcm cs way t).1.length=t.length+way.length:=by
 intro way
 induction way with
 | nil=>intro t; rfl
 | cons x r ih =>
  obtain ⟨n,k⟩:=x
  intro t
  simp only [Zcm]
  split
  ·rw [ih]; simp; omega
  ·rfl
structure InvN (cs:List Cls) (a:List (List Sym) × Names) (s:SN):Prop where
 way:∀ x ∈ s.way,x.1.goals≠[]∧x.1.vals.length=a.2.length∧x.2≤cs.length∧∀ k ∈ x.1.used,k<cs.length
 used:UsedW s.way
 tree:s.status≠3→PW cs (topN a) s.way s.tree
 trim:Zfw cs.length s.way=s.way
 found:s.status=1→s.found.goals=[]∧s.found.vals.length=a.2.length∧∀ k ∈ s.found.used,k<cs.length
 len:s.tree.length+s.way.length≤2+26 * s.tries
 tries:s.tries≤3000
 no:s.status=2→s.way=[]
 st:s.status≤3
theorem Zhr {cs:List Cls} {s:SN} {n:ND} {k:Nat} {r:List (ND × Nat)} {c:Cls} (hw:s.way=(n,k)::r) (hc:cs[k]?=some c) (h0:s.status=0) :
  (Zaw cs s).way=Zfw cs.length (Zjv n c k r)∧(Zaw cs s).status=Zfx n c k∧(Zaw cs s).tries=s.tries+1∧(Zfx n c k=1→(Zaw cs s).found=(tryN n c k).1):=by
 have hk:=Zju n c k
 unfold Zaw
 rw [hw]
 simp only [hc]
 by_cases h3:(tryN n c k).2=3
 ·rw [if_pos h3]
  simp [Zcs,Zda,Zjv,Zfx,h3]
 ·rw [if_neg h3]
  by_cases h12:(tryN n c k).2=1∨(tryN n c k).2=2
  ·rw [if_pos h12]
   by_cases hg:(tryN n c k).1.goals=[]
   ·have h2:=(Zgi h12).2 hg
    simp [Zcs,Zbw,hg,Zda,Zjv,Zfx,h2]
   ·have h2:(tryN n c k).2≠2:=fun h=>hg ((Zgi h12).1 h)
    have h1:(tryN n c k).2=1:=by omega
    simp [Zcs,Zbw,hg,Zda,Zjv,Zfx,h1,h0]
  ·rw [if_neg h12]
   have h00:(tryN n c k).2=0:=by omega
   simp [Zcs,Zda,Zjv,Zfx,h00,h0]
theorem Znt {cs:List Cls} {s:SN} {n:ND} {k:Nat} {r:List (ND × Nat)} {c:Cls} (hw:s.way=(n,k)::r) (hc:cs[k]?=some c) (hk:k<24):(Zaw cs s).tree.length+(Zaw cs s).way.length≤s.tree.length+s.way.length+26:=by
 have hd:(Lib.decDigits k).length≤24:=by
  have:=Zic k
  omega
 unfold Zaw
 rw [hw]
 simp only [hc,Zcs,Zla]
 split
 ·simp
 ·split
  ·unfold Zbw
   split
   ·simp; omega
   ·simp; omega
  ·simp
theorem InvN.try' {cs:List Cls} {a:List (List Sym) × Names} {s:SN} (h:InvN cs a s) (hcl:cs.length≤24) (h0:s.status=0) {n:ND} {k:Nat} {r:List (ND × Nat)} {c:Cls} (hw:s.way=(n,k)::r) (hc:cs[k]?=some c) (ht:s.tries<3000):InvN cs a (Zaw cs s):=by
 obtain ⟨e1,e2,e3,e4⟩:=Zhr hw hc h0
 have hkk:=Zju n c k
 have hklt:=(Qa.1 hc).1
 obtain ⟨w1,w2,w3,w4⟩:=h.way (n,k) (by rw [hw]; simp)
 have hu:=h.used
 rw [hw] at hu
 have hr:∀ x ∈ r,x.1.goals≠[]∧x.1.vals.length=a.2.length∧x.2≤cs.length∧∀ k ∈ x.1.used,k<cs.length:=fun x hx=>h.way x (by rw [hw]; simp [hx])
 have hchild:(tryN n c k).2=1∨(tryN n c k).2=2→(tryN n c k).1.vals.length=a.2.length∧∀ j ∈ (tryN n c k).1.used,j<cs.length:=fun hq=>by
  refine ⟨by rw [Zvq hq]; exact w2,fun j hj => ?_⟩
  rw [Zhq hq] at hj
  rcases Qk.1 hj with hj | hj
  ·exact w4 j hj
  ·simp at hj; omega
 refine ⟨?_,?_,?_,?_,?_,?_,?_,?_,?_⟩
 ·intro x hx
  rw [e1] at hx
  have hx:=Zns hx
  unfold Zjv at hx
  split at hx
  ·rename_i h1
   rcases Qp.1 hx with rfl | hx
   ·have h2:¬ (tryN n c k).1.goals=[]:=fun hg=>by have:=(Zgi (Or.inl h1)).2 hg; omega
    exact ⟨h2,(hchild (Or.inl h1)).1,Qm _,(hchild (Or.inl h1)).2⟩
   ·rcases Qp.1 hx with rfl | hx
    ·exact ⟨w1,w2,by show k+1≤_; omega,w4⟩
    ·exact hr x hx
  ·rcases Qp.1 hx with rfl | hx
   ·exact ⟨w1,w2,by show k+1≤_; omega,w4⟩
   ·exact hr x hx
 ·rw [e1]
  apply UsedW.trim
  unfold Zjv
  split
  ·rename_i h1
   exact ⟨by rw [Zkz,Zhq (Or.inl h1),hu.1],fun y hy=>by
    rcases Qp.1 hy with rfl | hy
    ·exact Nat.succ_le_succ (Qm _)
    ·exact hu.2.1 y hy,hu.1,hu.2⟩
  ·exact ⟨hu.1,hu.2⟩
 ·intro h3
  exact PW.try' (h.tree (by omega)) h3
 ·rw [e1,Zky]
 ·intro h1
  rw [e2] at h1
  rw [e4 h1]
  have hq2:(tryN n c k).2=2:=by
   unfold Zfx at h1
   split at h1
   ·assumption
   ·split at h1 <;> omega
  exact ⟨(Zgi (Or.inr hq2)).1 hq2,(hchild (Or.inr hq2)).1,(hchild (Or.inr hq2)).2⟩
 ·have:=Znt hw hc (by omega)
  have:=h.len
  omega
 ·omega
 ·intro h2
  rw [e2] at h2
  unfold Zfx at h2
  split at h2
  ·omega
  ·split at h2 <;> omega
 ·rw [e2]
  unfold Zfx
  split
  ·omega
  ·split <;> omega
noncomputable def Zcj (cs:List Cls):Nat→SN→SN × Nat
 | 0,s=>(s,0)
 | n+1,s=>open Classical in if s.status=0∧s.way≠[]∧s.tries<3000 then ((Zcj cs n (Zaw cs s)).1,(Zcj cs n (Zaw cs s)).2+1) else (s,0)
def Zfe (s:SN):SN := { s with way:=[],tree:=[],status:=3 }
noncomputable def endN (s:SN):SN:=open Classical in if s.status=3 then Zfe s else if s.status=0 then (if s.way=[] then { s with status:=2 } else if 3000≤s.tries then Zfe s else s) else s
noncomputable def Zct (cs:List Cls) (n:Nat) (s:SN):SN × Nat:=if s.status=2∨s.status=3 then (s,0) else (endN (Zcj cs n { s with status:=0 }).1,(Zcj cs n { s with status:=0 }).2)
theorem InvN.full {cs:List Cls} {a:List (List Sym) × Names} {s:SN} (h:InvN cs a s):InvN cs a (Zfe s) :=
 ⟨fun x hx=>by simp [Zfe] at hx,trivial,fun h3=>absurd rfl h3,rfl,fun h1=>by simp [Zfe] at h1,by simp [Zfe],h.tries,fun _=>rfl,by simp [Zfe]⟩
theorem InvN.end' {cs:List Cls} {a:List (List Sym) × Names} {s:SN} (h:InvN cs a s):InvN cs a (endN s):=by
 unfold endN
 split
 ·exact h.full
 ·split
  ·rename_i h3 h0
   split
   ·rename_i hw
    exact ⟨h.way,h.used,fun _=>h.tree (by omega),h.trim,fun h1=>by simp at h1,h.len,h.tries,fun _=>hw,by simp⟩
   ·split
    ·exact h.full
    ·exact h
  ·exact h
theorem InvN.seek {cs:List Cls} {a:List (List Sym) × Names} {s:SN} (h:InvN cs a s) (h3:s.status≠3):InvN cs a { s with status:=0 } :=
 ⟨h.way,h.used,fun _=>h.tree h3,h.trim,fun h1=>by simp at h1,h.len,h.tries,fun h2=>by simp at h2,by simp⟩
theorem InvN.head {cs:List Cls} {a:List (List Sym) × Names} {s:SN} (h:InvN cs a s) (hw:s.way≠[]):∃ n k r c,s.way=(n,k)::r∧cs[k]?=some c∧n.goals≠[]:=by
 cases e:s.way with
 | nil=>exact absurd e hw
 | cons x r =>
  obtain ⟨n,k⟩:=x
  have ht:=h.trim
  rw [e] at ht
  have hk:=Zkx ht
  exact ⟨n,k,r,_,rfl,Qb hk,(h.way (n,k) (by rw [e]; simp)).1⟩
theorem InvN.loop {cs:List Cls} {a:List (List Sym) × Names} (hcl:cs.length≤24):∀ {n:Nat} {s:SN},InvN cs a s→InvN cs a (Zcj cs n s).1:=by
 intro n
 induction n with
 | zero=>intro s h; exact h
 | succ n ih =>
  intro s h
  unfold Zcj
  split
  ·rename_i hc
   obtain ⟨n',k,r,c,h1,h2,h3⟩:=h.head hc.2.1
   exact ih (h.try' hcl hc.1 h1 h2 hc.2.2)
  ·exact h
theorem InvN.step {cs:List Cls} {a:List (List Sym) × Names} (hcl:cs.length≤24) {n:Nat} {s:SN} (h:InvN cs a s):InvN cs a (Zct cs n s).1:=by
 unfold Zct
 split
 ·exact h
 ·rename_i h3
  exact ((h.seek (by omega)).loop hcl).end'
noncomputable def newN (cs:List Cls) (a:List (List Sym) × Names):SN:=Zcs cs (Zbw ⟨[],0,0,⟨[],[],[],[],0⟩,[]⟩ (topN a))
theorem Zgj {a:List (List Sym) × Names} (h:a.1≠[]):(topN a).goals≠[]:=by simpa [topN] using h
theorem InvN.new (cs:List Cls) {a:List (List Sym) × Names} (ha:a.1≠[]):InvN cs a (newN cs a):=by
 have hg:=Zgj ha
 have hp:PW cs (topN a) [(topN a,0)] [40]:=⟨rfl,hg,Qm _,[],.zero _,by simp⟩
 unfold newN Zbw
 rw [if_neg hg]
 refine ⟨?_,?_,?_,?_,?_,?_,?_,?_,?_⟩
 ·intro x hx
  simp only [Zcs,Zda] at hx
  have hx:=Zns hx
  simp at hx
  subst hx
  exact ⟨hg,by simp [topN],Qm _,fun k hk=>by simp [topN] at hk⟩
 ·simp only [Zcs,Zda]
  exact UsedW.trim ⟨rfl,fun y hy=>by simp at hy,trivial⟩
 ·intro _
  exact hp.leave
 ·simp only [Zcs,Zda]
  exact Zky _ _
 ·intro h; simp [Zcs] at h
 ·simp only [Zcs,Zla]
  simp
 ·simp [Zcs]
 ·intro h; simp [Zcs] at h
 ·simp [Zcs]
def Zeq (s:SN):Prop:=s.status=1→s.found.used≠[]
theorem Znu {s:SN} {n:ND} (h:s.status≠1) (hn:n.used≠[]):Zeq (Zbw s n):=by
 unfold Zbw
 split
 ·exact fun _=>hn
 ·exact fun e=>absurd e h
theorem Zsq {cs:List Cls} {s:SN} (h0:s.status=0):Zeq (Zaw cs s):=by
 unfold Zaw
 split
 ·exact fun e=>by omega
 ·split
  ·exact fun e=>by omega
  ·rename_i n k r _ c hc
   show Zeq (Zcs cs _)
   have hl:∀ u:SN,Zeq u→Zeq (Zcs cs u):=fun u h e=>h e
   apply hl
   split
   ·exact fun e=>by simp at e
   ·split
    ·rename_i h12
     exact Znu (by simp only; omega) (by rw [Zhq h12]; simp)
    ·exact fun e=>by simp only at e; omega
theorem Zpi {cs:List Cls}:∀ {n:Nat} {s:SN},Zeq s→Zeq (Zcj cs n s).1:=by
 intro n
 induction n with
 | zero=>intro s h; exact h
 | succ n ih =>
  intro s h
  unfold Zcj
  split
  ·rename_i hc
   exact ih (Zsq hc.1)
  ·exact h
theorem Zpj {cs:List Cls} {n:Nat} {s:SN} (h:Zeq s):Zeq (Zct cs n s).1:=by
 unfold Zct
 split
 ·exact h
 ·have h1:Zeq (Zcj cs n { s with status:=0 }).1:=Zpi (fun e=>by simp at e)
  show Zeq (endN _)
  unfold endN
  split
  ·exact fun e=>by simp [Zfe] at e
  ·split
   ·split
    ·exact fun e=>by simp at e
    ·split
     ·exact fun e=>by simp [Zfe] at e
     ·exact h1
   ·exact h1
def Zvs (s:SN):Prop:=s.status=0→s.way≠[]∧s.tries<3000
theorem Zzv {cs:List Cls} {n:Nat} {s:SN} (h:Zvs s):Zvs (Zct cs n s).1:=by
 unfold Zct
 split
 ·exact h
 ·show Zvs (endN _)
  unfold endN
  split
  ·exact fun e=>by simp [Zfe] at e
  ·split
   ·split
    ·exact fun e=>by simp at e
    ·split
     ·exact fun e=>by simp [Zfe] at e
     ·rename_i h1 h2
      exact fun _=>⟨h1,by omega⟩
   ·rename_i h1
    exact fun e=>absurd e h1
theorem Zyc {cs:List Cls}:∀ {n:Nat} {s:SN},(Zcj cs n s).2≤n:=by
 intro n
 induction n with
 | zero=>intro s; simp [Zcj]
 | succ n ih=>intro s; unfold Zcj; split <;> simp [ih]
theorem Zyd {cs:List Cls} {n:Nat} {s:SN}:(Zct cs n s).2≤n:=by
 unfold Zct
 split
 ·simp
 ·exact Zyc
theorem Zsr {cs:List Cls}:∀ {n:Nat} {s:SN},(Zcj cs n s).2<n→¬ ((Zcj cs n s).1.status=0∧(Zcj cs n s).1.way≠[]∧(Zcj cs n s).1.tries<3000):=by
 intro n
 induction n with
 | zero=>intro s h; omega
 | succ n ih =>
  intro s h
  unfold Zcj at h ⊢
  split at h
  ·rename_i hc
   rw [if_pos hc]
   exact ih (by simpa using h)
  ·rename_i hc
   rw [if_neg hc]
   exact hc
theorem Zss {cs:List Cls} {n:Nat} {s:SN} (h:(Zct cs n s).2<n):(Zct cs n s).1.status≠0:=by
 unfold Zct at h ⊢
 split at h
 ·rename_i hc
  rw [if_pos hc]
  simp only; omega
 ·rename_i hc
  rw [if_neg hc]
  have h1:=Zsr h
  simp only
  unfold endN
  split
  ·simp [Zfe]
  ·split
   ·rename_i h3 h0
    split
    ·simp
    ·split
     ·simp [Zfe]
     ·rename_i hw ht
      exact absurd ⟨h0,hw,by omega⟩ h1
   ·rename_i h0
    exact h0
theorem Zst {cs:List Cls} {n:Nat} {s:SN} (hn:0<n) (hs:s.status≠2∧s.status≠3) (h:(Zct cs n s).1.status=0∨(Zct cs n s).1.status=1):(Zct cs n s).2≠0:=by
 intro h0
 unfold Zct at h h0
 rw [if_neg (by omega)] at h h0
 simp only at h h0
 obtain ⟨m,rfl⟩:∃ m,n=m+1:=⟨n - 1,by omega⟩
 unfold Zcj at h h0
 split at h
 ·rename_i hc
  rw [if_pos hc] at h0
  simp at h0
 ·rename_i hc
  simp only at h
  unfold endN at h
  simp only at h hc
  rw [if_neg (by omega),if_pos trivial] at h
  split at h
  ·simp at h
  ·rename_i hw
   split at h
   ·simp [Zfe] at h
   ·rename_i ht
    exact hc ⟨trivial,hw,by omega⟩
theorem Znv (k:Nat):Lib.decDigits k≠[]:=by
 rw [Lib.decDigits]
 split <;> simp
theorem Zsu {names:Names} {n:ND} (h:n.vals.length=names.length):Zdk names n≠[]:=by
 unfold Zdk
 split
 ·simp
 ·rename_i hn
  have hl:=Zec n.vals []
  cases names with
  | nil=>exact absurd rfl hn
  | cons x xs =>
   cases hc:(Zau n.vals []).1 with
   | nil=>rw [hc] at hl; simp at hl h; omega
   | cons t ts=>simp [Zgk]
theorem Zpk {n:ND} (h:n.used≠[]):Zhp n≠[]:=by
 unfold Zhp
 cases hu:n.used with
 | nil=>exact absurd hu h
 | cons k ks =>
  simp only [Zdt]
  intro e
  have h1:=List.append_eq_nil_iff.1 e
  exact Znv k (List.append_eq_nil_iff.1 h1.2).1
theorem Zye {cs:List Cls} {n:ND} {t:List UInt8} (h:TreeR cs n t):t≠[]:=by
 cases h <;> simp
theorem Zii {cs:List Cls} {a:List (List Sym) × Names} {s:SN} (hI:InvN cs a s) (hF:Zeq s) :
  ((Zci a s.status s.found s.tree).1=[]↔s.status≠1)∧((Zci a s.status s.found s.tree).2.1=[]↔s.status≠1)∧((Zci a s.status s.found s.tree).2.2=[]↔s.status≠2):=by
 unfold Zci
 by_cases h1:s.status=1
 ·rw [if_pos h1]
  have ha:=Zsu (hI.found h1).2.1
  have hw:=Zpk (hF h1)
  simp [h1,ha,hw]
 ·rw [if_neg h1]
  by_cases h2:s.status=2
  ·rw [if_pos h2]
   have ht:=hI.tree (by omega)
   rw [hI.no h2] at ht
   have:=Zye ht
   simp [h1,h2,this]
  ·rw [if_neg h2]
   simp [h1,h2]
structure Tr where
 ans:List (List UInt8)
 wts:List (List UInt8)
 tries:Nat
 status:Nat
def Zft (size left:Nat):Nat:=if left<size then left else size
noncomputable def addN (a:List (List Sym) × Names) (t:Tr) (r:SN × Nat):Tr :=
 if r.1.status=1 then ⟨t.ans++[(Zci a r.1.status r.1.found r.1.tree).1],t.wts++[(Zci a r.1.status r.1.found r.1.tree).2.1],t.tries+r.2,r.1.status⟩ else ⟨t.ans,t.wts,t.tries+r.2,r.1.status⟩
noncomputable def aftN (cs:List Cls) (a:List (List Sym) × Names) (tries size:Nat):Nat→SN→Tr→SN × Tr
 | 0,m,t=>(m,t)
 | f+1,m,t=>if t.tries<tries then
   (if (Zct cs (Zft size (tries - t.tries)) m).1.status=2∨(Zct cs (Zft size (tries - t.tries)) m).1.status=3 then ((Zct cs (Zft size (tries - t.tries)) m).1,addN a t (Zct cs (Zft size (tries - t.tries)) m))
    else aftN cs a tries size f (Zct cs (Zft size (tries - t.tries)) m).1 (addN a t (Zct cs (Zft size (tries - t.tries)) m)))
   else (m,t)
end Go.Proofs.YtlmjilpjmgjjcabDoor
namespace Go.Proofs.YtlmjilpjmgjjcabDoor
def skip:Nat→List Sym→Nat
 | 0,_=>0
 | _+1,[]=>0
 | k+1,s::r=>skip (k+s.args) r+1
theorem Zhc:∀ {a:List Sym} {j:Nat} (r:List Sym),Wf j a→skip j (a++r)=a.length:=by
 intro a
 induction a with
 | nil=>intro j r h; have h:j=0:=h; subst h; simp [skip]
 | cons s a ih =>
  intro j r h
  obtain ⟨h1,_,_,h2⟩:=h
  obtain ⟨k,rfl⟩:∃ k,j=k+1:=⟨j - 1,by omega⟩
  simp only [List.cons_append,skip,Qf]
  rw [ih r (by simpa using h2)]
theorem Zzw:∀ {l:List Sym} {k:Nat} (i:Nat),Wf k l→i≤l.length→∃ k',Wf k' (l.drop i):=by
 intro l
 induction l with
 | nil=>intro k i h hi; simp at hi; subst hi; exact ⟨k,h⟩
 | cons s l ih =>
  intro k i h hi
  cases i with
  | zero=>exact ⟨k,h⟩
  | succ i =>
   obtain ⟨_,_,_,h2⟩:=h
   simp only [List.drop_succ_cons]
   exact ih i h2 (by simpa using hi)
def Zaz (l:List Sym) (i:Nat):Nat:=i+skip 1 (l.drop i)
def tmAt (l:List Sym) (i:Nat):List Sym:=(l.drop i).take (skip 1 (l.drop i))
def Zax (l:List Sym):Nat→Nat→List Nat
 | _,0=>[]
 | p,m+1=>p::Zax l (Zaz l p) m
def Zan (l:List Sym):Nat→Nat→Nat
 | p,0=>p
 | p,m+1=>Zan l (Zaz l p) m
theorem Zcf (l:List Sym) (p m:Nat):(Zax l p m).length=m:=by
 induction m generalizing p with
 | zero=>rfl
 | succ m ih=>simp [Zax,ih]
theorem Zbq (l:List Sym) (p m:Nat):Zan l p (m+1)=Zaz l (Zan l p m):=by
 induction m generalizing p with
 | zero=>rfl
 | succ m ih=>rw [Zan,ih]; rfl
theorem Zbn (l:List Sym) (p m i:Nat) (hi:i<m):(Zax l p m)[i]?=some (Zan l p i):=by
 induction m generalizing p i with
 | zero=>omega
 | succ m ih =>
  cases i with
  | zero=>rfl
  | succ i=>simp only [Zax,List.getElem?_cons_succ,Zan]; exact ih _ _ (by omega)
theorem Zdl {l:List Sym} {k i:Nat} (h:Wf k l) (hi:i<l.length):Wf 1 (tmAt l i)∧∃ r,l.drop i=tmAt l i++r∧r=l.drop (Zaz l i)∧i<Zaz l i∧Zaz l i≤l.length∧(tmAt l i).length=skip 1 (l.drop i):=by
 obtain ⟨k',hk⟩:=Zzw i h (by omega)
 have hpos:0<k':=by
  rcases Nat.eq_zero_or_pos k' with rfl | hp
  ·cases hd:l.drop i with
   | nil=>have:=congrArg List.length hd; simp at this; omega
   | cons s r=>rw [hd] at hk; obtain ⟨h1,_⟩:=hk; omega
  ·exact hp
 obtain ⟨a,b,e,ha,hb⟩:=Zhj (j:=1) (k:=k' - 1) (l:=l.drop i) (by rw [show 1+(k' - 1)=k' by omega]; exact hk)
 have hs:skip 1 (l.drop i)=a.length:=by rw [e]; exact Zhc b ha
 have ht:tmAt l i=a:=by unfold tmAt; rw [hs,e]; simp
 have hl:a.length+b.length=l.length - i:=by
  have:=congrArg List.length e
  simp at this; omega
 have ha1:=Zdh ha
 refine ⟨by rw [ht]; exact ha,b,by rw [ht]; exact e,?_,by unfold Zaz; omega,by unfold Zaz; omega,by rw [ht,hs]⟩
 unfold Zaz
 rw [hs,← List.drop_drop,e]; simp
theorem Zzx {l:List Sym} {k0:Nat} (h:Wf k0 l):∀ (m:Nat) {p:Nat} {a b:List Sym},l.drop p=a++b→Wf m a→p≤l.length →
  a=((Zax l p m).map (tmAt l)).flatten∧(∀ x ∈ Zax l p m,p≤x∧x<p+a.length)∧Zan l p m=p+a.length:=by
 intro m
 induction m with
 | zero =>
  intro p a b e hw _
  have:a=[]:=by
   cases a with
   | nil=>rfl
   | cons s a=>obtain ⟨h1,_⟩:=hw; omega
  subst this
  exact ⟨rfl,by simp [Zax],rfl⟩
 | succ m ih =>
  intro p a b e hw hp
  obtain ⟨a1,a2,rfl,h1,h2⟩:=Zhj (j:=1) (k:=m) (l:=a) (by rw [Nat.add_comm]; exact hw)
  have hl1:=Zdh h1
  have hpl:p<l.length:=by
   have:=congrArg List.length e
   simp at this; omega
  have hs:skip 1 (l.drop p)=a1.length:=by rw [e,Qi]; exact Zhc _ h1
  have ht:tmAt l p=a1:=by unfold tmAt; rw [hs,e]; simp
  have hb:Zaz l p=p+a1.length:=by unfold Zaz; rw [hs]
  have e2:l.drop (Zaz l p)=a2++b:=by rw [hb,← List.drop_drop,e]; simp
  have hbl:Zaz l p≤l.length:=by
   have:=congrArg List.length e
   simp at this; omega
  obtain ⟨g1,g2,g3⟩:=ih e2 h2 hbl
  refine ⟨?_,?_,?_⟩
  ·simp only [Zax,List.map_cons,List.flatten_cons,ht]
   rw [← g1]
  ·intro x hx
   simp only [Zax,Qp] at hx
   simp only [Qg]
   rcases hx with rfl | hx
   ·omega
   ·have:=g2 x hx; omega
  ·rw [Zan,g3,hb,Qg]; omega
theorem Zhd:∀ {l:List Sym} {k i:Nat} {s:Sym},Wf k l→l[i]?=some s→(s.name=[]→s.args=0)∧(s.name≠[]→s.num=0):=by
 intro l
 induction l with
 | nil=>intro k i s _ hs; simp at hs
 | cons t l ih =>
  intro k i s h hs
  obtain ⟨_,h1,h2,h3⟩:=h
  cases i with
  | zero=>simp at hs; subst hs; exact ⟨h1,h2⟩
  | succ i=>exact ih h3 (by simpa using hs)
def Zaq (l:List Sym) (i:Nat):Sym:=l.getD i ⟨[],0,0⟩
def grOf (l:List Sym):Gr:=⟨l.length,Zaq l,fun i=>Zax l (i+1) (Zaq l i).args⟩
theorem Zfn {l:List Sym} {k i:Nat} (h:Wf k l) (hi:i<l.length):tmAt l i=Zaq l i::((Zax l (i+1) (Zaq l i).args).map (tmAt l)).flatten∧(∀ x ∈ Zax l (i+1) (Zaq l i).args,i<x∧x<Zaz l i)∧Zan l (i+1) (Zaq l i).args=Zaz l i:=by
 obtain ⟨hw,r,e,hr,hb1,hb2,hb3⟩:=Zdl h hi
 obtain ⟨s,q,e2,hq,_⟩:=Zin hw
 have hd:l.drop i=l[i]::l.drop (i+1):=List.drop_eq_getElem_cons hi
 rw [e2] at e
 rw [hd] at e
 simp only [List.cons_append,List.cons.injEq] at e
 have hs:Zaq l i=s:=by unfold Zaq; simp [hi,e.1]
 obtain ⟨g1,g2,g3⟩:=Zzx h s.args e.2 hq (by omega)
 rw [e2] at hb3
 have hlen:Zaz l i=i+1+q.length:=by unfold Zaz; rw [← hb3]; simp; omega
 rw [hs]
 refine ⟨by rw [e2,← g1],fun x hx => ?_,by rw [g3,hlen]⟩
 have:=g2 x hx
 omega
theorem Zij {a b:List Sym} (h:Wf 1 a):tmAt (a++b) 0=a:=by
 unfold tmAt; rw [List.drop_zero,Zhc b h]; simp
theorem Zhe {a b:List Sym} (h:Wf 1 b):tmAt (a++b) a.length=b:=by
 unfold tmAt
 have e:(a++b).drop a.length=b++[]:=by simp
 rw [e,Zhc [] h]; simp
theorem Zvt {a b:List Sym} (ha:Wf 1 a) (hb:Wf 1 b):Lay (grOf (a++b)) (tmAt (a++b)) a b:=by
 have hw:Wf 2 (a++b):=Zei ha hb
 refine ⟨⟨?_,?_,?_,?_⟩,?_,?_⟩
 ·intro i hi x hx
  have:=(Zfn hw hi).2.1 x hx
  obtain ⟨_,_,_,_,_,h2,_⟩:=Zdl hw hi
  show x<(a++b).length
  omega
 ·intro i hi; exact (Zcf _ _ _).symm
 ·intro i hi hn
  have hs:(a++b)[i]?=some (Zaq (a++b) i):=by
   have hi:i<(a++b).length:=hi
   unfold Zaq; simp only [List.getD_eq_getElem?_getD]; rw [Qb hi]; rfl
  have:=(Zhd hw hs).1 hn
  show Zax _ _ (Zaq (a++b) i).args=[]
  rw [this]; rfl
 ·intro i hi hn
  have hs:(a++b)[i]?=some (Zaq (a++b) i):=by
   have hi:i<(a++b).length:=hi
   unfold Zaq; simp only [List.getD_eq_getElem?_getD]; rw [Qb hi]; rfl
  exact (Zhd hw hs).2 hn
 ·intro i hi; exact (Zfn hw hi).1
 ·intro i hi hn
  have hi:i<(a++b).length:=hi
  have hm:Zaq (a++b) i ∈ a++b:=by
   unfold Zaq; simp only [List.getD_eq_getElem?_getD]; rw [Qb hi]; exact List.getElem_mem hi
  rcases Qk.1 hm with hm | hm
  ·exact Or.inl ⟨_,hm,hn,rfl⟩
  ·exact Or.inr ⟨_,hm,hn,rfl⟩
def Zay (l:List Sym) (i:Nat):Nat:=if (Zaq l i).name=[] then l.findIdx (fun s=>s.name.isEmpty && s.num == (Zaq l i).num) else i
theorem Zhs (l:List Sym) {k:Nat} (hw:Wf k l):Firsts (grOf l) (Zay l):=by
 have key:∀ i,i<l.length→(Zaq l i).name=[]→Zay l i<l.length∧(Zaq l (Zay l i)).name=[]∧(Zaq l (Zay l i)).num=(Zaq l i).num:=by
  intro i hi hn
  unfold Zay
  rw [if_pos hn]
  have hex:∃ x ∈ l,(x.name.isEmpty && x.num == (Zaq l i).num)=true:=by
   refine ⟨Zaq l i,?_,by simp [hn]⟩
   unfold Zaq; simp only [List.getD_eq_getElem?_getD]; rw [Qb hi]; exact List.getElem_mem hi
  have hlt:=List.findIdx_lt_length_of_exists hex
  refine ⟨hlt,?_⟩
  have:=List.findIdx_getElem (w:=hlt)
  have e:Zaq l (l.findIdx (fun s=>s.name.isEmpty && s.num == (Zaq l i).num))=l[l.findIdx (fun s=>s.name.isEmpty && s.num == (Zaq l i).num)]:=by
   generalize l.findIdx (fun s=>s.name.isEmpty && s.num == (Zaq l i).num)=z at hlt
   unfold Zaq; simp only [List.getD_eq_getElem?_getD]; rw [Qb hlt]; rfl
  rw [e]
  simpa using this
 refine ⟨⟨?_,?_⟩,?_,?_,?_⟩
 ·intro i hi
  by_cases hn:(Zaq l i).name=[]
  ·exact (key i hi hn).1
  ·show Zay l i<_
   unfold Zay; rw [if_neg hn]; exact hi
 ·intro i hi
  by_cases hn:(Zaq l i).name=[]
  ·obtain ⟨h1,h2,h3⟩:=key i hi hn
   show Zay l (Zay l i)=Zay l i
   have e1:Zay l (Zay l i)=l.findIdx (fun s=>s.name.isEmpty && s.num == (Zaq l (Zay l i)).num):=by
    generalize Zay l i=z at h2
    unfold Zay; rw [if_pos h2]
   have e2:Zay l i=l.findIdx (fun s=>s.name.isEmpty && s.num == (Zaq l i).num):=by unfold Zay; rw [if_pos hn]
   rw [e1,h3,← e2]
  ·have e:Zay l i=i:=by unfold Zay; rw [if_neg hn]
   rw [e,e]
 ·intro i j hi hj h1 h2 e
  show Zay l i=Zay l j
  have h1:(Zaq l i).name=[]:=h1
  have h2:(Zaq l j).name=[]:=h2
  have e:(Zaq l i).num=(Zaq l j).num:=e
  unfold Zay; rw [if_pos h1,if_pos h2,e]
 ·intro i hi hn
  have hn:(Zaq l i).name≠[]:=hn
  show Zay l i=i
  unfold Zay; rw [if_neg hn]
 ·intro i hi hn
  exact (key i hi hn).2
end Go.Proofs.YtlmjilpjmgjjcabDoor
namespace Go.Proofs.YtlmjilpjmgjjcabDoor
open Go.RowKit
structure GC where
 sym:Sym
 behind:Nat
 leader:Nat
 size:Int
def gcV (c:GC):List Value:=[.string ⟨c.sym.name.toArray⟩,.int .i64 c.sym.num,.int .i64 c.sym.args,.int .i64 c.behind,.int .i64 c.leader,.int .i64 c.size]
def gcs (l:List GC):List Value:=l.flatMap gcV
theorem Ybj {l:List GC} {i:Nat} {c:GC} (h:l[i]?=some c) (j:Nat) (hj:j<6):(gcs l)[i * 6+j]?=(gcV c)[j]?:=by
 induction l generalizing i with
 | nil=>simp at h
 | cons a l ih =>
  have hl:(gcV a).length=6:=rfl
  cases i with
  | zero =>
   simp at h; subst h
   show (gcV a++gcs l)[_]?=_
   rw [Qc (by omega)]
   simp
  | succ i =>
   show (gcV a++gcs l)[_]?=_
   rw [Qd (by omega),← ih (by simpa using h),hl]
   congr 1; omega
theorem Zyf (l:List GC) (c:GC):gcs (l++[c])=gcs l++gcV c:=by simp [gcs]
theorem Zsv {l:List GC} {x:Nat} {c:GC} {f:GC→GC} {j:Nat} {u:Value} (h:l[x]?=some c) (hj:j<6) (hf:gcV (f c)=(gcV c).set j u):gcs (l.modify x f)=(gcs l).set (x * 6+j) u:=by
 induction l generalizing x with
 | nil=>simp at h
 | cons a l ih =>
  have hl:(gcV a).length=6:=rfl
  cases x with
  | zero =>
   simp at h; subst h
   show gcV (f a)++gcs l=(gcV a++gcs l).set _ _
   rw [List.set_append_left _ _ (by omega),hf]
   simp
  | succ x =>
   show gcV a++gcs (l.modify x f)=(gcV a++gcs l).set _ _
   rw [List.set_append_right _ _ (by omega),ih (by simpa using h),hl]
   congr 2; omega
structure GAt (w:World) (gb:Nat) (v:Value) (gs:List GC):Prop where
 box:w.heap[gb]?=some (.cells #[v] 118 (0,0))
 owns:w.ownsRow 0 138 6 v gs.length (gcs gs)
theorem Zqp {w:World} {B:Nat} {e:TypeId} {size n g cap:Nat} {xs:List Value} (h:w.ownsRow B e size (.slice (some ⟨g,0,none⟩) n cap) n xs) (i:Nat) (u:Value):(w.setCell ⟨g,i,none⟩ u).ownsRow B e size (.slice (some ⟨g,0,none⟩) n cap) n (xs.set i u):=by
 refine ⟨by simpa using h.1,?_⟩
 rcases h.2 with ⟨h1,_⟩ | ⟨g',cap',cur,h1,hb,hg,hn,hc,hs,ht⟩
 ·simp at h1
 ·simp at h1
  obtain ⟨rfl,rfl⟩:=h1
  refine .inr ⟨g,cap,cur.setIfInBounds i u,rfl,hb,Zah hg _ _,hn,hc,by simpa using hs,?_⟩
  rw [← ht]
  simp [List.take_set]
theorem GAt.shape {w:World} {gb:Nat} {v:Value} {gs:List GC} (h:GAt w gb v gs) (hi:0<gs.length):∃ cb cap,v = .slice (some ⟨cb,0,none⟩) gs.length cap∧cb<w.heap.size∧gs.length≤cap∧cb≠gb∧(∀ j,w.frozen? ⟨cb,j,none⟩=false):=by
 obtain ⟨g,cap,cur,rfl,hB,hb,hc⟩:=Zat h.owns hi
 refine ⟨g,cap,rfl,Zab hb,hc,fun e => ?_,fun j=>Zae hb j⟩
 subst e
 rw [h.box] at hb
 simp at hb
theorem GAt.cell {w:World} {gb cb cap:Nat} {gs:List GC} (h:GAt w gb (.slice (some ⟨cb,0,none⟩) gs.length cap) gs) {i:Nat} {c:GC} (hc:gs[i]?=some c) :
  w.cell? ⟨cb,i * 6,none⟩=some (.string ⟨c.sym.name.toArray⟩)∧w.cell? ⟨cb,i * 6+1,none⟩=some (.int .i64 c.sym.num)∧w.cell? ⟨cb,i * 6+2,none⟩=some (.int .i64 c.sym.args)∧w.cell? ⟨cb,i * 6+3,none⟩=some (.int .i64 c.behind)∧w.cell? ⟨cb,i * 6+4,none⟩=some (.int .i64 c.leader)∧w.cell? ⟨cb,i * 6+5,none⟩=some (.int .i64 c.size):=by
 have e:=fun j hj=>Ybj hc j hj
 refine ⟨Zai h.owns _ _ ?_,Zai h.owns _ _ (by rw [e 1 (by omega)]; rfl),Zai h.owns _ _ (by rw [e 2 (by omega)]; rfl),Zai h.owns _ _ (by rw [e 3 (by omega)]; rfl),Zai h.owns _ _ (by rw [e 4 (by omega)]; rfl),Zai h.owns _ _ (by rw [e 5 (by omega)]; rfl)⟩
 have:=e 0 (by omega)
 simp only [Nat.add_zero] at this
 rw [this]; rfl
theorem GAt.on {w w':World} {gb:Nat} {v:Value} {gs:List GC} (h:GAt w gb v gs) (hk:∀ k,k<w.heap.size→w'.heap[k]?=w.heap[k]?):GAt w' gb v gs :=
 ⟨(hk gb (Zab h.box)).trans h.box,Zao h.owns (fun k e=>hk k (h.owns.lt k e).2)⟩
theorem GAt.ext {w w':World} {gb:Nat} {v:Value} {gs:List GC} (h:GAt w gb v gs) (e:Ext w w'):GAt w' gb v gs:=h.on (fun k hk=>e.block k hk)
theorem GAt.put {w:World} {gb cb cap:Nat} {gs:List GC} (h:GAt w gb (.slice (some ⟨cb,0,none⟩) gs.length cap) gs) {x:Nat} {c:GC} (hc:gs[x]?=some c) {f:GC→GC} {j:Nat} {u:Value} (hj:j<6) (hf:gcV (f c)=(gcV c).set j u) :
  GAt (w.setCell ⟨cb,x * 6+j,none⟩ u) gb (.slice (some ⟨cb,0,none⟩) gs.length cap) (gs.modify x f):=by
 have hne:cb≠gb:=by
  obtain ⟨cb',cap',e,_,_,hne,_⟩:=h.shape (by have:=(Qa.1 hc).1; omega)
  simp at e
  rw [e.1]; exact hne
 refine ⟨(Below.heap_setCell _ _ _ _ (fun e=>hne e.symm)).trans h.box,?_⟩
 rw [Zsv hc hj hf,List.length_modify]
 exact Zqp h.owns _ _
def GC.up (c:GC):CellS:=⟨c.sym,[],c.leader⟩
def Zfu (gs:List GC) (x y:Nat):List GC:=gs.modify x (fun c => { c with leader:=y })
theorem Zqq (gs:List GC) (x y:Nat):(Zfu gs x y).map GC.up=turn (gs.map GC.up) x y:=by
 apply List.ext_getElem?
 intro i
 rw [Zly,Qj,Zfu,List.getElem?_modify,Qj]
 cases gs[i]? with
 | none=>rfl
 | some c=>simp; split <;> simp_all [GC.up]
theorem Zfy (gs:List GC) (x y:Nat):(Zfu gs x y).length=gs.length:=by simp [Zfu]
structure CellsOf (gs:List GC) (l:List Sym):Prop where
 len:gs.length=l.length
 all:∀ i c,gs[i]?=some c→c.sym=Zaq l i∧c.behind=Zaz l i
theorem CellsOf.lead {gs:List GC} {l:List Sym} (h:CellsOf gs l) (x y:Nat):CellsOf (Zfu gs x y) l :=
 ⟨by rw [Zfy]; exact h.len,fun i c hc=>by
  rw [Zfu,List.getElem?_modify] at hc
  cases hd:gs[i]? with
  | none=>rw [hd] at hc; simp at hc
  | some d =>
   rw [hd] at hc
   obtain ⟨h1,h2⟩:=h.all i d hd
   simp only [Option.map_eq_map,Option.map_some,Qo] at hc
   subst hc
   split <;> exact ⟨h1,h2⟩⟩
theorem Zer (w:World) (gb:Nat) (v:Value) (gs:List GC) (ρ rk:Nat→Nat) (i:Nat) (h:GAt w gb v gs) (hu:UpOk (gs.map GC.up) ρ rk) (hi:i<gs.length) (hl:gs.length≤4000) :
  Calls Tryd.prog 80 #[.pointer (some ⟨gb,0,none⟩),.int .i64 i] w fun e w'=>e = .returned (.int .i64 (ρ i))∧w'=w:=by
 obtain ⟨cb,cap,rfl,hcb,hcap,_,_⟩:=h.shape (by omega)
 have b0:w.cell? ⟨gb,0,none⟩=some (.slice (some ⟨cb,0,none⟩) gs.length cap):=Zaa h.box 0 _ rfl
 have hgb:=Zab h.box
 have H:=Zac h
 have Hu:=Zac hu
 clear h hu
 go_enter Tryd.func80,Tryd.ntmps80
 go_wp2
 go_loopg [1] (rk i+1) (fun gk iv wr=>∃ (k:Nat),iv = .int .i64 k∧k<gs.length∧rk k<gk∧ρ k=ρ i∧wr=w)
 case atStart=>exact ⟨i,rfl,hi,by omega,rfl,rfl⟩
 case round =>
  obtain ⟨k,rfl,hk,hg,hρ,rfl⟩:=hrel
  obtain ⟨c,hc⟩:∃ c,gs[k]?=some c:=⟨_,Qb hk⟩
  obtain ⟨c0,c1,c2,c3,c4,c5⟩:=H.out.cell hc
  obtain ⟨h1,h2,h3,h4⟩:=Hu.out k c.up (by rw [Qj,hc]; rfl)
  have h1:c.leader<gs.length:=by simpa [GC.up] using h1
  have h2:ρ c.leader=ρ k:=h2
  by_cases e:c.leader=k
  ·have e':((c.leader:Int) != (k:Int))=false:=by rw [e]; simp
   have Hr:=Zac (h3 e)
   have Hρ:=Zac hρ
   clear hc h2 h3 h4 hρ
   go_wp2
   go_ret
   exact ⟨by rw [← Hρ.out,Hr.out]; rfl,rfl⟩
  ·have e':((c.leader:Int) != (k:Int))=true:=by rw [bne_iff_ne]; omega
   have Hr:=Zac (h2.trans hρ)
   have h4':=h4 e
   clear hc h2 h3 h4 hρ
   go_wp2
   go_roundg (rk k)
   case measure=>omega
   case rel=>exact ⟨c.leader,rfl,h1,h4',Hr.out,rfl⟩
theorem Zgp (w:World) (gb:Nat) (v:Value) (gs:List GC) (i:Nat) (c:GC) (h:GAt w gb v gs) (hc:gs[i]?=some c) (hl:gs.length≤4000) :
  Calls Tryd.prog 81 #[.pointer (some ⟨gb,0,none⟩),.int .i64 i] w fun e w'=>e = .returned (.bool c.sym.name.isEmpty)∧w'=w:=by
 have hi:=(Qa.1 hc).1
 obtain ⟨cb,cap,rfl,hcb,hcap,_,_⟩:=h.shape (by omega)
 have b0:w.cell? ⟨gb,0,none⟩=some (.slice (some ⟨cb,0,none⟩) gs.length cap):=Zaa h.box 0 _ rfl
 have hgb:=Zab h.box
 obtain ⟨c0,c1,c2,c3,c4,c5⟩:=h.cell hc
 clear h hc
 go_enter Tryd.func81,Tryd.ntmps81
 go_wp2
 go_ret
 exact ⟨by simp,rfl⟩
def Zdb (s t:Sym):Bool:=s.name.isEmpty && (t.name.isEmpty && s.num == t.num)
theorem Zsw (w:World) (s t:Sym) :
  Calls Tryd.prog 97 #[.agg #[.string ⟨s.name.toArray⟩,.int .i64 s.num,.int .i64 s.args],.agg #[.string ⟨t.name.toArray⟩,.int .i64 t.num,.int .i64 t.args]] w fun e w'=>e = .returned (.bool (Zdb s t))∧Ext w w':=by
 have Hs:Hid (∀ a b c,a=s.name.isEmpty→b=t.name.isEmpty→c=(s.num == t.num)→Zdb s t=(a && (b && c))):=fun a b c h1 h2 h3=>by rw [h1,h2,h3]; rfl
 cases h1:s.name.isEmpty with
 | false =>
  go_enter Tryd.func97,Tryd.ntmps97
  go_wp2
  go_ret
  refine ⟨?_,(Ext.of (by repeat' (first | with_reducible(first|exact Qx _ _|apply Kept.drew|apply Kept.drewN|apply Qz|refine Qy ?_ ?_ _)|exact fun h=>absurd h (by simp <;> omega))))⟩
  rw [Hs.out false _ _ h1.symm rfl rfl]; rfl
 | true =>
  cases h2:t.name.isEmpty with
  | false =>
   go_enter Tryd.func97,Tryd.ntmps97
   go_wp2
   go_ret
   refine ⟨?_,(Ext.of (by repeat' (first | with_reducible(first|exact Qx _ _|apply Kept.drew|apply Kept.drewN|apply Qz|refine Qy ?_ ?_ _)|exact fun h=>absurd h (by simp <;> omega))))⟩
   rw [Hs.out true false _ h1.symm h2.symm rfl]; rfl
  | true =>
   have Hn:Hid (((s.num:Int) == (t.num:Int))=(s.num == t.num)):=by
    show _=_
    rw [Bool.eq_iff_iff,beq_iff_eq,beq_iff_eq]; omega
   go_enter Tryd.func97,Tryd.ntmps97
   go_wp2
   go_ret
   refine ⟨?_,(Ext.of (by repeat' (first | with_reducible(first|exact Qx _ _|apply Kept.drew|apply Kept.drewN|apply Qz|refine Qy ?_ ?_ _)|exact fun h=>absurd h (by simp <;> omega))))⟩
   rw [Hs.out true true _ h1.symm h2.symm rfl,← Hn.out]; rfl
end Go.Proofs.YtlmjilpjmgjjcabDoor
