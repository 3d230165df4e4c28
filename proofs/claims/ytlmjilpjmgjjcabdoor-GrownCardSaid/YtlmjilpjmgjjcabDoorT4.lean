/-
  PROVED HERE: plain facts on the program's cells that lie in memory; what its 'leaderOf', 'isVariable' and 'isSameVariable' tell (the conditions stand in each statement).
-/
import Derived.Test.YtlmjilpjmgjjcabDoorT3
import Derived.Deep.RegionWith
import Derived.BigQuiet
import Derived.Deep.QuietTactic
import Derived.Deep.CutRange
set_option linter.unusedSimpArgs false
set_option linter.unusedVariables false
set_option maxRecDepth 10000
set_option maxHeartbeats 4000000
namespace Go.Proofs.YtlmjilpjmgjjcabDoor
open Go.RowKit
def TokAt (w:World) (b:Nat) (t:Nat × Nat × Nat):Prop:=w.heap[b]?=some (.cells #[.int .i64 t.1,.int .i64 t.2.1,.int .i64 t.2.2] 109 (0,0))
def FaultAt (w:World) (b:Nat) (e p:Nat):Prop:=w.heap[b]?=some (.cells #[.int .i64 e,.int .i64 p] 69 (0,0))
theorem TokAt.cells {w:World} {b:Nat} {t:Nat × Nat × Nat} (h:TokAt w b t):b<w.heap.size∧w.cell? ⟨b,0,none⟩=some (.int .i64 t.1)∧w.cell? ⟨b,1,none⟩=some (.int .i64 t.2.1)∧w.cell? ⟨b,2,none⟩=some (.int .i64 t.2.2)∧∀ i,w.frozen? ⟨b,i,none⟩=false :=
 ⟨Zab h,Zaa h 0 _ rfl,Zaa h 1 _ rfl,Zaa h 2 _ rfl,fun i=>Zae h i⟩
theorem FaultAt.cells {w:World} {b e p:Nat} (h:FaultAt w b e p):b<w.heap.size∧w.cell? ⟨b,0,none⟩=some (.int .i64 e)∧w.cell? ⟨b,1,none⟩=some (.int .i64 p)∧∀ i,w.frozen? ⟨b,i,none⟩=false :=
 ⟨Zab h,Zaa h 0 _ rfl,Zaa h 1 _ rfl,fun i=>Zae h i⟩
theorem TokAt.held {w w':World} {B b:Nat} {t:Nat × Nat × Nat} (h:TokAt w b t) (hk:Held B w w'):TokAt w' b t:=(hk.other b _ _ _ h (Or.inl rfl)).trans h
theorem FaultAt.held {w w':World} {B b e p:Nat} (h:FaultAt w b e p) (hk:Held B w w'):FaultAt w' b e p:=(hk.other b _ _ _ h (Or.inr rfl)).trans h
theorem TokAt.kept {S:Nat→Prop} {w w':World} {b:Nat} {t:Nat × Nat × Nat} (h:TokAt w b t) (hk:Kept S w w') (hs:¬ S b):TokAt w' b t:=(hk.block b (Zab h) hs).trans h
theorem FaultAt.kept {S:Nat→Prop} {w w':World} {b e p:Nat} (h:FaultAt w b e p) (hk:Kept S w w') (hs:¬ S b):FaultAt w' b e p:=(hk.block b (Zab h) hs).trans h
theorem Kept.untouched {w w':World} (h:Below w.heap.size w w'):Kept Zco w w':=⟨h.os,h.tape,h.output,h.size,fun k hk _=>h.block k hk⟩
theorem IsRx.fresh {w w':World} {B rb:Nat} {st:RS} (h:IsRx w B rb st) (hk:Kept Zco w w'):IsRx w' B rb st:=by
 obtain ⟨V,Sa,Sb,vs,xs,h⟩:=h
 exact ⟨V,Sa,Sb,vs,xs,h.fresh hk⟩
theorem IsRx.aside {w w':World} {B rb k:Nat} {st:RS} {cs:Array Value} {T:TypeId} {fr:Nat × Nat} (h:IsRx w B rb st) (hb:w.heap[k]?=some (.cells cs T fr)) (hT:T=109∨T=69) (hk:Kept (only k) w w'):IsRx w' B rb st:=by
 obtain ⟨V,Sa,Sb,vs,xs,h⟩:=h
 have hr:rb≠k:=fun e=>by
  have e1:=h.blk
  rw [e,hb] at e1
  simp only [Qo,Obj.cells.injEq] at e1
  rcases hT with h1 | h1 <;> exact absurd (e1.2.1.symm.trans h1) (by decide)
 have hX:∀ {Br:Nat} {e:TypeId} {s n:Nat} {v:Value} {ys:List Value},w.ownsRow Br e s v n ys→e≠109→e≠69→w'.ownsRow Br e s v n ys:=fun ho h1 h2 =>
  hk.owns ho (fun i hi e=>by
   have e:i=k:=e
   subst e
   rcases hT with rfl | rfl
   ·exact Zaf ho h1 hb hi
   ·exact Zaf ho h2 hb hi)
 have hS:∀ {v:Value} {l:List Sym},SymRow w B Sa v l→SymRow w' B Sa v l:=fun hs=>⟨hX hs.1 (by decide) (by decide),hs.2⟩
 have hBd:∀ {v:Value} {ls:List (List Sym)} {us:List Value},BodyRow w B Sa v ls us→BodyRow w' B Sa v ls us:=fun hs=>⟨hX hs.1 (by decide) (by decide),fun i l hl=>by
  obtain ⟨x,h1,h2⟩:=hs.2 i l hl
  exact ⟨x,h1,hS h2⟩⟩
 have r:=h.rest
 exact ⟨V,Sa,Sb,vs,xs,(hk.block rb (Zab h.blk) hr).trans h.blk,⟨hX r.atom (by decide) (by decide),hX r.opn (by decide) (by decide),hX r.vars (by decide) (by decide),hS r.head,hBd r.body,
  ⟨hX r.cls.1 (by decide) (by decide),r.cls.2.1,r.cls.2.2.1,fun i c hc=>by
   obtain ⟨hv,bv,vv,us,e1,e2,e3,e4⟩:=r.cls.2.2.2 i c hc
   exact ⟨hv,bv,vv,us,e1,hS e2,hBd e3,e4.1,hX e4.2.1 (by decide) (by decide),e4.2.2⟩⟩,r.ta,r.tb,r.tv,Qq r.la hk.size,Qq r.lb hk.size⟩,h.le⟩
theorem IsRx.le {w:World} {B rb:Nat} {st:RS} (h:IsRx w B rb st):B≤w.heap.size:=by
 obtain ⟨V,Sa,Sb,vs,xs,h⟩:=h
 have:=h.le
 have:=Zab h.blk
 omega
theorem IsRx.look {w:World} {B rb:Nat} {st:RS} (h:IsRx w B rb st):∃ V,ROpen w B rb st V:=by
 obtain ⟨V,Sa,Sb,vs,xs,h⟩:=h
 exact ⟨V,h.opens⟩
theorem Zgs {w wr:World} {B rb b e0 p0:Nat} {st:RS} (hr:IsRx wr B rb st) (hf:FaultAt wr b e0 p0) (hB:B≤b) (hbw:Below B w wr) (x y:Value) :
  IsRx ((wr.setCell ⟨b,0,none⟩ x).setCell ⟨b,1,none⟩ y) B rb st∧Below B w ((wr.setCell ⟨b,0,none⟩ x).setCell ⟨b,1,none⟩ y) :=
 ⟨hr.aside hf (Or.inr rfl) (((Qx (only b) wr).put 0 x).put 1 y),(hbw.setCell (p:=⟨b,0,none⟩) hB x).setCell (p:=⟨b,1,none⟩) hB y⟩
theorem Zhq (w:World) (B rb:Nat) (st:RS) (s:ByteArray) (h:IsRx w B rb st) (hi:RI 0 st) (hs:s.size≤4000) :
  Calls Tryd.prog 44 #[.pointer (some ⟨rb,0,none⟩),.string s] w fun e w' =>
   e = .returned (.agg #[.int .i64 (runT s.size (toks s.data.toList 0) st).1,.int .i64 (runT s.size (toks s.data.toList 0) st).2.1])∧IsRx w' B rb (runT s.size (toks s.data.toList 0) st).2.2∧Below B w w':=by
 obtain ⟨R,hR⟩:∃ R,R=runT s.size (toks s.data.toList 0) st:=⟨_,rfl⟩
 rw [← hR]
 have hBw:=h.le
 have HR:=Zac hR
 have H:=Zac h
 have Hi:=Zac hi
 clear h hi hR
 go_enter Tryd.func44,Tryd.ntmps44
 go_wp2_with fail
 refine (Zrm s 0 _ (by omega) (Qm _)).mono ?_
 rintro e w1 ⟨rfl,hb1⟩
 have hF0:FaultAt (w.alloc (.cells #[.int .i64 0,.int .i64 0] 69)) w.heap.size 0 0:=heap_alloc_new w _
 have hk1:Kept Zco w w1:=((Qx _ w).alloc _).trans (Kept.untouched hb1)
 have HF1:=Zac (hF0.kept (Kept.untouched hb1) (fun h=>h))
 have H1:=Zac (H.out.fresh hk1)
 have HB1:=Zac (hk1.below hBw (fun _ h=>h.elim))
 have hlt:w.heap.size<w1.heap.size:=Zab HF1.out
 clear hF0 hk1 hb1
 go_wp2
 go_loopg [] (s.size+1) (fun gk wr=>∃ (n:Nat) (st':RS),n≤s.size∧s.size - n<gk∧TokAt wr w1.heap.size (Zki s n)∧FaultAt wr w.heap.size 0 0∧IsRx wr B rb st'∧RI n st'∧runT s.size (toks (s.data.toList.drop n) n) st'=R∧Below B w wr)
 case atStart =>
  refine ⟨0,st,Qm _,by omega,heap_alloc_new w1 _,HF1.out.kept ((Qx Zco w1).alloc _) (fun h=>h),H1.out.fresh ((Qx _ w1).alloc _),Hi.out,?_,HB1.out.alloc (Qq hBw HB1.out.size) _⟩
  rw [HR.out]; rfl
 case round =>
  obtain ⟨n,st',hn,hgk,htok,hflt,hr,hri,hrun,hbw⟩:=hrel
  obtain ⟨hrb,c0,c1,c2,_,cf⟩:=hr.cells
  obtain ⟨hT4,f0,f1,ff⟩:=hflt.cells
  have hn5:=hri.next
  have h45:¬ w.heap.size=w1.heap.size:=by omega
  have hr4:¬ rb=w.heap.size:=fun e=>by
   obtain ⟨V,Sa,Sb,vs,xs,h⟩:=hr
   have e1:=h.blk
   rw [e,hflt] at e1
   simp at e1
  rcases Zws s n hn with ⟨hnx,htk⟩ | ⟨t,q,hnx,htk,hkd,hnp,hpq,hqs,htx,htl⟩
  ·rw [hnx] at htok
   rw [htk,runT] at hrun
   obtain ⟨hT5,t0,t1,t2,tf⟩:=htok.cells
   simp only at t0 t1 t2
   have Hr:=Zac hr
   have Hflt:=Zac hflt
   have Hbw:=Zac hbw
   clear htok hflt hr hri htk hnx hbw
   by_cases h0:st'.next=0
   ·rw [if_neg (by omega)] at hrun
    rw [h0] at c1
    have Hrun:=Zac hrun
    clear hrun h0
    go_wp2
    refine bodyPost_ret (v := .agg #[.int .i64 0,.int .i64 0]) (by simp [results,Tryd.results44,go_sem,f0,f1,ff,hT4]) rfl ?_
    rw [← Hrun.out]
    exact ⟨rfl,Zgs Hr.out Hflt.out (by omega) Hbw.out _ _⟩
   ·by_cases h5:st'.next=5
    ·rw [if_neg (by omega)] at hrun
     rw [h5] at c1
     have Hrun:=Zac hrun
     clear hrun h0 h5
     go_wp2
     refine bodyPost_ret (v := .agg #[.int .i64 0,.int .i64 0]) (by simp [results,Tryd.results44,go_sem,f0,f1,ff,hT4]) rfl ?_
     rw [← Hrun.out]
     exact ⟨rfl,Zgs Hr.out Hflt.out (by omega) Hbw.out _ _⟩
    ·rw [if_pos ⟨h0,h5⟩] at hrun
     have b0:((st'.next:Int) != 0)=true:=by rw [bne_iff_ne]; omega
     have b5:((st'.next:Int) != 5)=true:=by rw [bne_iff_ne]; omega
     have Hrun:=Zac hrun
     clear hrun h0 h5
     go_wp2
     refine bodyPost_ret (v := .agg #[.int .i64 2,.int .i64 s.size]) (by simp [results,Tryd.results44,go_sem,f0,f1,ff,hT4]) rfl ?_
     rw [← Hrun.out]
     exact ⟨rfl,Zgs Hr.out Hflt.out (by omega) Hbw.out _ _⟩
  ·rw [hnx] at htok
   rw [htk,runT,htl] at hrun
   obtain ⟨hT5,t0,t1,t2,tf⟩:=htok.cells
   simp only at t0 t1 t2
   obtain ⟨kd,hkm⟩:∃ kd,kd=kmap t.kind:=⟨_,rfl⟩
   rw [← hkm] at htok t0 hrun
   have hkd1:1≤kd:=by
    rw [hkm]
    rcases hkd with h | h | h | h | h | h | h | h <;> rw [h] <;> decide
   have bk:((kd:Int) != 0)=true:=by rw [bne_iff_ne]; omega
   obtain ⟨V,hlook⟩:=hr.look
   have HC:=Zac (Zwj wr B rb st' V kd t.pos q hlook (hri.bd (by omega)) hn5 (by omega) (by omega))
   have Hr:=Zac hr
   have Hflt:=Zac hflt
   have Htok:=Zac htok
   have Hbw:=Zac hbw
   have Hri:=Zac hri
   have Htx:=Zac htx
   clear htok hflt hr hri htk hnx hbw hlook htx hkd hkm htl
   by_cases hc:Zbj st' kd (q - t.pos)=0
   ·rw [if_neg (by simp [hc])] at hrun
    have hstand:=Zho hc
    have Hrun:=Zac hrun
    have HT:=Zac (Hri.out.takes (by omega) hstand)
    have Hri':=Zac ((Hri.out.take t.text hstand).at (m:=q) (by omega))
    rw [hc] at HC
    clear hrun hc hstand
    go_wp2_with fail
    refine HC.out.mono ?_
    rintro e w2 ⟨rfl,hk2⟩
    have Hr2:=Zac (Hr.out.fresh hk2)
    have Hflt2:=Zac (Hflt.out.kept hk2 (fun h=>h))
    have Htok2:=Zac (Htok.out.kept hk2 (fun h=>h))
    have Hbw2:=Zac (Hbw.out.trans (hk2.below (by omega) (fun _ h=>h.elim)))
    obtain ⟨x5,x0,x1,x2,xf⟩:=Htok2.out.cells
    simp only at x0 x1 x2
    have hsz2:=hk2.size
    clear hk2 t0 t1 t2 tf c0 c1 c2 cf f0 f1 ff
    go_wp2_with fail
    go_region_with (first
     | (go_at_call 54; refine (Ztm s kd t.pos q _ ?_ ?_ ?_).mono ?_; (· omega); (· omega); (· omega); rintro e w3 ⟨rfl,hk3⟩; rw [Htx.out]; have Hr3:=Zac (Hr2.out.fresh (((Qx Zco w2).drewN 1).trans hk3)); have Hflt3:=Zac (Hflt2.out.kept (((Qx Zco w2).drewN 1).trans hk3) (fun h=>h)); have Htok3:=Zac (Htok2.out.kept (((Qx Zco w2).drewN 1).trans hk3) (fun h=>h)); obtain ⟨y5,y0,y1,y2,yf⟩:=Htok3.out.cells; simp only at y0 y1 y2; have Hk3:=Zac hk3; clear hk3)
     | (go_at_call 53; refine (Zzk _ B rb st' kd t.text Hr3.out HT.out).mono ?_; rintro e w4 ⟨rfl,hr4',hh4⟩; have Hr4:=Zac hr4'; have Hh4:=Zac hh4; clear hr4' hh4))
    all_goals
     have hbw4:Below B w w4:=(Hbw2.out.trans (Kept.below (((Qx Zco w2).drewN 1).trans Hk3.out) (by omega) (fun _ h=>h.elim))).trans Hh4.out.below
     have Hflt4:=Zac (Hflt3.out.held Hh4.out)
     have Htok4:=Zac (Htok3.out.held Hh4.out)
     obtain ⟨z5,z0,z1,z2,zf⟩:=Htok4.out.cells
     simp only at z0 z1 z2
     have Hbw4:=Zac hbw4
     clear hbw4 x0 x1 x2 xf y0 y1 y2 yf
     go_wp2_with fail
     refine (Zrm s q _ (by omega) hqs).mono ?_
     rintro e w5 ⟨rfl,hb5⟩
     have hk5:=Kept.untouched hb5
     have Htok5:=Zac (Htok4.out.kept hk5 (fun h=>h))
     have Hflt5:=Zac (Hflt4.out.kept hk5 (fun h=>h))
     have Hr5:=Zac (Hr4.out.fresh hk5)
     have Hbw5:=Zac (Hbw4.out.trans (hk5.below Hr4.out.le (fun _ h=>h.elim)))
     obtain ⟨v5,v0,v1,v2,vf⟩:=Htok5.out.cells
     simp only at v0 v1 v2
     clear hk5 hb5 z0 z1 z2 zf
     go_wp2
     go_roundg (s.size - q+1)
     case measure=>omega
     case rel =>
      have hB5:B≤w1.heap.size:=by omega
      refine ⟨q,Zbd st' kd t.text,hqs,by omega,?_,?_,?_,Hri'.out,Hrun.out,?_⟩
      ·unfold TokAt
       rw [Zag (Zag (Zag Htok5.out 0 _) 1 _) 2 _]
       rfl
      ·exact Hflt5.out.kept ((((Qx (only w1.heap.size) w5).put 0 _).put 1 _).put 2 _) (fun e=>h45 e)
      ·exact Hr5.out.aside Htok5.out (Or.inl rfl) ((((Qx (only w1.heap.size) w5).put 0 _).put 1 _).put 2 _)
      ·exact ((Hbw5.out.setCell (p:=⟨w1.heap.size,0,none⟩) hB5 _).setCell (p:=⟨w1.heap.size,1,none⟩) hB5 _).setCell (p:=⟨w1.heap.size,2,none⟩) hB5 _
   ·rw [if_pos hc] at hrun
    have bc:((Zbj st' kd (q - t.pos):Int) != 0)=true:=by rw [bne_iff_ne]; omega
    have Hrun:=Zac hrun
    clear hrun hc
    go_wp2_with fail
    refine HC.out.mono ?_
    rintro e w2 ⟨rfl,hk2⟩
    have Hr2:=Zac (Hr.out.fresh hk2)
    have Hflt2:=Zac (Hflt.out.kept hk2 (fun h=>h))
    have Htok2:=Zac (Htok.out.kept hk2 (fun h=>h))
    have Hbw2:=Zac (Hbw.out.trans (hk2.below (by omega) (fun _ h=>h.elim)))
    obtain ⟨x5,x0,x1,x2,xf⟩:=Htok2.out.cells
    simp only at x0 x1 x2
    obtain ⟨g4,g0,g1,gf⟩:=Hflt2.out.cells
    clear hk2 t0 t1 t2 tf c0 c1 c2 cf f0 f1 ff
    go_wp2
    refine bodyPost_ret (v := .agg #[.int .i64 (Zbj st' kd (q - t.pos)),.int .i64 t.pos]) (by simp [results,Tryd.results44,go_sem,g0,g1,gf,g4]) rfl ?_
    rw [← Hrun.out]
    exact ⟨rfl,Zgs Hr2.out Hflt2.out (by omega) Hbw2.out _ _⟩
def Zbl:List Nat→List UInt8 × List Nat
 | []=>([],[])
 | n::r=>if 1<n then ([44],(n - 1)::r) else (41::(Zbl r).1,(Zbl r).2)
def Zbx:List Sym→List Nat→List UInt8
 | [],_=>[]
 | s::r,miss=>if 0<s.args then symC s++40::Zbx r (s.args::miss) else symC s++((Zbl miss).1++Zbx r (Zbl miss).2)
theorem Zqb {a b c:List UInt8} (h:a++b=c):a.length+b.length=c.length:=by rw [← h]; simp
theorem Zoh (w:World) (B:Nat) (v:Value) (l:List Sym) (ho:w.ownsRow B 79 3 v l.length (Zah l)) (hl:l.length≤4000) (hn:∀ s ∈ l,s.num<2600∧s.args≤4096) (hL:(Zbx l []).length≤100000000) :
  Calls Tryd.prog 56 #[v] w fun e w'=>e = .returned (.string ⟨(Zbx l []).toArray⟩)∧Below w.heap.size w w':=by
 obtain ⟨F,hF⟩:∃ F,F=Zbx l []:=⟨_,rfl⟩
 rw [← hF] at hL ⊢
 obtain ⟨va,vcap,rfl⟩:=Zad ho
 have Ho:=Zac ho
 have HF:=Zac hF
 have Hn:=Zac hn
 clear ho hF hn
 go_enter Tryd.func56,Tryd.ntmps56
 go_wp2
 go_loopg [3,4,10] (l.length+1) (fun gk tx mv i wr=>∃ (k:Nat) (acc:List UInt8) (miss:List Nat),i = .int .i64 k∧k≤l.length∧l.length - k<gk∧tx = .string ⟨acc.toArray⟩∧acc++Zbx (l.drop k) miss=F ∧
   wr.ownsRow w.heap.size 3 1 mv miss.length (ints miss.reverse)∧Below w.heap.size w wr∧miss.length≤k∧∀ m ∈ miss,1≤m∧m≤4096)
 case atStart=>exact ⟨0,[],[],rfl,Qm _,by omega,rfl,by rw [HF.out]; rfl,World.ownsRow_nil _ _ _ _,Below.refl _ _,Qm _,by simp⟩
 case round =>
  obtain ⟨k,acc,miss,rfl,hk,hgk,rfl,hacc,hmo,hbw,hmk,hmm⟩:=hrel
  obtain ⟨ma,mcap,rfl⟩:=Zad hmo
  have hsz:=hbw.size
  by_cases hlt:k<l.length
  ·obtain ⟨s,hs⟩:∃ s,l[k]?=some s:=⟨_,Qb hlt⟩
   have hd:l.drop k=s::l.drop (k+1):=by
    rw [List.drop_eq_getElem_cons hlt]
    rw [Qb hlt] at hs
    simp at hs
    rw [hs]
   rw [hd,Zbx] at hacc
   obtain ⟨hsn,hsa⟩:=Hn.out s (Qh hs)
   have ho:=(Kept.untouched hbw).owns Ho.out (fun _ _ h=>h)
   obtain ⟨g,cap',cur,he,hBg,hg,hcp⟩:=Zap ho (by omega)
   simp only [Value.slice.injEq] at he
   obtain ⟨rfl,_,rfl⟩:=he
   have hgl:g<w.heap.size:=(Ho.out.lt g rfl).2
   have e0:wr.cell? ⟨g,k * 3,none⟩=some (.string ⟨s.name.toArray⟩):=Zai ho _ _ (by have:=Zaw l k s hs 0 (by omega); rw [Nat.add_zero] at this; rw [this]; rfl)
   have e1:wr.cell? ⟨g,k * 3+1,none⟩=some (.int .i64 s.num):=Zai ho _ _ (by rw [Zaw l k s hs 1 (by omega)]; rfl)
   have e2:wr.cell? ⟨g,k * 3+2,none⟩=some (.int .i64 s.args):=Zai ho _ _ (by rw [Zaw l k s hs 2 (by omega)]; rfl)
   have Hacc:=Zac hacc
   have Hmo:=Zac hmo
   have Hbw:=Zac hbw
   have Hmm:=Zac hmm
   have Hd:=Zac hd
   clear hacc hmo hbw hmm hd hs ho hg
   go_wp2_with fail
   refine (Zlc s _ hsn).mono ?_
   rintro e w1 ⟨rfl,hb1⟩
   have hk1:Kept Zco wr w1:=((Qx _ wr).alloc _).trans (Kept.untouched hb1)
   have hbox:w1.heap[wr.heap.size]?=some (.cells #[.string ⟨s.name.toArray⟩,.int .i64 s.num,.int .i64 s.args] 79 (0,0)):=(hb1.block _ (by simp)).trans (heap_alloc_new wr _)
   have b2:w1.cell? ⟨wr.heap.size,2,none⟩=some (.int .i64 s.args):=Zaa hbox 2 _ rfl
   have bl:=Zab hbox
   have Hmo1:=Zac (hk1.owns Hmo.out (fun _ _ h=>h))
   have Hbw1:=Zac (Hbw.out.trans (hk1.below hsz (fun _ h=>h.elim)))
   have hlen:=Zqb Hacc.out
   clear hk1 hbox hb1 e0 e1 e2
   by_cases ha:0<s.args
   ·have Hacc2:Hid (acc++symC s++[40]++Zbx (l.drop (k+1)) (s.args::miss)=F):=by show _=_; rw [← Hacc.out,if_pos ha]; simp
    rw [if_pos ha] at hlen
    simp only [Qg,Qf] at hlen
    go_wp2_with (at_builtin; refine Zak _ rfl (.tmp 23) (.tmp 26) 22 rfl w.heap.size 3 Tryd.infoInt Tryd.underlying22 rfl (by decide) _ miss.length (ints miss.reverse) rfl Hmo1.out _ rfl (by simp) rfl (Zgh _) ?_ ?_ ?_)
    ·omega
    ·omega
    intro v' w2 hap
    have Hap:=Zac hap
    clear hap
    go_wp2
    go_roundg (l.length - k)
    case measure=>omega
    case rel =>
     have hrow:=Hap.out.owns
     refine ⟨k+1,acc++symC s++[40],s.args::miss,by go_num,by omega,by omega,?_,Hacc2.out,?_,?_,by simp; omega,?_⟩
     ·show Value.string (_++_++(⟨[40].toArray⟩:ByteArray))=_
      rw [Zbv,Zbv]
     ·simpa [ints] using hrow
     ·refine Hbw1.out.trans (Hap.out.kept.below (by omega) (fun k hk=>(Hmo1.out.lt k hk).1))
     ·intro m hm
      simp only [Qp] at hm
      rcases hm with rfl | hm
      ·exact ⟨ha,hsa⟩
      ·exact Hmm.out m hm
   ·have Hacc2:Hid (acc++symC s++((Zbl miss).1++Zbx (l.drop (k+1)) (Zbl miss).2)=F):=by show _=_; rw [← Hacc.out,if_neg ha]; simp
    rw [if_neg ha] at hlen
    simp only [Qg] at hlen
    go_wp2
    go_loopg [3,4] (miss.length+1) (fun gj ty mw wi=>∃ (acc':List UInt8) (miss':List Nat),miss'.length<gj∧ty = .string ⟨acc'.toArray⟩∧acc'++((Zbl miss').1++Zbx (l.drop (k+1)) (Zbl miss').2)=F ∧
     wi.ownsRow w.heap.size 3 1 mw miss'.length (ints miss'.reverse)∧Below w.heap.size w wi∧miss'.length≤k∧∀ m ∈ miss',1≤m∧m≤4096)
    case atStart =>
     exact ⟨acc++symC s,miss,by omega,congrArg Value.string (Zbv _ _),Hacc2.out,Hmo1.out,Hbw1.out,hmk,Hmm.out⟩
    case round =>
     obtain ⟨acc',miss',hgj,rfl,hacc',hmo',hbw',hmk',hmm'⟩:=hrel
     obtain ⟨ma',mcap',rfl⟩:=Zad hmo'
     have hszi:=hbw'.size
     have hlen':=Zqb hacc'
     simp only [Qg] at hlen'
     cases hm:miss' with
     | nil =>
      have Hacc':=Zac hacc'
      have Hmo':=Zac hmo'
      have Hbw':=Zac hbw'
      have Hm:=Zac hm
      have hml:miss'.length=0:=by rw [hm]; rfl
      clear hacc' hmo' hbw' hm
      go_wp2
      go_roundg (l.length - k)
      case measure=>omega
      case rel =>
       refine ⟨k+1,acc',[],by go_num,by omega,by omega,rfl,?_,?_,Hbw'.out,by simp,by simp⟩
       ·have h:=Hacc'.out
        rw [Hm.out] at h
        simpa [Zbl] using h
       ·have h:=Hmo'.out
        rw [Hm.out] at h
        exact h
     | cons n r =>
      subst hm
      obtain ⟨hn1,hn2⟩:=hmm' n (by simp)
      obtain ⟨g',gcap',gcur',he',hBg',hg',hcap'⟩:=Zap hmo' (by simp)
      simp only [Value.slice.injEq] at he'
      obtain ⟨rfl,_,rfl⟩:=he'
      simp only [Qf] at hcap' hmo' hgj hmk'
      have cg:wr.cell? ⟨g',r.length,none⟩=some (.int .i64 n):=Zai hmo' r.length _ (by simp [ints])
      have fg:=Zae hg' r.length
      have hgl':=Zab hg'
      have Hset:=Zac (Zkk hmo' r.length (.int .i64 ((n:Int) - 1)))
      have Hacc':=Zac hacc'
      have Hbw':=Zac hbw'
      have Hmm':=Zac hmm'
      have Hbs:=Zac (hbw'.setCell (p:=⟨g',r.length,none⟩) hBg' (.int .i64 ((n:Int) - 1)))
      clear hacc' hbw' hmm' hmo' hg'
      by_cases h1:1<n
      ·have Hcl:Hid (acc'++[44]++Zbx (l.drop (k+1)) ((n - 1)::r)=F):=by show _=_; rw [← Hacc'.out]; simp [Zbl,h1]
       have hl1:(Zbl (n::r)).1.length=1:=by simp [Zbl,h1]
       rw [hl1] at hlen'
       have hd0:(0:Int)<(n:Int) - 1:=by omega
       go_wp2
       go_roundg (l.length - k)
       case measure=>omega
       case rel =>
        have hcast:(n:Int) - 1=((n - 1:Nat):Int):=by omega
        refine ⟨k+1,acc'++[44],(n - 1)::r,by go_num,by omega,by omega,?_,Hcl.out,?_,Hbs.out,by simp; omega,?_⟩
        ·show Value.string (_++(⟨[44].toArray⟩:ByteArray))=_
         rw [Zbv]
        ·have h:=Hset.out
         rw [hcast] at h ⊢
         simpa [ints] using h
        ·intro m hm
         simp only [Qp] at hm
         rcases hm with rfl | hm
         ·omega
         ·exact Hmm'.out m (by simp [hm])
      ·have Hcl:Hid (acc'++[41]++((Zbl r).1++Zbx (l.drop (k+1)) (Zbl r).2)=F):=by show _=_; rw [← Hacc'.out]; simp [Zbl,h1]
       have hl1:(Zbl (n::r)).1.length=(Zbl r).1.length+1:=by simp [Zbl,h1]
       rw [hl1] at hlen'
       have hd0:¬ (0:Int)<(n:Int) - 1:=by omega
       have Hpop:=Zac (Zml (n:=r.length) Hset.out)
       go_wp2
       go_roundg (r.length+1)
       case measure=>omega
       case rel =>
        refine ⟨acc'++[41],r,by omega,?_,Hcl.out,?_,Hbs.out,by omega,fun m hm=>Hmm'.out m (by simp [hm])⟩
        ·show Value.string (_++(⟨[41].toArray⟩:ByteArray))=_
         rw [Zbv]
        ·have h:=Hpop.out
         have e:((ints (n::r).reverse).set r.length (.int .i64 ((n:Int) - 1))).take r.length=ints r.reverse:=by
          simp [ints,List.take_set]
         rw [e] at h
         exact h
  ·have hke:k=l.length:=by omega
   have Hacc:Hid (acc=F):=by
    show _=_
    rw [hke,List.drop_eq_nil_of_le (Qe _)] at hacc
    simpa [Zbx] using hacc
   have Hbw:=Zac hbw
   clear hacc hbw hmo
   go_wp2
   go_ret
   rw [← Hacc.out]
   exact ⟨rfl,Hbw.out⟩
def st0 (q:Bool):RS:=⟨q,if q then 1 else 0,q,[],[],[],[],[],[]⟩
theorem Zqc (q:Bool):RI 0 (st0 q):=by
 refine ⟨by simp [st0],by simp [st0],by simp [st0],by simp [st0],by simp [st0],by simp [st0],?_,by simp [st0],?_⟩
 ·cases q <;> simp [st0]
 ·cases q <;> simp [st0]
def nilV:RV:=⟨.slice none 0 0,.slice none 0 0,.slice none 0 0,.slice none 0 0,.slice none 0 0,.slice none 0 0⟩
theorem Zxa (w:World) (q:Bool):IsRx (w.alloc (.cells (Zcj (st0 q) nilV) 95)) w.heap.size w.heap.size (st0 q):=by
 refine ⟨nilV,0,0,[],[],heap_alloc_new w _,⟨World.ownsRow_nil _ _ _ _,World.ownsRow_nil _ _ _ _,World.ownsRow_nil _ _ _ _,⟨World.ownsRow_nil _ _ _ _,fun k e=>by simp [nilV,Value.ownBlock] at e⟩,⟨World.ownsRow_nil _ _ _ _,fun i l hl=>by simp [st0] at hl⟩,
  ⟨World.ownsRow_nil _ _ _ _,rfl,fun x hx=>by simp at hx,fun i c hc=>by simp [st0] at hc⟩,fun k e=>by simp [nilV,Value.ownBlock] at e,fun k e=>by simp [nilV,Value.ownBlock] at e,fun k e=>by simp [nilV,Value.ownBlock] at e,Qm _,Qm _⟩,Qe _⟩
def runs (s:ByteArray) (q:Bool):Nat × Nat × RS:=runT s.size (toks s.data.toList 0) (st0 q)
theorem Zrr {S:Nat→Prop} {w w':World} {B Sa Sb:Nat} {v:Value} {cs:List CC} {xs:List (List Value)} (h:CCRow w B Sa Sb v cs xs) (hk:Kept S w w') (hs:∀ k cur T fr,S k→w.heap[k]?=some (.cells cur T fr)→T≠79∧T≠52∧T≠55∧T≠9):CCRow w' B Sa Sb v cs xs:=by
 have hX:∀ {Br:Nat} {e:TypeId} {s n:Nat} {v:Value} {ys:List Value},w.ownsRow Br e s v n ys→(e=79∨e=52∨e=55∨e=9)→w'.ownsRow Br e s v n ys:=fun ho he =>
  hk.owns ho (fun i hi hS=>by
   obtain ⟨cur,hc⟩:=Zbt ho i hi
   obtain ⟨h1,h2,h3,h4⟩:=hs i _ _ _ hS hc
   rcases he with he | he | he | he
   ·exact h1 he
   ·exact h2 he
   ·exact h3 he
   ·exact h4 he)
 have hS:∀ {v:Value} {l:List Sym},SymRow w B Sa v l→SymRow w' B Sa v l:=fun hs=>⟨hX hs.1 (Or.inl rfl),hs.2⟩
 refine ⟨hX h.1 (Or.inr (Or.inr (Or.inl rfl))),h.2.1,h.2.2.1,fun i c hc => ?_⟩
 obtain ⟨hv,bv,vv,us,e1,e2,e3,e4⟩:=h.2.2.2 i c hc
 exact ⟨hv,bv,vv,us,e1,hS e2,⟨hX e3.1 (Or.inr (Or.inl rfl)),fun i l hl=>by
  obtain ⟨x,h1,h2⟩:=e3.2 i l hl
  exact ⟨x,h1,hS h2⟩⟩,e4.1,hX e4.2.1 (Or.inr (Or.inr (Or.inr rfl))),e4.2.2⟩
theorem Zxb {S:Nat→Prop} {w w':World} {B Sa:Nat} {v:Value} {ls:List (List Sym)} {us:List Value} (h:BodyRow w B Sa v ls us) (hk:Kept S w w') (hs:∀ k,S k→k<B):BodyRow w' B Sa v ls us:=by
 have hX:∀ {e:TypeId} {s n:Nat} {v:Value} {ys:List Value},w.ownsRow B e s v n ys→w'.ownsRow B e s v n ys:=fun ho =>
  hk.owns ho (fun i hi hS=>by
   have h1:=(ho.lt i hi).1
   have h2:=hs i hS
   omega)
 exact ⟨hX h.1,fun i l hl=>by
  obtain ⟨x,h1,h2⟩:=h.2 i l hl
  exact ⟨x,h1,hX h2.1,h2.2⟩⟩
theorem Zmv (s:ByteArray) (w:World) (hm:s.size≤maxLen) (hl:800<s.size) :
  Calls Tryd.prog 33 #[.string s] w fun e w'=>e = .returned (.tuple #[.slice none 0 0,.agg #[.int .i64 1,.int .i64 0]])∧Below w.heap.size w w':=by
 go_enter Tryd.func33,Tryd.ntmps33
 go_wp2
 refine bodyPost_ret (v := .tuple #[.slice none 0 0,.agg #[.int .i64 1,.int .i64 0]]) (by simp [results,Tryd.results33,go_sem]) rfl ⟨rfl,(Below.refl _ _).alloc (Qe _) _⟩
theorem Yaz (s:ByteArray) (w:World) (hl:s.size≤800) :
  Calls Tryd.prog 33 #[.string s] w fun e w'=>Below w.heap.size w w'∧(((runs s false).1≠0∧e = .returned (.tuple #[.slice none 0 0,.agg #[.int .i64 (runs s false).1,.int .i64 (runs s false).2.1]])) ∨
   ((runs s false).1=0∧∃ v B Sa Sb xs,e = .returned (.tuple #[v,.agg #[.int .i64 0,.int .i64 0]])∧CCRow w' B Sa Sb v (runs s false).2.2.clauses xs)):=by
 obtain ⟨R,hR⟩:∃ R,R=runs s false:=⟨_,rfl⟩
 have hA:=Zhq ((w.alloc (.cells #[.int .i64 0,.int .i64 0] 69)).alloc (.cells (Zcj (st0 false) nilV) 95)) _ _ (st0 false) s (Zxa (w.alloc (.cells #[.int .i64 0,.int .i64 0] 69)) false) (Zqc false) (by omega)
 rw [show runT s.size (toks s.data.toList 0) (st0 false)=R from hR.symm] at hA
 rw [show (w.alloc (.cells #[.int .i64 0,.int .i64 0] 69)).heap.size=w.heap.size+1 from by simp] at hA
 have HA:=Zac hA
 rw [← hR]
 clear hR hA
 go_enter Tryd.func33,Tryd.ntmps33
 go_wp2_with fail
 refine HA.out.mono ?_
 rintro e w2 ⟨rfl,hr,hb⟩
 have hF:FaultAt w2 w.heap.size 0 0:=(hb.block w.heap.size (by omega)).trans (Zao (heap_alloc_new w _) _)
 have hB:Below w.heap.size w w2:=((Below.refl _ w).alloc (Qe _) _).trans ((((Below.refl _ _).alloc (by simp) _)).trans (hb.mono (by omega)))
 obtain ⟨V,Sa,Sb,vs,xs,h⟩:=hr
 have hrb:=Zab h.blk
 obtain ⟨c0,c1,c2,c3,c4,c5,c6,c7,c8⟩:=h.opens.facts
 have cf:=fun i=>Zae h.blk i
 obtain ⟨ca,ccap,hvc⟩:=Zad h.rest.cls.1
 rw [hvc] at c8
 obtain ⟨hT4,f0,f1,ff⟩:=hF.cells
 have HF:=Zac hF
 have HB:=Zac hB
 have HC:=Zac h.rest.cls
 have Hvc:=Zac hvc
 clear hF hB h hvc hb c0 c1 c2 c3 c4 c5 c6 c7
 by_cases hc:R.1=0
 ·have b0:((R.1:Int) != 0)=false:=by rw [hc]; rfl
  have Hc:=Zac hc
  clear hc
  go_wp2
  refine bodyPost_ret (v := .tuple #[.slice ca R.2.2.clauses.length ccap,.agg #[.int .i64 0,.int .i64 0]]) (by simp [results,Tryd.results33,go_sem,f0,f1,ff,hT4]) rfl ?_
  refine ⟨?_,Or.inr ⟨Hc.out,_,w.heap.size+1,Sa,Sb,xs,rfl,?_⟩⟩
  ·exact ((HB.out.setCell (p:=⟨w.heap.size,0,none⟩) (Qe _) _).setCell (p:=⟨w.heap.size,1,none⟩) (Qe _) _).alloc (by simp; omega) _
  ·rw [← Hvc.out]
   exact Zrr HC.out ((((Qx (only w.heap.size) w2).put 0 _).put 1 _).alloc _) (fun k cur T fr hk hb=>by
    have hk:k=w.heap.size:=hk
    rw [hk,HF.out] at hb
    simp only [Qo,Obj.cells.injEq] at hb
    rw [← hb.2.1]
    decide)
 ·have b0:((R.1:Int) != 0)=true:=by rw [bne_iff_ne]; omega
  have Hc:=Zac hc
  clear hc
  go_wp2_with fail
  go_region
  all_goals
   go_wp2
   refine bodyPost_ret (v := .tuple #[.slice none 0 0,.agg #[.int .i64 R.1,.int .i64 R.2.1]]) (by simp [results,Tryd.results33,go_sem,f0,f1,ff,hT4]) rfl ?_
   refine ⟨?_,Or.inl ⟨Hc.out,rfl⟩⟩
   exact (((HB.out.setCell (p:=⟨w.heap.size,0,none⟩) (Qe _) _).setCell (p:=⟨w.heap.size,1,none⟩) (Qe _) _).alloc (by simp; omega) _).drew
theorem Zqd (s:ByteArray) (w:World) (hm:s.size≤maxLen) (hl:120<s.size) :
  Calls Tryd.prog 34 #[.string s] w fun e w'=>e = .returned (.tuple #[.agg #[.slice none 0 0,.slice none 0 0,.slice none 0 0],.agg #[.int .i64 1,.int .i64 0]])∧Below w.heap.size w w':=by
 go_enter Tryd.func34,Tryd.ntmps34
 go_wp2
 refine bodyPost_ret (v := .tuple #[.agg #[.slice none 0 0,.slice none 0 0,.slice none 0 0],.agg #[.int .i64 1,.int .i64 0]]) (by simp [results,Tryd.results34,go_sem]) rfl ⟨rfl,((Below.refl _ _).alloc (Qe _) _).alloc (by simp) _⟩
theorem Ztw (s:ByteArray) (w:World) (hl:s.size≤120) (hcl:(runs s true).1=0→∃ c cs,(runs s true).2.2.clauses=c::cs) :
  Calls Tryd.prog 34 #[.string s] w fun e w'=>Below w.heap.size w w'∧(((runs s true).1≠0∧e = .returned (.tuple #[.agg #[.slice none 0 0,.slice none 0 0,.slice none 0 0],.agg #[.int .i64 (runs s true).1,.int .i64 (runs s true).2.1]])) ∨
   ((runs s true).1=0∧∃ hv bv vv B Sa vs c cs,e = .returned (.tuple #[.agg #[hv,bv,vv],.agg #[.int .i64 0,.int .i64 0]])∧(runs s true).2.2.clauses=c::cs∧(∃ a n x,hv = .slice a n x)∧w'.ownsRow B 9 1 vv c.names.length (strs c.names)∧BodyRow w' B Sa bv c.body vs)):=by
 obtain ⟨R,hR⟩:∃ R,R=runs s true:=⟨_,rfl⟩
 have hA:=Zhq (((w.alloc (.cells #[.slice none 0 0,.slice none 0 0,.slice none 0 0] 55)).alloc (.cells #[.int .i64 0,.int .i64 0] 69)).alloc (.cells (Zcj (st0 true) nilV) 95)) _ _ (st0 true) s (Zxa ((w.alloc (.cells #[.slice none 0 0,.slice none 0 0,.slice none 0 0] 55)).alloc (.cells #[.int .i64 0,.int .i64 0] 69)) true) (Zqc true) (by omega)
 rw [show runT s.size (toks s.data.toList 0) (st0 true)=R from hR.symm] at hA
 rw [show ((w.alloc (.cells #[.slice none 0 0,.slice none 0 0,.slice none 0 0] 55)).alloc (.cells #[.int .i64 0,.int .i64 0] 69)).heap.size=w.heap.size+1+1 from by simp] at hA
 have HA:=Zac hA
 rw [← hR] at hcl ⊢
 have Hcl:=Zac hcl
 clear hR hA hcl
 go_enter Tryd.func34,Tryd.ntmps34
 go_wp2_with fail
 refine HA.out.mono ?_
 rintro e w2 ⟨rfl,hr,hb⟩
 have hF:FaultAt w2 (w.heap.size+1) 0 0:=(hb.block (w.heap.size+1) (by omega)).trans (Zao (by have:=heap_alloc_new (w.alloc (.cells #[.slice none 0 0,.slice none 0 0,.slice none 0 0] 55)) (.cells #[.int .i64 0,.int .i64 0] 69); simpa using this) _)
 have hC:w2.heap[w.heap.size]?=some (.cells #[.slice none 0 0,.slice none 0 0,.slice none 0 0] 55 (0,0)):=(hb.block w.heap.size (by omega)).trans (Zao (Zao (heap_alloc_new w _) _) _)
 have hB:Below w.heap.size w w2:=((Below.refl _ w).alloc (Qe _) _).trans (((Below.refl _ _).alloc (by simp) _).trans (((Below.refl _ _).alloc (by simp; omega) _).trans (hb.mono (by omega))))
 obtain ⟨V,Sa,Sb,vs,xs,h⟩:=hr
 have hrb:=Zab h.blk
 obtain ⟨c0,c1,c2,c3,c4,c5,c6,c7,c8⟩:=h.opens.facts
 have cf:=fun i=>Zae h.blk i
 obtain ⟨ca,ccap,hvc⟩:=Zad h.rest.cls.1
 rw [hvc] at c8
 obtain ⟨hT4,f0,f1,ff⟩:=hF.cells
 have q0:w2.cell? ⟨w.heap.size,0,none⟩=some (.slice none 0 0):=Zaa hC 0 _ rfl
 have q1:w2.cell? ⟨w.heap.size,1,none⟩=some (.slice none 0 0):=Zaa hC 1 _ rfl
 have q2:w2.cell? ⟨w.heap.size,2,none⟩=some (.slice none 0 0):=Zaa hC 2 _ rfl
 have qf:=fun i=>Zae hC i
 have hT2:=Zab hC
 have HF:=Zac hF
 have HQ:=Zac hC
 have HB:=Zac hB
 have HC:=Zac h.rest.cls
 have Hvc:=Zac hvc
 clear hF hB h hb c0 c1 c2 c3 c4 c5 c6 c7 hC hvc
 have Hdone:Hid (∀ x0 x1 x2 y0 y1 o,Below w.heap.size w ((((((w2.setCell ⟨w.heap.size,0,none⟩ x0).setCell ⟨w.heap.size,1,none⟩ x1).setCell ⟨w.heap.size,2,none⟩ x2).setCell ⟨w.heap.size+1,0,none⟩ y0).setCell ⟨w.heap.size+1,1,none⟩ y1).alloc o)):=fun x0 x1 x2 y0 y1 o =>
  (((((HB.out.setCell (p:=⟨w.heap.size,0,none⟩) (Qe _) _).setCell (p:=⟨w.heap.size,1,none⟩) (Qe _) _).setCell (p:=⟨w.heap.size,2,none⟩) (Qe _) _).setCell (p:=⟨w.heap.size+1,0,none⟩) (Nat.le_succ _) _).setCell (p:=⟨w.heap.size+1,1,none⟩) (Nat.le_succ _) _).alloc (by simp; omega) _
 by_cases hc:R.1=0
 ·have b0:((R.1:Int) != 0)=false:=by rw [hc]; rfl
  obtain ⟨c,cs,hcs⟩:=Hcl.out hc
  obtain ⟨hv,bv,vv,us,e1,e2,e3,e4,e5,e6⟩:=HC.out.2.2.2 0 c (by rw [hcs]; rfl)
  obtain ⟨va,vcap,rfl⟩:=Zad e5
  obtain ⟨ha,hcap,rfl⟩:=Zad e2.1
  obtain ⟨ba,bcap,rfl⟩:=Zad e3.1
  have hcl:0<R.2.2.clauses.length:=by rw [hcs]; simp
  have hcr:=HC.out.1
  rw [Hvc.out] at hcr
  obtain ⟨g,gcap,gcur,he,hBg,hg,hcp⟩:=Zap hcr (by omega)
  simp only [Value.slice.injEq] at he
  obtain ⟨rfl,_,rfl⟩:=he
  obtain ⟨xr,hxs⟩:∃ xr,xs=[.slice ha c.head.length hcap,.slice ba c.body.length bcap,.slice va c.names.length vcap]::xr:=by
   cases xs with
   | nil=>simp at e1
   | cons x xr=>simp at e1; exact ⟨xr,by rw [e1]⟩
  have k0:w2.cell? ⟨g,0,none⟩=some (.slice ha c.head.length hcap):=Zai hcr 0 _ (by rw [hxs]; rfl)
  have k1:w2.cell? ⟨g,1,none⟩=some (.slice ba c.body.length bcap):=Zai hcr 1 _ (by rw [hxs]; rfl)
  have k2:w2.cell? ⟨g,2,none⟩=some (.slice va c.names.length vcap):=Zai hcr 2 _ (by rw [hxs]; rfl)
  have hgl:=Zab hg
  have bl0:(((R.2.2.clauses.length:Nat):Int) == 0)=false:=by rw [Qu]; omega
  have Hc:=Zac hc
  have Hcs:=Zac hcs
  have He3:=Zac e3
  have He5:=Zac e5
  clear hc hcs e1 e2 e3 e4 e5 e6 hcr hg hxs
  go_wp2
  refine bodyPost_ret (v := .tuple #[.agg #[.slice ha c.head.length hcap,.slice ba c.body.length bcap,.slice va c.names.length vcap],.agg #[.int .i64 0,.int .i64 0]]) (by simp [results,Tryd.results34,go_sem,f0,f1,ff,hT4,q0,q1,q2,qf,hT2]) rfl ?_
  refine ⟨Hdone.out _ _ _ _ _ _,Or.inr ⟨Hc.out,_,_,_,w.heap.size+1+1,Sa,us,c,cs,rfl,Hcs.out,⟨_,_,_,rfl⟩,?_,?_⟩⟩
  rotate_left
  refine Zxb He3.out (S:=fun k=>k=w.heap.size∨k=w.heap.size+1) ?_ (fun k hk=>by omega)
  rotate_left
  refine Kept.owns (S:=fun k=>k=w.heap.size∨k=w.heap.size+1) ?_ He5.out (fun k hk e=>by have:=(He5.out.lt k hk).1; omega)
  all_goals exact ((((((Qx _ w2).setCell (p:=⟨w.heap.size,0,none⟩) (fun _=>Or.inl rfl) _).setCell (p:=⟨w.heap.size,1,none⟩) (fun _=>Or.inl rfl) _).setCell (p:=⟨w.heap.size,2,none⟩) (fun _=>Or.inl rfl) _).setCell (p:=⟨w.heap.size+1,0,none⟩) (fun _=>Or.inr rfl) _).setCell (p:=⟨w.heap.size+1,1,none⟩) (fun _=>Or.inr rfl) _).alloc _
 ·have b0:((R.1:Int) != 0)=true:=by rw [bne_iff_ne]; omega
  have Hc:=Zac hc
  clear hc
  go_wp2_with fail
  go_region
  all_goals
   go_wp2
   refine bodyPost_ret (v := .tuple #[.agg #[.slice none 0 0,.slice none 0 0,.slice none 0 0],.agg #[.int .i64 R.1,.int .i64 R.2.1]]) (by simp [results,Tryd.results34,go_sem,f0,f1,ff,hT4,q0,q1,q2,qf,hT2]) rfl ?_
   refine ⟨?_,Or.inl ⟨Hc.out,rfl⟩⟩
   exact (Hdone.out _ _ _ _ _ _).drew
def Zzr (l:List Sym):Prop:=l.length≤4000∧∀ s ∈ l,s.num<2600∧s.args≤4096
def Zxc:List UInt8→List (List Sym)→List UInt8
 | _,[]=>[]
 | sep,l::ls=>sep++(Zbx l []++Zxc [44,32] ls)
end Go.Proofs.YtlmjilpjmgjjcabDoor
namespace Go.Proofs.YtlmjilpjmgjjcabDoor
def scan:List Sym→Nat→Option Nat
 | [],k=>some k
 | s::r,k=>if s.name=[] then (if s.num<k then scan r k else if s.num=k then scan r (k+1) else none) else scan r k
theorem Zhr (a b:List Sym) (k:Nat):scan (a++b) k=(scan a k).bind (scan b):=by
 induction a generalizing k with
 | nil=>rfl
 | cons s a ih =>
  simp only [List.cons_append,scan]
  split
  ·split
   ·exact ih k
   ·split
    ·exact ih (k+1)
    ·rfl
  ·exact ih k
theorem Zmw {a b:List Sym} {k k':Nat} (h:scan (a++b) k=some k'):∃ j,scan a k=some j∧scan b j=some k':=by
 rw [Zhr] at h
 cases ha:scan a k with
 | none=>rw [ha] at h; simp at h
 | some j=>rw [ha] at h; exact ⟨j,rfl,h⟩
theorem Zdx:∀ (l:List Sym) (k k':Nat),scan l k=some k'→k≤k'∧k'≤k+l.length∧∀ s ∈ l,s.name=[]→s.num<k':=by
 intro l
 induction l with
 | nil=>intro k k' h; simp [scan] at h; subst h; simp
 | cons s l ih =>
  intro k k' h
  simp only [scan] at h
  split at h
  ·split at h
   ·rename_i h1 h2
    obtain ⟨g1,g2,g3⟩:=ih _ _ h
    refine ⟨g1,by simp; omega,?_⟩
    intro x hx hn
    simp at hx
    rcases hx with rfl | hx
    ·omega
    ·exact g3 x hx hn
   ·split at h
    ·rename_i h1 h2 h3
     obtain ⟨g1,g2,g3⟩:=ih _ _ h
     refine ⟨by omega,by simp; omega,?_⟩
     intro x hx hn
     simp at hx
     rcases hx with rfl | hx
     ·omega
     ·exact g3 x hx hn
    ·simp at h
  ·rename_i h1
   obtain ⟨g1,g2,g3⟩:=ih _ _ h
   refine ⟨g1,by simp; omega,?_⟩
   intro x hx hn
   simp at hx
   rcases hx with rfl | hx
   ·exact absurd hn h1
   ·exact g3 x hx hn
theorem Zxd (n k:Nat) (h:n<k):(List.range k).idxOf n=n:=by
 have hm:n ∈ List.range k:=by simpa using h
 have h1:=List.idxOf_lt_length_of_mem hm
 have h2:=List.getElem_idxOf h1
 rw [List.getElem_range] at h2
 exact h2
theorem Zqe (f:Nat) (IH:∀ l,IsT f l→∀ k k',scan l k=some k'→(Zce f l (List.range k)).2.1=List.range k'∧∀ rest miss,Zbx (l++rest) miss=(Zce f l (List.range k)).1++((Zbl miss).1++Zbx rest (Zbl miss).2)) :
  ∀ (ls:List (List Sym)),ls≠[]→(∀ l ∈ ls,IsT f l)→∀ (k k':Nat) (sep:UInt8),scan ls.flatten k=some k'→(Zeh f sep ls (List.range k)).2=List.range k' ∧
   ∀ rest miss,sep::Zbx (ls.flatten++rest) (ls.length::miss)=(Zeh f sep ls (List.range k)).1++(41::((Zbl miss).1++Zbx rest (Zbl miss).2)):=by
 intro ls
 induction ls with
 | nil=>intro h; exact absurd rfl h
 | cons l ls ih =>
  intro _ hls k k' sep hsc
  rw [List.flatten_cons] at hsc
  obtain ⟨j,h1,h2⟩:=Zmw hsc
  obtain ⟨w1,w2⟩:=IH l (hls l (by simp)) k j h1
  cases ls with
  | nil =>
   simp only [List.flatten_nil,scan,Qo] at h2
   subst h2
   simp only [Zeh,w1,List.flatten_cons,List.flatten_nil,Qs]
   refine ⟨trivial,fun rest miss => ?_⟩
   rw [w2]
   simp [Zbl]
  | cons l2 ls2 =>
   obtain ⟨v1,v2⟩:=ih (by simp) (fun x hx=>hls x (by simp [hx])) j k' 44 h2
   have hk:Zeh f sep (l::l2::ls2) (List.range k)=(sep::((Zce f l (List.range k)).1++(Zeh f 44 (l2::ls2) (List.range j)).1),(Zeh f 44 (l2::ls2) (List.range j)).2):=by
    rw [Zeh,w1]
   rw [hk]
   refine ⟨v1,fun rest miss => ?_⟩
   rw [List.flatten_cons,Qi,w2]
   have hc:Zbl ((l::l2::ls2).length::miss)=([44],(l2::ls2).length::miss):=by simp [Zbl]
   rw [hc]
   have:=v2 rest miss
   simp only [List.cons_append,List.nil_append,Qi]
   rw [this]
theorem Ycx:∀ (f:Nat) (l:List Sym),IsT f l→∀ k k',scan l k=some k'→(Zce f l (List.range k)).2.1=List.range k'∧∀ rest miss,Zbx (l++rest) miss=(Zce f l (List.range k)).1++((Zbl miss).1++Zbx rest (Zbl miss).2):=by
 intro f
 induction f with
 | zero=>intro l h; exact h.elim
 | succ f ih =>
  intro l h k k' hsc
  rcases h with ⟨n,rfl⟩ | ⟨nm,ls,h1,rfl,h2⟩
  ·simp only [scan,if_true] at hsc
   split at hsc
   ·rename_i hn
    simp at hsc; subst hsc
    have hv:wvar n (List.range k)=(Zeg n,List.range k):=by
     unfold wvar
     rw [if_pos (by simpa using hn),Zxd n k hn]
    simp [Zce,hv,Zbx,symC]
   ·split at hsc
    ·rename_i hn1 hn2
     simp at hsc; subst hsc
     have hv:wvar n (List.range k)=(Zeg n,List.range (k+1)):=by
      unfold wvar
      rw [if_neg (by simpa using hn1),List.range_succ,hn2]
      simp
     simp [Zce,hv,Zbx,symC]
    ·simp at hsc
  ·have hsc':scan ls.flatten k=some k':=by simpa [scan,h1] using hsc
   cases hls:ls with
   | nil =>
    rw [hls] at hsc'
    simp [scan] at hsc'
    subst hsc'
    simp [Zce,Zbx,symC,h1]
   | cons l0 ls0 =>
    rw [← hls]
    have hne:ls≠[]:=by rw [hls]; simp
    have hw:=Ziv f nm ls h1 h2 hne (List.range k)
    obtain ⟨v1,v2⟩:=Zqe f ih ls hne h2 k k' 40 hsc'
    rw [hw]
    refine ⟨v1,fun rest miss => ?_⟩
    have hpos:0<ls.length:=by rw [hls]; simp
    have:=v2 rest miss
    simp only [List.cons_append,Zbx,hpos,if_true,symC,h1,if_false,Qi]
    rw [this]
    simp
theorem Zqf (f:Nat):∀ (ls:List (List Sym)),(∀ l ∈ ls,IsT f l)→∀ (k k':Nat) (sep:List UInt8),scan ls.flatten k=some k'→Zxc sep ls=Zhk f sep ls (List.range k):=by
 intro ls
 induction ls with
 | nil=>intro _ k k' sep _; rfl
 | cons l ls ih =>
  intro hls k k' sep hsc
  rw [List.flatten_cons] at hsc
  obtain ⟨j,h1,h2⟩:=Zmw hsc
  obtain ⟨w1,w2⟩:=Ycx f l (hls l (by simp)) k j h1
  have h3:=w2 [] []
  simp only [Qs,Zbl,Zbx,List.nil_append] at h3
  rw [Zxc,Zhk,w1,h3,ih (fun x hx=>hls x (by simp [hx])) j k' _ h2]
  simp
def Worded (ts:List Tok):Prop:=∀ i t,ts[i]?=some t→i+1<ts.length→t.text≠[]
theorem Worded.drop {ts:List Tok} (h:Worded ts) (n:Nat):Worded (ts.drop n):=by
 intro i t hi hl
 rw [List.getElem?_drop] at hi
 rw [List.length_drop] at hl
 exact h (n+i) t hi (by omega)
theorem Worded.tail {t:Tok} {ts:List Tok} (h:Worded (t::ts)):Worded ts:=by simpa using h.drop 1
theorem Zqg (names:Names) (s:List UInt8) (r:List Sym):scan (⟨[],(Zbm names s).2,0⟩::r) names.length=scan r (Zbm names s).1.length:=by
 unfold Zbm
 split
 ·rename_i h
  have:=List.idxOf_lt_length_of_mem h
  simp [scan,this]
 ·simp [scan]
theorem Zxe (f:Nat) (IH:∀ ts names r,Worded ts→Zdl f ts names=some r→IsT f r.1∧scan r.1 names.length=some r.2.2.length) (k0:Nat) :
  ∀ (g:Nat) (ts:List Tok) (names:Names) (acc:List (List Sym)) r,Worded ts→(∀ l ∈ acc,IsT f l)→scan acc.flatten k0=some names.length→Zew (Zdl f) g ts names acc=some r→(∀ l ∈ r.1,IsT f l)∧scan r.1.flatten k0=some r.2.2.length:=by
 intro g
 induction g with
 | zero=>intro ts names acc r _ _ _ h; simp [Zew] at h
 | succ g ih =>
  intro ts names acc r hw ha hs h
  cases ts with
  | nil=>simp [Zew] at h
  | cons t ts =>
   rw [Zew] at h
   split at h
   ·simp at h; subst h; exact ⟨ha,hs⟩
   ·cases hq:Zdl f ts names with
    | none=>rw [hq] at h; simp at h
    | some q =>
     rw [hq] at h
     simp only at h
     obtain ⟨i1,i2⟩:=IH ts names q hw.tail hq
     obtain ⟨n,_,_,hn,_⟩:=Zey f ts names q hq
     refine ih q.2.1 q.2.2 (acc++[q.1]) r (by rw [hn]; exact hw.tail.drop n) ?_ ?_ h
     ·intro l hl
      simp at hl
      rcases hl with hl | rfl
      ·exact ha l hl
      ·exact i1
     ·simp only [List.flatten_append,List.flatten_cons,List.flatten_nil,Qs]
      rw [Zhr,hs]
      exact i2
theorem Zkn:∀ (f:Nat) (ts:List Tok) (names:Names) r,Worded ts→Zdl f ts names=some r→IsT f r.1∧scan r.1 names.length=some r.2.2.length:=by
 intro f
 induction f with
 | zero=>intro ts names r _ h; simp [Zdl] at h
 | succ f ih =>
  intro ts names r hw h
  cases ts with
  | nil=>simp [Zdl] at h
  | cons t ts =>
   rw [Zdl] at h
   split at h
   ·simp at h; subst h
    exact ⟨Or.inl ⟨_,rfl⟩,by rw [Zqg]; rfl⟩
   ·cases ts with
    | nil=>simp [Zlb] at h
    | cons u us =>
     have ht:t.text≠[]:=hw 0 t rfl (by simp)
     rw [Zlb] at h
     split at h
     ·simp at h; subst h
      exact ⟨Or.inr ⟨t.text,[],ht,rfl,by simp⟩,by simp [scan,ht]⟩
     ·rw [Option.map_eq_some_iff] at h
      obtain ⟨q,hq,rfl⟩:=h
      obtain ⟨g1,g2⟩:=Zxe f ih names.length _ _ _ _ _ hw.tail (by simp) rfl hq
      exact ⟨Or.inr ⟨t.text,q.1,ht,rfl,g1⟩,by simpa [scan,ht] using g2⟩
theorem Zfl (f:Nat) (k0:Nat):∀ (g:Nat) (ts:List Tok) (names:Names) (acc:List (List Sym)) q,Worded ts→(∀ l ∈ acc,IsT f l)→scan acc.flatten k0=some names.length→Zdq f g ts names acc=some q →
  (∀ l ∈ q.1,IsT f l)∧scan q.1.flatten k0=some q.2.2.length∧Worded q.2.1:=by
 intro g
 induction g with
 | zero=>intro ts names acc q _ _ _ h; simp [Zdq] at h
 | succ g ih =>
  intro ts names acc q hw ha hs h
  rw [Zdq] at h
  cases hq:Zdl f ts names with
  | none=>rw [hq] at h; simp at h
  | some r =>
   rw [hq] at h
   simp only at h
   obtain ⟨i1,i2⟩:=Zkn f ts names r hw hq
   obtain ⟨n,_,_,hn,_⟩:=Zey f ts names r hq
   have hw1:Worded r.2.1:=by rw [hn]; exact hw.drop n
   have ha1:∀ l ∈ acc++[r.1],IsT f l:=by
    intro l hl
    simp at hl
    rcases hl with hl | rfl
    ·exact ha l hl
    ·exact i1
   have hs1:scan (acc++[r.1]).flatten k0=some r.2.2.length:=by
    simp only [List.flatten_append,List.flatten_cons,List.flatten_nil,Qs]
    rw [Zhr,hs]
    exact i2
   cases hr:r.2.1 with
   | nil=>rw [hr] at h; simp at h
   | cons x rest =>
    rw [hr] at h hw1
    simp only at h
    split at h
    ·simp at h; subst h
     exact ⟨ha1,hs1,hw1.tail⟩
    ·exact ih rest r.2.2 (acc++[r.1]) q hw1.tail ha1 hs1 h
def Good (c:Cls):Prop:=IsT 1000 c.head∧(∀ l ∈ c.body,IsT 1000 l)∧∃ k1 k2,scan c.head 0=some k1∧scan c.body.flatten k1=some k2
theorem Zko (ts:List Tok) (c:Cls × List Tok) (hw:Worded ts) (h:Zfs ts=some c):Good c.1∧Worded c.2:=by
 rw [Zfs] at h
 cases hp:Zdl 1000 ts [] with
 | none=>rw [hp] at h; simp at h
 | some r =>
  rw [hp] at h
  simp only at h
  obtain ⟨i1,i2⟩:=Zkn 1000 ts [] r hw hp
  obtain ⟨n,_,_,hn,_⟩:=Zey 1000 ts [] r hp
  have hw1:Worded r.2.1:=by rw [hn]; exact hw.drop n
  cases hr:r.2.1 with
  | nil=>rw [hr] at h; simp at h
  | cons y ys =>
   rw [hr] at h hw1
   simp only at h
   split at h
   ·rw [Option.map_eq_some_iff] at h
    obtain ⟨q,hq,rfl⟩:=h
    obtain ⟨g1,g2,g3⟩:=Zfl 1000 r.2.2.length 1000 ys r.2.2 [] q hw1.tail (by simp) rfl hq
    exact ⟨⟨i1,g1,_,_,i2,g2⟩,g3⟩
   ·simp at h
    subst h
    exact ⟨⟨i1,by simp,_,_,i2,rfl⟩,hw1.tail⟩
theorem Zxf:∀ (g:Nat) (ts:List Tok) (acc cs:List Cls),Worded ts→(∀ c ∈ acc,Good c)→Ziw g ts acc=some cs→∀ c ∈ cs,Good c:=by
 intro g
 induction g with
 | zero=>intro ts acc cs _ _ h; simp [Ziw] at h
 | succ g ih =>
  intro ts acc cs hw ha h
  cases ts with
  | nil=>simp [Ziw] at h
  | cons t ts =>
   rw [Ziw] at h
   split at h
   ·simp at h; subst h; exact ha
   ·cases hc:Zfs (t::ts) with
    | none=>rw [hc] at h; simp at h
    | some c =>
     rw [hc] at h
     simp only at h
     obtain ⟨g1,g2⟩:=Zko _ c hw hc
     refine ih c.2 (acc++[c.1]) cs g2 ?_ h
     intro x hx
     simp at hx
     rcases hx with hx | rfl
     ·exact ha x hx
     ·exact g1
theorem Zoi (ls:List (List Sym)) (l:List Sym) (h:l ∈ ls):l.length≤ls.flatten.length:=by
 induction ls with
 | nil=>simp at h
 | cons x ls ih =>
  simp only [Qp] at h
  rw [List.flatten_cons,Qg]
  rcases h with rfl | h
  ·omega
  ·have:=ih h; omega
theorem Zzs:∀ (f:Nat) (l:List Sym),IsT f l→∀ s ∈ l,s.args≤l.length∧(s.name=[]∨s.num=0):=by
 intro f
 induction f with
 | zero=>intro l h; exact h.elim
 | succ f ih =>
  intro l h s hs
  rcases h with ⟨n,rfl⟩ | ⟨nm,ls,h1,rfl,h2⟩
  ·simp at hs; subst hs; simp
  ·have hfl:=Zmo f ls h2
   simp only [Qp] at hs
   rcases hs with rfl | hs
   ·exact ⟨by simp only [Qf]; omega,Or.inr rfl⟩
   ·rw [List.mem_flatten] at hs
    obtain ⟨l',hl',hs⟩:=hs
    obtain ⟨a1,a2⟩:=ih l' (h2 l' hl') s hs
    have:=Zoi ls l' hl'
    exact ⟨by simp only [Qf]; omega,a2⟩
theorem Ycy (f:Nat) (l:List Sym) (k k':Nat) (h:IsT f l) (hs:scan l k=some k') (hl:l.length≤1000) (hk:k'≤2600):Zzr l:=by
 refine ⟨by omega,fun s hm => ?_⟩
 obtain ⟨a1,a2⟩:=Zzs f l h s hm
 obtain ⟨_,_,b3⟩:=Zdx l k k' hs
 refine ⟨?_,by omega⟩
 rcases a2 with a2 | a2
 ·have:=b3 s hm a2; omega
 ·omega
theorem Ybo (f:Nat):∀ (ls:List (List Sym)) (k k':Nat),(∀ l ∈ ls,IsT f l)→scan ls.flatten k=some k'→ls.flatten.length≤1000→k'≤2600→∀ l ∈ ls,Zzr l:=by
 intro ls
 induction ls with
 | nil=>intro k k' _ _ _ _ l hl; simp at hl
 | cons l ls ih =>
  intro k k' hT hs hl hk x hx
  rw [List.flatten_cons] at hs hl
  rw [Qg] at hl
  obtain ⟨j,h1,h2⟩:=Zmw hs
  obtain ⟨b1,_,_⟩:=Zdx _ _ _ h2
  simp only [Qp] at hx
  rcases hx with rfl | hx
  ·exact Ycy f x k j (hT x (by simp)) h1 (by omega) (by omega)
  ·exact ih j k' (fun y hy=>hT y (by simp [hy])) h2 (by omega) hk x hx
theorem Zdi (s:ByteArray):Worded (Zbf s):=Zny s
theorem Zdc (s:ByteArray) (q:Bool):(runs s q).1=(Zkb (Zbf s) (Zei q)).1∧((runs s q).1≠0→(runs s q).2.1=(Zkb (Zbf s) (Zei q)).2)∧((runs s q).1=0→(runs s q).2.2=takes (toks s.data.toList 0) (st0 q)) :=
 Zwv s.size _ _ _ (sim0 q) (Ziz _ _)
theorem Zzt {ts:List Tok} {L:LookS} (hok:okk ts L) (hf:fin ts) (hw:L.want=5):∃ t r,ts=t::r∧t.kind=4:=by
 cases ts with
 | nil=>exact hf.elim
 | cons t r =>
  refine ⟨t,r,rfl,?_⟩
  apply Classical.byContradiction
  intro hk
  have h:=(Zfu hok (fun hc=>hk hc.1)).1
  unfold Zcx at h
  rw [if_neg (by omega),if_pos hw] at h
  simp at h
theorem Zgt (s:ByteArray) (hs:s.size≤120) (h0:(runs s true).1=0) :
  ∃ q,Zdq 1000 1000 (Zbf s) [] []=some q∧(runs s true).2.2.clauses=[⟨[],q.1,q.2.2⟩]∧Zxc [] q.1=Zhk 1000 [] q.1 []∧q.1.length≤4000∧(∀ l ∈ q.1,Zzr l)∧(Zxc [] q.1).length≤100000000:=by
 obtain ⟨r1,_,r3⟩:=Zdc s true
 have hl:=Zfr s
 have hok:okk (Zbf s) (Zei true):=r1.symm.trans h0
 obtain ⟨q,L',i,ex,h1,h2,h3,h4,_,_,_,_,h9,h10,h11⟩:=Zog 1000 (Zbf s) (Zei true) [] (st0 true) (by omega) (by omega) hok (Zwq _ _) rfl rfl rfl rfl rfl rfl rfl
 have hend:(Zbf s).take i=toks s.data.toList 0:=Yay (Ziz _ _) (by
  obtain ⟨t,r,e1,e2⟩:=Zzt h2 h3 (by rw [h4]; rfl)
  exact ⟨t,r,by rw [← e1,h9]; rfl,e2⟩)
 rw [hend] at h11
 have h1':Zdq 1000 1000 (Zbf s) [] []=some q:=h1
 have hM:=Zke (M:=120) 1000 (Zbf s) [] [] q (fun t ht=>Qq (Zjl s t ht) hs) (by simp) h1'
 obtain ⟨g1,g2,_⟩:=Zfl 1000 0 1000 (Zbf s) [] [] q (Zdi s) (by simp) rfl h1'
 have hfl:=Zmo 1000 q.1 g1
 have hlen:q.1.flatten.length≤121:=by have:=hM.1; simp only [List.flatten_nil,Jt] at this; omega
 obtain ⟨_,b2,_⟩:=Zdx _ _ _ g2
 have hw:=Zqf 1000 q.1 g1 0 _ [] g2
 simp only [List.range_zero] at hw
 have hwl:=Zpu 1000 q.1 g1 (fun x hx=>Qq (hM.2.1 x hx) (by omega)) [] [] (by simp) (by simp only [Jt]; omega)
 refine ⟨q,h1',?_,hw,by omega,Ybo 1000 q.1 0 _ g1 g2 (by omega) (by omega),?_⟩
 ·rw [r3 h0,h11,h10]
  rfl
 ·rw [hw]; omega
theorem Ztx (n:Nat) (seen:List Nat):wvar n seen=(Zeg (seen.idxOf n),meet n seen):=by
 unfold wvar meet
 by_cases h:n ∈ seen
 ·have:=List.idxOf_lt_length_of_mem h
  rw [if_pos h,if_neg (by omega)]
 ·have e:seen.idxOf n=seen.length:=List.idxOf_eq_length h
  rw [if_neg h,if_pos e,e]
theorem Zty (f:Nat) (IH:∀ l,IsT f l→∀ seen,(Zce f l seen).2.1=(Zau l seen).2∧∀ rest miss,Zbx ((Zau l seen).1++rest) miss=(Zce f l seen).1++((Zbl miss).1++Zbx rest (Zbl miss).2)) :
  ∀ (ls:List (List Sym)),ls≠[]→(∀ l ∈ ls,IsT f l)→∀ (seen:List Nat) (sep:UInt8),(Zeh f sep ls seen).2=(Zau ls.flatten seen).2 ∧
   ∀ rest miss,sep::Zbx ((Zau ls.flatten seen).1++rest) (ls.length::miss)=(Zeh f sep ls seen).1++(41::((Zbl miss).1++Zbx rest (Zbl miss).2)):=by
 intro ls
 induction ls with
 | nil=>intro h; exact absurd rfl h
 | cons l ls ih =>
  intro _ hls seen sep
  rw [List.flatten_cons,Zid]
  obtain ⟨w1,w2⟩:=IH l (hls l (by simp)) seen
  cases ls with
  | nil =>
   simp only [List.flatten_nil,Zau,Zeh,w1,Qs]
   refine ⟨trivial,fun rest miss => ?_⟩
   rw [w2]
   simp [Zbl]
  | cons l2 ls2 =>
   obtain ⟨v1,v2⟩:=ih (by simp) (fun x hx=>hls x (by simp [hx])) (Zau l seen).2 44
   have hk:Zeh f sep (l::l2::ls2) seen=(sep::((Zce f l seen).1++(Zeh f 44 (l2::ls2) (Zau l seen).2).1),(Zeh f 44 (l2::ls2) (Zau l seen).2).2):=by
    rw [Zeh,w1]
   rw [hk]
   refine ⟨v1,fun rest miss => ?_⟩
   simp only [Qi]
   rw [w2]
   have hc:Zbl ((l::l2::ls2).length::miss)=([44],(l2::ls2).length::miss):=by simp [Zbl]
   rw [hc]
   have:=v2 rest miss
   simp only [List.cons_append,List.nil_append,Qi]
   rw [this]
theorem Zoj:∀ (f:Nat) (l:List Sym),IsT f l→∀ seen,(Zce f l seen).2.1=(Zau l seen).2∧∀ rest miss,Zbx ((Zau l seen).1++rest) miss=(Zce f l seen).1++((Zbl miss).1++Zbx rest (Zbl miss).2):=by
 intro f
 induction f with
 | zero=>intro l h; exact h.elim
 | succ f ih =>
  intro l h seen
  rcases h with ⟨n,rfl⟩ | ⟨nm,ls,h1,rfl,h2⟩
  ·simp [Zce,Ztx,Zau,Zbx,symC]
  ·have hc:Zau (⟨nm,0,ls.length⟩::ls.flatten) seen=(⟨nm,0,ls.length⟩::(Zau ls.flatten seen).1,(Zau ls.flatten seen).2):=by
    simp [Zau,h1]
   rw [hc]
   cases hls:ls with
   | nil=>simp [Zce,Zbx,symC,h1,Zau]
   | cons l0 ls0 =>
    rw [← hls]
    have hne:ls≠[]:=by rw [hls]; simp
    have hw:=Ziv f nm ls h1 h2 hne seen
    obtain ⟨v1,v2⟩:=Zty f ih ls hne h2 seen 40
    rw [hw]
    refine ⟨v1,fun rest miss => ?_⟩
    have hpos:0<ls.length:=by rw [hls]; simp
    have:=v2 rest miss
    simp only [List.cons_append,Zbx,hpos,if_true,symC,h1,if_false,Qi]
    rw [this]
    simp
theorem Zqh {f:Nat} {l:List Sym} (h:IsT f l) (seen:List Nat):(Zce f l seen).1=Zbx (Zau l seen).1 []∧(Zce f l seen).2.1=(Zau l seen).2:=by
 obtain ⟨h1,h2⟩:=Zoj f l h seen
 have:=h2 [] []
 simp only [Qs,Zbl,Zbx] at this
 exact ⟨this.symm,h1⟩
theorem Ycz:∀ (n:Nat) {l:List Sym},l.length≤n→Wf 1 l→IsT n l:=by
 intro n
 induction n with
 | zero=>intro l hl h; have:=Zdv h; omega
 | succ n ih =>
  intro l hl h
  obtain ⟨s,r,rfl,hr,hv⟩:=Zji h
  by_cases hs:s.name=[]
  ·exact Or.inl ⟨s.num,hv hs⟩
  ·obtain ⟨_,_,h3,_⟩:=h
   obtain ⟨ls,e1,rfl,hls⟩:=Znn _ hr
   refine Or.inr ⟨s.name,ls,hs,?_,fun l' hl' => ?_⟩
   ·rw [e1,← h3 hs]
   ·have:=Zcd hl'
    simp only [Qf] at hl
    exact ih (by omega) (hls l' hl')
def Zck (s:ByteArray):Option (List Cls) :=
 if 800<s.size then none else if (Zkb (Zbf s) (Zei false)).1≠0 then none else Ziw 1000 (Zbf s) []
def Zdr (s:ByteArray):Option (List (List Sym) × Names) :=
 if 120<s.size then none else if (Zkb (Zbf s) (Zei true)).1≠0 then none else (Zdq 1000 1000 (Zbf s) [] []).map (fun q=>(q.1,q.2.2))
def Zgz:List UInt8→Names→List (List Sym)→List UInt8
 | sep,x::xs,t::ts=>sep++(x++(61::(Zbx t []++Zgz [44] xs ts)))
 | _,_,_=>[]
def Zbr (names:Names) (n:ND):List UInt8:=if names=[] then [121,101,115] else Zgz [] names (Zav n.vals []).1
def Zef:List UInt8→List Nat→List UInt8
 | _,[]=>[]
 | sep,k::ks=>sep++(Lib.decDigits k++Zef [46] ks)
def Zig (n:ND):List UInt8:=Zef [] n.used
def figB (c:UInt8):Bool:=decide (48≤c.toNat∧c.toNat≤57)
def Zaz:List UInt8→Nat × Nat
 | []=>(0,0)
 | a::r=>if figB a then (if a.toNat=48 then (0,1) else match r with
   | []=>(a.toNat - 48,1)
   | b::_=>if figB b then (10 * (a.toNat - 48)+(b.toNat - 48),2) else (a.toNat - 48,1)) else (0,0)
theorem Zmx (l:List UInt8):(Zaz l).2≤l.length∧(Zaz l).2≤2∧(Zaz l).1≤99:=by
 cases l with
 | nil=>simp [Zaz]
 | cons a r =>
  simp only [Zaz]
  by_cases h1:figB a
  ·rw [if_pos h1]
   have ha:a.toNat≤57:=by simp [figB] at h1; exact h1.2
   by_cases h2:a.toNat=48
   ·rw [if_pos h2]; simp
   ·rw [if_neg h2]
    cases r with
    | nil=>simp; omega
    | cons b r =>
     simp only
     by_cases h3:figB b
     ·have hb:b.toNat≤57:=by simp [figB] at h3; exact h3.2
      rw [if_pos h3]; simp; omega
     ·rw [if_neg h3]; simp; omega
  ·rw [if_neg h1]; simp
def Zdj:Nat→List UInt8→Nat→List Nat→Option (List Nat) × Nat
 | 0,_,_,_=>(none,0)
 | f+1,l,p,acc =>
  if (Zaz l).2=0 then (none,p)
  else match l.drop (Zaz l).2 with
   | []=>(some (acc++[(Zaz l).1]),0)
   | c::r=>if c=46 then Zdj f r (p+(Zaz l).2+1) (acc++[(Zaz l).1]) else (none,p+(Zaz l).2)
def Zcv (s:ByteArray):Option (List Nat) × Nat:=Zdj (s.size+1) s.data.toList 0 []
noncomputable def Zar (cs:List Cls):ND→List Nat→Nat→ND × Nat × Nat
 | n,[],i=>if n.goals=[] then (n,0,0) else (n,7,i)
 | n,k::ks,i=>match cs[k]? with
  | none=>(n,7,i)
  | some c=>if n.goals=[] then (n,7,i) else if (tryN n c k).2=1∨(tryN n c k).2=2 then Zar cs (tryN n c k).1 ks (i+1) else (n,7,i)
noncomputable def Zdu (p q x:ByteArray):Names × ND × Nat × Nat :=
 match Zck p with
 | none=>([],⟨[],[],[],[],0⟩,4,0)
 | some cs=>match Zdr q with
  | none=>([],⟨[],[],[],[],0⟩,5,0)
  | some a=>if 400<x.size then ([],⟨[],[],[],[],0⟩,1,0) else match Zcv x with
   | (none,at')=>([],⟨[],[],[],[],0⟩,6,at')
   | (some ks,_)=>(a.2,Zar cs (topN a) ks 0)
noncomputable def yesN (p q x:ByteArray):List UInt8 × Nat × Nat:=if (Zdu p q x).2.2.1=0 then (Zbr (Zdu p q x).1 (Zdu p q x).2.1,0,0) else ([],(Zdu p q x).2.2.1,(Zdu p q x).2.2.2)
theorem Zxg:∀ (f:Nat) {l:List Sym},IsT f l→Wf 1 l:=by
 intro f
 induction f with
 | zero=>intro l h; exact h.elim
 | succ f ih =>
  intro l h
  rcases h with ⟨n,rfl⟩ | ⟨nm,ls,h1,rfl,h2⟩
  ·exact Zpr n
  ·refine ⟨by omega,fun e=>absurd e h1,fun _=>rfl,?_⟩
   have:=Zis (fun l hl=>ih (h2 l hl))
   simpa using this
theorem Zzu:∀ (l:List Sym) (k k':Nat),scan l k=some k'→∀ i,k≤i→i<k'→Occ i l:=by
 intro l
 induction l with
 | nil=>intro k k' h i h1 h2; simp [scan] at h; omega
 | cons s l ih =>
  intro k k' h i h1 h2
  simp only [scan] at h
  have up:Occ i l→Occ i (s::l):=fun ⟨t,ht,e1,e2⟩=>⟨t,by simp [ht],e1,e2⟩
  split at h
  ·rename_i hn
   split at h
   ·exact up (ih _ _ h i h1 h2)
   ·split at h
    ·rename_i hk
     rcases Nat.lt_or_ge k i with h3 | h3
     ·exact up (ih _ _ h i h3 h2)
     ·exact ⟨s,by simp,hn,by omega⟩
    ·simp at h
  ·exact up (ih _ _ h i h1 h2)
theorem Zqi {f:Nat}:∀ {g:Nat} {ts:List Tok} {names:Names} {acc:List (List Sym)} {q},Zdq f g ts names acc=some q→acc.length<q.1.length:=by
 intro g
 induction g with
 | zero=>intro ts names acc q h; simp [Zdq] at h
 | succ g ih =>
  intro ts names acc q h
  rw [Zdq] at h
  cases hq:Zdl f ts names with
  | none=>rw [hq] at h; simp at h
  | some r =>
   rw [hq] at h
   simp only at h
   cases hr:r.2.1 with
   | nil=>rw [hr] at h; simp at h
   | cons x rest =>
    rw [hr] at h
    simp only at h
    split at h
    ·simp at h; subst h; simp
    ·have:=ih h; simp at this; omega
def Ybp (c:Cls):Prop:=∃ k1,scan c.head 0=some k1∧scan c.body.flatten k1=some c.n
theorem Zok (ts:List Tok) (c:Cls × List Tok) (hw:Worded ts) (h:Zfs ts=some c):Ybp c.1:=by
 rw [Zfs] at h
 cases hp:Zdl 1000 ts [] with
 | none=>rw [hp] at h; simp at h
 | some r =>
  rw [hp] at h
  simp only at h
  obtain ⟨i1,i2⟩:=Zkn 1000 ts [] r hw hp
  obtain ⟨n,_,_,hn,_⟩:=Zey 1000 ts [] r hp
  have hw1:Worded r.2.1:=by rw [hn]; exact hw.drop n
  cases hr:r.2.1 with
  | nil=>rw [hr] at h; simp at h
  | cons y ys =>
   rw [hr] at h hw1
   simp only at h
   split at h
   ·rw [Option.map_eq_some_iff] at h
    obtain ⟨q,hq,rfl⟩:=h
    obtain ⟨g1,g2,g3⟩:=Zfl 1000 r.2.2.length 1000 ys r.2.2 [] q hw1.tail (by simp) rfl hq
    exact ⟨_,i2,g2⟩
   ·simp at h
    subst h
    exact ⟨_,i2,rfl⟩
theorem Ztz:∀ (g:Nat) (ts:List Tok) (acc cs:List Cls),Worded ts→(∀ c ∈ acc,Ybp c)→Ziw g ts acc=some cs→∀ c ∈ cs,Ybp c:=by
 intro g
 induction g with
 | zero=>intro ts acc cs _ _ h; simp [Ziw] at h
 | succ g ih =>
  intro ts acc cs hw ha h
  cases ts with
  | nil=>simp [Ziw] at h
  | cons t ts =>
   rw [Ziw] at h
   split at h
   ·simp at h; subst h; exact ha
   ·cases hc:Zfs (t::ts) with
    | none=>rw [hc] at h; simp at h
    | some c =>
     rw [hc] at h
     simp only at h
     obtain ⟨_,g2⟩:=Zko _ c hw hc
     have g1:=Zok _ c hw hc
     refine ih c.2 (acc++[c.1]) cs g2 ?_ h
     intro x hx
     simp at hx
     rcases hx with hx | rfl
     ·exact ha x hx
     ·exact g1
theorem Zol (s:ByteArray) (hs:s.size≤800) (h0:(runs s false).1=0):∃ cs,Ziw 1000 (Zbf s) []=some cs∧(runs s false).2.2.clauses=cs:=by
 obtain ⟨r1,_,r3⟩:=Zdc s false
 have hl:=Zfr s
 have hok:okk (Zbf s) (Zei false):=r1.symm.trans h0
 obtain ⟨cs,i,ex,h1,h2,h3,h4⟩:=Zzq 1000 (Zbf s) (Zei false) [] (st0 false) (by omega) (by omega) hok (Zwq _ _) rfl rfl rfl rfl ⟨rfl,rfl,rfl,rfl,rfl,rfl,rfl,rfl⟩
 rw [show (Zbf s).take i=toks s.data.toList 0 from Yay (Ziz _ _) h2] at h4
 rw [List.nil_append] at h3
 subst h3
 refine ⟨cs,h1,?_⟩
 rw [r3 h0,h4]
 rfl
theorem Zcp {s:ByteArray} {cs:List Cls} (h:Zck s=some cs):s.size≤800∧(runs s false).1=0∧(runs s false).2.2.clauses=cs∧(∀ c ∈ cs,COk c∧CNm c)∧cs.length≤24:=by
 unfold Zck at h
 split at h
 ·simp at h
 ·split at h
  ·simp at h
  ·rename_i hs he
   have hs:s.size≤800:=by omega
   obtain ⟨r1,_,_⟩:=Zdc s false
   have h0:(runs s false).1=0:=by rw [r1]; omega
   obtain ⟨cs',e1,e2⟩:=Zol s hs h0
   rw [e1] at h
   simp at h
   subst h
   have hB:SB (runs s false).2.2:=(SB.start false).run h0
   have hg:=Zxf 1000 (Zbf s) [] cs' (Zdi s) (by simp) e1
   have hgn:=Ztz 1000 (Zbf s) [] cs' (Zdi s) (by simp) e1
   refine ⟨hs,h0,e2,fun c hc => ?_,by rw [← e2]; exact hB.clsn⟩
   obtain ⟨g1,g2,_⟩:=hg c hc
   obtain ⟨k1,n1,n2⟩:=hgn c hc
   obtain ⟨b1,b2,b3⟩:=hB.cls c (by rw [e2]; exact hc)
   obtain ⟨c1,c2,c3⟩:=hB.cn c (by rw [e2]; exact hc)
   obtain ⟨x1,x2,x3⟩:=Zdx _ _ _ n1
   obtain ⟨y1,y2,y3⟩:=Zdx _ _ _ n2
   have hfl:c.body.flatten.length≤180:=by
    have key:∀ ls:List (List Sym),(∀ t ∈ ls,t.length≤30)→ls.flatten.length≤30 * ls.length:=by
     intro ls
     induction ls with
     | nil=>intro _; simp
     | cons t ts ih =>
      intro h
      have h1:=h t (by simp)
      have h2:=ih (fun y hy=>h y (by simp [hy]))
      simp only [List.flatten_cons,Qg,Qf]; omega
    have:=key c.body b2
    omega
   refine ⟨⟨Zxg 1000 g1,fun t ht=>Zxg 1000 (g2 t ht),?_,?_,by omega,b1,b2,b3⟩,fun x hx=>Qq (c1 x hx) (by omega),fun t ht x hx=>Qq (c2 t ht x hx) (by omega)⟩
   ·rintro v ⟨x,hx,e1,e2⟩
    have:=x3 x hx e1
    omega
   ·rintro t ht v ⟨x,hx,e1,e2⟩
    have:=y3 x (List.mem_flatten.2 ⟨t,ht,hx⟩) e1
    omega
theorem Zcl {s:ByteArray} {a:List (List Sym) × Names} (h:Zdr s=some a):s.size≤120∧(runs s true).1=0∧(runs s true).2.2.clauses=[⟨[],a.1,a.2⟩]∧NOk (topN a)∧NNm (topN a)∧a.1.length≤6∧a.1≠[]∧a.2.length≤121∧(∀ x ∈ a.2,x.length≤8):=by
 unfold Zdr at h
 split at h
 ·simp at h
 ·split at h
  ·simp at h
  ·rename_i hs he
   have hs:s.size≤120:=by omega
   obtain ⟨r1,_,_⟩:=Zdc s true
   have h0:(runs s true).1=0:=by rw [r1]; omega
   obtain ⟨q,e1,e2,_⟩:=Zgt s hs h0
   rw [e1] at h
   simp at h
   subst h
   have hB:SB (runs s true).2.2:=(SB.start true).run h0
   obtain ⟨g1,g2,_⟩:=Zfl 1000 0 1000 (Zbf s) [] [] q (Zdi s) (by simp) rfl e1
   obtain ⟨b1,b2,b3⟩:=hB.cls ⟨[],q.1,q.2.2⟩ (by rw [e2]; simp)
   obtain ⟨c1,c2,c3⟩:=hB.cn ⟨[],q.1,q.2.2⟩ (by rw [e2]; simp)
   obtain ⟨x1,x2,x3⟩:=Zdx _ _ _ g2
   have hl:=Zfr s
   have hM:=Zke (M:=120) 1000 (Zbf s) [] [] q (fun t ht=>Qq (Zjl s t ht) hs) (by simp) e1
   have hM1:=hM.1
   simp only [List.flatten_nil,Jt] at hM1
   simp only at b2 b3 c2 c3
   have hwf:∀ t ∈ q.1,Wf 1 t:=fun t ht=>Zxg 1000 (g1 t ht)
   have hne:q.1≠[]:=by
    intro e
    have:=Zqi e1
    rw [e] at this
    simp at this
   refine ⟨hs,h0,e2,⟨?_,?_,?_,by simp [topN],?_,by simp [topN]; omega,by simp [topN],by simp [topN],by simp [topN]; omega,by simp [topN]; omega⟩,?_,b3,hne,by simp only; omega,c3⟩
   ·intro t ht
    simp only [ND.terms,topN,List.map_map,List.map_nil,Qs,Qk,List.mem_map,Function.comp] at ht
    rcases ht with ⟨u,hu,rfl⟩ | ⟨i,_,rfl⟩
    ·exact hwf u hu
    ·exact Zpr i
   ·intro t ht v hv
    simp only [ND.terms,topN,List.map_map,List.map_nil,Qs,Qk,List.mem_map,Function.comp,List.mem_range] at ht
    show v<q.2.2.length
    rcases ht with ⟨u,hu,rfl⟩ | ⟨i,hi,rfl⟩
    ·obtain ⟨x,hx,e3,e4⟩:=hv
     have:=x3 x (List.mem_flatten.2 ⟨_,hu,hx⟩) e3
     omega
    ·have:=Zjh.1 hv; omega
   ·intro g hg
    simp only [topN,List.mem_map] at hg
    obtain ⟨t,ht,rfl⟩:=hg
    exact ⟨b2 t ht,by simp [topN]⟩
   ·intro t ht
    simp only [topN,List.mem_map,List.mem_range] at ht
    obtain ⟨i,hi,rfl⟩:=ht
    obtain ⟨x,hx,e3,e4⟩:=Zzu _ _ _ g2 i (Qm _) hi
    obtain ⟨u,hu,hxu⟩:=List.mem_flatten.1 hx
    obtain ⟨p,r,e5⟩:=List.append_of_mem hxu
    have hargs:=Zpw (hwf u hu) x hxu e3
    have ex:x=⟨[],i,0⟩:=by
     cases x
     simp only at e3 e4 hargs
     subst e3 e4 hargs
     rfl
    refine ⟨(u,0),by simp only [topN,Qs,List.mem_map]; exact ⟨u,hu,rfl⟩,p,r,?_⟩
    show u=p++vr i++r
    rw [e5,ex]; simp [vr]
   ·intro t ht
    simp only [ND.terms,topN,List.map_map,List.map_nil,Qs,Qk,List.mem_map,Function.comp] at ht
    rcases ht with ⟨u,hu,rfl⟩ | ⟨i,_,rfl⟩
    ·exact fun x hx=>Qq (c2 u hu x hx) (by omega)
    ·exact Zoc i
end Go.Proofs.YtlmjilpjmgjjcabDoor
namespace Go.Proofs.YtlmjilpjmgjjcabDoor
open Go.RowKit
theorem Zgu {c:UInt8} (h:figB c=true):48≤c.toNat∧c.toNat≤57:=by simpa [figB] using h
theorem Zom (s:ByteArray) (p:Nat) (h:¬ p<s.size):Zaz (s.data.toList.drop p)=(0,0):=by rw [Zgf s p h]; rfl
theorem Zqj (s:ByteArray) (p:Nat) (h:p<s.size) (hf:figB s[p]=false):Zaz (s.data.toList.drop p)=(0,0):=by
 rw [Zcz s p h]; simp [Zaz,hf]
theorem Zon (s:ByteArray) (p:Nat) (h:p<s.size) (hf:figB s[p]=true) (h0:s[p].toNat - 48=0):Zaz (s.data.toList.drop p)=(s[p].toNat - 48,1):=by
 have:=Zgu hf
 rw [Zcz s p h]; simp [Zaz,hf,show s[p].toNat=48 by omega]
theorem Zqk (s:ByteArray) (p:Nat) (h:p<s.size) (hf:figB s[p]=true) (h1:¬ p+1<s.size):Zaz (s.data.toList.drop p)=(s[p].toNat - 48,1):=by
 rw [Zcz s p h,Zgf s (p+1) h1]
 simp only [Zaz,hf,if_true]
 split
 ·rename_i h0; rw [h0]
 ·rfl
theorem Zoo (s:ByteArray) (p:Nat) (h:p<s.size) (hf:figB s[p]=true) (h1:p+1<s.size) (hf1:figB s[p+1]=false):Zaz (s.data.toList.drop p)=(s[p].toNat - 48,1):=by
 rw [Zcz s p h,Zcz s (p+1) h1]
 simp only [Zaz,hf,hf1,if_true]
 split
 ·rename_i h0; rw [h0]
 ·simp
theorem Zql (s:ByteArray) (p:Nat) (h:p<s.size) (hf:figB s[p]=true) (h0:¬ s[p].toNat - 48=0) (h1:p+1<s.size) (hf1:figB s[p+1]=true):Zaz (s.data.toList.drop p)=(10 * (s[p].toNat - 48)+(s[p+1].toNat - 48),2):=by
 rw [Zcz s p h,Zcz s (p+1) h1]
 simp only [Zaz,hf,hf1,if_true]
 rw [if_neg (by omega)]
def Zih (f:Nat) (l:List UInt8) (p:Nat) (acc:List Nat):Option (List Nat) × Nat :=
 match l with
 | []=>(some acc,0)
 | c::r=>if c=46 then Zdj f r (p+1) acc else (none,p)
theorem Zmy (f:Nat) (l:List UInt8) (p:Nat) (acc:List Nat) (h:(Zaz l).2≠0):Zdj (f+1) l p acc=Zih f (l.drop (Zaz l).2) (p+(Zaz l).2) (acc++[(Zaz l).1]):=by
 rw [Zdj,if_neg h]; rfl
theorem Zmz (f:Nat) (l:List UInt8) (p:Nat) (acc:List Nat) (h:(Zaz l).2=0):Zdj (f+1) l p acc=(none,p):=by
 rw [Zdj,if_pos h]
theorem Zdo {cs:List Cls} {n:ND} {k i:Nat} {ks:List Nat} (h:n.goals=[]∨cs.length≤k):(Zar cs n (k::ks) i).2=(7,i):=by
 unfold Zar
 split
 ·rfl
 ·rename_i c hc
  rcases h with h | h
  ·rw [if_pos h]
  ·rw [List.getElem?_eq_none h] at hc; simp at hc
theorem Zfv {cs:List Cls} {n:ND} {k i:Nat} {ks:List Nat} {c:Cls} (hc:cs[k]?=some c) (h:¬ ((tryN n c k).2=1∨(tryN n c k).2=2)):(Zar cs n (k::ks) i).2=(7,i):=by
 unfold Zar
 simp only [hc]
 by_cases hg:n.goals=[]
 ·rw [if_pos hg]
 ·rw [if_neg hg,if_neg h]
theorem Zja {cs:List Cls} {n:ND} {k i:Nat} {ks:List Nat} {c:Cls} (hc:cs[k]?=some c) (hg:n.goals≠[]) (h:(tryN n c k).2=1∨(tryN n c k).2=2):Zar cs n (k::ks) i=Zar cs (tryN n c k).1 ks (i+1):=by
 conv=>lhs; unfold Zar
 simp only [hc]
 rw [if_neg hg,if_pos h]
theorem Zop {l:List Sym} (hl:l.length≤1000) (hw:Wf 1 l) (hn:∀ s ∈ l,s.name.length≤4096) {seen:List Nat} (hs:seen.length+l.length≤4000) :
  (Zbx (Zau l seen).1 []).length≤4100 * l.length∧(Zau l seen).2.length≤seen.length+l.length:=by
 have hT:=Ycz 1000 hl hw
 obtain ⟨h1,h2⟩:=Zqh hT seen
 have:=Zns 1000 l hT hn seen hs
 rw [h1,h2] at this
 omega
theorem Zxh:∀ (names:Names) (ts:List (List Sym)) (sep:List UInt8) (seen:List Nat),(∀ x ∈ names,x.length≤4096)→(∀ t ∈ ts,Wf 1 t∧t.length≤1000∧∀ s ∈ t,s.name.length≤4096)→sep.length≤1→seen.length+ts.flatten.length≤4000 →
  (Zgz sep names (Zav ts seen).1).length≤4098 * names.length+4100 * ts.flatten.length:=by
 intro names
 induction names with
 | nil=>intro ts sep seen _ _ _ _; cases ts <;> simp [Zav,Zgz]
 | cons x xs ih =>
  intro ts sep seen h1 h2 h3 h4
  cases ts with
  | nil=>simp [Zav,Zgz]
  | cons t ts =>
   obtain ⟨t1,t2,t3⟩:=h2 t (by simp)
   simp only [List.flatten_cons,Qg] at h4 ⊢
   obtain ⟨c1,c2⟩:=Zop t2 t1 t3 (seen:=seen) (by omega)
   have h:=ih ts [44] (Zau t seen).2 (fun y hy=>h1 y (by simp [hy])) (fun y hy=>h2 y (by simp [hy])) (by simp) (by omega)
   have hx:=h1 x (by simp)
   simp only [Zav,Zgz,Qg,Qf]
   omega
theorem Zoq {n:ND} {c:Cls} {k:Nat} (h:(tryN n c k).2=1∨(tryN n c k).2=2):(tryN n c k).1.vals.length=n.vals.length:=by
 by_cases hex:∃ r:ND × Nat,∃ m,NOk m∧Same m n∧Out m c k r.2 r.1
 ·have e:tryN n c k=Classical.choose hex:=by unfold tryN; rw [dif_pos hex]
  obtain ⟨m,_,hS,g,gs,_,ho⟩:=Classical.choose_spec hex
  rw [e] at h ⊢
  rcases ho with ⟨h0,_⟩ | ⟨h0,_⟩ | ⟨σ,_,_,_,h4⟩
  ·omega
  ·omega
  ·rw [h4]; simp [Zat,hS.vl]
 ·have e:tryN n c k=(⟨[],[],[],[],0⟩,0):=by unfold tryN; rw [dif_neg hex]
  rw [e] at h
  simp at h
theorem Zor {cs:List Cls}:∀ {ks:List Nat} {n:ND} {i:Nat},(Zar cs n ks i).2.1=0→(Zar cs n ks i).1.vals.length=n.vals.length:=by
 intro ks
 induction ks with
 | nil=>intro n i h; unfold Zar at h ⊢; split <;> rfl
 | cons k ks ih =>
  intro n i h
  cases hc:cs[k]? with
  | none =>
   have:=Zdo (cs:=cs) (n:=n) (k:=k) (i:=i) (ks:=ks) (Or.inr (List.getElem?_eq_none_iff.1 hc))
   rw [this] at h; simp at h
  | some c =>
   by_cases hg:n.goals=[]
   ·have:=Zdo (cs:=cs) (n:=n) (k:=k) (i:=i) (ks:=ks) (Or.inl hg)
    rw [this] at h; simp at h
   ·by_cases hq:(tryN n c k).2=1∨(tryN n c k).2=2
    ·rw [Zja hc hg hq] at h ⊢
     rw [ih h,Zoq hq]
    ·have:=Zfv (i:=i) (ks:=ks) hc hq
     rw [this] at h; simp at h
theorem Zua {p q x:ByteArray} {a:List (List Sym) × Names} {n0:ND} (ha:Zdr q=some a) (h:Zdu p q x=(a.2,n0,0,0)):n0.vals.length=a.2.length:=by
 cases hp:Zck p with
 | none=>simp [Zdu,hp] at h
 | some cs =>
  by_cases hx:400<x.size
  ·simp [Zdu,hp,ha,hx] at h
  ·cases hn:Zcv x with
   | mk o pl =>
    cases o with
    | none=>simp [Zdu,hp,ha,hx,hn] at h
    | some ks =>
     simp [Zdu,hp,ha,hx,hn] at h
     have h2:=Zor (cs:=cs) (ks:=ks) (n:=topN a) (i:=0) (by rw [h])
     rw [h] at h2
     simpa [topN] using h2
theorem Zii {n:ND} {c:Cls} {k:Nat} (h:(tryN n c k).2=1∨(tryN n c k).2=2):(tryN n c k).1.used=n.used++[k]:=by
 by_cases hex:∃ r:ND × Nat,∃ m,NOk m∧Same m n∧Out m c k r.2 r.1
 ·have e:tryN n c k=Classical.choose hex:=by unfold tryN; rw [dif_pos hex]
  obtain ⟨m,_,hS,g,gs,_,ho⟩:=Classical.choose_spec hex
  rw [e] at h ⊢
  rcases ho with ⟨h0,_⟩ | ⟨h0,_⟩ | ⟨σ,_,_,_,h4⟩
  ·omega
  ·omega
  ·rw [h4]; simp [Zat,hS.used]
 ·have e:tryN n c k=(⟨[],[],[],[],0⟩,0):=by unfold tryN; rw [dif_neg hex]
  rw [e] at h
  simp at h
theorem Zub:∀ (ks:List Nat) (sep:List UInt8),sep.length≤1→(∀ k ∈ ks,k≤99)→(Zef sep ks).length≤101 * ks.length:=by
 intro ks
 induction ks with
 | nil=>intro sep _ _; simp [Zef]
 | cons k ks ih =>
  intro sep hs hk
  have h1:=ih [46] (by simp) (fun j hj=>hk j (by simp [hj]))
  have h2:=hk k (by simp)
  have h3:=Ziu k
  simp only [Zef,Qg,Qf]
  omega
mutual
inductive TreeR (cs:List Cls):ND→List UInt8→Prop
 | leaf (n:ND) (h:n.goals=[]):TreeR cs n [33]
 | node (n:ND) (t:List UInt8) (h:n.goals≠[]) (hp:Part cs n cs.length t):TreeR cs n ([40]++t++[41])
inductive Part (cs:List Cls):ND→Nat→List UInt8→Prop
 | zero (n:ND):Part cs n 0 []
 | miss (n:ND) (k:Nat) (t:List UInt8) (c:Cls) (h:Part cs n k t) (hc:cs[k]?=some c) (hq:(tryN n c k).2=0):Part cs n (k+1) t
 | kid (n:ND) (k:Nat) (t u:List UInt8) (c:Cls) (h:Part cs n k t) (hc:cs[k]?=some c) (hq:(tryN n c k).2=1∨(tryN n c k).2=2) (hu:TreeR cs (tryN n c k).1 u):Part cs n (k+1) (t++Lib.decDigits k++u)
end
structure SN where
 way:List (ND × Nat)
 tries:Nat
 status:Nat
 found:ND
 tree:List UInt8
def Zcw (cs:List Cls):List (ND × Nat)→List UInt8→List (ND × Nat) × List UInt8
 | (n,k)::r,t=>if cs.length≤k then Zcw cs r (t++[41]) else ((n,k)::r,t)
 | [],t=>([],t)
noncomputable def Zbz (s:SN) (n:ND):SN:=open Classical in if n.goals=[] then { s with tree:=s.tree++[33],status:=1,found:=n } else { s with way:=(n,0)::s.way,tree:=s.tree++[40] }
noncomputable def Zdd (cs:List Cls) (s:SN):SN := { s with way:=(Zcw cs s.way s.tree).1,tree:=(Zcw cs s.way s.tree).2 }
noncomputable def Zax (cs:List Cls) (s:SN):SN:=match s.way with
 | []=>s
 | (n,k)::r=>match cs[k]? with
  | none=>s
  | some c=>Zdd cs (if (tryN n c k).2=3 then { s with way:=(n,k+1)::r,tries:=s.tries+1,status:=3 }
    else if (tryN n c k).2=1∨(tryN n c k).2=2 then Zbz { s with way:=(n,k+1)::r,tries:=s.tries+1,tree:=s.tree++Lib.decDigits k } (tryN n c k).1
    else { s with way:=(n,k+1)::r,tries:=s.tries+1 })
def PH (cs:List Cls) (top:ND):List (ND × Nat)→ND→Nat→List UInt8→Prop
 | [],n,k,T=>n=top∧n.goals≠[]∧k≤cs.length∧∃ t,Part cs n k t∧T=[40]++t
 | x::r,n,k,T=>n.goals≠[]∧k≤cs.length∧∃ t j' c T',x.2=j'+1∧cs[j']?=some c∧((tryN x.1 c j').2=1∨(tryN x.1 c j').2=2)∧n=(tryN x.1 c j').1∧PH cs top r x.1 j' T'∧Part cs n k t∧T=T'++Lib.decDigits j'++([40]++t)
def PW (cs:List Cls) (top:ND):List (ND × Nat)→List UInt8→Prop
 | [],T=>TreeR cs top T
 | (n,k)::r,T=>PH cs top r n k T
theorem PW.part {cs:List Cls} {top n:ND} {k:Nat} {r:List (ND × Nat)} {T:List UInt8} (h:PW cs top ((n,k)::r) T):n.goals≠[]∧k≤cs.length∧∃ t0 t,Part cs n k t∧T=t0++([40]++t)∧∀ k' t',Part cs n k' t'→k'≤cs.length→PW cs top ((n,k')::r) (t0++([40]++t')):=by
 cases r with
 | nil =>
  obtain ⟨h1,h2,h3,t,h4,h5⟩:=h
  exact ⟨h2,h3,[],t,h4,by simpa using h5,fun k' t' hp hk=>⟨h1,h2,hk,t',hp,by simp⟩⟩
 | cons m r =>
  obtain ⟨m,j⟩:=m
  obtain ⟨h1,h2,t,j',c,T',h3,h4,h5,h6,h7,h8,h9⟩:=h
  exact ⟨h1,h2,T'++Lib.decDigits j',t,h8,h9,fun k' t' hp hk=>⟨h1,hk,t',j',c,T',h3,h4,h5,h6,h7,hp,rfl⟩⟩
theorem PW.miss {cs:List Cls} {top n:ND} {k:Nat} {r:List (ND × Nat)} {T:List UInt8} {c:Cls} (h:PW cs top ((n,k)::r) T) (hc:cs[k]?=some c) (hq:(tryN n c k).2=0):PW cs top ((n,k+1)::r) T:=by
 obtain ⟨h1,h2,t0,t,h3,h4,h5⟩:=h.part
 rw [h4]
 exact h5 (k+1) t (.miss n k t c h3 hc hq) (by have:=(Qa.1 hc).1; omega)
theorem PW.kid {cs:List Cls} {top n:ND} {k:Nat} {r:List (ND × Nat)} {T u:List UInt8} {c:Cls} (h:PW cs top ((n,k)::r) T) (hc:cs[k]?=some c) (hq:(tryN n c k).2=1∨(tryN n c k).2=2) (hu:TreeR cs (tryN n c k).1 u):PW cs top ((n,k+1)::r) (T++Lib.decDigits k++u):=by
 obtain ⟨h1,h2,t0,t,h3,h4,h5⟩:=h.part
 rw [h4]
 have:=h5 (k+1) (t++Lib.decDigits k++u) (.kid n k t u c h3 hc hq hu) (by have:=(Qa.1 hc).1; omega)
 simpa using this
theorem PW.down {cs:List Cls} {top n:ND} {k:Nat} {r:List (ND × Nat)} {T:List UInt8} {c:Cls} (h:PW cs top ((n,k)::r) T) (hc:cs[k]?=some c) (hq:(tryN n c k).2=1∨(tryN n c k).2=2) (hg:(tryN n c k).1.goals≠[]):PW cs top (((tryN n c k).1,0)::(n,k+1)::r) (T++Lib.decDigits k++[40]) :=
 ⟨hg,Qm _,[],k,c,T,rfl,hc,hq,rfl,h,.zero _,by simp⟩
theorem PW.up {cs:List Cls} {top n:ND} {k:Nat} {r:List (ND × Nat)} {T:List UInt8} (h:PW cs top ((n,k)::r) T) (hk:cs.length≤k):PW cs top r (T++[41]):=by
 cases r with
 | nil =>
  obtain ⟨h1,h2,h3,t,h4,h5⟩:=h
  have e:k=cs.length:=by omega
  subst e h1 h5
  exact .node n t h2 h4
 | cons m r =>
  obtain ⟨m,j⟩:=m
  obtain ⟨h1,h2,t,j',c,T',h3,h4,h5,h6,h7,h8,h9⟩:=h
  have e:k=cs.length:=by omega
  simp only at h3 h5 h6 h7
  subst e h3 h6 h9
  have h7':PW cs top ((m,j')::r) T':=h7
  have:=h7'.kid h4 h5 (.node _ t h1 h8)
  simpa using this
theorem PW.leave {cs:List Cls} {top:ND}:∀ {way:List (ND × Nat)} {T:List UInt8},PW cs top way T→PW cs top (Zcw cs way T).1 (Zcw cs way T).2:=by
 intro way
 induction way with
 | nil=>intro T h; exact h
 | cons x r ih =>
  obtain ⟨n,k⟩:=x
  intro T h
  unfold Zcw
  split
  ·rename_i hk
   exact ih (h.up hk)
  ·exact h
theorem Zkp (n:ND) (c:Cls) (k:Nat):(tryN n c k).2=0∨(tryN n c k).2=1∨(tryN n c k).2=2∨(tryN n c k).2=3:=by
 by_cases hex:∃ r:ND × Nat,∃ m,NOk m∧Same m n∧Out m c k r.2 r.1
 ·have e:tryN n c k=Classical.choose hex:=by unfold tryN; rw [dif_pos hex]
  obtain ⟨m,_,_,g,gs,_,ho⟩:=Classical.choose_spec hex
  rw [e]
  rcases ho with ⟨h0,_⟩ | ⟨h0,_⟩ | ⟨σ,_,_,h3,_⟩
  ·exact Or.inl h0
  ·exact Or.inr (Or.inr (Or.inr h0))
  ·rw [h3]
   unfold Zek
   split
   ·simp
   ·split <;> simp
 ·have e:tryN n c k=(⟨[],[],[],[],0⟩,0):=by unfold tryN; rw [dif_neg hex]
  rw [e]; simp
theorem PW.try' {cs:List Cls} {top:ND} {s:SN} (h:PW cs top s.way s.tree) (hf:(Zax cs s).status≠3):PW cs top (Zax cs s).way (Zax cs s).tree:=by
 unfold Zax at hf ⊢
 cases hw:s.way with
 | nil=>rw [hw] at hf h; simpa [hw] using h
 | cons x r =>
  obtain ⟨n,k⟩:=x
  rw [hw] at hf h
  simp only at hf ⊢
  cases hc:cs[k]? with
  | none=>rw [hc] at hf; simp only [hw]; exact h
  | some c =>
   rw [hc] at hf
   simp only at hf ⊢
   by_cases h3:(tryN n c k).2=3
   ·rw [if_pos h3] at hf
    exact absurd rfl hf
   ·rw [if_neg h3]
    by_cases h12:(tryN n c k).2=1∨(tryN n c k).2=2
    ·rw [if_pos h12]
     by_cases hg:(tryN n c k).1.goals=[]
     ·simp only [Zbz,if_pos hg,Zdd]
      have h':PW cs top ((n,k)::r) s.tree:=h
      exact (h'.kid hc h12 (.leaf _ hg)).leave
     ·simp only [Zbz,if_neg hg,Zdd]
      have h':PW cs top ((n,k)::r) s.tree:=h
      exact (h'.down hc h12 hg).leave
    ·rw [if_neg h12]
     simp only [Zdd]
     have h0:(tryN n c k).2=0:=by have:=Zkp n c k; omega
     have h':PW cs top ((n,k)::r) s.tree:=h
     exact (h'.miss hc h0).leave
theorem Zxi {w:World} {B:Nat} {e:TypeId} {s g n cap:Nat} {xs:List Value} (h:w.ownsRow B e s (.slice (some ⟨g,0,none⟩) (n+1) cap) (n+1) xs) :
  w.ownsRow B e s (.slice (some ⟨g,0,none⟩) n cap) n (xs.take (n * s)):=by
 have hm:(n+1) * s=n * s+s:=Nat.succ_mul n s
 refine ⟨by have:=h.1; rw [List.length_take]; omega,?_⟩
 rcases h.2 with ⟨h1,_⟩ | ⟨g',cap',cur,h1,hb,hg,hn,hc,hs,ht⟩
 ·simp at h1
 ·simp at h1
  obtain ⟨rfl,rfl⟩:=h1
  refine .inr ⟨g,cap,cur,rfl,hb,hg,by omega,hc,hs,?_⟩
  rw [← ht,List.take_take]
  congr 1
  omega
def Zgj (N:Nat):List (ND × Nat)→List (ND × Nat)
 | []=>[]
 | x::r=>if N≤x.2 then Zgj N r else x::r
theorem Zdm (cs:List Cls):∀ (way:List (ND × Nat)) (t:List UInt8),(Zcw cs way t).1=Zgj cs.length way:=by
 intro way
 induction way with
 | nil=>intro t; rfl
 | cons x r ih =>
  obtain ⟨n,k⟩:=x
  intro t
  simp only [Zcw,Zgj]
  split
  ·exact ih _
  ·rfl
theorem Zlq {N:Nat}:∀ {way:List (ND × Nat)} {x:ND × Nat} {r:List (ND × Nat)},Zgj N way=x::r→x.2<N:=by
 intro way
 induction way with
 | nil=>intro x r h; simp [Zgj] at h
 | cons y s ih =>
  intro x r h
  simp only [Zgj] at h
  split at h
  ·exact ih h
  ·rename_i hn
   simp at h
   rw [← h.1]; omega
theorem Zlr (N:Nat) (way:List (ND × Nat)):Zgj N (Zgj N way)=Zgj N way:=by
 cases h:Zgj N way with
 | nil=>rfl
 | cons x r =>
  have:=Zlq h
  simp only [Zgj]
  rw [if_neg (by omega)]
noncomputable def Zcq (a:List (List Sym) × Names) (st:Nat) (found:ND) (T:List UInt8):List UInt8 × List UInt8 × List UInt8 :=
 if st=1 then (Zbr a.2 found,Zig found,[]) else if st=2 then ([],[],T) else ([],[],[])
noncomputable def Zkq (n:ND) (c:Cls) (k:Nat) (r:List (ND × Nat)):List (ND × Nat):=if (tryN n c k).2=1 then ((tryN n c k).1,0)::(n,k+1)::r else (n,k+1)::r
noncomputable def Zgk (n:ND) (c:Cls) (k:Nat):Nat:=if (tryN n c k).2=2 then 1 else if (tryN n c k).2=3 then 3 else 0
theorem Zgv {n:ND} {c:Cls} {k:Nat} (h:(tryN n c k).2=1∨(tryN n c k).2=2):(tryN n c k).2=2↔(tryN n c k).1.goals=[]:=by
 by_cases hex:∃ r:ND × Nat,∃ m,NOk m∧Same m n∧Out m c k r.2 r.1
 ·have e:tryN n c k=Classical.choose hex:=by unfold tryN; rw [dif_pos hex]
  obtain ⟨m,_,hS,g,gs,_,ho⟩:=Classical.choose_spec hex
  rw [e] at h ⊢
  rcases ho with ⟨h0,_⟩ | ⟨h0,_⟩ | ⟨σ,_,_,h3,h4⟩
  ·omega
  ·omega
  ·rw [h3,← h4] at h
   rw [h3,← h4]
   unfold Zek at h ⊢
   split at h
   ·omega
   ·rename_i ho
    rw [if_neg ho]
    split
    ·rename_i hg; simp [hg]
    ·rename_i hg; simp [hg]
 ·have e:tryN n c k=(⟨[],[],[],[],0⟩,0):=by unfold tryN; rw [dif_neg hex]
  rw [e] at h
  simp at h
def Zfm (way:List (ND × Nat)):List Nat:=(way.map (fun x=>x.2 - 1)).reverse
theorem Zls (n:ND) (k:Nat) (r:List (ND × Nat)):Zfm ((n,k+1)::r)=Zfm r++[k]:=by simp [Zfm]
def UsedW:List (ND × Nat)→Prop
 | []=>True
 | x::r=>x.1.used=Zfm r∧(∀ y ∈ r,1≤y.2)∧UsedW r
theorem UsedW.trim {N:Nat}:∀ {way:List (ND × Nat)},UsedW way→UsedW (Zgj N way):=by
 intro way
 induction way with
 | nil=>intro h; exact h
 | cons x r ih =>
  intro h
  simp only [Zgj]
  split
  ·exact ih h.2.2
  ·exact h
theorem Zos {N:Nat}:∀ {way:List (ND × Nat)} {x:ND × Nat},x ∈ Zgj N way→x ∈ way:=by
 intro way
 induction way with
 | nil=>intro x h; exact h
 | cons y r ih =>
  intro x h
  simp only [Zgj] at h
  split at h
  ·exact List.mem_cons_of_mem _ (ih h)
  ·exact h
theorem Zlt (cs:List Cls):∀ (way:List (ND × Nat)) (t:List UInt8),(Zcw cs way t).2.length+(Zcw cs way t).1.length=t.length+way.length:=by
 intro way
 induction way with
 | nil=>intro t; rfl
 | cons x r ih =>
  obtain ⟨n,k⟩:=x
  intro t
  simp only [Zcw]
  split
  ·rw [ih]; simp; omega
  ·rfl
structure InvN (cs:List Cls) (a:List (List Sym) × Names) (s:SN):Prop where
 way:∀ x ∈ s.way,x.1.goals≠[]∧x.1.vals.length=a.2.length∧x.2≤cs.length∧∀ k ∈ x.1.used,k<cs.length
 used:UsedW s.way
 tree:s.status≠3→PW cs (topN a) s.way s.tree
 trim:Zgj cs.length s.way=s.way
 found:s.status=1→s.found.goals=[]∧s.found.vals.length=a.2.length∧∀ k ∈ s.found.used,k<cs.length
 len:s.tree.length+s.way.length≤2+26 * s.tries
 tries:s.tries≤3000
 no:s.status=2→s.way=[]
 st:s.status≤3
theorem Zij {cs:List Cls} {s:SN} {n:ND} {k:Nat} {r:List (ND × Nat)} {c:Cls} (hw:s.way=(n,k)::r) (hc:cs[k]?=some c) (h0:s.status=0) :
  (Zax cs s).way=Zgj cs.length (Zkq n c k r)∧(Zax cs s).status=Zgk n c k∧(Zax cs s).tries=s.tries+1∧(Zgk n c k=1→(Zax cs s).found=(tryN n c k).1):=by
 have hk:=Zkp n c k
 unfold Zax
 rw [hw]
 simp only [hc]
 by_cases h3:(tryN n c k).2=3
 ·rw [if_pos h3]
  simp [Zdd,Zdm,Zkq,Zgk,h3]
 ·rw [if_neg h3]
  by_cases h12:(tryN n c k).2=1∨(tryN n c k).2=2
  ·rw [if_pos h12]
   by_cases hg:(tryN n c k).1.goals=[]
   ·have h2:=(Zgv h12).2 hg
    simp [Zdd,Zbz,hg,Zdm,Zkq,Zgk,h2]
   ·have h2:(tryN n c k).2≠2:=fun h=>hg ((Zgv h12).1 h)
    have h1:(tryN n c k).2=1:=by omega
    simp [Zdd,Zbz,hg,Zdm,Zkq,Zgk,h1,h0]
  ·rw [if_neg h12]
   have h00:(tryN n c k).2=0:=by omega
   simp [Zdd,Zdm,Zkq,Zgk,h00,h0]
theorem Zot {cs:List Cls} {s:SN} {n:ND} {k:Nat} {r:List (ND × Nat)} {c:Cls} (hw:s.way=(n,k)::r) (hc:cs[k]?=some c) (hk:k<24):(Zax cs s).tree.length+(Zax cs s).way.length≤s.tree.length+s.way.length+26:=by
 have hd:(Lib.decDigits k).length≤24:=by
  have:=Ziu k
  omega
 unfold Zax
 rw [hw]
 simp only [hc,Zdd,Zlt]
 split
 ·simp
 ·split
  ·unfold Zbz
   split
   ·simp; omega
   ·simp; omega
  ·simp
theorem InvN.try' {cs:List Cls} {a:List (List Sym) × Names} {s:SN} (h:InvN cs a s) (hcl:cs.length≤24) (h0:s.status=0) {n:ND} {k:Nat} {r:List (ND × Nat)} {c:Cls} (hw:s.way=(n,k)::r) (hc:cs[k]?=some c) (ht:s.tries<3000):InvN cs a (Zax cs s):=by
 obtain ⟨e1,e2,e3,e4⟩:=Zij hw hc h0
 have hkk:=Zkp n c k
 have hklt:=(Qa.1 hc).1
 obtain ⟨w1,w2,w3,w4⟩:=h.way (n,k) (by rw [hw]; simp)
 have hu:=h.used
 rw [hw] at hu
 have hr:∀ x ∈ r,x.1.goals≠[]∧x.1.vals.length=a.2.length∧x.2≤cs.length∧∀ k ∈ x.1.used,k<cs.length:=fun x hx=>h.way x (by rw [hw]; simp [hx])
 have hchild:(tryN n c k).2=1∨(tryN n c k).2=2→(tryN n c k).1.vals.length=a.2.length∧∀ j ∈ (tryN n c k).1.used,j<cs.length:=fun hq=>by
  refine ⟨by rw [Zoq hq]; exact w2,fun j hj => ?_⟩
  rw [Zii hq] at hj
  rcases Qk.1 hj with hj | hj
  ·exact w4 j hj
  ·simp at hj; omega
 refine ⟨?_,?_,?_,?_,?_,?_,?_,?_,?_⟩
 ·intro x hx
  rw [e1] at hx
  have hx:=Zos hx
  unfold Zkq at hx
  split at hx
  ·rename_i h1
   rcases Qp.1 hx with rfl | hx
   ·have h2:¬ (tryN n c k).1.goals=[]:=fun hg=>by have:=(Zgv (Or.inl h1)).2 hg; omega
    exact ⟨h2,(hchild (Or.inl h1)).1,Qm _,(hchild (Or.inl h1)).2⟩
   ·rcases Qp.1 hx with rfl | hx
    ·exact ⟨w1,w2,by show k+1≤_; omega,w4⟩
    ·exact hr x hx
  ·rcases Qp.1 hx with rfl | hx
   ·exact ⟨w1,w2,by show k+1≤_; omega,w4⟩
   ·exact hr x hx
 ·rw [e1]
  apply UsedW.trim
  unfold Zkq
  split
  ·rename_i h1
   exact ⟨by rw [Zls,Zii (Or.inl h1),hu.1],fun y hy=>by
    rcases Qp.1 hy with rfl | hy
    ·exact Nat.succ_le_succ (Qm _)
    ·exact hu.2.1 y hy,hu.1,hu.2⟩
  ·exact ⟨hu.1,hu.2⟩
 ·intro h3
  exact PW.try' (h.tree (by omega)) h3
 ·rw [e1,Zlr]
 ·intro h1
  rw [e2] at h1
  rw [e4 h1]
  have hq2:(tryN n c k).2=2:=by
   unfold Zgk at h1
   split at h1
   ·assumption
   ·split at h1 <;> omega
  exact ⟨(Zgv (Or.inr hq2)).1 hq2,(hchild (Or.inr hq2)).1,(hchild (Or.inr hq2)).2⟩
 ·have:=Zot hw hc (by omega)
  have:=h.len
  omega
 ·omega
 ·intro h2
  rw [e2] at h2
  unfold Zgk at h2
  split at h2
  ·omega
  ·split at h2 <;> omega
 ·rw [e2]
  unfold Zgk
  split
  ·omega
  ·split <;> omega
noncomputable def Zcr (cs:List Cls):Nat→SN→SN × Nat
 | 0,s=>(s,0)
 | n+1,s=>open Classical in if s.status=0∧s.way≠[]∧s.tries<3000 then ((Zcr cs n (Zax cs s)).1,(Zcr cs n (Zax cs s)).2+1) else (s,0)
def Zfn (s:SN):SN := { s with way:=[],tree:=[],status:=3 }
noncomputable def endN (s:SN):SN:=open Classical in if s.status=3 then Zfn s else if s.status=0 then (if s.way=[] then { s with status:=2 } else if 3000≤s.tries then Zfn s else s) else s
noncomputable def Zcb (cs:List Cls) (n:Nat) (s:SN):SN × Nat:=if s.status=2∨s.status=3 then (s,0) else (endN (Zcr cs n { s with status:=0 }).1,(Zcr cs n { s with status:=0 }).2)
theorem InvN.full {cs:List Cls} {a:List (List Sym) × Names} {s:SN} (h:InvN cs a s):InvN cs a (Zfn s) :=
 ⟨fun x hx=>by simp [Zfn] at hx,trivial,fun h3=>absurd rfl h3,rfl,fun h1=>by simp [Zfn] at h1,by simp [Zfn],h.tries,fun _=>rfl,by simp [Zfn]⟩
theorem InvN.end' {cs:List Cls} {a:List (List Sym) × Names} {s:SN} (h:InvN cs a s):InvN cs a (endN s):=by
 unfold endN
 split
 ·exact h.full
 ·split
  ·rename_i h3 h0
   split
   ·rename_i hw
    exact ⟨h.way,h.used,fun _=>h.tree (by omega),h.trim,fun h1=>by simp at h1,h.len,h.tries,fun _=>hw,by simp⟩
   ·split
    ·exact h.full
    ·exact h
  ·exact h
theorem InvN.seek {cs:List Cls} {a:List (List Sym) × Names} {s:SN} (h:InvN cs a s) (h3:s.status≠3):InvN cs a { s with status:=0 } :=
 ⟨h.way,h.used,fun _=>h.tree h3,h.trim,fun h1=>by simp at h1,h.len,h.tries,fun h2=>by simp at h2,by simp⟩
theorem InvN.head {cs:List Cls} {a:List (List Sym) × Names} {s:SN} (h:InvN cs a s) (hw:s.way≠[]):∃ n k r c,s.way=(n,k)::r∧cs[k]?=some c∧n.goals≠[]:=by
 cases e:s.way with
 | nil=>exact absurd e hw
 | cons x r =>
  obtain ⟨n,k⟩:=x
  have ht:=h.trim
  rw [e] at ht
  have hk:=Zlq ht
  exact ⟨n,k,r,_,rfl,Qb hk,(h.way (n,k) (by rw [e]; simp)).1⟩
theorem InvN.loop {cs:List Cls} {a:List (List Sym) × Names} (hcl:cs.length≤24):∀ {n:Nat} {s:SN},InvN cs a s→InvN cs a (Zcr cs n s).1:=by
 intro n
 induction n with
 | zero=>intro s h; exact h
 | succ n ih =>
  intro s h
  unfold Zcr
  split
  ·rename_i hc
   obtain ⟨n',k,r,c,h1,h2,h3⟩:=h.head hc.2.1
   exact ih (h.try' hcl hc.1 h1 h2 hc.2.2)
  ·exact h
theorem InvN.step {cs:List Cls} {a:List (List Sym) × Names} (hcl:cs.length≤24) {n:Nat} {s:SN} (h:InvN cs a s):InvN cs a (Zcb cs n s).1:=by
 unfold Zcb
 split
 ·exact h
 ·rename_i h3
  exact ((h.seek (by omega)).loop hcl).end'
noncomputable def newN (cs:List Cls) (a:List (List Sym) × Names):SN:=Zdd cs (Zbz ⟨[],0,0,⟨[],[],[],[],0⟩,[]⟩ (topN a))
theorem Zgw {a:List (List Sym) × Names} (h:a.1≠[]):(topN a).goals≠[]:=by simpa [topN] using h
theorem InvN.new (cs:List Cls) {a:List (List Sym) × Names} (ha:a.1≠[]):InvN cs a (newN cs a):=by
 have hg:=Zgw ha
 have hp:PW cs (topN a) [(topN a,0)] [40]:=⟨rfl,hg,Qm _,[],.zero _,by simp⟩
 unfold newN Zbz
 rw [if_neg hg]
 refine ⟨?_,?_,?_,?_,?_,?_,?_,?_,?_⟩
 ·intro x hx
  simp only [Zdd,Zdm] at hx
  have hx:=Zos hx
  simp at hx
  subst hx
  exact ⟨hg,by simp [topN],Qm _,fun k hk=>by simp [topN] at hk⟩
 ·simp only [Zdd,Zdm]
  exact UsedW.trim ⟨rfl,fun y hy=>by simp at hy,trivial⟩
 ·intro _
  exact hp.leave
 ·simp only [Zdd,Zdm]
  exact Zlr _ _
 ·intro h; simp [Zdd] at h
 ·simp only [Zdd,Zlt]
  simp
 ·simp [Zdd]
 ·intro h; simp [Zdd] at h
 ·simp [Zdd]
def Zfa (s:SN):Prop:=s.status=1→s.found.used≠[]
theorem Zou {s:SN} {n:ND} (h:s.status≠1) (hn:n.used≠[]):Zfa (Zbz s n):=by
 unfold Zbz
 split
 ·exact fun _=>hn
 ·exact fun e=>absurd e h
theorem Zuc {cs:List Cls} {s:SN} (h0:s.status=0):Zfa (Zax cs s):=by
 unfold Zax
 split
 ·exact fun e=>by omega
 ·split
  ·exact fun e=>by omega
  ·rename_i n k r _ c hc
   show Zfa (Zdd cs _)
   have hl:∀ u:SN,Zfa u→Zfa (Zdd cs u):=fun u h e=>h e
   apply hl
   split
   ·exact fun e=>by simp at e
   ·split
    ·rename_i h12
     exact Zou (by simp only; omega) (by rw [Zii h12]; simp)
    ·exact fun e=>by simp only at e; omega
theorem Zqm {cs:List Cls}:∀ {n:Nat} {s:SN},Zfa s→Zfa (Zcr cs n s).1:=by
 intro n
 induction n with
 | zero=>intro s h; exact h
 | succ n ih =>
  intro s h
  unfold Zcr
  split
  ·rename_i hc
   exact ih (Zuc hc.1)
  ·exact h
theorem Zqn {cs:List Cls} {n:Nat} {s:SN} (h:Zfa s):Zfa (Zcb cs n s).1:=by
 unfold Zcb
 split
 ·exact h
 ·have h1:Zfa (Zcr cs n { s with status:=0 }).1:=Zqm (fun e=>by simp at e)
  show Zfa (endN _)
  unfold endN
  split
  ·exact fun e=>by simp [Zfn] at e
  ·split
   ·split
    ·exact fun e=>by simp at e
    ·split
     ·exact fun e=>by simp [Zfn] at e
     ·exact h1
   ·exact h1
def Zxj (s:SN):Prop:=s.status=0→s.way≠[]∧s.tries<3000
theorem Ybq {cs:List Cls} {n:Nat} {s:SN} (h:Zxj s):Zxj (Zcb cs n s).1:=by
 unfold Zcb
 split
 ·exact h
 ·show Zxj (endN _)
  unfold endN
  split
  ·exact fun e=>by simp [Zfn] at e
  ·split
   ·split
    ·exact fun e=>by simp at e
    ·split
     ·exact fun e=>by simp [Zfn] at e
     ·rename_i h1 h2
      exact fun _=>⟨h1,by omega⟩
   ·rename_i h1
    exact fun e=>absurd e h1
theorem Zzv {cs:List Cls}:∀ {n:Nat} {s:SN},(Zcr cs n s).2≤n:=by
 intro n
 induction n with
 | zero=>intro s; simp [Zcr]
 | succ n ih=>intro s; unfold Zcr; split <;> simp [ih]
theorem Zzw {cs:List Cls} {n:Nat} {s:SN}:(Zcb cs n s).2≤n:=by
 unfold Zcb
 split
 ·simp
 ·exact Zzv
theorem Zud {cs:List Cls}:∀ {n:Nat} {s:SN},(Zcr cs n s).2<n→¬ ((Zcr cs n s).1.status=0∧(Zcr cs n s).1.way≠[]∧(Zcr cs n s).1.tries<3000):=by
 intro n
 induction n with
 | zero=>intro s h; omega
 | succ n ih =>
  intro s h
  unfold Zcr at h ⊢
  split at h
  ·rename_i hc
   rw [if_pos hc]
   exact ih (by simpa using h)
  ·rename_i hc
   rw [if_neg hc]
   exact hc
theorem Zue {cs:List Cls} {n:Nat} {s:SN} (h:(Zcb cs n s).2<n):(Zcb cs n s).1.status≠0:=by
 unfold Zcb at h ⊢
 split at h
 ·rename_i hc
  rw [if_pos hc]
  simp only; omega
 ·rename_i hc
  rw [if_neg hc]
  have h1:=Zud h
  simp only
  unfold endN
  split
  ·simp [Zfn]
  ·split
   ·rename_i h3 h0
    split
    ·simp
    ·split
     ·simp [Zfn]
     ·rename_i hw ht
      exact absurd ⟨h0,hw,by omega⟩ h1
   ·rename_i h0
    exact h0
theorem Zuf {cs:List Cls} {n:Nat} {s:SN} (hn:0<n) (hs:s.status≠2∧s.status≠3) (h:(Zcb cs n s).1.status=0∨(Zcb cs n s).1.status=1):(Zcb cs n s).2≠0:=by
 intro h0
 unfold Zcb at h h0
 rw [if_neg (by omega)] at h h0
 simp only at h h0
 obtain ⟨m,rfl⟩:∃ m,n=m+1:=⟨n - 1,by omega⟩
 unfold Zcr at h h0
 split at h
 ·rename_i hc
  rw [if_pos hc] at h0
  simp at h0
 ·rename_i hc
  simp only at h
  unfold endN at h
  simp only at h hc
  rw [if_neg (by omega),if_pos trivial] at h
  split at h
  ·simp at h
  ·rename_i hw
   split at h
   ·simp [Zfn] at h
   ·rename_i ht
    exact hc ⟨trivial,hw,by omega⟩
theorem Zov (k:Nat):Lib.decDigits k≠[]:=by
 rw [Lib.decDigits]
 split <;> simp
theorem Zug {names:Names} {n:ND} (h:n.vals.length=names.length):Zbr names n≠[]:=by
 unfold Zbr
 split
 ·simp
 ·rename_i hn
  have hl:=Zeo n.vals []
  cases names with
  | nil=>exact absurd rfl hn
  | cons x xs =>
   cases hc:(Zav n.vals []).1 with
   | nil=>rw [hc] at hl; simp at hl h; omega
   | cons t ts=>simp [Zgz]
theorem Zqo {n:ND} (h:n.used≠[]):Zig n≠[]:=by
 unfold Zig
 cases hu:n.used with
 | nil=>exact absurd hu h
 | cons k ks =>
  simp only [Zef]
  intro e
  have h1:=List.append_eq_nil_iff.1 e
  exact Zov k (List.append_eq_nil_iff.1 h1.2).1
theorem Zzx {cs:List Cls} {n:ND} {t:List UInt8} (h:TreeR cs n t):t≠[]:=by
 cases h <;> simp
theorem Zjb {cs:List Cls} {a:List (List Sym) × Names} {s:SN} (hI:InvN cs a s) (hF:Zfa s) :
  ((Zcq a s.status s.found s.tree).1=[]↔s.status≠1)∧((Zcq a s.status s.found s.tree).2.1=[]↔s.status≠1)∧((Zcq a s.status s.found s.tree).2.2=[]↔s.status≠2):=by
 unfold Zcq
 by_cases h1:s.status=1
 ·rw [if_pos h1]
  have ha:=Zug (hI.found h1).2.1
  have hw:=Zqo (hF h1)
  simp [h1,ha,hw]
 ·rw [if_neg h1]
  by_cases h2:s.status=2
  ·rw [if_pos h2]
   have ht:=hI.tree (by omega)
   rw [hI.no h2] at ht
   have:=Zzx ht
   simp [h1,h2,this]
  ·rw [if_neg h2]
   simp [h1,h2]
structure Tr where
 ans:List (List UInt8)
 wts:List (List UInt8)
 tries:Nat
 status:Nat
def Zgd (size left:Nat):Nat:=if left<size then left else size
noncomputable def addN (a:List (List Sym) × Names) (t:Tr) (r:SN × Nat):Tr :=
 if r.1.status=1 then ⟨t.ans++[(Zcq a r.1.status r.1.found r.1.tree).1],t.wts++[(Zcq a r.1.status r.1.found r.1.tree).2.1],t.tries+r.2,r.1.status⟩ else ⟨t.ans,t.wts,t.tries+r.2,r.1.status⟩
noncomputable def aftN (cs:List Cls) (a:List (List Sym) × Names) (tries size:Nat):Nat→SN→Tr→SN × Tr
 | 0,m,t=>(m,t)
 | f+1,m,t=>if t.tries<tries then
   (if (Zcb cs (Zgd size (tries - t.tries)) m).1.status=2∨(Zcb cs (Zgd size (tries - t.tries)) m).1.status=3 then ((Zcb cs (Zgd size (tries - t.tries)) m).1,addN a t (Zcb cs (Zgd size (tries - t.tries)) m))
    else aftN cs a tries size f (Zcb cs (Zgd size (tries - t.tries)) m).1 (addN a t (Zcb cs (Zgd size (tries - t.tries)) m)))
   else (m,t)
end Go.Proofs.YtlmjilpjmgjjcabDoor
namespace Go.Proofs.YtlmjilpjmgjjcabDoor
def skip:Nat→List Sym→Nat
 | 0,_=>0
 | _+1,[]=>0
 | k+1,s::r=>skip (k+s.args) r+1
theorem Zhs:∀ {a:List Sym} {j:Nat} (r:List Sym),Wf j a→skip j (a++r)=a.length:=by
 intro a
 induction a with
 | nil=>intro j r h; have h:j=0:=h; subst h; simp [skip]
 | cons s a ih =>
  intro j r h
  obtain ⟨h1,_,_,h2⟩:=h
  obtain ⟨k,rfl⟩:∃ k,j=k+1:=⟨j - 1,by omega⟩
  simp only [List.cons_append,skip,Qf]
  rw [ih r (by simpa using h2)]
theorem Ybr:∀ {l:List Sym} {k:Nat} (i:Nat),Wf k l→i≤l.length→∃ k',Wf k' (l.drop i):=by
 intro l
 induction l with
 | nil=>intro k i h hi; simp at hi; subst hi; exact ⟨k,h⟩
 | cons s l ih =>
  intro k i h hi
  cases i with
  | zero=>exact ⟨k,h⟩
  | succ i =>
   obtain ⟨_,_,_,h2⟩:=h
   simp only [List.drop_succ_cons]
   exact ih i h2 (by simpa using hi)
def Zbb (l:List Sym) (i:Nat):Nat:=i+skip 1 (l.drop i)
def tmAt (l:List Sym) (i:Nat):List Sym:=(l.drop i).take (skip 1 (l.drop i))
def Zay (l:List Sym):Nat→Nat→List Nat
 | _,0=>[]
 | p,m+1=>p::Zay l (Zbb l p) m
def Zaq (l:List Sym):Nat→Nat→Nat
 | p,0=>p
 | p,m+1=>Zaq l (Zbb l p) m
theorem Zcm (l:List Sym) (p m:Nat):(Zay l p m).length=m:=by
 induction m generalizing p with
 | zero=>rfl
 | succ m ih=>simp [Zay,ih]
theorem Zbs (l:List Sym) (p m:Nat):Zaq l p (m+1)=Zbb l (Zaq l p m):=by
 induction m generalizing p with
 | zero=>rfl
 | succ m ih=>rw [Zaq,ih]; rfl
theorem Zbp (l:List Sym) (p m i:Nat) (hi:i<m):(Zay l p m)[i]?=some (Zaq l p i):=by
 induction m generalizing p i with
 | zero=>omega
 | succ m ih =>
  cases i with
  | zero=>rfl
  | succ i=>simp only [Zay,List.getElem?_cons_succ,Zaq]; exact ih _ _ (by omega)
theorem Zdy {l:List Sym} {k i:Nat} (h:Wf k l) (hi:i<l.length):Wf 1 (tmAt l i)∧∃ r,l.drop i=tmAt l i++r∧r=l.drop (Zbb l i)∧i<Zbb l i∧Zbb l i≤l.length∧(tmAt l i).length=skip 1 (l.drop i):=by
 obtain ⟨k',hk⟩:=Ybr i h (by omega)
 have hpos:0<k':=by
  rcases Nat.eq_zero_or_pos k' with rfl | hp
  ·cases hd:l.drop i with
   | nil=>have:=congrArg List.length hd; simp at this; omega
   | cons s r=>rw [hd] at hk; obtain ⟨h1,_⟩:=hk; omega
  ·exact hp
 obtain ⟨a,b,e,ha,hb⟩:=Zhz (j:=1) (k:=k' - 1) (l:=l.drop i) (by rw [show 1+(k' - 1)=k' by omega]; exact hk)
 have hs:skip 1 (l.drop i)=a.length:=by rw [e]; exact Zhs b ha
 have ht:tmAt l i=a:=by unfold tmAt; rw [hs,e]; simp
 have hl:a.length+b.length=l.length - i:=by
  have:=congrArg List.length e
  simp at this; omega
 have ha1:=Zdv ha
 refine ⟨by rw [ht]; exact ha,b,by rw [ht]; exact e,?_,by unfold Zbb; omega,by unfold Zbb; omega,by rw [ht,hs]⟩
 unfold Zbb
 rw [hs,← List.drop_drop,e]; simp
theorem Ybs {l:List Sym} {k0:Nat} (h:Wf k0 l):∀ (m:Nat) {p:Nat} {a b:List Sym},l.drop p=a++b→Wf m a→p≤l.length →
  a=((Zay l p m).map (tmAt l)).flatten∧(∀ x ∈ Zay l p m,p≤x∧x<p+a.length)∧Zaq l p m=p+a.length:=by
 intro m
 induction m with
 | zero =>
  intro p a b e hw _
  have:a=[]:=by
   cases a with
   | nil=>rfl
   | cons s a=>obtain ⟨h1,_⟩:=hw; omega
  subst this
  exact ⟨rfl,by simp [Zay],rfl⟩
 | succ m ih =>
  intro p a b e hw hp
  obtain ⟨a1,a2,rfl,h1,h2⟩:=Zhz (j:=1) (k:=m) (l:=a) (by rw [Nat.add_comm]; exact hw)
  have hl1:=Zdv h1
  have hpl:p<l.length:=by
   have:=congrArg List.length e
   simp at this; omega
  have hs:skip 1 (l.drop p)=a1.length:=by rw [e,Qi]; exact Zhs _ h1
  have ht:tmAt l p=a1:=by unfold tmAt; rw [hs,e]; simp
  have hb:Zbb l p=p+a1.length:=by unfold Zbb; rw [hs]
  have e2:l.drop (Zbb l p)=a2++b:=by rw [hb,← List.drop_drop,e]; simp
  have hbl:Zbb l p≤l.length:=by
   have:=congrArg List.length e
   simp at this; omega
  obtain ⟨g1,g2,g3⟩:=ih e2 h2 hbl
  refine ⟨?_,?_,?_⟩
  ·simp only [Zay,List.map_cons,List.flatten_cons,ht]
   rw [← g1]
  ·intro x hx
   simp only [Zay,Qp] at hx
   simp only [Qg]
   rcases hx with rfl | hx
   ·omega
   ·have:=g2 x hx; omega
  ·rw [Zaq,g3,hb,Qg]; omega
theorem Zht:∀ {l:List Sym} {k i:Nat} {s:Sym},Wf k l→l[i]?=some s→(s.name=[]→s.args=0)∧(s.name≠[]→s.num=0):=by
 intro l
 induction l with
 | nil=>intro k i s _ hs; simp at hs
 | cons t l ih =>
  intro k i s h hs
  obtain ⟨_,h1,h2,h3⟩:=h
  cases i with
  | zero=>simp at hs; subst hs; exact ⟨h1,h2⟩
  | succ i=>exact ih h3 (by simpa using hs)
def Zas (l:List Sym) (i:Nat):Sym:=l.getD i ⟨[],0,0⟩
def grOf (l:List Sym):Gr:=⟨l.length,Zas l,fun i=>Zay l (i+1) (Zas l i).args⟩
theorem Zfw {l:List Sym} {k i:Nat} (h:Wf k l) (hi:i<l.length):tmAt l i=Zas l i::((Zay l (i+1) (Zas l i).args).map (tmAt l)).flatten∧(∀ x ∈ Zay l (i+1) (Zas l i).args,i<x∧x<Zbb l i)∧Zaq l (i+1) (Zas l i).args=Zbb l i:=by
 obtain ⟨hw,r,e,hr,hb1,hb2,hb3⟩:=Zdy h hi
 obtain ⟨s,q,e2,hq,_⟩:=Zji hw
 have hd:l.drop i=l[i]::l.drop (i+1):=List.drop_eq_getElem_cons hi
 rw [e2] at e
 rw [hd] at e
 simp only [List.cons_append,List.cons.injEq] at e
 have hs:Zas l i=s:=by unfold Zas; simp [hi,e.1]
 obtain ⟨g1,g2,g3⟩:=Ybs h s.args e.2 hq (by omega)
 rw [e2] at hb3
 have hlen:Zbb l i=i+1+q.length:=by unfold Zbb; rw [← hb3]; simp; omega
 rw [hs]
 refine ⟨by rw [e2,← g1],fun x hx => ?_,by rw [g3,hlen]⟩
 have:=g2 x hx
 omega
theorem Zjc {a b:List Sym} (h:Wf 1 a):tmAt (a++b) 0=a:=by
 unfold tmAt; rw [List.drop_zero,Zhs b h]; simp
theorem Zhu {a b:List Sym} (h:Wf 1 b):tmAt (a++b) a.length=b:=by
 unfold tmAt
 have e:(a++b).drop a.length=b++[]:=by simp
 rw [e,Zhs [] h]; simp
theorem Zxk {a b:List Sym} (ha:Wf 1 a) (hb:Wf 1 b):Lay (grOf (a++b)) (tmAt (a++b)) a b:=by
 have hw:Wf 2 (a++b):=Zes ha hb
 refine ⟨⟨?_,?_,?_,?_⟩,?_,?_⟩
 ·intro i hi x hx
  have:=(Zfw hw hi).2.1 x hx
  obtain ⟨_,_,_,_,_,h2,_⟩:=Zdy hw hi
  show x<(a++b).length
  omega
 ·intro i hi; exact (Zcm _ _ _).symm
 ·intro i hi hn
  have hs:(a++b)[i]?=some (Zas (a++b) i):=by
   have hi:i<(a++b).length:=hi
   unfold Zas; simp only [List.getD_eq_getElem?_getD]; rw [Qb hi]; rfl
  have:=(Zht hw hs).1 hn
  show Zay _ _ (Zas (a++b) i).args=[]
  rw [this]; rfl
 ·intro i hi hn
  have hs:(a++b)[i]?=some (Zas (a++b) i):=by
   have hi:i<(a++b).length:=hi
   unfold Zas; simp only [List.getD_eq_getElem?_getD]; rw [Qb hi]; rfl
  exact (Zht hw hs).2 hn
 ·intro i hi; exact (Zfw hw hi).1
 ·intro i hi hn
  have hi:i<(a++b).length:=hi
  have hm:Zas (a++b) i ∈ a++b:=by
   unfold Zas; simp only [List.getD_eq_getElem?_getD]; rw [Qb hi]; exact List.getElem_mem hi
  rcases Qk.1 hm with hm | hm
  ·exact Or.inl ⟨_,hm,hn,rfl⟩
  ·exact Or.inr ⟨_,hm,hn,rfl⟩
def Zba (l:List Sym) (i:Nat):Nat:=if (Zas l i).name=[] then l.findIdx (fun s=>s.name.isEmpty && s.num == (Zas l i).num) else i
theorem Zik (l:List Sym) {k:Nat} (hw:Wf k l):Firsts (grOf l) (Zba l):=by
 have key:∀ i,i<l.length→(Zas l i).name=[]→Zba l i<l.length∧(Zas l (Zba l i)).name=[]∧(Zas l (Zba l i)).num=(Zas l i).num:=by
  intro i hi hn
  unfold Zba
  rw [if_pos hn]
  have hex:∃ x ∈ l,(x.name.isEmpty && x.num == (Zas l i).num)=true:=by
   refine ⟨Zas l i,?_,by simp [hn]⟩
   unfold Zas; simp only [List.getD_eq_getElem?_getD]; rw [Qb hi]; exact List.getElem_mem hi
  have hlt:=List.findIdx_lt_length_of_exists hex
  refine ⟨hlt,?_⟩
  have:=List.findIdx_getElem (w:=hlt)
  have e:Zas l (l.findIdx (fun s=>s.name.isEmpty && s.num == (Zas l i).num))=l[l.findIdx (fun s=>s.name.isEmpty && s.num == (Zas l i).num)]:=by
   generalize l.findIdx (fun s=>s.name.isEmpty && s.num == (Zas l i).num)=z at hlt
   unfold Zas; simp only [List.getD_eq_getElem?_getD]; rw [Qb hlt]; rfl
  rw [e]
  simpa using this
 refine ⟨⟨?_,?_⟩,?_,?_,?_⟩
 ·intro i hi
  by_cases hn:(Zas l i).name=[]
  ·exact (key i hi hn).1
  ·show Zba l i<_
   unfold Zba; rw [if_neg hn]; exact hi
 ·intro i hi
  by_cases hn:(Zas l i).name=[]
  ·obtain ⟨h1,h2,h3⟩:=key i hi hn
   show Zba l (Zba l i)=Zba l i
   have e1:Zba l (Zba l i)=l.findIdx (fun s=>s.name.isEmpty && s.num == (Zas l (Zba l i)).num):=by
    generalize Zba l i=z at h2
    unfold Zba; rw [if_pos h2]
   have e2:Zba l i=l.findIdx (fun s=>s.name.isEmpty && s.num == (Zas l i).num):=by unfold Zba; rw [if_pos hn]
   rw [e1,h3,← e2]
  ·have e:Zba l i=i:=by unfold Zba; rw [if_neg hn]
   rw [e,e]
 ·intro i j hi hj h1 h2 e
  show Zba l i=Zba l j
  have h1:(Zas l i).name=[]:=h1
  have h2:(Zas l j).name=[]:=h2
  have e:(Zas l i).num=(Zas l j).num:=e
  unfold Zba; rw [if_pos h1,if_pos h2,e]
 ·intro i hi hn
  have hn:(Zas l i).name≠[]:=hn
  show Zba l i=i
  unfold Zba; rw [if_neg hn]
 ·intro i hi hn
  exact (key i hi hn).2
end Go.Proofs.YtlmjilpjmgjjcabDoor
namespace Go.Proofs.YtlmjilpjmgjjcabDoor
open Go.RowKit
structure GC where
 sym:Sym
 behind:Nat
 leader:Nat
 size:Int
def gcV (c:GC):List Value:=[.string ⟨c.sym.name.toArray⟩,.int .i64 c.sym.num,.int .i64 c.sym.args,.int .i64 c.behind,.int .i64 c.leader,.int .i64 c.size]
def gcs (l:List GC):List Value:=l.flatMap gcV
theorem Yda {l:List GC} {i:Nat} {c:GC} (h:l[i]?=some c) (j:Nat) (hj:j<6):(gcs l)[i * 6+j]?=(gcV c)[j]?:=by
 induction l generalizing i with
 | nil=>simp at h
 | cons a l ih =>
  have hl:(gcV a).length=6:=rfl
  cases i with
  | zero =>
   simp at h; subst h
   show (gcV a++gcs l)[_]?=_
   rw [Qc (by omega)]
   simp
  | succ i =>
   show (gcV a++gcs l)[_]?=_
   rw [Qd (by omega),← ih (by simpa using h),hl]
   congr 1; omega
theorem Zzy (l:List GC) (c:GC):gcs (l++[c])=gcs l++gcV c:=by simp [gcs]
theorem Zuh {l:List GC} {x:Nat} {c:GC} {f:GC→GC} {j:Nat} {u:Value} (h:l[x]?=some c) (hj:j<6) (hf:gcV (f c)=(gcV c).set j u):gcs (l.modify x f)=(gcs l).set (x * 6+j) u:=by
 induction l generalizing x with
 | nil=>simp at h
 | cons a l ih =>
  have hl:(gcV a).length=6:=rfl
  cases x with
  | zero =>
   simp at h; subst h
   show gcV (f a)++gcs l=(gcV a++gcs l).set _ _
   rw [List.set_append_left _ _ (by omega),hf]
   simp
  | succ x =>
   show gcV a++gcs (l.modify x f)=(gcV a++gcs l).set _ _
   rw [List.set_append_right _ _ (by omega),ih (by simpa using h),hl]
   congr 2; omega
structure GAt (w:World) (gb:Nat) (v:Value) (gs:List GC):Prop where
 box:w.heap[gb]?=some (.cells #[v] 118 (0,0))
 owns:w.ownsRow 0 138 6 v gs.length (gcs gs)
theorem Zrs {w:World} {B:Nat} {e:TypeId} {size n g cap:Nat} {xs:List Value} (h:w.ownsRow B e size (.slice (some ⟨g,0,none⟩) n cap) n xs) (i:Nat) (u:Value):(w.setCell ⟨g,i,none⟩ u).ownsRow B e size (.slice (some ⟨g,0,none⟩) n cap) n (xs.set i u):=by
 refine ⟨by simpa using h.1,?_⟩
 rcases h.2 with ⟨h1,_⟩ | ⟨g',cap',cur,h1,hb,hg,hn,hc,hs,ht⟩
 ·simp at h1
 ·simp at h1
  obtain ⟨rfl,rfl⟩:=h1
  refine .inr ⟨g,cap,cur.setIfInBounds i u,rfl,hb,Zag hg _ _,hn,hc,by simpa using hs,?_⟩
  rw [← ht]
  simp [List.take_set]
theorem GAt.shape {w:World} {gb:Nat} {v:Value} {gs:List GC} (h:GAt w gb v gs) (hi:0<gs.length):∃ cb cap,v = .slice (some ⟨cb,0,none⟩) gs.length cap∧cb<w.heap.size∧gs.length≤cap∧cb≠gb∧(∀ j,w.frozen? ⟨cb,j,none⟩=false):=by
 obtain ⟨g,cap,cur,rfl,hB,hb,hc⟩:=Zap h.owns hi
 refine ⟨g,cap,rfl,Zab hb,hc,fun e => ?_,fun j=>Zae hb j⟩
 subst e
 rw [h.box] at hb
 simp at hb
theorem GAt.cell {w:World} {gb cb cap:Nat} {gs:List GC} (h:GAt w gb (.slice (some ⟨cb,0,none⟩) gs.length cap) gs) {i:Nat} {c:GC} (hc:gs[i]?=some c) :
  w.cell? ⟨cb,i * 6,none⟩=some (.string ⟨c.sym.name.toArray⟩)∧w.cell? ⟨cb,i * 6+1,none⟩=some (.int .i64 c.sym.num)∧w.cell? ⟨cb,i * 6+2,none⟩=some (.int .i64 c.sym.args)∧w.cell? ⟨cb,i * 6+3,none⟩=some (.int .i64 c.behind)∧w.cell? ⟨cb,i * 6+4,none⟩=some (.int .i64 c.leader)∧w.cell? ⟨cb,i * 6+5,none⟩=some (.int .i64 c.size):=by
 have e:=fun j hj=>Yda hc j hj
 refine ⟨Zai h.owns _ _ ?_,Zai h.owns _ _ (by rw [e 1 (by omega)]; rfl),Zai h.owns _ _ (by rw [e 2 (by omega)]; rfl),Zai h.owns _ _ (by rw [e 3 (by omega)]; rfl),Zai h.owns _ _ (by rw [e 4 (by omega)]; rfl),Zai h.owns _ _ (by rw [e 5 (by omega)]; rfl)⟩
 have:=e 0 (by omega)
 simp only [Nat.add_zero] at this
 rw [this]; rfl
theorem GAt.on {w w':World} {gb:Nat} {v:Value} {gs:List GC} (h:GAt w gb v gs) (hk:∀ k,k<w.heap.size→w'.heap[k]?=w.heap[k]?):GAt w' gb v gs :=
 ⟨(hk gb (Zab h.box)).trans h.box,Zaj h.owns (fun k e=>hk k (h.owns.lt k e).2)⟩
theorem GAt.ext {w w':World} {gb:Nat} {v:Value} {gs:List GC} (h:GAt w gb v gs) (e:Ext w w'):GAt w' gb v gs:=h.on (fun k hk=>e.block k hk)
theorem GAt.put {w:World} {gb cb cap:Nat} {gs:List GC} (h:GAt w gb (.slice (some ⟨cb,0,none⟩) gs.length cap) gs) {x:Nat} {c:GC} (hc:gs[x]?=some c) {f:GC→GC} {j:Nat} {u:Value} (hj:j<6) (hf:gcV (f c)=(gcV c).set j u) :
  GAt (w.setCell ⟨cb,x * 6+j,none⟩ u) gb (.slice (some ⟨cb,0,none⟩) gs.length cap) (gs.modify x f):=by
 have hne:cb≠gb:=by
  obtain ⟨cb',cap',e,_,_,hne,_⟩:=h.shape (by have:=(Qa.1 hc).1; omega)
  simp at e
  rw [e.1]; exact hne
 refine ⟨(Below.heap_setCell _ _ _ _ (fun e=>hne e.symm)).trans h.box,?_⟩
 rw [Zuh hc hj hf,List.length_modify]
 exact Zrs h.owns _ _
def GC.up (c:GC):CellS:=⟨c.sym,[],c.leader⟩
def Zge (gs:List GC) (x y:Nat):List GC:=gs.modify x (fun c => { c with leader:=y })
theorem Zrt (gs:List GC) (x y:Nat):(Zge gs x y).map GC.up=turn (gs.map GC.up) x y:=by
 apply List.ext_getElem?
 intro i
 rw [Zmq,Qj,Zge,List.getElem?_modify,Qj]
 cases gs[i]? with
 | none=>rfl
 | some c=>simp; split <;> simp_all [GC.up]
theorem Zgl (gs:List GC) (x y:Nat):(Zge gs x y).length=gs.length:=by simp [Zge]
structure CellsOf (gs:List GC) (l:List Sym):Prop where
 len:gs.length=l.length
 all:∀ i c,gs[i]?=some c→c.sym=Zas l i∧c.behind=Zbb l i
theorem CellsOf.lead {gs:List GC} {l:List Sym} (h:CellsOf gs l) (x y:Nat):CellsOf (Zge gs x y) l :=
 ⟨by rw [Zgl]; exact h.len,fun i c hc=>by
  rw [Zge,List.getElem?_modify] at hc
  cases hd:gs[i]? with
  | none=>rw [hd] at hc; simp at hc
  | some d =>
   rw [hd] at hc
   obtain ⟨h1,h2⟩:=h.all i d hd
   simp only [Option.map_eq_map,Option.map_some,Qo] at hc
   subst hc
   split <;> exact ⟨h1,h2⟩⟩
theorem Zfb (w:World) (gb:Nat) (v:Value) (gs:List GC) (ρ rk:Nat→Nat) (i:Nat) (h:GAt w gb v gs) (hu:UpOk (gs.map GC.up) ρ rk) (hi:i<gs.length) (hl:gs.length≤4000) :
  Calls Tryd.prog 80 #[.pointer (some ⟨gb,0,none⟩),.int .i64 i] w fun e w'=>e = .returned (.int .i64 (ρ i))∧w'=w:=by
 obtain ⟨cb,cap,rfl,hcb,hcap,_,_⟩:=h.shape (by omega)
 have b0:w.cell? ⟨gb,0,none⟩=some (.slice (some ⟨cb,0,none⟩) gs.length cap):=Zaa h.box 0 _ rfl
 have hgb:=Zab h.box
 have H:=Zac h
 have Hu:=Zac hu
 clear h hu
 go_enter Tryd.func80,Tryd.ntmps80
 go_wp2
 go_loopg [1] (rk i+1) (fun gk iv wr=>∃ (k:Nat),iv = .int .i64 k∧k<gs.length∧rk k<gk∧ρ k=ρ i∧wr=w)
 case atStart=>exact ⟨i,rfl,hi,by omega,rfl,rfl⟩
 case round =>
  obtain ⟨k,rfl,hk,hg,hρ,rfl⟩:=hrel
  obtain ⟨c,hc⟩:∃ c,gs[k]?=some c:=⟨_,Qb hk⟩
  obtain ⟨c0,c1,c2,c3,c4,c5⟩:=H.out.cell hc
  obtain ⟨h1,h2,h3,h4⟩:=Hu.out k c.up (by rw [Qj,hc]; rfl)
  have h1:c.leader<gs.length:=by simpa [GC.up] using h1
  have h2:ρ c.leader=ρ k:=h2
  by_cases e:c.leader=k
  ·have e':((c.leader:Int) != (k:Int))=false:=by rw [e]; simp
   have Hr:=Zac (h3 e)
   have Hρ:=Zac hρ
   clear hc h2 h3 h4 hρ
   go_wp2
   go_ret
   exact ⟨by rw [← Hρ.out,Hr.out]; rfl,rfl⟩
  ·have e':((c.leader:Int) != (k:Int))=true:=by rw [bne_iff_ne]; omega
   have Hr:=Zac (h2.trans hρ)
   have h4':=h4 e
   clear hc h2 h3 h4 hρ
   go_wp2
   go_roundg (rk k)
   case measure=>omega
   case rel=>exact ⟨c.leader,rfl,h1,h4',Hr.out,rfl⟩
theorem Zhe (w:World) (gb:Nat) (v:Value) (gs:List GC) (i:Nat) (c:GC) (h:GAt w gb v gs) (hc:gs[i]?=some c) (hl:gs.length≤4000) :
  Calls Tryd.prog 81 #[.pointer (some ⟨gb,0,none⟩),.int .i64 i] w fun e w'=>e = .returned (.bool c.sym.name.isEmpty)∧w'=w:=by
 have hi:=(Qa.1 hc).1
 obtain ⟨cb,cap,rfl,hcb,hcap,_,_⟩:=h.shape (by omega)
 have b0:w.cell? ⟨gb,0,none⟩=some (.slice (some ⟨cb,0,none⟩) gs.length cap):=Zaa h.box 0 _ rfl
 have hgb:=Zab h.box
 obtain ⟨c0,c1,c2,c3,c4,c5⟩:=h.cell hc
 clear h hc
 go_enter Tryd.func81,Tryd.ntmps81
 go_wp2
 go_ret
 exact ⟨by simp,rfl⟩
def Zdn (s t:Sym):Bool:=s.name.isEmpty && (t.name.isEmpty && s.num == t.num)
theorem Zui (w:World) (s t:Sym) :
  Calls Tryd.prog 97 #[.agg #[.string ⟨s.name.toArray⟩,.int .i64 s.num,.int .i64 s.args],.agg #[.string ⟨t.name.toArray⟩,.int .i64 t.num,.int .i64 t.args]] w fun e w'=>e = .returned (.bool (Zdn s t))∧Ext w w':=by
 have Hs:Hid (∀ a b c,a=s.name.isEmpty→b=t.name.isEmpty→c=(s.num == t.num)→Zdn s t=(a && (b && c))):=fun a b c h1 h2 h3=>by rw [h1,h2,h3]; rfl
 cases h1:s.name.isEmpty with
 | false =>
  go_enter Tryd.func97,Tryd.ntmps97
  go_wp2
  go_ret
  refine ⟨?_,(Ext.of (by repeat' (first | with_reducible(first|exact Qx _ _|apply Kept.drew|apply Kept.drewN|apply Qz|refine Qy ?_ ?_ _)|exact fun h=>absurd h (by simp <;> omega))))⟩
  rw [Hs.out false _ _ h1.symm rfl rfl]; rfl
 | true =>
  cases h2:t.name.isEmpty with
  | false =>
   go_enter Tryd.func97,Tryd.ntmps97
   go_wp2
   go_ret
   refine ⟨?_,(Ext.of (by repeat' (first | with_reducible(first|exact Qx _ _|apply Kept.drew|apply Kept.drewN|apply Qz|refine Qy ?_ ?_ _)|exact fun h=>absurd h (by simp <;> omega))))⟩
   rw [Hs.out true false _ h1.symm h2.symm rfl]; rfl
  | true =>
   have Hn:Hid (((s.num:Int) == (t.num:Int))=(s.num == t.num)):=by
    show _=_
    rw [Bool.eq_iff_iff,beq_iff_eq,beq_iff_eq]; omega
   go_enter Tryd.func97,Tryd.ntmps97
   go_wp2
   go_ret
   refine ⟨?_,(Ext.of (by repeat' (first | with_reducible(first|exact Qx _ _|apply Kept.drew|apply Kept.drewN|apply Qz|refine Qy ?_ ?_ _)|exact fun h=>absurd h (by simp <;> omega))))⟩
   rw [Hs.out true true _ h1.symm h2.symm rfl,← Hn.out]; rfl
end Go.Proofs.YtlmjilpjmgjjcabDoor
