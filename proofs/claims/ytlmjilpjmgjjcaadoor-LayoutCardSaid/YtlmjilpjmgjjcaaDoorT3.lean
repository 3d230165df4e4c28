/-
  PROVED HERE: what the document's calls answer, as plain functions of texts (no memory; a try is 'tryN' of the text Node); plain facts on them (the conditions stand in each statement).
-/
import Derived.Test.YtlmjilpjmgjjcaaDoorT2
import Derived.Deep.RegionWith
set_option linter.unusedSimpArgs false
set_option linter.unusedVariables false
set_option maxRecDepth 10000
set_option maxHeartbeats 4000000
namespace Go.Proofs.YtlmjilpjmgjjcaaDoor
open Go.RowKit
def TokAt (w:World) (b:Nat) (t:Nat × Nat × Nat):Prop:=w.heap[b]?=some (.cells #[.int .i64 t.1,.int .i64 t.2.1,.int .i64 t.2.2] 96 (0,0))
def FaultAt (w:World) (b:Nat) (e p:Nat):Prop:=w.heap[b]?=some (.cells #[.int .i64 e,.int .i64 p] 55 (0,0))
theorem TokAt.cells {w:World} {b:Nat} {t:Nat × Nat × Nat} (h:TokAt w b t):b<w.heap.size∧w.cell? ⟨b,0,none⟩=some (.int .i64 t.1)∧w.cell? ⟨b,1,none⟩=some (.int .i64 t.2.1)∧w.cell? ⟨b,2,none⟩=some (.int .i64 t.2.2)∧∀ i,w.frozen? ⟨b,i,none⟩=false :=
 ⟨Zab h,Zaa h 0 _ rfl,Zaa h 1 _ rfl,Zaa h 2 _ rfl,fun i=>Zae h i⟩
theorem FaultAt.cells {w:World} {b e p:Nat} (h:FaultAt w b e p):b<w.heap.size∧w.cell? ⟨b,0,none⟩=some (.int .i64 e)∧w.cell? ⟨b,1,none⟩=some (.int .i64 p)∧∀ i,w.frozen? ⟨b,i,none⟩=false :=
 ⟨Zab h,Zaa h 0 _ rfl,Zaa h 1 _ rfl,fun i=>Zae h i⟩
theorem TokAt.held {w w':World} {B b:Nat} {t:Nat × Nat × Nat} (h:TokAt w b t) (hk:Held B w w'):TokAt w' b t:=(hk.other b _ _ _ h (Or.inl rfl)).trans h
theorem FaultAt.held {w w':World} {B b e p:Nat} (h:FaultAt w b e p) (hk:Held B w w'):FaultAt w' b e p:=(hk.other b _ _ _ h (Or.inr rfl)).trans h
theorem TokAt.kept {S:Nat→Prop} {w w':World} {b:Nat} {t:Nat × Nat × Nat} (h:TokAt w b t) (hk:Kept S w w') (hs:¬ S b):TokAt w' b t:=(hk.block b (Zab h) hs).trans h
theorem FaultAt.kept {S:Nat→Prop} {w w':World} {b e p:Nat} (h:FaultAt w b e p) (hk:Kept S w w') (hs:¬ S b):FaultAt w' b e p:=(hk.block b (Zab h) hs).trans h
theorem Kept.untouched {w w':World} (h:Below w.heap.size w w'):Kept Zch w w':=⟨h.os,h.tape,h.output,h.size,fun k hk _=>h.block k hk⟩
theorem IsRx.fresh {w w':World} {B rb:Nat} {st:RS} (h:IsRx w B rb st) (hk:Kept Zch w w'):IsRx w' B rb st:=by
 obtain ⟨V,Sa,Sb,vs,xs,h⟩:=h
 exact ⟨V,Sa,Sb,vs,xs,h.fresh hk⟩
theorem IsRx.aside {w w':World} {B rb k:Nat} {st:RS} {cs:Array Value} {T:TypeId} {fr:Nat × Nat} (h:IsRx w B rb st) (hb:w.heap[k]?=some (.cells cs T fr)) (hT:T=96∨T=55) (hk:Kept (only k) w w'):IsRx w' B rb st:=by
 obtain ⟨V,Sa,Sb,vs,xs,h⟩:=h
 have hr:rb≠k:=fun e=>by
  have e1:=h.blk
  rw [e,hb] at e1
  simp only [Qo,Obj.cells.injEq] at e1
  rcases hT with h1 | h1 <;> exact absurd (e1.2.1.symm.trans h1) (by decide)
 have hX:∀ {Br:Nat} {e:TypeId} {s n:Nat} {v:Value} {ys:List Value},w.ownsRow Br e s v n ys→e≠96→e≠55→w'.ownsRow Br e s v n ys:=fun ho h1 h2 =>
  hk.owns ho (fun i hi e=>by
   have e:i=k:=e
   subst e
   rcases hT with rfl | rfl
   ·exact Zaf ho h1 hb hi
   ·exact Zaf ho h2 hb hi)
 have hS:∀ {v:Value} {l:List Sym},SymRow w B Sa v l→SymRow w' B Sa v l:=fun hs=>⟨hX hs.1 (by decide) (by decide),hs.2⟩
 have hBd:∀ {v:Value} {ls:List (List Sym)} {us:List Value},BodyRow w B Sa v ls us→BodyRow w' B Sa v ls us:=fun hs=>⟨hX hs.1 (by decide) (by decide),fun i l hl=>by
  obtain ⟨x,h1,h2⟩:=hs.2 i l hl
  exact ⟨x,h1,hS h2⟩⟩
 have r:=h.rest
 exact ⟨V,Sa,Sb,vs,xs,(hk.block rb (Zab h.blk) hr).trans h.blk,⟨hX r.atom (by decide) (by decide),hX r.opn (by decide) (by decide),hX r.vars (by decide) (by decide),hS r.head,hBd r.body,
  ⟨hX r.cls.1 (by decide) (by decide),r.cls.2.1,r.cls.2.2.1,fun i c hc=>by
   obtain ⟨hv,bv,vv,us,e1,e2,e3,e4⟩:=r.cls.2.2.2 i c hc
   exact ⟨hv,bv,vv,us,e1,hS e2,hBd e3,e4.1,hX e4.2.1 (by decide) (by decide),e4.2.2⟩⟩,r.ta,r.tb,r.tv,Qq r.la hk.size,Qq r.lb hk.size⟩,h.le⟩
theorem IsRx.le {w:World} {B rb:Nat} {st:RS} (h:IsRx w B rb st):B≤w.heap.size:=by
 obtain ⟨V,Sa,Sb,vs,xs,h⟩:=h
 have:=h.le
 have:=Zab h.blk
 omega
theorem IsRx.look {w:World} {B rb:Nat} {st:RS} (h:IsRx w B rb st):∃ V,ROpen w B rb st V:=by
 obtain ⟨V,Sa,Sb,vs,xs,h⟩:=h
 exact ⟨V,h.opens⟩
theorem Zhz {w wr:World} {B rb b e0 p0:Nat} {st:RS} (hr:IsRx wr B rb st) (hf:FaultAt wr b e0 p0) (hB:B≤b) (hbw:Below B w wr) (x y:Value) :
  IsRx ((wr.setCell ⟨b,0,none⟩ x).setCell ⟨b,1,none⟩ y) B rb st∧Below B w ((wr.setCell ⟨b,0,none⟩ x).setCell ⟨b,1,none⟩ y) :=
 ⟨hr.aside hf (Or.inr rfl) (((Qx (only b) wr).put 0 x).put 1 y),(hbw.setCell (p:=⟨b,0,none⟩) hB x).setCell (p:=⟨b,1,none⟩) hB y⟩
theorem Zit (w:World) (B rb:Nat) (st:RS) (s:ByteArray) (h:IsRx w B rb st) (hi:RI 0 st) (hs:s.size≤4000) :
  Calls Tryd.prog 31 #[.pointer (some ⟨rb,0,none⟩),.string s] w fun e w' =>
   e = .returned (.agg #[.int .i64 (runT s.size (toks s.data.toList 0) st).1,.int .i64 (runT s.size (toks s.data.toList 0) st).2.1])∧IsRx w' B rb (runT s.size (toks s.data.toList 0) st).2.2∧Below B w w':=by
 obtain ⟨R,hR⟩:∃ R,R=runT s.size (toks s.data.toList 0) st:=⟨_,rfl⟩
 rw [← hR]
 have hBw:=h.le
 have HR:=Zac hR
 have H:=Zac h
 have Hi:=Zac hi
 clear h hi hR
 go_enter Tryd.func31,Tryd.ntmps31
 go_wp2_with fail
 refine (Zul s 0 _ (by omega) (Qm _)).mono ?_
 rintro e w1 ⟨rfl,hb1⟩
 have hF0:FaultAt (w.alloc (.cells #[.int .i64 0,.int .i64 0] 55)) w.heap.size 0 0:=heap_alloc_new w _
 have hk1:Kept Zch w w1:=((Qx _ w).alloc _).trans (Kept.untouched hb1)
 have HF1:=Zac (hF0.kept (Kept.untouched hb1) (fun h=>h))
 have H1:=Zac (H.out.fresh hk1)
 have HB1:=Zac (hk1.below hBw (fun _ h=>h.elim))
 have hlt:w.heap.size<w1.heap.size:=Zab HF1.out
 clear hF0 hk1 hb1
 go_wp2
 go_loopg [] (s.size+1) (fun gk wr=>∃ (n:Nat) (st':RS),n≤s.size∧s.size - n<gk∧TokAt wr w1.heap.size (Zlm s n)∧FaultAt wr w.heap.size 0 0∧IsRx wr B rb st'∧RI n st'∧runT s.size (toks (s.data.toList.drop n) n) st'=R∧Below B w wr)
 case atStart =>
  refine ⟨0,st,Qm _,by omega,heap_alloc_new w1 _,HF1.out.kept ((Qx Zch w1).alloc _) (fun h=>h),H1.out.fresh ((Qx _ w1).alloc _),Hi.out,?_,HB1.out.alloc (Qq hBw HB1.out.size) _⟩
  rw [HR.out]; rfl
 case round =>
  obtain ⟨n,st',hn,hgk,htok,hflt,hr,hri,hrun,hbw⟩:=hrel
  obtain ⟨hrb,c0,c1,c2,_,cf⟩:=hr.cells
  obtain ⟨hT4,f0,f1,ff⟩:=hflt.cells
  have hn5:=hri.next
  have h45:¬ w.heap.size=w1.heap.size:=by omega
  have hr4:¬ rb=w.heap.size:=fun e=>by
   obtain ⟨V,Sa,Sb,vs,xs,h⟩:=hr
   have e1:=h.blk
   rw [e,hflt] at e1
   simp at e1
  rcases Zzx s n hn with ⟨hnx,htk⟩ | ⟨t,q,hnx,htk,hkd,hnp,hpq,hqs,htx,htl⟩
  ·rw [hnx] at htok
   rw [htk,runT] at hrun
   obtain ⟨hT5,t0,t1,t2,tf⟩:=htok.cells
   simp only at t0 t1 t2
   have Hr:=Zac hr
   have Hflt:=Zac hflt
   have Hbw:=Zac hbw
   clear htok hflt hr hri htk hnx hbw
   by_cases h0:st'.next=0
   ·rw [if_neg (by omega)] at hrun
    rw [h0] at c1
    have Hrun:=Zac hrun
    clear hrun h0
    go_wp2
    refine bodyPost_ret (v := .agg #[.int .i64 0,.int .i64 0]) (by simp [results,Tryd.results31,go_sem,f0,f1,ff,hT4]) rfl ?_
    rw [← Hrun.out]
    exact ⟨rfl,Zhz Hr.out Hflt.out (by omega) Hbw.out _ _⟩
   ·by_cases h5:st'.next=5
    ·rw [if_neg (by omega)] at hrun
     rw [h5] at c1
     have Hrun:=Zac hrun
     clear hrun h0 h5
     go_wp2
     refine bodyPost_ret (v := .agg #[.int .i64 0,.int .i64 0]) (by simp [results,Tryd.results31,go_sem,f0,f1,ff,hT4]) rfl ?_
     rw [← Hrun.out]
     exact ⟨rfl,Zhz Hr.out Hflt.out (by omega) Hbw.out _ _⟩
    ·rw [if_pos ⟨h0,h5⟩] at hrun
     have b0:((st'.next:Int) != 0)=true:=by rw [bne_iff_ne]; omega
     have b5:((st'.next:Int) != 5)=true:=by rw [bne_iff_ne]; omega
     have Hrun:=Zac hrun
     clear hrun h0 h5
     go_wp2
     refine bodyPost_ret (v := .agg #[.int .i64 2,.int .i64 s.size]) (by simp [results,Tryd.results31,go_sem,f0,f1,ff,hT4]) rfl ?_
     rw [← Hrun.out]
     exact ⟨rfl,Zhz Hr.out Hflt.out (by omega) Hbw.out _ _⟩
  ·rw [hnx] at htok
   rw [htk,runT,htl] at hrun
   obtain ⟨hT5,t0,t1,t2,tf⟩:=htok.cells
   simp only at t0 t1 t2
   obtain ⟨kd,hkm⟩:∃ kd,kd=kmap t.kind:=⟨_,rfl⟩
   rw [← hkm] at htok t0 hrun
   have hkd1:1≤kd:=by
    rw [hkm]
    rcases hkd with h | h | h | h | h | h | h | h <;> rw [h] <;> decide
   have bk:((kd:Int) != 0)=true:=by rw [bne_iff_ne]; omega
   obtain ⟨V,hlook⟩:=hr.look
   have HC:=Zac (Zzn wr B rb st' V kd t.pos q hlook (hri.bd (by omega)) hn5 (by omega) (by omega))
   have Hr:=Zac hr
   have Hflt:=Zac hflt
   have Htok:=Zac htok
   have Hbw:=Zac hbw
   have Hri:=Zac hri
   have Htx:=Zac htx
   clear htok hflt hr hri htk hnx hbw hlook htx hkd hkm htl
   by_cases hc:Zbp st' kd (q - t.pos)=0
   ·rw [if_neg (by simp [hc])] at hrun
    have hstand:=Zir hc
    have Hrun:=Zac hrun
    have HT:=Zac (Hri.out.takes (by omega) hstand)
    have Hri':=Zac ((Hri.out.take t.text hstand).at (m:=q) (by omega))
    rw [hc] at HC
    clear hrun hc hstand
    go_wp2_with fail
    refine HC.out.mono ?_
    rintro e w2 ⟨rfl,hk2⟩
    have Hr2:=Zac (Hr.out.fresh hk2)
    have Hflt2:=Zac (Hflt.out.kept hk2 (fun h=>h))
    have Htok2:=Zac (Htok.out.kept hk2 (fun h=>h))
    have Hbw2:=Zac (Hbw.out.trans (hk2.below (by omega) (fun _ h=>h.elim)))
    obtain ⟨x5,x0,x1,x2,xf⟩:=Htok2.out.cells
    simp only at x0 x1 x2
    have hsz2:=hk2.size
    clear hk2 t0 t1 t2 tf c0 c1 c2 cf f0 f1 ff
    go_wp2_with fail
    go_region_with (first
     | (go_at_call 43; refine (Zwn s kd t.pos q _ ?_ ?_ ?_).mono ?_; (· omega); (· omega); (· omega); rintro e w3 ⟨rfl,hk3⟩; rw [Htx.out]; have Hr3:=Zac (Hr2.out.fresh (((Qx Zch w2).drewN 1).trans hk3)); have Hflt3:=Zac (Hflt2.out.kept (((Qx Zch w2).drewN 1).trans hk3) (fun h=>h)); have Htok3:=Zac (Htok2.out.kept (((Qx Zch w2).drewN 1).trans hk3) (fun h=>h)); obtain ⟨y5,y0,y1,y2,yf⟩:=Htok3.out.cells; simp only at y0 y1 y2; have Hk3:=Zac hk3; clear hk3)
     | (go_at_call 42; refine (Yda _ B rb st' kd t.text Hr3.out HT.out).mono ?_; rintro e w4 ⟨rfl,hr4',hh4⟩; have Hr4:=Zac hr4'; have Hh4:=Zac hh4; clear hr4' hh4))
    all_goals
     have hbw4:Below B w w4:=(Hbw2.out.trans (Kept.below (((Qx Zch w2).drewN 1).trans Hk3.out) (by omega) (fun _ h=>h.elim))).trans Hh4.out.below
     have Hflt4:=Zac (Hflt3.out.held Hh4.out)
     have Htok4:=Zac (Htok3.out.held Hh4.out)
     obtain ⟨z5,z0,z1,z2,zf⟩:=Htok4.out.cells
     simp only at z0 z1 z2
     have Hbw4:=Zac hbw4
     clear hbw4 x0 x1 x2 xf y0 y1 y2 yf
     go_wp2_with fail
     refine (Zul s q _ (by omega) hqs).mono ?_
     rintro e w5 ⟨rfl,hb5⟩
     have hk5:=Kept.untouched hb5
     have Htok5:=Zac (Htok4.out.kept hk5 (fun h=>h))
     have Hflt5:=Zac (Hflt4.out.kept hk5 (fun h=>h))
     have Hr5:=Zac (Hr4.out.fresh hk5)
     have Hbw5:=Zac (Hbw4.out.trans (hk5.below Hr4.out.le (fun _ h=>h.elim)))
     obtain ⟨v5,v0,v1,v2,vf⟩:=Htok5.out.cells
     simp only at v0 v1 v2
     clear hk5 hb5 z0 z1 z2 zf
     go_wp2
     go_roundg (s.size - q+1)
     case measure=>omega
     case rel =>
      have hB5:B≤w1.heap.size:=by omega
      refine ⟨q,Zbj st' kd t.text,hqs,by omega,?_,?_,?_,Hri'.out,Hrun.out,?_⟩
      ·unfold TokAt
       rw [Zai (Zai (Zai Htok5.out 0 _) 1 _) 2 _]
       rfl
      ·exact Hflt5.out.kept ((((Qx (only w1.heap.size) w5).put 0 _).put 1 _).put 2 _) (fun e=>h45 e)
      ·exact Hr5.out.aside Htok5.out (Or.inl rfl) ((((Qx (only w1.heap.size) w5).put 0 _).put 1 _).put 2 _)
      ·exact ((Hbw5.out.setCell (p:=⟨w1.heap.size,0,none⟩) hB5 _).setCell (p:=⟨w1.heap.size,1,none⟩) hB5 _).setCell (p:=⟨w1.heap.size,2,none⟩) hB5 _
   ·rw [if_pos hc] at hrun
    have bc:((Zbp st' kd (q - t.pos):Int) != 0)=true:=by rw [bne_iff_ne]; omega
    have Hrun:=Zac hrun
    clear hrun hc
    go_wp2_with fail
    refine HC.out.mono ?_
    rintro e w2 ⟨rfl,hk2⟩
    have Hr2:=Zac (Hr.out.fresh hk2)
    have Hflt2:=Zac (Hflt.out.kept hk2 (fun h=>h))
    have Htok2:=Zac (Htok.out.kept hk2 (fun h=>h))
    have Hbw2:=Zac (Hbw.out.trans (hk2.below (by omega) (fun _ h=>h.elim)))
    obtain ⟨x5,x0,x1,x2,xf⟩:=Htok2.out.cells
    simp only at x0 x1 x2
    obtain ⟨g4,g0,g1,gf⟩:=Hflt2.out.cells
    clear hk2 t0 t1 t2 tf c0 c1 c2 cf f0 f1 ff
    go_wp2
    refine bodyPost_ret (v := .agg #[.int .i64 (Zbp st' kd (q - t.pos)),.int .i64 t.pos]) (by simp [results,Tryd.results31,go_sem,g0,g1,gf,g4]) rfl ?_
    rw [← Hrun.out]
    exact ⟨rfl,Zhz Hr2.out Hflt2.out (by omega) Hbw2.out _ _⟩
def Zbq:List Nat→List UInt8 × List Nat
 | []=>([],[])
 | n::r=>if 1<n then ([44],(n - 1)::r) else (41::(Zbq r).1,(Zbq r).2)
def Zbm:List Sym→List Nat→List UInt8
 | [],_=>[]
 | s::r,miss=>if 0<s.args then symC s++40::Zbm r (s.args::miss) else symC s++((Zbq miss).1++Zbm r (Zbq miss).2)
theorem Zlv {a b c:List UInt8} (h:a++b=c):a.length+b.length=c.length:=by rw [← h]; simp
theorem Zhm (w:World) (B:Nat) (v:Value) (l:List Sym) (ho:w.ownsRow B 87 3 v l.length (Zah l)) (hl:l.length≤4000) (hn:∀ s ∈ l,s.num<2600∧s.args≤4096) (hL:(Zbm l []).length≤100000000) :
  Calls Tryd.prog 44 #[v] w fun e w'=>e = .returned (.string ⟨(Zbm l []).toArray⟩)∧Below w.heap.size w w':=by
 obtain ⟨F,hF⟩:∃ F,F=Zbm l []:=⟨_,rfl⟩
 rw [← hF] at hL ⊢
 obtain ⟨va,vcap,rfl⟩:=Zad ho
 have Ho:=Zac ho
 have HF:=Zac hF
 have Hn:=Zac hn
 clear ho hF hn
 go_enter Tryd.func44,Tryd.ntmps44
 go_wp2
 go_loopg [3,4,10] (l.length+1) (fun gk tx mv i wr=>∃ (k:Nat) (acc:List UInt8) (miss:List Nat),i = .int .i64 k∧k≤l.length∧l.length - k<gk∧tx = .string ⟨acc.toArray⟩∧acc++Zbm (l.drop k) miss=F ∧
   wr.ownsRow w.heap.size 3 1 mv miss.length (ints miss.reverse)∧Below w.heap.size w wr∧miss.length≤k∧∀ m ∈ miss,1≤m∧m≤4096)
 case atStart=>exact ⟨0,[],[],rfl,Qm _,by omega,rfl,by rw [HF.out]; rfl,World.ownsRow_nil _ _ _ _,Below.refl _ _,Qm _,by simp⟩
 case round =>
  obtain ⟨k,acc,miss,rfl,hk,hgk,rfl,hacc,hmo,hbw,hmk,hmm⟩:=hrel
  obtain ⟨ma,mcap,rfl⟩:=Zad hmo
  have hsz:=hbw.size
  by_cases hlt:k<l.length
  ·obtain ⟨s,hs⟩:∃ s,l[k]?=some s:=⟨_,Qb hlt⟩
   have hd:l.drop k=s::l.drop (k+1):=by
    rw [List.drop_eq_getElem_cons hlt]
    rw [Qb hlt] at hs
    simp at hs
    rw [hs]
   rw [hd,Zbm] at hacc
   obtain ⟨hsn,hsa⟩:=Hn.out s (Qh hs)
   have ho:=(Kept.untouched hbw).owns Ho.out (fun _ _ h=>h)
   obtain ⟨g,cap',cur,he,hBg,hg,hcp⟩:=Zat ho (by omega)
   simp only [Value.slice.injEq] at he
   obtain ⟨rfl,_,rfl⟩:=he
   have hgl:g<w.heap.size:=(Ho.out.lt g rfl).2
   have e0:wr.cell? ⟨g,k * 3,none⟩=some (.string ⟨s.name.toArray⟩):=Zag ho _ _ (by have:=Zaz l k s hs 0 (by omega); rw [Nat.add_zero] at this; rw [this]; rfl)
   have e1:wr.cell? ⟨g,k * 3+1,none⟩=some (.int .i64 s.num):=Zag ho _ _ (by rw [Zaz l k s hs 1 (by omega)]; rfl)
   have e2:wr.cell? ⟨g,k * 3+2,none⟩=some (.int .i64 s.args):=Zag ho _ _ (by rw [Zaz l k s hs 2 (by omega)]; rfl)
   have Hacc:=Zac hacc
   have Hmo:=Zac hmo
   have Hbw:=Zac hbw
   have Hmm:=Zac hmm
   have Hd:=Zac hd
   clear hacc hmo hbw hmm hd hs ho hg
   go_wp2_with fail
   refine (Zmw s _ hsn).mono ?_
   rintro e w1 ⟨rfl,hb1⟩
   have hk1:Kept Zch wr w1:=((Qx _ wr).alloc _).trans (Kept.untouched hb1)
   have hbox:w1.heap[wr.heap.size]?=some (.cells #[.string ⟨s.name.toArray⟩,.int .i64 s.num,.int .i64 s.args] 87 (0,0)):=(hb1.block _ (by simp)).trans (heap_alloc_new wr _)
   have b2:w1.cell? ⟨wr.heap.size,2,none⟩=some (.int .i64 s.args):=Zaa hbox 2 _ rfl
   have bl:=Zab hbox
   have Hmo1:=Zac (hk1.owns Hmo.out (fun _ _ h=>h))
   have Hbw1:=Zac (Hbw.out.trans (hk1.below hsz (fun _ h=>h.elim)))
   have hlen:=Zlv Hacc.out
   clear hk1 hbox hb1 e0 e1 e2
   by_cases ha:0<s.args
   ·have Hacc2:Hid (acc++symC s++[40]++Zbm (l.drop (k+1)) (s.args::miss)=F):=by show _=_; rw [← Hacc.out,if_pos ha]; simp
    rw [if_pos ha] at hlen
    simp only [Qg,Qf] at hlen
    go_wp2_with (at_builtin; refine Zan _ rfl (.tmp 23) (.tmp 26) 22 rfl w.heap.size 3 Tryd.infoInt Tryd.underlying22 rfl (by decide) _ miss.length (ints miss.reverse) rfl Hmo1.out _ rfl (by simp) rfl (Zoj _) ?_ ?_ ?_)
    ·omega
    ·omega
    intro v' w2 hap
    have Hap:=Zac hap
    clear hap
    go_wp2
    go_roundg (l.length - k)
    case measure=>omega
    case rel =>
     have hrow:=Hap.out.owns
     refine ⟨k+1,acc++symC s++[40],s.args::miss,by go_num,by omega,by omega,?_,Hacc2.out,?_,?_,by simp; omega,?_⟩
     ·show Value.string (_++_++(⟨[40].toArray⟩:ByteArray))=_
      rw [Zaw,Zaw]
     ·simpa [ints] using hrow
     ·refine Hbw1.out.trans (Hap.out.kept.below (by omega) (fun k hk=>(Hmo1.out.lt k hk).1))
     ·intro m hm
      simp only [Qp] at hm
      rcases hm with rfl | hm
      ·exact ⟨ha,hsa⟩
      ·exact Hmm.out m hm
   ·have Hacc2:Hid (acc++symC s++((Zbq miss).1++Zbm (l.drop (k+1)) (Zbq miss).2)=F):=by show _=_; rw [← Hacc.out,if_neg ha]; simp
    rw [if_neg ha] at hlen
    simp only [Qg] at hlen
    go_wp2
    go_loopg [3,4] (miss.length+1) (fun gj ty mw wi=>∃ (acc':List UInt8) (miss':List Nat),miss'.length<gj∧ty = .string ⟨acc'.toArray⟩∧acc'++((Zbq miss').1++Zbm (l.drop (k+1)) (Zbq miss').2)=F ∧
     wi.ownsRow w.heap.size 3 1 mw miss'.length (ints miss'.reverse)∧Below w.heap.size w wi∧miss'.length≤k∧∀ m ∈ miss',1≤m∧m≤4096)
    case atStart =>
     exact ⟨acc++symC s,miss,by omega,congrArg Value.string (Zaw _ _),Hacc2.out,Hmo1.out,Hbw1.out,hmk,Hmm.out⟩
    case round =>
     obtain ⟨acc',miss',hgj,rfl,hacc',hmo',hbw',hmk',hmm'⟩:=hrel
     obtain ⟨ma',mcap',rfl⟩:=Zad hmo'
     have hszi:=hbw'.size
     have hlen':=Zlv hacc'
     simp only [Qg] at hlen'
     cases hm:miss' with
     | nil =>
      have Hacc':=Zac hacc'
      have Hmo':=Zac hmo'
      have Hbw':=Zac hbw'
      have Hm:=Zac hm
      have hml:miss'.length=0:=by rw [hm]; rfl
      clear hacc' hmo' hbw' hm
      go_wp2
      go_roundg (l.length - k)
      case measure=>omega
      case rel =>
       refine ⟨k+1,acc',[],by go_num,by omega,by omega,rfl,?_,?_,Hbw'.out,by simp,by simp⟩
       ·have h:=Hacc'.out
        rw [Hm.out] at h
        simpa [Zbq] using h
       ·have h:=Hmo'.out
        rw [Hm.out] at h
        exact h
     | cons n r =>
      subst hm
      obtain ⟨hn1,hn2⟩:=hmm' n (by simp)
      obtain ⟨g',gcap',gcur',he',hBg',hg',hcap'⟩:=Zat hmo' (by simp)
      simp only [Value.slice.injEq] at he'
      obtain ⟨rfl,_,rfl⟩:=he'
      simp only [Qf] at hcap' hmo' hgj hmk'
      have cg:wr.cell? ⟨g',r.length,none⟩=some (.int .i64 n):=Zag hmo' r.length _ (by simp [ints])
      have fg:=Zae hg' r.length
      have hgl':=Zab hg'
      have Hset:=Zac (Zlr hmo' r.length (.int .i64 ((n:Int) - 1)))
      have Hacc':=Zac hacc'
      have Hbw':=Zac hbw'
      have Hmm':=Zac hmm'
      have Hbs:=Zac (hbw'.setCell (p:=⟨g',r.length,none⟩) hBg' (.int .i64 ((n:Int) - 1)))
      clear hacc' hbw' hmm' hmo' hg'
      by_cases h1:1<n
      ·have Hcl:Hid (acc'++[44]++Zbm (l.drop (k+1)) ((n - 1)::r)=F):=by show _=_; rw [← Hacc'.out]; simp [Zbq,h1]
       have hl1:(Zbq (n::r)).1.length=1:=by simp [Zbq,h1]
       rw [hl1] at hlen'
       have hd0:(0:Int)<(n:Int) - 1:=by omega
       go_wp2
       go_roundg (l.length - k)
       case measure=>omega
       case rel =>
        have hcast:(n:Int) - 1=((n - 1:Nat):Int):=by omega
        refine ⟨k+1,acc'++[44],(n - 1)::r,by go_num,by omega,by omega,?_,Hcl.out,?_,Hbs.out,by simp; omega,?_⟩
        ·show Value.string (_++(⟨[44].toArray⟩:ByteArray))=_
         rw [Zaw]
        ·have h:=Hset.out
         rw [hcast] at h ⊢
         simpa [ints] using h
        ·intro m hm
         simp only [Qp] at hm
         rcases hm with rfl | hm
         ·omega
         ·exact Hmm'.out m (by simp [hm])
      ·have Hcl:Hid (acc'++[41]++((Zbq r).1++Zbm (l.drop (k+1)) (Zbq r).2)=F):=by show _=_; rw [← Hacc'.out]; simp [Zbq,h1]
       have hl1:(Zbq (n::r)).1.length=(Zbq r).1.length+1:=by simp [Zbq,h1]
       rw [hl1] at hlen'
       have hd0:¬ (0:Int)<(n:Int) - 1:=by omega
       have Hpop:=Zac (Zuk (n:=r.length) Hset.out)
       go_wp2
       go_roundg (r.length+1)
       case measure=>omega
       case rel =>
        refine ⟨acc'++[41],r,by omega,?_,Hcl.out,?_,Hbs.out,by omega,fun m hm=>Hmm'.out m (by simp [hm])⟩
        ·show Value.string (_++(⟨[41].toArray⟩:ByteArray))=_
         rw [Zaw]
        ·have h:=Hpop.out
         have e:((ints (n::r).reverse).set r.length (.int .i64 ((n:Int) - 1))).take r.length=ints r.reverse:=by
          simp [ints,List.take_set]
         rw [e] at h
         exact h
  ·have hke:k=l.length:=by omega
   have Hacc:Hid (acc=F):=by
    show _=_
    rw [hke,List.drop_eq_nil_of_le (Qe _)] at hacc
    simpa [Zbm] using hacc
   have Hbw:=Zac hbw
   clear hacc hbw hmo
   go_wp2
   go_ret
   rw [← Hacc.out]
   exact ⟨rfl,Hbw.out⟩
def st0 (q:Bool):RS:=⟨q,if q then 1 else 0,q,[],[],[],[],[],[]⟩
theorem Zst (q:Bool):RI 0 (st0 q):=by
 refine ⟨by simp [st0],by simp [st0],by simp [st0],by simp [st0],by simp [st0],by simp [st0],?_,by simp [st0],?_⟩
 ·cases q <;> simp [st0]
 ·cases q <;> simp [st0]
def nilV:RV:=⟨.slice none 0 0,.slice none 0 0,.slice none 0 0,.slice none 0 0,.slice none 0 0,.slice none 0 0⟩
theorem Zzz (w:World) (q:Bool):IsRx (w.alloc (.cells (Zct (st0 q) nilV) 82)) w.heap.size w.heap.size (st0 q):=by
 refine ⟨nilV,0,0,[],[],heap_alloc_new w _,⟨World.ownsRow_nil _ _ _ _,World.ownsRow_nil _ _ _ _,World.ownsRow_nil _ _ _ _,⟨World.ownsRow_nil _ _ _ _,fun k e=>by simp [nilV,Value.ownBlock] at e⟩,⟨World.ownsRow_nil _ _ _ _,fun i l hl=>by simp [st0] at hl⟩,
  ⟨World.ownsRow_nil _ _ _ _,rfl,fun x hx=>by simp at hx,fun i c hc=>by simp [st0] at hc⟩,fun k e=>by simp [nilV,Value.ownBlock] at e,fun k e=>by simp [nilV,Value.ownBlock] at e,fun k e=>by simp [nilV,Value.ownBlock] at e,Qm _,Qm _⟩,Qe _⟩
def runs (s:ByteArray) (q:Bool):Nat × Nat × RS:=runT s.size (toks s.data.toList 0) (st0 q)
theorem Zov {S:Nat→Prop} {w w':World} {B Sa Sb:Nat} {v:Value} {cs:List CC} {xs:List (List Value)} (h:CCRow w B Sa Sb v cs xs) (hk:Kept S w w') (hs:∀ k cur T fr,S k→w.heap[k]?=some (.cells cur T fr)→T≠87∧T≠59∧T≠62∧T≠9):CCRow w' B Sa Sb v cs xs:=by
 have hX:∀ {Br:Nat} {e:TypeId} {s n:Nat} {v:Value} {ys:List Value},w.ownsRow Br e s v n ys→(e=87∨e=59∨e=62∨e=9)→w'.ownsRow Br e s v n ys:=fun ho he =>
  hk.owns ho (fun i hi hS=>by
   obtain ⟨cur,hc⟩:=Zbs ho i hi
   obtain ⟨h1,h2,h3,h4⟩:=hs i _ _ _ hS hc
   rcases he with he | he | he | he
   ·exact h1 he
   ·exact h2 he
   ·exact h3 he
   ·exact h4 he)
 have hS:∀ {v:Value} {l:List Sym},SymRow w B Sa v l→SymRow w' B Sa v l:=fun hs=>⟨hX hs.1 (Or.inl rfl),hs.2⟩
 refine ⟨hX h.1 (Or.inr (Or.inr (Or.inl rfl))),h.2.1,h.2.2.1,fun i c hc => ?_⟩
 obtain ⟨hv,bv,vv,us,e1,e2,e3,e4⟩:=h.2.2.2 i c hc
 exact ⟨hv,bv,vv,us,e1,hS e2,⟨hX e3.1 (Or.inr (Or.inl rfl)),fun i l hl=>by
  obtain ⟨x,h1,h2⟩:=e3.2 i l hl
  exact ⟨x,h1,hS h2⟩⟩,e4.1,hX e4.2.1 (Or.inr (Or.inr (Or.inr rfl))),e4.2.2⟩
theorem Zql {S:Nat→Prop} {w w':World} {B Sa:Nat} {v:Value} {ls:List (List Sym)} {us:List Value} (h:BodyRow w B Sa v ls us) (hk:Kept S w w') (hs:∀ k,S k→k<B):BodyRow w' B Sa v ls us:=by
 have hX:∀ {e:TypeId} {s n:Nat} {v:Value} {ys:List Value},w.ownsRow B e s v n ys→w'.ownsRow B e s v n ys:=fun ho =>
  hk.owns ho (fun i hi hS=>by
   have h1:=(ho.lt i hi).1
   have h2:=hs i hS
   omega)
 exact ⟨hX h.1,fun i l hl=>by
  obtain ⟨x,h1,h2⟩:=h.2 i l hl
  exact ⟨x,h1,hX h2.1,h2.2⟩⟩
theorem Zjg (s:ByteArray) (w:World) (hm:s.size≤maxLen) (hl:800<s.size) :
  Calls Tryd.prog 17 #[.string s] w fun e w'=>e = .returned (.tuple #[.slice none 0 0,.agg #[.int .i64 1,.int .i64 0]])∧Below w.heap.size w w':=by
 go_enter Tryd.func17,Tryd.ntmps17
 go_wp2
 refine bodyPost_ret (v := .tuple #[.slice none 0 0,.agg #[.int .i64 1,.int .i64 0]]) (by simp [results,Tryd.results17,go_sem]) rfl ⟨rfl,(Below.refl _ _).alloc (Qe _) _⟩
theorem Zkk (s:ByteArray) (w:World) (hl:s.size≤800) :
  Calls Tryd.prog 17 #[.string s] w fun e w'=>Below w.heap.size w w'∧(((runs s false).1≠0∧e = .returned (.tuple #[.slice none 0 0,.agg #[.int .i64 (runs s false).1,.int .i64 (runs s false).2.1]])) ∨
   ((runs s false).1=0∧∃ v B Sa Sb xs,e = .returned (.tuple #[v,.agg #[.int .i64 0,.int .i64 0]])∧CCRow w' B Sa Sb v (runs s false).2.2.clauses xs)):=by
 obtain ⟨R,hR⟩:∃ R,R=runs s false:=⟨_,rfl⟩
 have hA:=Zit ((w.alloc (.cells #[.int .i64 0,.int .i64 0] 55)).alloc (.cells (Zct (st0 false) nilV) 82)) _ _ (st0 false) s (Zzz (w.alloc (.cells #[.int .i64 0,.int .i64 0] 55)) false) (Zst false) (by omega)
 rw [show runT s.size (toks s.data.toList 0) (st0 false)=R from hR.symm] at hA
 rw [show (w.alloc (.cells #[.int .i64 0,.int .i64 0] 55)).heap.size=w.heap.size+1 from by simp] at hA
 have HA:=Zac hA
 rw [← hR]
 clear hR hA
 go_enter Tryd.func17,Tryd.ntmps17
 go_wp2_with fail
 refine HA.out.mono ?_
 rintro e w2 ⟨rfl,hr,hb⟩
 have hF:FaultAt w2 w.heap.size 0 0:=(hb.block w.heap.size (by omega)).trans (Zas (heap_alloc_new w _) _)
 have hB:Below w.heap.size w w2:=((Below.refl _ w).alloc (Qe _) _).trans ((((Below.refl _ _).alloc (by simp) _)).trans (hb.mono (by omega)))
 obtain ⟨V,Sa,Sb,vs,xs,h⟩:=hr
 have hrb:=Zab h.blk
 obtain ⟨c0,c1,c2,c3,c4,c5,c6,c7,c8⟩:=h.opens.facts
 have cf:=fun i=>Zae h.blk i
 obtain ⟨ca,ccap,hvc⟩:=Zad h.rest.cls.1
 rw [hvc] at c8
 obtain ⟨hT4,f0,f1,ff⟩:=hF.cells
 have HF:=Zac hF
 have HB:=Zac hB
 have HC:=Zac h.rest.cls
 have Hvc:=Zac hvc
 clear hF hB h hvc hb c0 c1 c2 c3 c4 c5 c6 c7
 by_cases hc:R.1=0
 ·have b0:((R.1:Int) != 0)=false:=by rw [hc]; rfl
  have Hc:=Zac hc
  clear hc
  go_wp2
  refine bodyPost_ret (v := .tuple #[.slice ca R.2.2.clauses.length ccap,.agg #[.int .i64 0,.int .i64 0]]) (by simp [results,Tryd.results17,go_sem,f0,f1,ff,hT4]) rfl ?_
  refine ⟨?_,Or.inr ⟨Hc.out,_,w.heap.size+1,Sa,Sb,xs,rfl,?_⟩⟩
  ·exact ((HB.out.setCell (p:=⟨w.heap.size,0,none⟩) (Qe _) _).setCell (p:=⟨w.heap.size,1,none⟩) (Qe _) _).alloc (by simp; omega) _
  ·rw [← Hvc.out]
   exact Zov HC.out ((((Qx (only w.heap.size) w2).put 0 _).put 1 _).alloc _) (fun k cur T fr hk hb=>by
    have hk:k=w.heap.size:=hk
    rw [hk,HF.out] at hb
    simp only [Qo,Obj.cells.injEq] at hb
    rw [← hb.2.1]
    decide)
 ·have b0:((R.1:Int) != 0)=true:=by rw [bne_iff_ne]; omega
  have Hc:=Zac hc
  clear hc
  go_wp2_with fail
  go_region
  all_goals
   go_wp2
   refine bodyPost_ret (v := .tuple #[.slice none 0 0,.agg #[.int .i64 R.1,.int .i64 R.2.1]]) (by simp [results,Tryd.results17,go_sem,f0,f1,ff,hT4]) rfl ?_
   refine ⟨?_,Or.inl ⟨Hc.out,rfl⟩⟩
   exact (((HB.out.setCell (p:=⟨w.heap.size,0,none⟩) (Qe _) _).setCell (p:=⟨w.heap.size,1,none⟩) (Qe _) _).alloc (by simp; omega) _).drew
theorem Zlw (s:ByteArray) (w:World) (hm:s.size≤maxLen) (hl:120<s.size) :
  Calls Tryd.prog 19 #[.string s] w fun e w'=>e = .returned (.tuple #[.agg #[.slice none 0 0,.slice none 0 0,.slice none 0 0],.agg #[.int .i64 1,.int .i64 0]])∧Below w.heap.size w w':=by
 go_enter Tryd.func19,Tryd.ntmps19
 go_wp2
 refine bodyPost_ret (v := .tuple #[.agg #[.slice none 0 0,.slice none 0 0,.slice none 0 0],.agg #[.int .i64 1,.int .i64 0]]) (by simp [results,Tryd.results19,go_sem]) rfl ⟨rfl,((Below.refl _ _).alloc (Qe _) _).alloc (by simp) _⟩
theorem Zkb (s:ByteArray) (w:World) (hl:s.size≤120) (hcl:(runs s true).1=0→∃ c cs,(runs s true).2.2.clauses=c::cs) :
  Calls Tryd.prog 19 #[.string s] w fun e w'=>Below w.heap.size w w'∧(((runs s true).1≠0∧e = .returned (.tuple #[.agg #[.slice none 0 0,.slice none 0 0,.slice none 0 0],.agg #[.int .i64 (runs s true).1,.int .i64 (runs s true).2.1]])) ∨
   ((runs s true).1=0∧∃ hv bv vv B Sa vs c cs,e = .returned (.tuple #[.agg #[hv,bv,vv],.agg #[.int .i64 0,.int .i64 0]])∧(runs s true).2.2.clauses=c::cs∧(∃ a n x,hv = .slice a n x)∧w'.ownsRow B 9 1 vv c.names.length (strs c.names)∧BodyRow w' B Sa bv c.body vs)):=by
 obtain ⟨R,hR⟩:∃ R,R=runs s true:=⟨_,rfl⟩
 have hA:=Zit (((w.alloc (.cells #[.slice none 0 0,.slice none 0 0,.slice none 0 0] 62)).alloc (.cells #[.int .i64 0,.int .i64 0] 55)).alloc (.cells (Zct (st0 true) nilV) 82)) _ _ (st0 true) s (Zzz ((w.alloc (.cells #[.slice none 0 0,.slice none 0 0,.slice none 0 0] 62)).alloc (.cells #[.int .i64 0,.int .i64 0] 55)) true) (Zst true) (by omega)
 rw [show runT s.size (toks s.data.toList 0) (st0 true)=R from hR.symm] at hA
 rw [show ((w.alloc (.cells #[.slice none 0 0,.slice none 0 0,.slice none 0 0] 62)).alloc (.cells #[.int .i64 0,.int .i64 0] 55)).heap.size=w.heap.size+1+1 from by simp] at hA
 have HA:=Zac hA
 rw [← hR] at hcl ⊢
 have Hcl:=Zac hcl
 clear hR hA hcl
 go_enter Tryd.func19,Tryd.ntmps19
 go_wp2_with fail
 refine HA.out.mono ?_
 rintro e w2 ⟨rfl,hr,hb⟩
 have hF:FaultAt w2 (w.heap.size+1) 0 0:=(hb.block (w.heap.size+1) (by omega)).trans (Zas (by have:=heap_alloc_new (w.alloc (.cells #[.slice none 0 0,.slice none 0 0,.slice none 0 0] 62)) (.cells #[.int .i64 0,.int .i64 0] 55); simpa using this) _)
 have hC:w2.heap[w.heap.size]?=some (.cells #[.slice none 0 0,.slice none 0 0,.slice none 0 0] 62 (0,0)):=(hb.block w.heap.size (by omega)).trans (Zas (Zas (heap_alloc_new w _) _) _)
 have hB:Below w.heap.size w w2:=((Below.refl _ w).alloc (Qe _) _).trans (((Below.refl _ _).alloc (by simp) _).trans (((Below.refl _ _).alloc (by simp; omega) _).trans (hb.mono (by omega))))
 obtain ⟨V,Sa,Sb,vs,xs,h⟩:=hr
 have hrb:=Zab h.blk
 obtain ⟨c0,c1,c2,c3,c4,c5,c6,c7,c8⟩:=h.opens.facts
 have cf:=fun i=>Zae h.blk i
 obtain ⟨ca,ccap,hvc⟩:=Zad h.rest.cls.1
 rw [hvc] at c8
 obtain ⟨hT4,f0,f1,ff⟩:=hF.cells
 have q0:w2.cell? ⟨w.heap.size,0,none⟩=some (.slice none 0 0):=Zaa hC 0 _ rfl
 have q1:w2.cell? ⟨w.heap.size,1,none⟩=some (.slice none 0 0):=Zaa hC 1 _ rfl
 have q2:w2.cell? ⟨w.heap.size,2,none⟩=some (.slice none 0 0):=Zaa hC 2 _ rfl
 have qf:=fun i=>Zae hC i
 have hT2:=Zab hC
 have HF:=Zac hF
 have HQ:=Zac hC
 have HB:=Zac hB
 have HC:=Zac h.rest.cls
 have Hvc:=Zac hvc
 clear hF hB h hb c0 c1 c2 c3 c4 c5 c6 c7 hC hvc
 have Hdone:Hid (∀ x0 x1 x2 y0 y1 o,Below w.heap.size w ((((((w2.setCell ⟨w.heap.size,0,none⟩ x0).setCell ⟨w.heap.size,1,none⟩ x1).setCell ⟨w.heap.size,2,none⟩ x2).setCell ⟨w.heap.size+1,0,none⟩ y0).setCell ⟨w.heap.size+1,1,none⟩ y1).alloc o)):=fun x0 x1 x2 y0 y1 o =>
  (((((HB.out.setCell (p:=⟨w.heap.size,0,none⟩) (Qe _) _).setCell (p:=⟨w.heap.size,1,none⟩) (Qe _) _).setCell (p:=⟨w.heap.size,2,none⟩) (Qe _) _).setCell (p:=⟨w.heap.size+1,0,none⟩) (Nat.le_succ _) _).setCell (p:=⟨w.heap.size+1,1,none⟩) (Nat.le_succ _) _).alloc (by simp; omega) _
 by_cases hc:R.1=0
 ·have b0:((R.1:Int) != 0)=false:=by rw [hc]; rfl
  obtain ⟨c,cs,hcs⟩:=Hcl.out hc
  obtain ⟨hv,bv,vv,us,e1,e2,e3,e4,e5,e6⟩:=HC.out.2.2.2 0 c (by rw [hcs]; rfl)
  obtain ⟨va,vcap,rfl⟩:=Zad e5
  obtain ⟨ha,hcap,rfl⟩:=Zad e2.1
  obtain ⟨ba,bcap,rfl⟩:=Zad e3.1
  have hcl:0<R.2.2.clauses.length:=by rw [hcs]; simp
  have hcr:=HC.out.1
  rw [Hvc.out] at hcr
  obtain ⟨g,gcap,gcur,he,hBg,hg,hcp⟩:=Zat hcr (by omega)
  simp only [Value.slice.injEq] at he
  obtain ⟨rfl,_,rfl⟩:=he
  obtain ⟨xr,hxs⟩:∃ xr,xs=[.slice ha c.head.length hcap,.slice ba c.body.length bcap,.slice va c.names.length vcap]::xr:=by
   cases xs with
   | nil=>simp at e1
   | cons x xr=>simp at e1; exact ⟨xr,by rw [e1]⟩
  have k0:w2.cell? ⟨g,0,none⟩=some (.slice ha c.head.length hcap):=Zag hcr 0 _ (by rw [hxs]; rfl)
  have k1:w2.cell? ⟨g,1,none⟩=some (.slice ba c.body.length bcap):=Zag hcr 1 _ (by rw [hxs]; rfl)
  have k2:w2.cell? ⟨g,2,none⟩=some (.slice va c.names.length vcap):=Zag hcr 2 _ (by rw [hxs]; rfl)
  have hgl:=Zab hg
  have bl0:(((R.2.2.clauses.length:Nat):Int) == 0)=false:=by rw [Qu]; omega
  have Hc:=Zac hc
  have Hcs:=Zac hcs
  have He3:=Zac e3
  have He5:=Zac e5
  clear hc hcs e1 e2 e3 e4 e5 e6 hcr hg hxs
  go_wp2
  refine bodyPost_ret (v := .tuple #[.agg #[.slice ha c.head.length hcap,.slice ba c.body.length bcap,.slice va c.names.length vcap],.agg #[.int .i64 0,.int .i64 0]]) (by simp [results,Tryd.results19,go_sem,f0,f1,ff,hT4,q0,q1,q2,qf,hT2]) rfl ?_
  refine ⟨Hdone.out _ _ _ _ _ _,Or.inr ⟨Hc.out,_,_,_,w.heap.size+1+1,Sa,us,c,cs,rfl,Hcs.out,⟨_,_,_,rfl⟩,?_,?_⟩⟩
  rotate_left
  refine Zql He3.out (S:=fun k=>k=w.heap.size∨k=w.heap.size+1) ?_ (fun k hk=>by omega)
  rotate_left
  refine Kept.owns (S:=fun k=>k=w.heap.size∨k=w.heap.size+1) ?_ He5.out (fun k hk e=>by have:=(He5.out.lt k hk).1; omega)
  all_goals exact ((((((Qx _ w2).setCell (p:=⟨w.heap.size,0,none⟩) (fun _=>Or.inl rfl) _).setCell (p:=⟨w.heap.size,1,none⟩) (fun _=>Or.inl rfl) _).setCell (p:=⟨w.heap.size,2,none⟩) (fun _=>Or.inl rfl) _).setCell (p:=⟨w.heap.size+1,0,none⟩) (fun _=>Or.inr rfl) _).setCell (p:=⟨w.heap.size+1,1,none⟩) (fun _=>Or.inr rfl) _).alloc _
 ·have b0:((R.1:Int) != 0)=true:=by rw [bne_iff_ne]; omega
  have Hc:=Zac hc
  clear hc
  go_wp2_with fail
  go_region
  all_goals
   go_wp2
   refine bodyPost_ret (v := .tuple #[.agg #[.slice none 0 0,.slice none 0 0,.slice none 0 0],.agg #[.int .i64 R.1,.int .i64 R.2.1]]) (by simp [results,Tryd.results19,go_sem,f0,f1,ff,hT4,q0,q1,q2,qf,hT2]) rfl ?_
   refine ⟨?_,Or.inl ⟨Hc.out,rfl⟩⟩
   exact (Hdone.out _ _ _ _ _ _).drew
def Zkv (l:List Sym):Prop:=l.length≤4000∧∀ s ∈ l,s.num<2600∧s.args≤4096
def Zeh:List UInt8→List (List Sym)→List UInt8
 | _,[]=>[]
 | sep,l::ls=>sep++(Zbm l []++Zeh [44,32] ls)
def Zig (c:CC):List UInt8:=if c.body=[] then Zbm c.head []++[46] else Zbm c.head []++([32,58,45,32]++(Zeh [] c.body++[46]))
def Zgk:List CC→List UInt8
 | []=>[]
 | c::cs=>Zig c++10::Zgk cs
theorem SymRow.fresh {w w':World} {B Sa:Nat} {v:Value} {l:List Sym} (h:SymRow w B Sa v l) (hk:Kept Zch w w'):SymRow w' B Sa v l:=⟨hk.owns h.1 (fun _ _ h=>h),h.2⟩
theorem BodyRow.fresh {w w':World} {B Sa:Nat} {v:Value} {ls:List (List Sym)} {us:List Value} (h:BodyRow w B Sa v ls us) (hk:Kept Zch w w'):BodyRow w' B Sa v ls us:=Zql h hk (fun _ h=>h.elim)
theorem CCRow.fresh {w w':World} {B Sa Sb:Nat} {v:Value} {cs:List CC} {xs:List (List Value)} (h:CCRow w B Sa Sb v cs xs) (hk:Kept Zch w w'):CCRow w' B Sa Sb v cs xs:=Zov h hk (fun _ _ _ _ h=>h.elim)
theorem Ydd (xs:List (List Value)) (h3:∀ x ∈ xs,x.length=3) (k:Nat) (x:List Value) (hx:xs[k]?=some x) (j:Nat) (hj:j<3):xs.flatten[k * 3+j]?=x[j]?:=by
 induction xs generalizing k with
 | nil=>simp at hx
 | cons a xs ih =>
  have ha:=h3 a (by simp)
  cases k with
  | zero =>
   simp at hx; subst hx
   rw [List.flatten_cons,Qc (by omega)]
   simp
  | succ k =>
   rw [List.flatten_cons,Qd (by omega),← ih (fun y hy=>h3 y (by simp [hy])) k (by simpa using hx)]
   congr 1
   omega
theorem Zkl (w:World) (B Sa:Nat) (v:Value) (ls:List (List Sym)) (us:List Value) (ho:BodyRow w B Sa v ls us) (hl:ls.length≤4000) (hn:∀ l ∈ ls,Zkv l) (hL:(Zeh [] ls).length≤100000000) :
  Calls Tryd.prog 33 #[v] w fun e w'=>e = .returned (.string ⟨(Zeh [] ls).toArray⟩)∧Below w.heap.size w w':=by
 obtain ⟨F,hF⟩:∃ F,F=Zeh [] ls:=⟨_,rfl⟩
 rw [← hF] at hL ⊢
 obtain ⟨va,vcap,rfl⟩:=Zad ho.1
 have Ho:=Zac ho
 have HF:=Zac hF
 have Hn:=Zac hn
 clear ho hF hn
 go_enter Tryd.func33,Tryd.ntmps33
 go_wp2
 go_loopg [3,8] (ls.length+1) (fun gk tx i wr=>∃ (k:Nat) (acc:List UInt8),i = .int .i64 k∧k≤ls.length∧ls.length - k<gk∧tx = .string ⟨acc.toArray⟩∧acc++Zeh (if k=0 then [] else [44,32]) (ls.drop k)=F∧Below w.heap.size w wr)
 case atStart=>exact ⟨0,[],rfl,Qm _,by omega,rfl,by rw [HF.out]; rfl,Below.refl _ _⟩
 case round =>
  obtain ⟨k,acc,rfl,hk,hgk,rfl,hacc,hbw⟩:=hrel
  have hsz:=hbw.size
  by_cases hlt:k<ls.length
  ·obtain ⟨l,hs⟩:∃ l,ls[k]?=some l:=⟨_,Qb hlt⟩
   have hd:ls.drop k=l::ls.drop (k+1):=by
    rw [List.drop_eq_getElem_cons hlt]
    rw [Qb hlt] at hs
    simp at hs
    rw [hs]
   rw [hd,Zeh] at hacc
   have hok:=Hn.out l (Qh hs)
   have hbr:=Ho.out.fresh (Kept.untouched hbw)
   obtain ⟨x,hx,hrow⟩:=hbr.2 k l hs
   obtain ⟨xa,xcap,rfl⟩:=Zad hrow.1
   obtain ⟨g,cap',cur,he,hBg,hg,hcp⟩:=Zat hbr.1 (by omega)
   simp only [Value.slice.injEq] at he
   obtain ⟨rfl,_,rfl⟩:=he
   have e0:wr.cell? ⟨g,k,none⟩=some (.slice xa l.length xcap):=Zag hbr.1 _ _ hx
   have hlen:=Zlv hacc
   simp only [Qg] at hlen
   have HA:=Zac (Zhm wr B _ l hrow.1 hok.1 hok.2 (by omega))
   have Hacc:=Zac hacc
   have Hbw:=Zac hbw
   clear hacc hbw hd hs hg hbr hrow hx hok
   by_cases h0:k=0
   ·subst h0
    have Hacc2:Hid (acc++Zbm l []++Zeh [44,32] (ls.drop (0+1))=F):=by show _=_; rw [← Hacc.out]; simp
    simp only [if_pos] at hlen
    go_wp2_with fail
    refine HA.out.mono ?_
    rintro e w1 ⟨rfl,hb1⟩
    have Hb1:=Zac hb1
    clear hb1
    go_wp2
    go_roundg (ls.length - 0)
    case measure=>omega
    case rel =>
     exact ⟨0+1,acc++Zbm l [],by go_num,by omega,by omega,congrArg Value.string (Zaw _ _),Hacc2.out,Hbw.out.trans (Hb1.out.mono hsz)⟩
   ·have Hacc2:Hid (acc++[44,32]++Zbm l []++Zeh [44,32] (ls.drop (k+1))=F):=by show _=_; rw [← Hacc.out,if_neg h0]; simp
    rw [if_neg h0] at hlen
    simp only [Qf,Qt] at hlen
    have hpos:(0:Int)<(k:Int):=by omega
    go_wp2_with fail
    refine HA.out.mono ?_
    rintro e w1 ⟨rfl,hb1⟩
    have Hb1:=Zac hb1
    clear hb1
    go_wp2
    go_roundg (ls.length - k)
    case measure=>omega
    case rel =>
     refine ⟨k+1,acc++[44,32]++Zbm l [],by go_num,by omega,by omega,?_,by rw [if_neg (by omega)]; exact Hacc2.out,Hbw.out.trans (Hb1.out.mono hsz)⟩
     show Value.string (_++(⟨[44,32].toArray⟩:ByteArray)++_)=_
     rw [Zaw,Zaw]
  ·have hke:k=ls.length:=by omega
   have Hacc:Hid (acc=F):=by
    show _=_
    rw [hke,List.drop_eq_nil_of_le (Qe _)] at hacc
    simpa [Zeh] using hacc
   have Hbw:=Zac hbw
   clear hacc hbw
   go_wp2
   go_ret
   rw [← Hacc.out]
   exact ⟨rfl,Hbw.out⟩
theorem Zow (w:World) (B Sa:Nat) (hv bv vv:Value) (ls:List (List Sym)) (us:List Value) (hh:∃ a n x,hv = .slice a n x) (hvv:∃ a n x,vv = .slice a n x) (ho:BodyRow w B Sa bv ls us) (hl:ls.length≤4000) (hn:∀ l ∈ ls,Zkv l) (hL:(Zeh [] ls).length≤100000000) :
  Calls Tryd.prog 20 #[.agg #[hv,bv,vv]] w fun e w'=>e = .returned (.string ⟨(Zeh [] ls++[46]).toArray⟩)∧Below w.heap.size w w':=by
 obtain ⟨ha,hn',hx,rfl⟩:=hh
 obtain ⟨va,vn,vx,rfl⟩:=hvv
 obtain ⟨ba,bcap,rfl⟩:=Zad ho.1
 have HA:=Zac (fun o=>Zkl (w.alloc o) B Sa _ ls us (ho.fresh ((Qx _ w).alloc o)) hl hn hL)
 clear ho
 go_enter Tryd.func20,Tryd.ntmps20
 go_wp2_with fail
 refine (HA.out _).mono ?_
 rintro e w1 ⟨rfl,hb1⟩
 have Hb1:=Zac hb1
 clear hb1
 go_wp2
 go_ret
 refine ⟨Zin ?_,((Below.refl _ w).alloc (Qe _) _).trans (Hb1.out.mono (by simp))⟩
 exact Zaw _ [46]
theorem Zqm (w:World) (B Sa:Nat) (hv bv vv:Value) (c:CC) (us:List Value) (hvv:∃ a n x,vv = .slice a n x) (hh:SymRow w B Sa hv c.head) (ho:BodyRow w B Sa bv c.body us) (hl:c.body.length≤4000) (hn:Zkv c.head∧∀ l ∈ c.body,Zkv l) (hL:(Zig c).length≤100000000) :
  Calls Tryd.prog 32 #[.agg #[hv,bv,vv]] w fun e w'=>e = .returned (.string ⟨(Zig c).toArray⟩)∧Below w.heap.size w w':=by
 obtain ⟨va,vn,vx,rfl⟩:=hvv
 obtain ⟨ha,hcap,rfl⟩:=Zad hh.1
 obtain ⟨ba,bcap,rfl⟩:=Zad ho.1
 have hlA:(Zbm c.head []).length≤100000000:=by
  unfold Zig at hL
  split at hL <;> simp only [Qg] at hL <;> omega
 have HA:=Zac (fun o=>Zhm (w.alloc o) B _ c.head (hh.fresh ((Qx _ w).alloc o)).1 hn.1.1 hn.1.2 hlA)
 have HBr:=Zac ho
 have Hn:=Zac hn
 clear hh ho hn
 by_cases hb:c.body=[]
 ·have Hr:Hid (Zig c=Zbm c.head []++[46]):=by show _=_; rw [Zig,if_pos hb]
  have hb0:(((c.body.length:Nat):Int) == 0)=true:=by rw [hb]; rfl
  clear hb
  go_enter Tryd.func32,Tryd.ntmps32
  go_wp2_with fail
  refine (HA.out _).mono ?_
  rintro e w1 ⟨rfl,hb1⟩
  have hbox:w1.heap[w.heap.size]?=some (.cells #[.slice ha c.head.length hcap,.slice ba c.body.length bcap,.slice va vn vx] 62 (0,0)):=(hb1.block _ (by simp)).trans (heap_alloc_new w _)
  have b1:w1.cell? ⟨w.heap.size,1,none⟩=some (.slice ba c.body.length bcap):=Zaa hbox 1 _ rfl
  have Hb1:=Zac hb1
  clear hb1 hbox
  go_wp2
  go_ret
  rw [Hr.out]
  exact ⟨Zin (Zaw _ [46]),((Below.refl _ w).alloc (Qe _) _).trans (Hb1.out.mono (by simp))⟩
 ·have hr:Zig c=Zbm c.head []++([32,58,45,32]++(Zeh [] c.body++[46])):=by rw [Zig,if_neg hb]
  have hb0:(((c.body.length:Nat):Int) == 0)=false:=by
   rw [Qu]
   cases hc:c.body with
   | nil=>exact absurd hc hb
   | cons _ _=>simp; omega
  rw [hr] at hL
  simp only [Qg,Qf,Qt] at hL
  have Hr:=Zac hr
  clear hb hr
  go_enter Tryd.func32,Tryd.ntmps32
  go_wp2_with fail
  refine (HA.out _).mono ?_
  rintro e w1 ⟨rfl,hb1⟩
  have hbox:w1.heap[w.heap.size]?=some (.cells #[.slice ha c.head.length hcap,.slice ba c.body.length bcap,.slice va vn vx] 62 (0,0)):=(hb1.block _ (by simp)).trans (heap_alloc_new w _)
  have b1:w1.cell? ⟨w.heap.size,1,none⟩=some (.slice ba c.body.length bcap):=Zaa hbox 1 _ rfl
  have hk1:Kept Zch w w1:=((Qx _ w).alloc _).trans (Kept.untouched hb1)
  have HT:=Zac (Zkl w1 B Sa _ c.body us (HBr.out.fresh hk1) hl Hn.out.2 (by omega))
  have hs1:=hk1.size
  have Hb1:=Zac (hk1.below (Qe _) (fun _ h=>h.elim))
  clear hb1 hbox hk1
  go_wp2_with fail
  refine HT.out.mono ?_
  rintro e w2 ⟨rfl,hb2⟩
  have Hb2:=Zac hb2
  clear hb2
  go_wp2
  go_ret
  rw [Hr.out]
  refine ⟨Zin ?_,Hb1.out.trans (Hb2.out.mono hs1)⟩
  show _++(⟨[32,58,45,32].toArray⟩:ByteArray)++_++(⟨[46].toArray⟩:ByteArray)=_
  rw [Zaw,Zaw,Zaw]
  simp
theorem Zlx (w:World) (B Sa Sb:Nat) (v:Value) (cs:List CC) (xs:List (List Value)) (ho:CCRow w B Sa Sb v cs xs) (hl:cs.length≤4000) (hn:∀ c ∈ cs,c.body.length≤4000∧Zkv c.head∧∀ l ∈ c.body,Zkv l) (hL:(Zgk cs).length≤100000000) :
  Calls Tryd.prog 18 #[v] w fun e w'=>e = .returned (.string ⟨(Zgk cs).toArray⟩)∧Below w.heap.size w w':=by
 obtain ⟨F,hF⟩:∃ F,F=Zgk cs:=⟨_,rfl⟩
 rw [← hF] at hL ⊢
 obtain ⟨va,vcap,rfl⟩:=Zad ho.1
 have Ho:=Zac ho
 have HF:=Zac hF
 have Hn:=Zac hn
 clear ho hF hn
 go_enter Tryd.func18,Tryd.ntmps18
 go_wp2
 go_loopg [3,8] (cs.length+1) (fun gk tx i wr=>∃ (k:Nat) (acc:List UInt8),i = .int .i64 k∧k≤cs.length∧cs.length - k<gk∧tx = .string ⟨acc.toArray⟩∧acc++Zgk (cs.drop k)=F∧Below w.heap.size w wr)
 case atStart=>exact ⟨0,[],rfl,Qm _,by omega,rfl,by rw [HF.out]; rfl,Below.refl _ _⟩
 case round =>
  obtain ⟨k,acc,rfl,hk,hgk,rfl,hacc,hbw⟩:=hrel
  have hsz:=hbw.size
  by_cases hlt:k<cs.length
  ·obtain ⟨c,hs⟩:∃ c,cs[k]?=some c:=⟨_,Qb hlt⟩
   have hd:cs.drop k=c::cs.drop (k+1):=by
    rw [List.drop_eq_getElem_cons hlt]
    rw [Qb hlt] at hs
    simp at hs
    rw [hs]
   rw [hd,Zgk] at hacc
   obtain ⟨hok1,hok2⟩:=Hn.out c (Qh hs)
   have hbr:=Ho.out.fresh (Kept.untouched hbw)
   obtain ⟨hv,bv,vv,us,e1,e2,e3,e4,hvv,_⟩:=hbr.2.2.2 k c hs
   obtain ⟨ha,hcap,rfl⟩:=Zad e2.1
   obtain ⟨ba,bcap,rfl⟩:=Zad e3.1
   obtain ⟨vva,vx,rfl⟩:=Zad hvv
   obtain ⟨g,cap',cur,he,hBg,hg,hcp⟩:=Zat hbr.1 (by omega)
   simp only [Value.slice.injEq] at he
   obtain ⟨rfl,_,rfl⟩:=he
   have hfl:=fun j hj=>Ydd xs hbr.2.2.1 k _ e1 j hj
   have k0:wr.cell? ⟨g,k * 3,none⟩=some (.slice ha c.head.length hcap):=Zag hbr.1 _ _ (by have:=hfl 0 (by omega); rw [Nat.add_zero] at this; rw [this]; rfl)
   have k1:wr.cell? ⟨g,k * 3+1,none⟩=some (.slice ba c.body.length bcap):=Zag hbr.1 _ _ (by rw [hfl 1 (by omega)]; rfl)
   have k2:wr.cell? ⟨g,k * 3+2,none⟩=some (.slice vva c.names.length vx):=Zag hbr.1 _ _ (by rw [hfl 2 (by omega)]; rfl)
   have hgl:=Zab hg
   have hlen:=Zlv hacc
   simp only [Qg,Qf] at hlen
   have HA:=Zac (fun o=>Zqm (wr.alloc o) B Sa _ _ _ c us ⟨vva,c.names.length,vx,rfl⟩ (e2.fresh ((Qx _ wr).alloc o)) (e3.fresh ((Qx _ wr).alloc o)) hok1 hok2 (by omega))
   have Hacc2:Hid (acc++(Zig c++[10])++Zgk (cs.drop (k+1))=F):=by show _=_; rw [← hacc]; simp
   have Hbw:=Zac hbw
   clear hacc hbw hd hs hg hbr e1 e2 e3 e4 hfl hok1 hok2 hvv
   go_wp2_with fail
   refine (HA.out _).mono ?_
   rintro e w1 ⟨rfl,hb1⟩
   have Hb1:=Zac hb1
   clear hb1
   go_wp2
   go_roundg (cs.length - k)
   case measure=>omega
   case rel =>
    refine ⟨k+1,acc++(Zig c++[10]),by go_num,by omega,by omega,?_,Hacc2.out,Hbw.out.trans (((Below.refl _ wr).alloc hsz _).trans (Hb1.out.mono (by simp; omega)))⟩
    show Value.string (_++(_++(⟨[10].toArray⟩:ByteArray)))=_
    rw [Zaw,Zaw]
  ·have hke:k=cs.length:=by omega
   have Hacc:Hid (acc=F):=by
    show _=_
    rw [hke,List.drop_eq_nil_of_le (Qe _)] at hacc
    simpa [Zgk] using hacc
   have Hbw:=Zac hbw
   clear hacc hbw
   go_wp2
   go_ret
   rw [← Hacc.out]
   exact ⟨rfl,Hbw.out⟩
end Go.Proofs.YtlmjilpjmgjjcaaDoor
namespace Go.Proofs.YtlmjilpjmgjjcaaDoor
def Zew (l:List Sym) (n:Nat):Nat:=(l[n]?.map (fun s=>s.args)).getD 0
structure Sim (st:RS) (L:LookS):Prop where
 want:L.want=st.next
 query:L.query=st.query
 err:L.err=0
 n5:st.next≤5
 stk:L.stk=st.opn.map (Zew st.atom)
 opn:∀ n ∈ st.opn,n<st.atom.length
 down:st.opn.Pairwise (fun a b=>b<a)
 flat:st.next=0∨st.next=1∨st.next=5→st.atom=[]∧st.opn=[]
 size:st.next=2∨st.next=3∨st.next=4→L.size=st.atom.length
 open2:st.next=2→st.opn≠[]
 name:st.next=3→0<st.atom.length∧Zew st.atom (st.atom.length - 1)=0∧∀ n ∈ st.opn,n<st.atom.length - 1
 inb:st.next≠0→st.next≠5→L.body=st.inBody
 inb1:st.next=1→st.inBody=true
 goals:st.inBody=true→st.next≠0→st.next≠5→L.goals=st.body.length+(if st.next=1 then 0 else 1)
 heads:st.query=false→L.heads=st.clauses.length+(if st.next=0 then 0 else 1)
 hd:st.inBody=false→st.body=[]
 q0:st.query=true→st.next≠0
 h0:st.next=0→st.inBody=false
theorem Zwr (l:List Sym) (n:Nat) (s:Sym) (h:n<l.length):Zew (l.modify n (fun s => { s with args:=s.args+1 })++[s]) n=Zew l n+1:=by
 unfold Zew
 rw [Qc (by simpa using h),List.getElem?_modify,Qb h]
 simp
theorem Zsu (l:List Sym) (n m:Nat) (s:Sym) (h:m<l.length) (hm:m≠n):Zew (l.modify n (fun s => { s with args:=s.args+1 })++[s]) m=Zew l m:=by
 unfold Zew
 rw [Qc (by simpa using h),List.getElem?_modify]
 have:¬ n=m:=fun e=>hm e.symm
 cases l[m]? <;> simp [this]
theorem Zws (l:List Sym) (s:Sym):Zew (l++[s]) l.length=s.args:=by
 unfold Zew; simp
theorem Yde:kmap 1=1:=rfl
theorem Yhl:kmap 2=2:=rfl
theorem Zur:kmap 40=3:=rfl
theorem Yfg:kmap 41=4:=rfl
theorem Zus:kmap 44=5:=rfl
theorem Zut:kmap 46=6:=rfl
theorem Yhm:kmap 3=7:=rfl
theorem Zhn {k:Nat} (hk:Zhg k):(kmap k=1↔k=1)∧(kmap k=2↔k=2):=by
 rcases hk with rfl | rfl | rfl | rfl | rfl | rfl | rfl | rfl <;> simp [kmap]
theorem Yaa {st:RS} {L:LookS} (h:Sim st L) (k len:Nat) (t:List UInt8) (hk:Zhg k) (hn:st.next=0∨st.next=1) :
  Zbp st (kmap k) len=(Zbw L k len).err∧((Zbw L k len).err=0→Sim (Zbj st (kmap k) t) (Zbw L k len)):=by
 obtain ⟨ha,ho⟩:=h.flat (by omega)
 have hs:=h.stk
 rw [ho] at hs
 simp only [List.map_nil] at hs
 have hw:=h.want
 have he:=h.err
 have hlst:Zbw L k len=Zbi L k len:=by rw [Zbw,if_pos (by omega)]
 rw [hlst]
 by_cases hk1:k=1
 ·subst hk1
  have hst:Zbh st 1=true:=by unfold Zbh; rw [if_pos (by omega)]; rfl
  have hbk:Zcg st=[]:=by simp [Zcg,ho,ha]
  rcases hn with hn | hn
  ·have hq:st.query=false:=by
    cases hq:st.query
    ·rfl
    ·exact absurd hn (h.q0 hq)
   have hh:=h.heads hq
   rw [if_pos hn] at hh
   have hfull:Zer st=decide (24≤st.clauses.length):=by simp [Zer,hn]
   have hl:Zbi L 1 len = { L with heads:=L.heads+1,body:=false,size:=1,err:=if 8<len∨30<0+1 then 3 else if 24<L.heads+1 then 3 else L.err,want:=3 }:=by
    simp [Zbi,Zki,Zcr,hw,hn]
   rw [hl,Yde]
   constructor
   ·simp only [Zbp,hst,hfull,he]
    rw [hh]
    by_cases h8:8<len
    ·simp [h8]
    ·by_cases hc:24≤st.clauses.length
     ·rw [if_neg (by simp),if_pos (by simp [hc]),if_neg (by omega),if_pos (by omega)]
     ·rw [if_neg (by simp),if_neg (by simp [h8,hc] <;> omega),if_neg (by omega),if_neg (by omega)]
   ·intro he2
    have hst2:Zbj st 1 t = { st with atom:=[⟨t,0,0⟩],next:=3 }:=by simp [Zbj,addS,hbk]
    rw [hst2]
    exact {
     want:=rfl
     query:=h.query
     err:=he2
     n5:=by simp
     stk:=by simp [ho,hs]
     opn:=by simp [ho]
     down:=by simp [ho]
     flat:=by simp
     size:=by simp
     open2:=by simp
     name:=by simp [ho,Zew]
     inb:=by simp [h.h0 hn]
     inb1:=by simp
     goals:=by simp [h.h0 hn]
     heads:=by simp [hh]
     hd:=h.hd
     q0:=by simp
     h0:=by simp }
  ·have hib:=h.inb1 hn
   have hg:=h.goals hib (by omega) (by omega)
   rw [if_pos hn] at hg
   have hfull:Zer st=decide (6≤st.body.length):=by simp [Zer,hn]
   have hl:Zbi L 1 len = { L with goals:=L.goals+1,size:=1,err:=if 8<len∨30<0+1 then 3 else if 6<L.goals+1 then 3 else L.err,want:=3 }:=by
    simp [Zbi,Zki,Zcr,hw,hn]
   rw [hl,Yde]
   constructor
   ·simp only [Zbp,hst,hfull,he]
    rw [hg]
    by_cases h8:8<len
    ·simp [h8]
    ·by_cases hc:6≤st.body.length
     ·rw [if_neg (by simp),if_pos (by simp [hc]),if_neg (by omega),if_pos (by omega)]
     ·rw [if_neg (by simp),if_neg (by simp [h8,hc] <;> omega),if_neg (by omega),if_neg (by omega)]
   ·intro he2
    have hst2:Zbj st 1 t = { st with atom:=[⟨t,0,0⟩],next:=3 }:=by simp [Zbj,addS,hbk]
    have hh:=h.heads
    rw [if_neg (by omega)] at hh
    rw [hst2]
    exact {
     want:=rfl
     query:=h.query
     err:=he2
     n5:=by simp
     stk:=by simp [ho,hs]
     opn:=by simp [ho]
     down:=by simp [ho]
     flat:=by simp
     size:=by simp
     open2:=by simp
     name:=by simp [ho,Zew]
     inb:=fun _ _=>h.inb (by omega) (by omega)
     inb1:=by simp
     goals:=by simp [hg]
     heads:=by simpa using hh
     hd:=h.hd
     q0:=by simp
     h0:=by simp }
 ·have hkm:¬ kmap k=1:=fun e=>hk1 ((Zhn hk).1.1 e)
  have hst:Zbh st (kmap k)=false:=by unfold Zbh; rw [if_pos (by omega)]; simpa using hkm
  have hl:Zbi L k len = { L with err:=2 }:=by
   unfold Zbi
   rw [if_pos ⟨hk1,Or.inr (by omega)⟩]
  rw [hl]
  exact ⟨by simp [Zbp,hst],by simp⟩
theorem Yfs {st:RS} {L:LookS} (h:Sim st L) (k len:Nat) (t:List UInt8) (hk:Zhg k) (hn:st.next=2) :
  Zbp st (kmap k) len=(Zbw L k len).err∧((Zbw L k len).err=0→Sim (Zbj st (kmap k) t) (Zbw L k len)):=by
 have hw:=h.want
 have he:=h.err
 have hlst:Zbw L k len=Zbi L k len:=by rw [Zbw,if_pos (by omega)]
 rw [hlst]
 obtain ⟨n,r,ho⟩:∃ n r,st.opn=n::r:=by
  cases hc:st.opn with
  | nil=>exact absurd hc (h.open2 hn)
  | cons n r=>exact ⟨n,r,rfl⟩
 have hs:=h.stk
 rw [ho,List.map_cons] at hs
 have hnl:=h.opn n (by rw [ho]; simp)
 have hsz:=h.size (by omega)
 have hd:=h.down
 rw [ho,List.pairwise_cons] at hd
 by_cases hk12:k=1∨k=2
 ·have hst:Zbh st (kmap k)=true:=by
   unfold Zbh
   rw [if_neg (by omega),if_pos hn]
   rcases hk12 with rfl | rfl <;> rfl
  have hargs:Zka st=Zew st.atom n:=by
   unfold Zka Zew
   rw [ho]
   simp only
   cases st.atom[n]? <;> rfl
  have hfull:Zer st=(decide (30≤st.atom.length) || decide (4≤Zew st.atom n)):=by simp [Zer,hn,hargs]
  have hl:Zbi L k len = { L with stk:=(Zew st.atom n+1)::r.map (Zew st.atom),size:=L.size+1,err:=if 8<len∨30<L.size+1 then 3 else if 4<Zew st.atom n+1 then 3 else L.err,want:=if k=1 then 3 else 4 }:=by
   unfold Zbi
   rw [if_neg (by omega)]
   simp [Zki,Zcr,hw,hn,hs]
  rw [hl]
  have hkm:kmap k=1∨kmap k=2:=by rcases hk12 with rfl | rfl <;> simp [kmap]
  have hbump:Zcg st=st.atom.modify n (fun s => { s with args:=s.args+1 }):=by simp [Zcg,ho]
  constructor
  ·simp only [Zbp,hst,hfull,he]
   rw [hsz]
   by_cases h8:8<len
   ·simp [h8,hkm]
   ·by_cases hc:30≤st.atom.length
    ·rw [if_neg (by simp),if_pos ⟨hkm,Or.inr (by simp [hc])⟩,if_pos (by omega)]
    ·by_cases hd4:4≤Zew st.atom n
     ·rw [if_neg (by simp),if_pos ⟨hkm,Or.inr (by simp [hd4])⟩,if_neg (by omega),if_pos (by omega)]
     ·rw [if_neg (by simp),if_neg (by simp [h8,hc,hd4] <;> omega),if_neg (by omega),if_neg (by omega)]
  ·intro he2
   have hmap:∀ (s:Sym),st.opn.map (Zew (Zcg st++[s]))=(Zew st.atom n+1)::r.map (Zew st.atom):=by
    intro s
    rw [ho,List.map_cons,hbump,Zwr _ _ _ hnl]
    congr 1
    apply List.map_congr_left
    intro m hm
    exact Zsu _ _ _ _ (h.opn m (by rw [ho]; simp [hm])) (by have:=hd.1 m hm; omega)
   have hbl:=Zkz st
   have hopn':∀ m ∈ st.opn,m<st.atom.length+1:=fun m hm=>Nat.lt_succ_of_lt (h.opn m hm)
   have hh:=h.heads
   rw [if_neg (by omega)] at hh
   have hg:=h.goals
   rcases hk12 with rfl | rfl
   ·have hst2:Zbj st (kmap 1) t = { st with atom:=Zcg st++[⟨t,0,0⟩],next:=3 }:=by simp [Yde,Zbj,addS]
    rw [hst2]
    exact {
     want:=rfl
     query:=h.query
     err:=he2
     n5:=by simp
     stk:=(hmap _).symm
     opn:=by simpa [hbl] using hopn'
     down:=h.down
     flat:=by simp
     size:=by simp [hsz,hbl]
     open2:=by simp
     name:=by
      intro _
      refine ⟨by simp,?_,?_⟩
      ·have:=Zws (Zcg st) ⟨t,0,0⟩
       simpa using this
      ·simpa [hbl] using h.opn
     inb:=fun _ _=>h.inb (by omega) (by omega)
     inb1:=by simp
     goals:=fun hi _ _=>by have:=hg hi (by omega) (by omega); rw [if_neg (by omega)] at this; simpa using this
     heads:=by simpa using hh
     hd:=h.hd
     q0:=by simp
     h0:=by simp }
   ·have hst2:Zbj st (kmap 2) t = { st with atom:=Zcg st++[⟨[],(Zba st.vars t).2,0⟩],vars:=(Zba st.vars t).1,next:=4 }:=by simp [Yhl,Zbj,addS,varS,Zcg,ho]
    rw [hst2]
    exact {
     want:=rfl
     query:=h.query
     err:=he2
     n5:=by simp
     stk:=(hmap _).symm
     opn:=by simpa [hbl] using hopn'
     down:=h.down
     flat:=by simp
     size:=by simp [hsz,hbl]
     open2:=by simp
     name:=by simp
     inb:=fun _ _=>h.inb (by omega) (by omega)
     inb1:=by simp
     goals:=fun hi _ _=>by have:=hg hi (by omega) (by omega); rw [if_neg (by omega)] at this; simpa using this
     heads:=by simpa using hh
     hd:=h.hd
     q0:=by simp
     h0:=by simp }
 ·have hkm:¬ kmap k=1∧¬ kmap k=2:=⟨fun e=>hk12 (Or.inl ((Zhn hk).1.1 e)),fun e=>hk12 (Or.inr ((Zhn hk).2.1 e))⟩
  have hst:Zbh st (kmap k)=false:=by unfold Zbh; rw [if_neg (by omega),if_pos hn]; simpa using hkm
  have hl:Zbi L k len = { L with err:=2 }:=by
   unfold Zbi
   rw [if_pos (by omega)]
  rw [hl]
  exact ⟨by simp [Zbp,hst],by simp⟩
theorem Zwt {st:RS} {L:LookS} (h:Sim st L) (k len:Nat) (t:List UInt8) (hk:Zhg k) (hn:st.next=3∨st.next=4) :
  Zbp st (kmap k) len=(Zbw L k len).err∧((Zbw L k len).err=0→Sim (Zbj st (kmap k) t) (Zbw L k len)):=by
 have hw:=h.want
 have he:=h.err
 have hlst:Zbw L k len=Zaj L k:=by rw [Zbw,if_neg (by omega),if_neg (by omega)]
 rw [hlst]
 have hsz:=h.size (by omega)
 have hib:=h.inb (by omega) (by omega)
 have hs:=h.stk
 have hh:=h.heads
 rw [if_neg (by omega)] at hh
 have hq:=h.query
 have hse:L.stk=[]↔st.opn=[]:=by rw [hs]; simp
 have chk:∀ b,Zbh st (kmap k)=b→(kmap k≠1∧kmap k≠2)→Zbp st (kmap k) len=if b then 0 else 2:=by
  intro b hb hkm
  subst hb
  unfold Zbp
  cases Zbh st (kmap k) <;> simp [hkm]
 have stand:∀ kd,Zbh st kd=((kd == 3 && decide (st.next=3)) || Zbo st kd):=by
  intro kd
  unfold Zbh
  rw [if_neg (by omega),if_neg (by omega)]
  rcases hn with hn | hn <;> simp [hn]
 by_cases h12:k=1∨k=2∨k=5
 ·have hst:Zbh st (kmap k)=false:=by
   rw [stand]
   rcases h12 with rfl | rfl | rfl <;> (unfold Zbo; simp [kmap])
  have hl:Zaj L k = { L with err:=2 }:=by
   rcases h12 with rfl | rfl | rfl <;> (unfold Zaj; simp)
  rw [hl]
  exact ⟨by simp [Zbp,hst],by simp⟩
 ·have hkm:kmap k≠1∧kmap k≠2:=⟨fun e=>h12 (Or.inl ((Zhn hk).1.1 e)),fun e=>h12 (Or.inr (Or.inl ((Zhn hk).2.1 e)))⟩
  by_cases h40:k=40
  ·subst h40
   by_cases h3:st.next=3
   ·have hst:Zbh st (kmap 40)=true:=by rw [stand]; simp [Zur,h3]
    have hl:Zaj L 40 = { L with stk:=0::L.stk,want:=2 }:=by simp [Zaj,hw,h3]
    rw [hl,chk true hst hkm]
    refine ⟨he.symm,fun _ => ?_⟩
    obtain ⟨n1,n2,n3⟩:=h.name h3
    have hst2:Zbj st (kmap 40) t = { st with opn:=(st.atom.length - 1)::st.opn,next:=2 }:=by simp [Zur,Zbj]
    rw [hst2]
    exact {
     want:=rfl
     query:=hq
     err:=he
     n5:=by simp
     stk:=by simp [hs,n2]
     opn:=by
      intro m hm
      simp only [Qp] at hm
      rcases hm with rfl | hm
      ·show st.atom.length - 1<st.atom.length
       omega
      ·exact h.opn m hm
     down:=by
      rw [List.pairwise_cons]
      exact ⟨n3,h.down⟩
     flat:=by simp
     size:=fun _=>hsz
     open2:=by simp
     name:=by simp
     inb:=fun _ _=>hib
     inb1:=by simp
     goals:=fun hi _ _=>by have:=h.goals hi (by omega) (by omega); rw [if_neg (by omega)] at this; simpa using this
     heads:=by simpa using hh
     hd:=h.hd
     q0:=by simp
     h0:=by simp }
   ·have hst:Zbh st (kmap 40)=false:=by
     rw [stand]
     unfold Zbo
     simp [Zur,h3]
    have hl:Zaj L 40 = { L with err:=2 }:=by
     unfold Zaj
     have:¬ L.want=3:=by omega
     simp [this]
    rw [hl]
    exact ⟨by simp [Zbp,hst],by simp⟩
  ·cases ho:st.opn with
   | nil =>
    have hsn:L.stk=[]:=hse.2 ho
    cases hb:st.inBody with
    | false =>
     have hfo:∀ kd,Zbo st kd=(kd == 7 || kd == 6):=by intro kd; simp [Zbo,ho,hb]
     have hLb:L.body=false:=hib.trans hb
     by_cases hk3:k=3
     ·subst hk3
      have hst:Zbh st (kmap 3)=true:=by rw [stand,hfo]; rfl
      have hl:Zaj L 3 = { L with body:=true,goals:=0,want:=1 }:=by simp [Zaj,hsn,hLb]
      rw [hl,chk true hst hkm]
      refine ⟨he.symm,fun _ => ?_⟩
      have hst2:Zbj st (kmap 3) t = { st with head:=st.atom,atom:=[],inBody:=true,next:=1 }:=by simp [Yhm,Zbj,Zap,hb]
      rw [hst2]
      exact {
       want:=rfl
       query:=hq
       err:=he
       n5:=by simp
       stk:=by simp [hsn,ho]
       opn:=by simp [ho]
       down:=by simp [ho]
       flat:=by simp [ho]
       size:=by simp
       open2:=by simp
       name:=by simp
       inb:=by simp
       inb1:=by simp
       goals:=by simp [h.hd hb]
       heads:=by simpa using hh
       hd:=by simp
       q0:=by simp
       h0:=by simp }
     ·by_cases hk46:k=46
      ·subst hk46
       have hst:Zbh st (kmap 46)=true:=by rw [stand,hfo]; rfl
       have hl:Zaj L 46 = { L with want:=if L.query then 5 else 0 }:=by cases hq:L.query <;> simp [Zaj,hsn,hLb,hq]
       rw [hl,chk true hst hkm]
       refine ⟨he.symm,fun _ => ?_⟩
       have hst2:Zbj st (kmap 46) t = { st with clauses:=st.clauses++[⟨st.atom,st.body,st.vars⟩],atom:=[],head:=[],body:=[],vars:=[],inBody:=false,next:=if st.query then 5 else 0 }:=by simp [Zut,Zbj,Zap,Zam,hb]
       rw [hst2]
       have hnx:(if st.query then 5 else 0:Nat)=0∨(if st.query then 5 else 0:Nat)=5:=by split <;> simp
       exact {
        want:=by rw [hq]
        query:=hq
        err:=he
        n5:=by simp only; omega
        stk:=by simp [hsn,ho]
        opn:=by simp [ho]
        down:=by simp [ho]
        flat:=by simp [ho]
        size:=by simp only; omega
        open2:=by simp only; omega
        name:=by simp only; omega
        inb:=by simp only; omega
        inb1:=by simp only; omega
        goals:=by simp
        heads:=by
         intro hqf
         have hqf:st.query=false:=hqf
         have:=hh hqf
         simp [hqf,this]
        hd:=by simp
        q0:=by intro hqt; have hqt:st.query=true:=hqt; simp [hqt]
        h0:=by simp }
      ·have hst:Zbh st (kmap k)=false:=by
        rw [stand,hfo]
        rcases hk with rfl | rfl | rfl | rfl | rfl | rfl | rfl | rfl <;> simp_all [kmap]
       have hl:Zaj L k = { L with err:=2 }:=by
        unfold Zaj
        simp [h40,hsn,hLb,hk3,hk46]
       rw [hl]
       exact ⟨by simp [Zbp,hst],by simp⟩
    | true =>
     have hfo:∀ kd,Zbo st kd=(kd == 5 || kd == 6):=by intro kd; simp [Zbo,ho,hb]
     have hLb:L.body=true:=hib.trans hb
     have hg:=h.goals hb (by omega) (by omega)
     rw [if_neg (by omega)] at hg
     by_cases hk44:k=44
     ·subst hk44
      have hst:Zbh st (kmap 44)=true:=by rw [stand,hfo]; rfl
      have hl:Zaj L 44 = { L with want:=1 }:=by simp [Zaj,hsn,hLb]
      rw [hl,chk true hst hkm]
      refine ⟨he.symm,fun _ => ?_⟩
      have hst2:Zbj st (kmap 44) t = { st with body:=st.body++[st.atom],atom:=[],next:=1 }:=by simp [Zus,Zbj,Zfv,Zap,ho,hb]
      rw [hst2]
      exact {
       want:=rfl
       query:=hq
       err:=he
       n5:=by simp
       stk:=by simp [hsn,ho]
       opn:=by simp [ho]
       down:=by simp [ho]
       flat:=by simp [ho]
       size:=by simp
       open2:=by simp
       name:=by simp
       inb:=fun _ _=>hib
       inb1:=fun _=>hb
       goals:=by simp [hg]
       heads:=by simpa using hh
       hd:=by simp [hb]
       q0:=by simp
       h0:=by simp }
     ·by_cases hk46:k=46
      ·subst hk46
       have hst:Zbh st (kmap 46)=true:=by rw [stand,hfo]; rfl
       have hl:Zaj L 46 = { L with want:=if L.query then 5 else 0 }:=by cases hq:L.query <;> simp [Zaj,hsn,hLb,hq]
       rw [hl,chk true hst hkm]
       refine ⟨he.symm,fun _ => ?_⟩
       have hst2:Zbj st (kmap 46) t = { st with clauses:=st.clauses++[⟨st.head,st.body++[st.atom],st.vars⟩],atom:=[],head:=[],body:=[],vars:=[],inBody:=false,next:=if st.query then 5 else 0 }:=by simp [Zut,Zbj,Zap,Zam,hb]
       rw [hst2]
       have hnx:(if st.query then 5 else 0:Nat)=0∨(if st.query then 5 else 0:Nat)=5:=by split <;> simp
       exact {
        want:=by rw [hq]
        query:=hq
        err:=he
        n5:=by simp only; omega
        stk:=by simp [hsn,ho]
        opn:=by simp [ho]
        down:=by simp [ho]
        flat:=by simp [ho]
        size:=by simp only; omega
        open2:=by simp only; omega
        name:=by simp only; omega
        inb:=by simp only; omega
        inb1:=by simp only; omega
        goals:=by simp
        heads:=by
         intro hqf
         have hqf:st.query=false:=hqf
         have:=hh hqf
         simp [hqf,this]
        hd:=by simp
        q0:=by intro hqt; have hqt:st.query=true:=hqt; simp [hqt]
        h0:=by simp }
      ·have hst:Zbh st (kmap k)=false:=by
        rw [stand,hfo]
        rcases hk with rfl | rfl | rfl | rfl | rfl | rfl | rfl | rfl <;> simp_all [kmap]
       have hl:Zaj L k = { L with err:=2 }:=by
        unfold Zaj
        simp [h40,hsn,hLb,hk44,hk46]
       rw [hl]
       exact ⟨by simp [Zbp,hst],by simp⟩
   | cons n r =>
    have hsn:L.stk=Zew st.atom n::r.map (Zew st.atom):=by rw [hs,ho]; rfl
    have hfo:∀ kd,Zbo st kd=(kd == 5 || kd == 4):=by intro kd; simp [Zbo,ho]
    by_cases hk44:k=44
    ·subst hk44
     have hst:Zbh st (kmap 44)=true:=by rw [stand,hfo]; rfl
     have hl:Zaj L 44 = { L with want:=2 }:=by simp [Zaj,hsn]
     rw [hl,chk true hst hkm]
     refine ⟨he.symm,fun _ => ?_⟩
     have hst2:Zbj st (kmap 44) t = { st with next:=2 }:=by simp [Zus,Zbj,Zfv,ho]
     rw [hst2]
     exact {
      want:=rfl
      query:=hq
      err:=he
      n5:=by simp
      stk:=hs
      opn:=h.opn
      down:=h.down
      flat:=by simp
      size:=fun _=>hsz
      open2:=by simp [ho]
      name:=by simp
      inb:=fun _ _=>hib
      inb1:=by simp
      goals:=fun hi _ _=>by have:=h.goals hi (by omega) (by omega); rw [if_neg (by omega)] at this; simpa using this
      heads:=by simpa using hh
      hd:=h.hd
      q0:=by simp
      h0:=by simp }
    ·by_cases hk41:k=41
     ·subst hk41
      have hst:Zbh st (kmap 41)=true:=by rw [stand,hfo]; rfl
      have hl:Zaj L 41 = { L with stk:=r.map (Zew st.atom),want:=4 }:=by simp [Zaj,hsn]
      rw [hl,chk true hst hkm]
      refine ⟨he.symm,fun _ => ?_⟩
      have hst2:Zbj st (kmap 41) t = { st with opn:=r,next:=4 }:=by simp [Yfg,Zbj,Zik,ho]
      rw [hst2]
      have hd:=h.down
      rw [ho,List.pairwise_cons] at hd
      exact {
       want:=rfl
       query:=hq
       err:=he
       n5:=by simp
       stk:=rfl
       opn:=fun m hm=>h.opn m (by rw [ho]; simp [hm])
       down:=hd.2
       flat:=by simp
       size:=fun _=>hsz
       open2:=by simp
       name:=by simp
       inb:=fun _ _=>hib
       inb1:=by simp
       goals:=fun hi _ _=>by have:=h.goals hi (by omega) (by omega); rw [if_neg (by omega)] at this; simpa using this
       heads:=by simpa using hh
       hd:=h.hd
       q0:=by simp
       h0:=by simp }
     ·have hst:Zbh st (kmap k)=false:=by
       rw [stand,hfo]
       rcases hk with rfl | rfl | rfl | rfl | rfl | rfl | rfl | rfl <;> simp_all [kmap]
      have hl:Zaj L k = { L with err:=2 }:=by
       unfold Zaj
       simp [h40,hsn,hk44,hk41]
      rw [hl]
      exact ⟨by simp [Zbp,hst],by simp⟩
theorem Ydf {st:RS} {L:LookS} (h:Sim st L) (k len:Nat) (t:List UInt8) (hk:Zhg k) :
  Zbp st (kmap k) len=(Zbw L k len).err∧((Zbw L k len).err=0→Sim (Zbj st (kmap k) t) (Zbw L k len)):=by
 have h5:=h.n5
 have hw:=h.want
 have hc:(st.next=0∨st.next=1)∨st.next=2∨(st.next=3∨st.next=4)∨st.next=5:=by omega
 rcases hc with hn | hn | hn | hn
 ·exact Yaa h k len t hk hn
 ·exact Yfs h k len t hk hn
 ·exact Zwt h k len t hk hn
 ·have hl:Zbw L k len = { L with err:=2 }:=by rw [Zbw,if_neg (by omega),if_pos (by omega)]
  have hst:Zbh st (kmap k)=false:=by unfold Zbh; simp [hn]
  rw [hl]
  exact ⟨by simp [Zbp,hst],by simp⟩
def takes:List Tok→RS→RS
 | [],st=>st
 | t::ts,st=>takes ts (Zbj st (kmap t.kind) t.text)
theorem Zkm (a b:List Tok) (st:RS):takes (a++b) st=takes b (takes a st):=by
 induction a generalizing st with
 | nil=>rfl
 | cons t a ih=>exact ih _
theorem Yft {st:RS} {L:LookS} (h:Sim st L) (hn:st.next≠0∧st.next≠5):(Zbw L 4 0).err=2:=by
 have h5:=h.n5
 have hw:=h.want
 unfold Zbw
 by_cases h2:L.want≤2
 ·rw [if_pos h2]
  simp [Zbi]
 ·rw [if_neg h2,if_neg (by omega)]
  unfold Zaj
  simp
theorem Yab (e:Nat):∀ (ts:List Tok) (st:RS) (L:LookS),Sim st L→(∀ t ∈ ts,Zhg t.kind) →
  (runT e ts st).1=(Zdz (ts++[⟨4,[],e⟩]) L).1∧((runT e ts st).1≠0→(runT e ts st).2.1=(Zdz (ts++[⟨4,[],e⟩]) L).2)∧((runT e ts st).1=0→(runT e ts st).2.2=takes ts st):=by
 intro ts
 induction ts with
 | nil =>
  intro st L h _
  have hw:=h.want
  simp only [List.nil_append,Zdz,runT,takes]
  by_cases hn:st.next≠0∧st.next≠5
  ·have he:=Yft h hn
   simp only [Qt,he]
   rw [if_pos hn,if_neg (by omega)]
   simp
  ·rw [if_neg hn,if_pos (by refine ⟨trivial,?_⟩; omega)]
   simp
 | cons t ts ih =>
  intro st L h hk
  have hkt:=hk t (by simp)
  obtain ⟨h1,h2⟩:=Ydf h t.kind t.text.length t.text hkt
  have h4:¬ (t.kind=4∧(L.want=5∨L.want=0)):=by
   rintro ⟨h4,_⟩
   rcases hkt with h | h | h | h | h | h | h | h <;> omega
  simp only [List.cons_append,Zdz,runT,takes]
  rw [h1,if_neg h4]
  by_cases he:(Zbw L t.kind t.text.length).err=0
  ·rw [if_neg (by simp [he]),if_neg (by simp [he])]
   exact ih _ _ (h2 he) (fun t' ht=>hk t' (by simp [ht]))
  ·rw [if_pos he,if_pos he]
   exact ⟨rfl,fun _=>rfl,fun h=>absurd h he⟩
theorem sim0 (q:Bool):Sim ⟨q,if q then 1 else 0,q,[],[],[],[],[],[]⟩ (Zbu q):=by
 cases q
 ·exact ⟨rfl,rfl,rfl,by simp,rfl,by simp,by simp,by simp,by simp,by simp,by simp,by simp,by simp,by simp,by simp [Zbu],by simp,by simp,by simp⟩
 ·exact ⟨rfl,rfl,rfl,by simp,rfl,by simp,by simp,by simp,by simp,by simp,by simp,by simp [Zbu],by simp,by simp [Zbu],by simp,by simp,by simp,by simp⟩
theorem Yac:∀ (f:Nat) (l:List UInt8) (p:Nat),∀ t ∈ lexF f l p,Zhg t.kind:=by
 intro f
 induction f with
 | zero=>intro l p t ht; simp [lexF] at ht
 | succ f ih =>
  intro l p t ht
  cases l with
  | nil=>simp [lexF] at ht
  | cons c r =>
   rw [lexF] at ht
   split at ht
   ·exact ih _ _ t ht
   ·simp only [Qp] at ht
    rcases ht with rfl | ht
    ·exact (Zlt c r).2
    ·exact ih _ _ t ht
theorem Zia (l:List UInt8) (p:Nat):∀ t ∈ toks l p,Zhg t.kind:=Yac _ l p
def Zgd (st:RS) (l:List Sym) (names:Names) (nx:Nat):RS := { st with atom:=Zcg st++l,vars:=names,next:=nx }
def Yad (n:Nat):Prop:=∀ (ts:List Tok) (L:LookS) (f:Nat) (st:RS),ts.length≤n→ts.length≤f→okk ts L→fin ts→L.want≤2→L.err=0→(L.want=2→L.stk≠[])→(∀ t r,ts=t::r→t.kind≠4) →
 ∃ r L' m,Zce f ts st.vars=some r∧Aft r.2.1 L L' (Zcr L).stk∧r.2.1=ts.drop m∧r.2.1.length<ts.length∧takes (ts.take m) st=Zgd st r.1 r.2.2 L'.want
theorem Zei {xs ys:List Tok} {y:Tok} {m1:Nat} (h:xs.drop m1=y::ys) (m2:Nat) (st:RS):takes (xs.take (m1+(1+m2))) st=takes (ys.take m2) (Zbj (takes (xs.take m1) st) (kmap y.kind) y.text)∧xs.drop (m1+(1+m2))=ys.drop m2:=by
 constructor
 ·rw [List.take_add,Zkm,h,Nat.add_comm 1 m2]
  rfl
 ·rw [← List.drop_drop,h,Nat.add_comm 1 m2]
  rfl
theorem Yfu (A:List Sym) (nm:List UInt8) (k:Nat) (B:List Sym):(A++(⟨nm,0,k⟩:Sym)::B).modify A.length (fun s => { s with args:=s.args+1 })=A++⟨nm,0,k+1⟩::B:=by
 induction A with
 | nil=>simp
 | cons a A ih=>simp [ih]
theorem Ydg (n f:Nat) (IH:Yad n):∀ (g:Nat) (x:Tok) (xs:List Tok) (L:LookS) (m:Nat) (r:List Nat) (acc:List (List Sym)) (st:RS) (A:List Sym) (nm:List UInt8) (o:List Nat),xs.length≤n→xs.length≤f→xs.length+1≤g→x.kind≠41 →
  okk xs L→fin xs→L.want=2→L.stk=m::r→L.err=0→st.atom=A++⟨nm,0,acc.length⟩::acc.flatten→st.opn=A.length::o →
  ∃ q L' i,Zdl (Zce f) g (x::xs) st.vars acc=some q∧Aft q.2.1 L L' r∧L'.want=4∧q.2.1=xs.drop i∧q.2.1.length<xs.length ∧
   takes (xs.take i) st = { st with atom:=A++⟨nm,0,q.1.length⟩::q.1.flatten,opn:=o,vars:=q.2.2,next:=4 }:=by
 intro g
 induction g with
 | zero=>intro x xs L m r acc st A nm o h1 h1' h2; omega
 | succ g ih =>
  intro x xs L m r acc st A nm o h1 h1' h2 h41 hok hfin hw hst he hat hop
  have hx4:∀ t r,xs=t::r→t.kind≠4:=by
   rintro t r rfl h4
   have:=(Zeo hok (by omega)).1
   unfold Zbw at this
   rw [if_pos (by omega)] at this
   rcases Zfp he this with h | h <;> omega
  obtain ⟨r1,L1,m1,hp,ha,hd,hl,htk⟩:=IH xs L f st h1 (by omega) hok hfin (by omega) he (by rw [hst]; simp) hx4
  have hls:(Zcr L).stk=(m+1)::r:=by simp [Zcr,hw,hst]
  rw [hls] at ha
  rw [Zdl,if_neg h41,hp]
  simp only
  have hbump:Zcg st=A++⟨nm,0,acc.length+1⟩::acc.flatten:=by
   unfold Zcg
   rw [hop]
   simp only
   rw [hat,Yfu]
  cases hr:r1.2.1 with
  | nil=>rw [hr] at ha; exact ha.fin.elim
  | cons y ys =>
   rw [hr] at ha hl hd
   simp only [Qf] at hl
   have hat1:(Zgd st r1.1 r1.2.2 L1.want).atom=A++⟨nm,0,(acc++[r1.1]).length⟩::(acc++[r1.1]).flatten:=by
    unfold Zgd
    simp [hbump]
   rcases Yfe ha with ⟨hy,ho,hf,hE⟩ | ⟨hy,ho,hf,hE⟩
   ·have hst1:Zbj (Zgd st r1.1 r1.2.2 L1.want) (kmap y.kind) y.text = { Zgd st r1.1 r1.2.2 L1.want with next:=2 }:=by
     rw [hy]
     simp [Zus,Zbj,Zfv,Zgd,hop]
    obtain ⟨q,L2,i,h5,h6,h6',h7,h7',h8⟩:=ih y ys (Zaj L1 44) (m+1) r (acc++[r1.1]) { Zgd st r1.1 r1.2.2 L1.want with next:=2 } A nm o (by omega) (by omega) (by omega) (by omega) ho hf (by rw [hE]) (by rw [hE]; exact ha.stk) (by rw [hE]; exact ha.err) hat1 hop
    obtain ⟨hs1,hs2⟩:=Zei hd.symm i st
    refine ⟨q,L2,m1+(1+i),h5,⟨h6.ok,h6.fin,h6.want,h6.stk,h6.err,?_,?_⟩,h6',?_,by omega,?_⟩
    ·rw [h6.query,hE]; exact ha.query
    ·rw [h6.body,hE]
     have:=ha.body
     simp [hw] at this ⊢
     exact this
    ·rw [hs2]; exact h7
    ·rw [hs1,htk,hst1,h8]
     rfl
   ·have hst1:Zbj (Zgd st r1.1 r1.2.2 L1.want) (kmap y.kind) y.text = { Zgd st r1.1 r1.2.2 L1.want with opn:=o,next:=4 }:=by
     rw [hy]
     simp [Yfg,Zbj,Zik,Zgd,hop]
    obtain ⟨hs1,hs2⟩:=Zei hd.symm 0 st
    refine ⟨(acc++[r1.1],ys,r1.2.2),Zaj L1 41,m1+(1+0),?_,⟨ho,hf,Or.inl (by rw [hE]),by rw [hE],by rw [hE]; exact ha.err,by rw [hE]; exact ha.query,by rw [hE]; exact ha.body⟩,by rw [hE],?_,by simp; omega,?_⟩
    ·cases g with
     | zero=>omega
     | succ g=>rw [Zdl,if_pos hy]
    ·rw [hs2]; rfl
    ·rw [hs1,htk,hst1]
     show ({ Zgd st r1.1 r1.2.2 L1.want with opn:=o,next:=4 }:RS)=_
     have:({ Zgd st r1.1 r1.2.2 L1.want with opn:=o,next:=4 }:RS) = { st with atom:=(Zgd st r1.1 r1.2.2 L1.want).atom,opn:=o,vars:=r1.2.2,next:=4 }:=rfl
     rw [this,hat1]
theorem Zuu:∀ n,Yad n:=by
 intro n
 induction n with
 | zero =>
  intro ts L f st h1 h2 hok hfin
  cases ts with
  | nil=>exact hfin.elim
  | cons t ts=>simp at h1
 | succ n IH =>
  intro ts L f st h1 h2 hok hfin hw he hst hne
  cases ts with
  | nil=>exact hfin.elim
  | cons t ts =>
   have h4:=hne t ts rfl
   simp only [Qf] at h1 h2
   cases f with
   | zero=>omega
   | succ f =>
    obtain ⟨he1,ho1⟩:=Zeo hok (by omega)
    unfold Zbw at he1 ho1
    rw [if_pos hw] at he1 ho1
    have hk:=Zfp he he1
    obtain ⟨k1,k2,k3,k4⟩:=Zjf he1 hk
    have hfin1:fin ts:=by
     rcases hfin with h | h
     ·exact absurd h h4
     ·exact h
    by_cases hv:t.kind=2
    ·rw [Zce,if_pos hv]
     refine ⟨_,Zbi L t.kind t.text.length,1,rfl,⟨ho1,hfin1,Or.inl (by rw [k1,hv]; rfl),k2,he1,k3,k4⟩,rfl,by simp,?_⟩
     have ht:Zbj st (kmap t.kind) t.text = { st with atom:=Zcg st++[⟨[],(Zba st.vars t.text).2,0⟩],vars:=(Zba st.vars t.text).1,next:=4 }:=by rw [hv]; simp [Yhl,Zbj,addS,varS,Zcg]
     show Zbj st (kmap t.kind) t.text=_
     rw [ht,k1,if_neg (by omega)]
     rfl
    ·have hk1:t.kind=1:=by omega
     have ht1:Zbj st (kmap t.kind) t.text = { st with atom:=Zcg st++[⟨t.text,0,0⟩],next:=3 }:=by rw [hk1]; simp [Yde,Zbj,addS]
     rw [Zce,if_neg hv]
     cases ts with
     | nil=>exact hfin1.elim
     | cons u us =>
      rw [Zhk]
      simp only [Qf] at h1 h2
      rw [if_pos hk1] at k1
      by_cases hu:u.kind=40
      ·rw [if_neg (by simp [hu])]
       obtain ⟨he2,ho2⟩:=Zeo ho1 (by omega)
       unfold Zbw at he2 ho2
       rw [if_neg (by omega),if_neg (by omega),hu] at he2 ho2
       have hE:Zaj (Zbi L t.kind t.text.length) 40 = { Zbi L t.kind t.text.length with stk:=0::(Zbi L t.kind t.text.length).stk,want:=2 }:=by
        simp [Zaj,k1]
       have hfin2:fin us:=by
        rcases hfin1 with h | h
        ·omega
        ·exact h
       have ht2:Zbj { st with atom:=Zcg st++[⟨t.text,0,0⟩],next:=3 } (kmap u.kind) u.text = { st with atom:=Zcg st++[⟨t.text,0,0⟩],opn:=(Zcg st).length::st.opn,next:=2 }:=by
        rw [hu]; simp [Zur,Zbj]
       obtain ⟨q,L2,i,h5,h6,h6',h7,h7',h8⟩:=Ydg n f IH (us.length+1) u us _ 0 (Zcr L).stk [] { st with atom:=Zcg st++[⟨t.text,0,0⟩],opn:=(Zcg st).length::st.opn,next:=2 } (Zcg st) t.text st.opn (by omega) (by omega) (by omega) (by omega) ho2 hfin2 (by rw [hE]) (by rw [hE,← k2]) (by rw [hE]; exact he1) rfl rfl
       rw [show Zdl (Zce f) (us.length+1) (u::us) st.vars []=some q from h5]
       refine ⟨_,L2,i+2,rfl,⟨h6.ok,h6.fin,h6.want,h6.stk,h6.err,?_,?_⟩,?_,by simp; omega,?_⟩
       ·rw [h6.query,hE]; exact k3
       ·rw [h6.body,hE]
        simpa using k4
       ·exact h7
       ·show takes (us.take i) (Zbj (Zbj st (kmap t.kind) t.text) (kmap u.kind) u.text)=_
        rw [ht1,ht2,h8,h6']
        rfl
      ·rw [if_pos hu]
       refine ⟨_,Zbi L t.kind t.text.length,1,rfl,⟨ho1,hfin1,Or.inr ⟨k1,?_⟩,k2,he1,k3,k4⟩,rfl,by simp,?_⟩
       ·intro y ys hy
        simp at hy
        rw [← hy.1]; exact hu
       ·show Zbj st (kmap t.kind) t.text=_
        rw [ht1,k1]
        rfl
def clsS (st:RS) (hd:List Sym) (bd:List (List Sym)) (vs:Names):RS := { st with clauses:=st.clauses++[⟨hd,bd,vs⟩],atom:=[],opn:=[],head:=[],body:=[],vars:=[],inBody:=false,next:=if st.query then 5 else 0 }
theorem Zqn:∀ (g:Nat) (ts:List Tok) (L:LookS) (acc:List (List Sym)) (st:RS),ts.length≤g→ts.length≤1000→okk ts L→fin ts→L.want=1→L.stk=[]→L.body=true→L.err=0→st.opn=[]→st.atom=[]→st.inBody=true →
  ∃ q L' i ex,Zci 1000 g ts st.vars acc=some q∧okk q.2.1 L'∧fin q.2.1∧L'.want=(if L.query then 5 else 0)∧L'.stk=[]∧L'.err=0∧L'.query=L.query∧q.2.1.length<ts.length∧q.2.1=ts.drop i∧q.1=acc++ex ∧
   takes (ts.take i) st=clsS st st.head (st.body++ex) q.2.2:=by
 intro g
 induction g with
 | zero =>
  intro ts L acc st h1 h2 hok hfin
  cases ts with
  | nil=>exact hfin.elim
  | cons t ts=>simp at h1
 | succ g ih =>
  intro ts L acc st h1 h2 hok hfin hw hst hb he hop hat hib
  obtain ⟨r1,L1,m1,hp,ha,hd,hl,htk⟩:=Zuu ts.length ts L 1000 st (Qe _) h2 hok hfin (by omega) he (by omega) (Zzu hok hw he)
  have hls:(Zcr L).stk=[]:=by simp [Zcr,hw,hst]
  rw [hls] at ha
  have hb1:L1.body=true:=by rw [ha.body,if_neg (by omega)]; exact hb
  have hbump:Zcg st=[]:=by simp [Zcg,hop,hat]
  rw [Zci,hp]
  simp only
  cases hr:r1.2.1 with
  | nil=>rw [hr] at ha; exact ha.fin.elim
  | cons y ys =>
   rw [hr] at ha hl hd
   simp only [Qf] at hl
   simp only
   rcases Zot ha with ⟨hy,_,ho,hf,hE⟩ | ⟨hy,hb2,_⟩ | ⟨hy,ho,hf,hE⟩
   ·rw [if_neg (by omega)]
    have hst1:Zbj (Zgd st r1.1 r1.2.2 L1.want) (kmap y.kind) y.text = { st with body:=st.body++[r1.1],atom:=[],vars:=r1.2.2,next:=1 }:=by
     rw [hy]
     simp [Zus,Zbj,Zfv,Zap,Zgd,hop,hib,hbump]
    obtain ⟨q,L2,i,ex,h5,h6,h7,h8,h9,h10,h11,h12,h13,h14,h15⟩:=ih ys (Zaj L1 44) (acc++[r1.1]) { st with body:=st.body++[r1.1],atom:=[],vars:=r1.2.2,next:=1 } (by omega) (by omega) ho hf (by rw [hE]) (by rw [hE]; exact ha.stk) (by rw [hE]; exact hb1) (by rw [hE]; exact ha.err) hop rfl hib
    have hq:(Zaj L1 44).query=L.query:=by rw [hE]; exact ha.query
    rw [hq] at h8 h11
    obtain ⟨hs1,hs2⟩:=Zei hd.symm i st
    refine ⟨q,L2,m1+(1+i),r1.1::ex,h5,h6,h7,h8,h9,h10,h11,by omega,by rw [hs2]; exact h13,by rw [h14]; simp,?_⟩
    rw [hs1,htk,hst1,h15]
    simp [clsS]
   ·rw [hb1] at hb2; cases hb2
   ·rw [if_pos hy]
    have hst1:Zbj (Zgd st r1.1 r1.2.2 L1.want) (kmap y.kind) y.text=clsS st st.head (st.body++[r1.1]) r1.2.2:=by
     rw [hy]
     simp [Zut,Zbj,Zam,Zap,Zgd,hop,hib,hbump,clsS]
    obtain ⟨hs1,hs2⟩:=Zei hd.symm 0 st
    refine ⟨_,_,m1+(1+0),[r1.1],rfl,ho,hf,by rw [hE,ha.query],by rw [hE]; exact ha.stk,by rw [hE]; exact ha.err,by rw [hE]; exact ha.query,by simp; omega,by rw [hs2]; rfl,rfl,?_⟩
    rw [hs1,htk,hst1]
    rfl
structure Clean (st:RS):Prop where
 query:st.query=false
 next:st.next=0
 inb:st.inBody=false
 atom:st.atom=[]
 opn:st.opn=[]
 head:st.head=[]
 body:st.body=[]
 vars:st.vars=[]
theorem Zwu (ts:List Tok) (L:LookS) (st:RS) (h2:ts.length≤1000) (hok:okk ts L) (hfin:fin ts) (hw:L.want=0) (hst:L.stk=[]) (he:L.err=0) (hq:L.query=false) (hne:∀ t r,ts=t::r→t.kind≠4) (hc:Clean st) :
  ∃ c L' i,Zcs ts=some c∧okk c.2 L'∧fin c.2∧L'.want=0∧L'.stk=[]∧L'.err=0∧L'.query=false∧c.2.length<ts.length∧c.2=ts.drop i∧takes (ts.take i) st = { st with clauses:=st.clauses++[c.1] }:=by
 obtain ⟨r1,L1,m1,hp,ha,hd,hl,htk⟩:=Zuu ts.length ts L 1000 st (Qe _) h2 hok hfin (by omega) he (by omega) hne
 have hls:(Zcr L).stk=[]:=by simp [Zcr,hw,hst]
 rw [hls] at ha
 have hb1:L1.body=false:=by rw [ha.body,if_pos hw]
 have hbump:Zcg st=[]:=by simp [Zcg,hc.opn,hc.atom]
 have hback:∀ hd bd vs,clsS st hd bd vs = { st with clauses:=st.clauses++[⟨hd,bd,vs⟩] }:=by
  intro hd bd vs
  obtain ⟨c1,c2,c3,c4,c5,c6,c7,c8⟩:=hc
  cases st
  simp only at c1 c2 c3 c4 c5 c6 c7 c8
  subst c1 c2 c3 c4 c5 c6 c7 c8
  rfl
 rw [hc.vars] at hp
 rw [Zcs,hp]
 simp only
 cases hr:r1.2.1 with
 | nil=>rw [hr] at ha; exact ha.fin.elim
 | cons y ys =>
  rw [hr] at ha hl hd
  simp only [Qf] at hl
  simp only
  rcases Zot ha with ⟨hy,hb2,_⟩ | ⟨hy,_,ho,hf,hE⟩ | ⟨hy,ho,hf,hE⟩
  ·rw [hb1] at hb2; cases hb2
  ·rw [if_pos hy]
   have hst1:Zbj (Zgd st r1.1 r1.2.2 L1.want) (kmap y.kind) y.text = { st with head:=r1.1,atom:=[],vars:=r1.2.2,inBody:=true,next:=1 }:=by
    rw [hy]
    simp [Yhm,Zbj,Zap,Zgd,hc.inb,hbump]
   obtain ⟨q,L2,i,ex,h5,h6,h7,h8,h9,h10,h11,h12,h13,h14,h15⟩:=Zqn 1000 ys (Zaj L1 3) [] { st with head:=r1.1,atom:=[],vars:=r1.2.2,inBody:=true,next:=1 } (by omega) (by omega) ho hf (by rw [hE]) (by rw [hE]; exact ha.stk) (by rw [hE]) (by rw [hE]; exact ha.err) hc.opn rfl rfl
   have hq2:(Zaj L1 3).query=false:=by rw [hE]; exact ha.query.trans hq
   rw [hq2] at h8 h11
   rw [h5]
   obtain ⟨hs1,hs2⟩:=Zei hd.symm i st
   refine ⟨_,L2,m1+(1+i),rfl,h6,h7,by simpa using h8,h9,h10,h11,by simp; omega,by rw [hs2]; exact h13,?_⟩
   rw [hs1,htk,hst1,h15,← hback]
   simp only [List.nil_append] at h14
   simp [clsS,hc.body,h14]
  ·rw [if_neg (by omega)]
   have hq2:L1.query=false:=ha.query.trans hq
   have hst1:Zbj (Zgd st r1.1 r1.2.2 L1.want) (kmap y.kind) y.text=clsS st r1.1 [] r1.2.2:=by
    rw [hy]
    simp [Zut,Zbj,Zam,Zap,Zgd,hc.opn,hc.inb,hc.body,hbump,clsS]
   obtain ⟨hs1,hs2⟩:=Zei hd.symm 0 st
   refine ⟨_,_,m1+(1+0),rfl,ho,hf,by rw [hE,hq2]; rfl,by rw [hE]; exact ha.stk,by rw [hE]; exact ha.err,by rw [hE]; exact hq2,by simp; omega,by rw [hs2]; rfl,?_⟩
   rw [hs1,htk,hst1,hback]
   rfl
theorem Zuv:∀ (g:Nat) (ts:List Tok) (L:LookS) (acc:List Cls) (st:RS),ts.length≤g→ts.length≤1000→okk ts L→fin ts→L.want=0→L.stk=[]→L.err=0→L.query=false→Clean st →
  ∃ cs i ex,Zee g ts acc=some cs∧(∃ t r,ts.drop i=t::r∧t.kind=4)∧cs=acc++ex∧takes (ts.take i) st = { st with clauses:=st.clauses++ex }:=by
 intro g
 induction g with
 | zero =>
  intro ts L acc st h1 h2 hok hfin
  cases ts with
  | nil=>exact hfin.elim
  | cons t ts=>simp at h1
 | succ g ih =>
  intro ts L acc st h1 h2 hok hfin hw hst he hq hc
  cases ts with
  | nil=>exact hfin.elim
  | cons t ts =>
   rw [Zee]
   by_cases h4:t.kind=4
   ·rw [if_pos h4]
    exact ⟨_,0,[],rfl,⟨t,ts,rfl,h4⟩,by simp,by simp [takes]⟩
   ·rw [if_neg h4]
    obtain ⟨c,L1,i,hp,h5,h6,h7,h8,h9,h10,h11,h12,h13⟩:=Zwu (t::ts) L st h2 hok hfin hw hst he hq (fun t' r' e=>by simp at e; rw [← e.1]; exact h4) hc
    rw [hp]
    simp only
    simp only [Qf] at h1 h2 h11
    obtain ⟨cs,j,ex,k1,k2,k3,k4⟩:=ih c.2 L1 (acc++[c.1]) { st with clauses:=st.clauses++[c.1] } (by omega) (by omega) h5 h6 h7 h8 h9 h10 ⟨hc.query,hc.next,hc.inb,hc.atom,hc.opn,hc.head,hc.body,hc.vars⟩
    refine ⟨cs,i+j,c.1::ex,k1,?_,by rw [k3]; simp,?_⟩
    ·rw [← List.drop_drop,← h12]; exact k2
    ·rw [List.take_add,Zkm,h13,← h12,k4]
     simp
theorem Yae {ts:List Tok} {e:Tok} {i:Nat} (hk:∀ t ∈ ts,Zhg t.kind) (h:∃ t r,(ts++[e]).drop i=t::r∧t.kind=4):(ts++[e]).take i=ts:=by
 obtain ⟨t,r,hd,h4⟩:=h
 rcases Nat.lt_trichotomy i ts.length with hi | hi | hi
 ·exfalso
  rw [List.drop_append_of_le_length (by omega),List.drop_eq_getElem_cons hi,List.cons_append] at hd
  simp only [List.cons.injEq] at hd
  have:=hk ts[i] (List.getElem_mem hi)
  rw [hd.1] at this
  rcases this with h | h | h | h | h | h | h | h <;> omega
 ·subst hi
  simp
 ·exfalso
  rw [List.drop_eq_nil_of_le (by simp; omega)] at hd
  simp at hd
def scan:List Sym→Nat→Option Nat
 | [],k=>some k
 | s::r,k=>if s.name=[] then (if s.num<k then scan r k else if s.num=k then scan r (k+1) else none) else scan r k
theorem Ziu (a b:List Sym) (k:Nat):scan (a++b) k=(scan a k).bind (scan b):=by
 induction a generalizing k with
 | nil=>rfl
 | cons s a ih =>
  simp only [List.cons_append,scan]
  split
  ·split
   ·exact ih k
   ·split
    ·exact ih (k+1)
    ·rfl
  ·exact ih k
theorem Zox {a b:List Sym} {k k':Nat} (h:scan (a++b) k=some k'):∃ j,scan a k=some j∧scan b j=some k':=by
 rw [Ziu] at h
 cases ha:scan a k with
 | none=>rw [ha] at h; simp at h
 | some j=>rw [ha] at h; exact ⟨j,rfl,h⟩
theorem Zdf:∀ (l:List Sym) (k k':Nat),scan l k=some k'→k≤k'∧k'≤k+l.length∧∀ s ∈ l,s.name=[]→s.num<k':=by
 intro l
 induction l with
 | nil=>intro k k' h; simp [scan] at h; subst h; simp
 | cons s l ih =>
  intro k k' h
  simp only [scan] at h
  split at h
  ·split at h
   ·rename_i h1 h2
    obtain ⟨g1,g2,g3⟩:=ih _ _ h
    refine ⟨g1,by simp; omega,?_⟩
    intro x hx hn
    simp at hx
    rcases hx with rfl | hx
    ·omega
    ·exact g3 x hx hn
   ·split at h
    ·rename_i h1 h2 h3
     obtain ⟨g1,g2,g3⟩:=ih _ _ h
     refine ⟨by omega,by simp; omega,?_⟩
     intro x hx hn
     simp at hx
     rcases hx with rfl | hx
     ·omega
     ·exact g3 x hx hn
    ·simp at h
  ·rename_i h1
   obtain ⟨g1,g2,g3⟩:=ih _ _ h
   refine ⟨g1,by simp; omega,?_⟩
   intro x hx hn
   simp at hx
   rcases hx with rfl | hx
   ·exact absurd hn h1
   ·exact g3 x hx hn
theorem Yaf (n k:Nat) (h:n<k):(List.range k).idxOf n=n:=by
 have hm:n ∈ List.range k:=by simpa using h
 have h1:=List.idxOf_lt_length_of_mem hm
 have h2:=List.getElem_idxOf h1
 rw [List.getElem_range] at h2
 exact h2
theorem Zsv (f:Nat) (IH:∀ l,IsT f l→∀ k k',scan l k=some k'→(Zcf f l (List.range k)).2.1=List.range k'∧∀ rest miss,Zbm (l++rest) miss=(Zcf f l (List.range k)).1++((Zbq miss).1++Zbm rest (Zbq miss).2)) :
  ∀ (ls:List (List Sym)),ls≠[]→(∀ l ∈ ls,IsT f l)→∀ (k k':Nat) (sep:UInt8),scan ls.flatten k=some k'→(Zev f sep ls (List.range k)).2=List.range k' ∧
   ∀ rest miss,sep::Zbm (ls.flatten++rest) (ls.length::miss)=(Zev f sep ls (List.range k)).1++(41::((Zbq miss).1++Zbm rest (Zbq miss).2)):=by
 intro ls
 induction ls with
 | nil=>intro h; exact absurd rfl h
 | cons l ls ih =>
  intro _ hls k k' sep hsc
  rw [List.flatten_cons] at hsc
  obtain ⟨j,h1,h2⟩:=Zox hsc
  obtain ⟨w1,w2⟩:=IH l (hls l (by simp)) k j h1
  cases ls with
  | nil =>
   simp only [List.flatten_nil,scan,Qo] at h2
   subst h2
   simp only [Zev,w1,List.flatten_cons,List.flatten_nil,Qs]
   refine ⟨trivial,fun rest miss => ?_⟩
   rw [w2]
   simp [Zbq]
  | cons l2 ls2 =>
   obtain ⟨v1,v2⟩:=ih (by simp) (fun x hx=>hls x (by simp [hx])) j k' 44 h2
   have hk:Zev f sep (l::l2::ls2) (List.range k)=(sep::((Zcf f l (List.range k)).1++(Zev f 44 (l2::ls2) (List.range j)).1),(Zev f 44 (l2::ls2) (List.range j)).2):=by
    rw [Zev,w1]
   rw [hk]
   refine ⟨v1,fun rest miss => ?_⟩
   rw [List.flatten_cons,Qi,w2]
   have hc:Zbq ((l::l2::ls2).length::miss)=([44],(l2::ls2).length::miss):=by simp [Zbq]
   rw [hc]
   have:=v2 rest miss
   simp only [List.cons_append,List.nil_append,Qi]
   rw [this]
theorem Yag:∀ (f:Nat) (l:List Sym),IsT f l→∀ k k',scan l k=some k'→(Zcf f l (List.range k)).2.1=List.range k'∧∀ rest miss,Zbm (l++rest) miss=(Zcf f l (List.range k)).1++((Zbq miss).1++Zbm rest (Zbq miss).2):=by
 intro f
 induction f with
 | zero=>intro l h; exact h.elim
 | succ f ih =>
  intro l h k k' hsc
  rcases h with ⟨n,rfl⟩ | ⟨nm,ls,h1,rfl,h2⟩
  ·simp only [scan,if_true] at hsc
   split at hsc
   ·rename_i hn
    simp at hsc; subst hsc
    have hv:wvar n (List.range k)=(Zdy n,List.range k):=by
     unfold wvar
     rw [if_pos (by simpa using hn),Yaf n k hn]
    simp [Zcf,hv,Zbm,symC]
   ·split at hsc
    ·rename_i hn1 hn2
     simp at hsc; subst hsc
     have hv:wvar n (List.range k)=(Zdy n,List.range (k+1)):=by
      unfold wvar
      rw [if_neg (by simpa using hn1),List.range_succ,hn2]
      simp
     simp [Zcf,hv,Zbm,symC]
    ·simp at hsc
  ·have hsc':scan ls.flatten k=some k':=by simpa [scan,h1] using hsc
   cases hls:ls with
   | nil =>
    rw [hls] at hsc'
    simp [scan] at hsc'
    subst hsc'
    simp [Zcf,Zbm,symC,h1]
   | cons l0 ls0 =>
    rw [← hls]
    have hne:ls≠[]:=by rw [hls]; simp
    have hw:=Zjw f nm ls h1 h2 hne (List.range k)
    obtain ⟨v1,v2⟩:=Zsv f ih ls hne h2 k k' 40 hsc'
    rw [hw]
    refine ⟨v1,fun rest miss => ?_⟩
    have hpos:0<ls.length:=by rw [hls]; simp
    have:=v2 rest miss
    simp only [List.cons_append,Zbm,hpos,if_true,symC,h1,if_false,Qi]
    rw [this]
    simp
theorem Zly (f:Nat):∀ (ls:List (List Sym)),(∀ l ∈ ls,IsT f l)→∀ (k k':Nat) (sep:List UInt8),scan ls.flatten k=some k'→Zeh sep ls=Zgt f sep ls (List.range k):=by
 intro ls
 induction ls with
 | nil=>intro _ k k' sep _; rfl
 | cons l ls ih =>
  intro hls k k' sep hsc
  rw [List.flatten_cons] at hsc
  obtain ⟨j,h1,h2⟩:=Zox hsc
  obtain ⟨w1,w2⟩:=Yag f l (hls l (by simp)) k j h1
  have h3:=w2 [] []
  simp only [Qs,Zbq,Zbm,List.nil_append] at h3
  rw [Zeh,Zgt,w1,h3,ih (fun x hx=>hls x (by simp [hx])) j k' _ h2]
  simp
def Worded (ts:List Tok):Prop:=∀ i t,ts[i]?=some t→i+1<ts.length→t.text≠[]
theorem Worded.drop {ts:List Tok} (h:Worded ts) (n:Nat):Worded (ts.drop n):=by
 intro i t hi hl
 rw [List.getElem?_drop] at hi
 rw [List.length_drop] at hl
 exact h (n+i) t hi (by omega)
theorem Worded.tail {t:Tok} {ts:List Tok} (h:Worded (t::ts)):Worded ts:=by simpa using h.drop 1
theorem Zsw (names:Names) (s:List UInt8) (r:List Sym):scan (⟨[],(Zba names s).2,0⟩::r) names.length=scan r (Zba names s).1.length:=by
 unfold Zba
 split
 ·rename_i h
  have:=List.idxOf_lt_length_of_mem h
  simp [scan,this]
 ·simp [scan]
theorem Yah (f:Nat) (IH:∀ ts names r,Worded ts→Zce f ts names=some r→IsT f r.1∧scan r.1 names.length=some r.2.2.length) (k0:Nat) :
  ∀ (g:Nat) (ts:List Tok) (names:Names) (acc:List (List Sym)) r,Worded ts→(∀ l ∈ acc,IsT f l)→scan acc.flatten k0=some names.length→Zdl (Zce f) g ts names acc=some r→(∀ l ∈ r.1,IsT f l)∧scan r.1.flatten k0=some r.2.2.length:=by
 intro g
 induction g with
 | zero=>intro ts names acc r _ _ _ h; simp [Zdl] at h
 | succ g ih =>
  intro ts names acc r hw ha hs h
  cases ts with
  | nil=>simp [Zdl] at h
  | cons t ts =>
   rw [Zdl] at h
   split at h
   ·simp at h; subst h; exact ⟨ha,hs⟩
   ·cases hq:Zce f ts names with
    | none=>rw [hq] at h; simp at h
    | some q =>
     rw [hq] at h
     simp only at h
     obtain ⟨i1,i2⟩:=IH ts names q hw.tail hq
     obtain ⟨n,_,_,hn,_⟩:=Zfu f ts names q hq
     refine ih q.2.1 q.2.2 (acc++[q.1]) r (by rw [hn]; exact hw.tail.drop n) ?_ ?_ h
     ·intro l hl
      simp at hl
      rcases hl with hl | rfl
      ·exact ha l hl
      ·exact i1
     ·simp only [List.flatten_append,List.flatten_cons,List.flatten_nil,Qs]
      rw [Ziu,hs]
      exact i2
theorem Zlz:∀ (f:Nat) (ts:List Tok) (names:Names) r,Worded ts→Zce f ts names=some r→IsT f r.1∧scan r.1 names.length=some r.2.2.length:=by
 intro f
 induction f with
 | zero=>intro ts names r _ h; simp [Zce] at h
 | succ f ih =>
  intro ts names r hw h
  cases ts with
  | nil=>simp [Zce] at h
  | cons t ts =>
   rw [Zce] at h
   split at h
   ·simp at h; subst h
    exact ⟨Or.inl ⟨_,rfl⟩,by rw [Zsw]; rfl⟩
   ·cases ts with
    | nil=>simp [Zhk] at h
    | cons u us =>
     have ht:t.text≠[]:=hw 0 t rfl (by simp)
     rw [Zhk] at h
     split at h
     ·simp at h; subst h
      exact ⟨Or.inr ⟨t.text,[],ht,rfl,by simp⟩,by simp [scan,ht]⟩
     ·rw [Option.map_eq_some_iff] at h
      obtain ⟨q,hq,rfl⟩:=h
      obtain ⟨g1,g2⟩:=Yah f ih names.length _ _ _ _ _ hw.tail (by simp) rfl hq
      exact ⟨Or.inr ⟨t.text,q.1,ht,rfl,g1⟩,by simpa [scan,ht] using g2⟩
theorem Zgl (f:Nat) (k0:Nat):∀ (g:Nat) (ts:List Tok) (names:Names) (acc:List (List Sym)) q,Worded ts→(∀ l ∈ acc,IsT f l)→scan acc.flatten k0=some names.length→Zci f g ts names acc=some q →
  (∀ l ∈ q.1,IsT f l)∧scan q.1.flatten k0=some q.2.2.length∧Worded q.2.1:=by
 intro g
 induction g with
 | zero=>intro ts names acc q _ _ _ h; simp [Zci] at h
 | succ g ih =>
  intro ts names acc q hw ha hs h
  rw [Zci] at h
  cases hq:Zce f ts names with
  | none=>rw [hq] at h; simp at h
  | some r =>
   rw [hq] at h
   simp only at h
   obtain ⟨i1,i2⟩:=Zlz f ts names r hw hq
   obtain ⟨n,_,_,hn,_⟩:=Zfu f ts names r hq
   have hw1:Worded r.2.1:=by rw [hn]; exact hw.drop n
   have ha1:∀ l ∈ acc++[r.1],IsT f l:=by
    intro l hl
    simp at hl
    rcases hl with hl | rfl
    ·exact ha l hl
    ·exact i1
   have hs1:scan (acc++[r.1]).flatten k0=some r.2.2.length:=by
    simp only [List.flatten_append,List.flatten_cons,List.flatten_nil,Qs]
    rw [Ziu,hs]
    exact i2
   cases hr:r.2.1 with
   | nil=>rw [hr] at h; simp at h
   | cons x rest =>
    rw [hr] at h hw1
    simp only at h
    split at h
    ·simp at h; subst h
     exact ⟨ha1,hs1,hw1.tail⟩
    ·exact ih rest r.2.2 (acc++[r.1]) q hw1.tail ha1 hs1 h
def Good (c:Cls):Prop:=IsT 1000 c.head∧(∀ l ∈ c.body,IsT 1000 l)∧∃ k1 k2,scan c.head 0=some k1∧scan c.body.flatten k1=some k2
theorem Zma (ts:List Tok) (c:Cls × List Tok) (hw:Worded ts) (h:Zcs ts=some c):Good c.1∧Worded c.2:=by
 rw [Zcs] at h
 cases hp:Zce 1000 ts [] with
 | none=>rw [hp] at h; simp at h
 | some r =>
  rw [hp] at h
  simp only at h
  obtain ⟨i1,i2⟩:=Zlz 1000 ts [] r hw hp
  obtain ⟨n,_,_,hn,_⟩:=Zfu 1000 ts [] r hp
  have hw1:Worded r.2.1:=by rw [hn]; exact hw.drop n
  cases hr:r.2.1 with
  | nil=>rw [hr] at h; simp at h
  | cons y ys =>
   rw [hr] at h hw1
   simp only at h
   split at h
   ·rw [Option.map_eq_some_iff] at h
    obtain ⟨q,hq,rfl⟩:=h
    obtain ⟨g1,g2,g3⟩:=Zgl 1000 r.2.2.length 1000 ys r.2.2 [] q hw1.tail (by simp) rfl hq
    exact ⟨⟨i1,g1,_,_,i2,g2⟩,g3⟩
   ·simp at h
    subst h
    exact ⟨⟨i1,by simp,_,_,i2,rfl⟩,hw1.tail⟩
theorem Zqo:∀ (g:Nat) (ts:List Tok) (acc cs:List Cls),Worded ts→(∀ c ∈ acc,Good c)→Zee g ts acc=some cs→∀ c ∈ cs,Good c:=by
 intro g
 induction g with
 | zero=>intro ts acc cs _ _ h; simp [Zee] at h
 | succ g ih =>
  intro ts acc cs hw ha h
  cases ts with
  | nil=>simp [Zee] at h
  | cons t ts =>
   rw [Zee] at h
   split at h
   ·simp at h; subst h; exact ha
   ·cases hc:Zcs (t::ts) with
    | none=>rw [hc] at h; simp at h
    | some c =>
     rw [hc] at h
     simp only at h
     obtain ⟨g1,g2⟩:=Zma _ c hw hc
     refine ih c.2 (acc++[c.1]) cs g2 ?_ h
     intro x hx
     simp at hx
     rcases hx with hx | rfl
     ·exact ha x hx
     ·exact g1
theorem Zsx (c:Cls) (h:Good c):Zig c++[10]=Zdt c:=by
 obtain ⟨h1,h2,k1,k2,h3,h4⟩:=h
 obtain ⟨w1,w2⟩:=Yag 1000 c.head h1 0 k1 h3
 have w3:=w2 [] []
 simp only [Qs,Zbq,Zbm,List.nil_append,List.range_zero] at w1 w3
 unfold Zig Zdt
 split
 ·rw [w3]; simp
 ·rw [w3,w1,Zly 1000 c.body h2 k1 k2 [] h4]; simp
theorem Zsy (cs:List Cls) (h:∀ c ∈ cs,Good c):Zgk cs=cs.flatMap Zdt:=by
 induction cs with
 | nil=>rfl
 | cons c cs ih =>
  rw [Zgk,List.flatMap_cons,← Zsx c (h c (by simp)),ih (fun x hx=>h x (by simp [hx]))]
  simp
theorem Zqp (ls:List (List Sym)) (l:List Sym) (h:l ∈ ls):l.length≤ls.flatten.length:=by
 induction ls with
 | nil=>simp at h
 | cons x ls ih =>
  simp only [Qp] at h
  rw [List.flatten_cons,Qg]
  rcases h with rfl | h
  ·omega
  ·have:=ih h; omega
theorem Ydh:∀ (f:Nat) (l:List Sym),IsT f l→∀ s ∈ l,s.args≤l.length∧(s.name=[]∨s.num=0):=by
 intro f
 induction f with
 | zero=>intro l h; exact h.elim
 | succ f ih =>
  intro l h s hs
  rcases h with ⟨n,rfl⟩ | ⟨nm,ls,h1,rfl,h2⟩
  ·simp at hs; subst hs; simp
  ·have hfl:=Zkx f ls h2
   simp only [Qp] at hs
   rcases hs with rfl | hs
   ·exact ⟨by simp only [Qf]; omega,Or.inr rfl⟩
   ·rw [List.mem_flatten] at hs
    obtain ⟨l',hl',hs⟩:=hs
    obtain ⟨a1,a2⟩:=ih l' (h2 l' hl') s hs
    have:=Zqp ls l' hl'
    exact ⟨by simp only [Qf]; omega,a2⟩
theorem Yfh (f:Nat) (l:List Sym) (k k':Nat) (h:IsT f l) (hs:scan l k=some k') (hl:l.length≤1000) (hk:k'≤2600):Zkv l:=by
 refine ⟨by omega,fun s hm => ?_⟩
 obtain ⟨a1,a2⟩:=Ydh f l h s hm
 obtain ⟨_,_,b3⟩:=Zdf l k k' hs
 refine ⟨?_,by omega⟩
 rcases a2 with a2 | a2
 ·have:=b3 s hm a2; omega
 ·omega
theorem Yai (f:Nat):∀ (ls:List (List Sym)) (k k':Nat),(∀ l ∈ ls,IsT f l)→scan ls.flatten k=some k'→ls.flatten.length≤1000→k'≤2600→∀ l ∈ ls,Zkv l:=by
 intro ls
 induction ls with
 | nil=>intro k k' _ _ _ _ l hl; simp at hl
 | cons l ls ih =>
  intro k k' hT hs hl hk x hx
  rw [List.flatten_cons] at hs hl
  rw [Qg] at hl
  obtain ⟨j,h1,h2⟩:=Zox hs
  obtain ⟨b1,_,_⟩:=Zdf _ _ _ h2
  simp only [Qp] at hx
  rcases hx with rfl | hx
  ·exact Yfh f x k j (hT x (by simp)) h1 (by omega) (by omega)
  ·exact ih j k' (fun y hy=>hT y (by simp [hy])) h2 (by omega) hk x hx
def topN (q:List (List Sym) × Names):ND:=⟨q.1.map (fun t=>(t,0)),(List.range q.2.length).map vr,[],[],q.2.length⟩
def meet (n:Nat) (met:List Nat):List Nat:=if met.idxOf n=met.length then met++[n] else met
def Zav:List Sym→List Nat→List Sym × List Nat
 | [],met=>([],met)
 | s::r,met=>if s.name=[] then (⟨[],met.idxOf s.num,s.args⟩::(Zav r (meet s.num met)).1,(Zav r (meet s.num met)).2) else (s::(Zav r met).1,(Zav r met).2)
def Zay:List (List Sym)→List Nat→List (List Sym) × List Nat
 | [],met=>([],met)
 | t::ts,met=>((Zav t met).1::(Zay ts (Zav t met).2).1,(Zay ts (Zav t met).2).2)
theorem Zjh (a b:List Sym) (met:List Nat):Zav (a++b) met=((Zav a met).1++(Zav b (Zav a met).2).1,(Zav b (Zav a met).2).2):=by
 induction a generalizing met with
 | nil=>rfl
 | cons s a ih=>simp only [List.cons_append,Zav,ih]; split <;> rfl
theorem Zoy (a b:List (List Sym)) (met:List Nat):Zay (a++b) met=((Zay a met).1++(Zay b (Zay a met).2).1,(Zay b (Zay a met).2).2):=by
 induction a generalizing met with
 | nil=>rfl
 | cons s a ih=>simp only [List.cons_append,Zay,ih]
theorem Zfc (ts:List (List Sym)) (met:List Nat):(Zay ts met).1.length=ts.length:=by
 induction ts generalizing met with
 | nil=>rfl
 | cons t ts ih=>simp [Zay,ih]
theorem Zji (l:List Sym) (met:List Nat):(Zav l met).1.length=l.length:=by
 induction l generalizing met with
 | nil=>rfl
 | cons s l ih=>simp only [Zav]; split <;> simp [ih]
theorem Zqq {f:Nat→Nat} {met:List Nat} {n:Nat} (h:∀ m ∈ met,f m=f n→m=n):(met.map f).idxOf (f n)=met.idxOf n:=by
 induction met with
 | nil=>rfl
 | cons m met ih =>
  simp only [List.map_cons,List.idxOf_cons]
  by_cases e:m=n
  ·subst e; simp
  ·have e':¬ f m=f n:=fun h'=>e (h m (by simp) h')
   have b1:(f m == f n)=false:=by rw [Qu]; exact e'
   have b2:(m == n)=false:=by rw [Qu]; exact e
   rw [b1,b2]
   simp only [cond_false]
   rw [ih (fun x hx=>h x (by simp [hx]))]
theorem Ydi {f:Nat→Nat} {met:List Nat} {n:Nat} (h:∀ m ∈ met,f m=f n→m=n):meet (f n) (met.map f)=(meet n met).map f:=by
 unfold meet
 rw [Zqq h]
 simp only [Ql]
 split <;> simp
theorem Zuw {n m:Nat} {met:List Nat} (h:m ∈ meet n met):m ∈ met∨m=n:=by
 unfold meet at h
 split at h
 ·simpa using h
 ·exact Or.inl h
theorem Zwv {l:List Sym} {met:List Nat} {m:Nat} (h:m ∈ (Zav l met).2):m ∈ met∨Occ m l:=by
 induction l generalizing met with
 | nil=>exact Or.inl h
 | cons s l ih =>
  simp only [Zav] at h
  split at h
  ·rename_i hs
   rcases ih h with h | h
   ·rcases Zuw h with h | rfl
    ·exact Or.inl h
    ·exact Or.inr ⟨s,by simp,hs,rfl⟩
   ·obtain ⟨t,ht,h1,h2⟩:=h
    exact Or.inr ⟨t,by simp [ht],h1,h2⟩
  ·rcases ih h with h | h
   ·exact Or.inl h
   ·obtain ⟨t,ht,h1,h2⟩:=h
    exact Or.inr ⟨t,by simp [ht],h1,h2⟩
theorem Zww {f:Nat→Nat} {V:Nat→Prop} (hf:∀ a b,V a→V b→f a=f b→a=b):∀ {l:List Sym} {met:List Nat},(∀ s ∈ l,s.name=[]→s.args=0)→(∀ m ∈ met,V m)→(∀ v,Occ v l→V v) →
  Zav (l.map (ren f)) (met.map f)=((Zav l met).1,(Zav l met).2.map f):=by
 intro l
 induction l with
 | nil=>intro met _ _ _; rfl
 | cons s l ih =>
  intro met ha hm hv
  have hv':∀ v,Occ v l→V v:=fun v ⟨t,ht,h1,h2⟩=>hv v ⟨t,by simp [ht],h1,h2⟩
  have ha':∀ s ∈ l,s.name=[]→s.args=0:=fun t ht=>ha t (by simp [ht])
  by_cases hs:s.name=[]
  ·have hV:V s.num:=hv s.num ⟨s,by simp,hs,rfl⟩
   have e:ren f s=⟨[],f s.num,0⟩:=by simp [ren,hs]
   have hi:∀ m ∈ met,f m=f s.num→m=s.num:=fun m hm' h=>hf m s.num (hm m hm') hV h
   simp only [List.map_cons,Zav,e,hs,if_true]
   rw [Zqq hi,Ydi hi,ih ha' (fun m h=>by
    rcases Zuw h with h | rfl
    ·exact hm m h
    ·exact hV) hv',ha s (by simp) hs]
  ·have e:ren f s=s:=by simp [ren,hs]
   simp only [List.map_cons,Zav,e,hs,if_false]
   rw [ih ha' hm hv']
theorem Zwx {f:Nat→Nat} {V:Nat→Prop} (hf:∀ a b,V a→V b→f a=f b→a=b):∀ {ts:List (List Sym)} {met:List Nat},(∀ t ∈ ts,∀ s ∈ t,s.name=[]→s.args=0)→(∀ m ∈ met,V m)→(∀ t ∈ ts,∀ v,Occ v t→V v) →
  Zay (ts.map (List.map (ren f))) (met.map f)=((Zay ts met).1,(Zay ts met).2.map f):=by
 intro ts
 induction ts with
 | nil=>intro met _ _ _; rfl
 | cons t ts ih =>
  intro met ha hm hv
  simp only [List.map_cons,Zay]
  rw [Zww hf (ha t (by simp)) hm (hv t (by simp))]
  simp only
  rw [ih (fun t h=>ha t (by simp [h])) (fun m h=>by
   rcases Zwv h with h | h
   ·exact hm m h
   ·exact hv t (by simp) m h) (fun t h=>hv t (by simp [h]))]
theorem Zsz:∀ {l:List Sym} {k:Nat},Wf k l→∀ s ∈ l,s.name=[]→s.args=0:=by
 intro l
 induction l with
 | nil=>intro k _ s hs; simp at hs
 | cons t l ih =>
  intro k h s hs
  obtain ⟨_,h1,_,h2⟩:=h
  rcases Qp.1 hs with rfl | hs
  ·exact h1
  ·exact ih h2 s hs
theorem Zqr {xs ys:List (List Sym)} (h:Alike xs ys) (hw:∀ x ∈ xs,Wf 1 x):(Zay ys []).1=(Zay xs []).1:=by
 obtain ⟨f,g,e,hg⟩:=h.ren
 have:=Zwx (f:=f) (V:=fun v=>∃ x ∈ xs,Occ v x) (fun a b ⟨x,hx,ha⟩ ⟨y,hy,hb⟩ e=>by rw [← hg x hx a ha,← hg y hy b hb,e]) (ts:=xs) (met:=[]) (fun t ht=>Zsz (hw t ht)) (by simp) (fun t ht v hv=>⟨t,ht,hv⟩)
 simp only [List.map_nil] at this
 rw [← e] at this
 rw [this]
theorem Inst.part {a b a' b':List (List Sym)} (h:Inst (a++b) (a'++b')) (hl:a.length=a'.length):Inst a a'∧Inst b b':=by
 obtain ⟨τ,ht,e⟩:=h
 obtain ⟨e1,e2⟩:=Zqh e hl.symm
 exact ⟨⟨τ,ht,e1⟩,τ,ht,e2⟩
theorem Alike.part {a b a' b':List (List Sym)} (h:Alike (a++b) (a'++b')) (hl:a.length=a'.length):Alike a a'∧Alike b b' :=
 ⟨⟨(h.1.part hl).1,(h.2.part hl.symm).1⟩,(h.1.part hl).2,(h.2.part hl.symm).2⟩
theorem Same.vals {n m:ND} (h:Same n m):Alike n.vals m.vals:=by
 have:=(h.al.part (by simp [h.gl])).2
 exact (this.part h.vl).1
theorem Same.valsC {n m:ND} (h:Same n m) (hn:NOk n):(Zay n.vals []).1=(Zay m.vals []).1 :=
 (Zqr h.vals (fun x hx=>hn.wf x (by simp [ND.terms,hx]))).symm
theorem Zwy (n:Nat) (seen:List Nat):wvar n seen=(Zdy (seen.idxOf n),meet n seen):=by
 unfold wvar meet
 by_cases h:n ∈ seen
 ·have:=List.idxOf_lt_length_of_mem h
  rw [if_pos h,if_neg (by omega)]
 ·have e:seen.idxOf n=seen.length:=List.idxOf_eq_length h
  rw [if_neg h,if_pos e,e]
theorem Zwz (f:Nat) (IH:∀ l,IsT f l→∀ seen,(Zcf f l seen).2.1=(Zav l seen).2∧∀ rest miss,Zbm ((Zav l seen).1++rest) miss=(Zcf f l seen).1++((Zbq miss).1++Zbm rest (Zbq miss).2)) :
  ∀ (ls:List (List Sym)),ls≠[]→(∀ l ∈ ls,IsT f l)→∀ (seen:List Nat) (sep:UInt8),(Zev f sep ls seen).2=(Zav ls.flatten seen).2 ∧
   ∀ rest miss,sep::Zbm ((Zav ls.flatten seen).1++rest) (ls.length::miss)=(Zev f sep ls seen).1++(41::((Zbq miss).1++Zbm rest (Zbq miss).2)):=by
 intro ls
 induction ls with
 | nil=>intro h; exact absurd rfl h
 | cons l ls ih =>
  intro _ hls seen sep
  rw [List.flatten_cons,Zjh]
  obtain ⟨w1,w2⟩:=IH l (hls l (by simp)) seen
  cases ls with
  | nil =>
   simp only [List.flatten_nil,Zav,Zev,w1,Qs]
   refine ⟨trivial,fun rest miss => ?_⟩
   rw [w2]
   simp [Zbq]
  | cons l2 ls2 =>
   obtain ⟨v1,v2⟩:=ih (by simp) (fun x hx=>hls x (by simp [hx])) (Zav l seen).2 44
   have hk:Zev f sep (l::l2::ls2) seen=(sep::((Zcf f l seen).1++(Zev f 44 (l2::ls2) (Zav l seen).2).1),(Zev f 44 (l2::ls2) (Zav l seen).2).2):=by
    rw [Zev,w1]
   rw [hk]
   refine ⟨v1,fun rest miss => ?_⟩
   simp only [Qi]
   rw [w2]
   have hc:Zbq ((l::l2::ls2).length::miss)=([44],(l2::ls2).length::miss):=by simp [Zbq]
   rw [hc]
   have:=v2 rest miss
   simp only [List.cons_append,List.nil_append,Qi]
   rw [this]
theorem Zqs:∀ (f:Nat) (l:List Sym),IsT f l→∀ seen,(Zcf f l seen).2.1=(Zav l seen).2∧∀ rest miss,Zbm ((Zav l seen).1++rest) miss=(Zcf f l seen).1++((Zbq miss).1++Zbm rest (Zbq miss).2):=by
 intro f
 induction f with
 | zero=>intro l h; exact h.elim
 | succ f ih =>
  intro l h seen
  rcases h with ⟨n,rfl⟩ | ⟨nm,ls,h1,rfl,h2⟩
  ·simp [Zcf,Zwy,Zav,Zbm,symC]
  ·have hc:Zav (⟨nm,0,ls.length⟩::ls.flatten) seen=(⟨nm,0,ls.length⟩::(Zav ls.flatten seen).1,(Zav ls.flatten seen).2):=by
    simp [Zav,h1]
   rw [hc]
   cases hls:ls with
   | nil=>simp [Zcf,Zbm,symC,h1,Zav]
   | cons l0 ls0 =>
    rw [← hls]
    have hne:ls≠[]:=by rw [hls]; simp
    have hw:=Zjw f nm ls h1 h2 hne seen
    obtain ⟨v1,v2⟩:=Zwz f ih ls hne h2 seen 40
    rw [hw]
    refine ⟨v1,fun rest miss => ?_⟩
    have hpos:0<ls.length:=by rw [hls]; simp
    have:=v2 rest miss
    simp only [List.cons_append,Zbm,hpos,if_true,symC,h1,if_false,Qi]
    rw [this]
    simp
theorem Zta {f:Nat} {l:List Sym} (h:IsT f l) (seen:List Nat):(Zcf f l seen).1=Zbm (Zav l seen).1 []∧(Zcf f l seen).2.1=(Zav l seen).2:=by
 obtain ⟨h1,h2⟩:=Zqs f l h seen
 have:=h2 [] []
 simp only [Qs,Zbq,Zbm] at this
 exact ⟨this.symm,h1⟩
theorem Yhn:∀ (n:Nat) {l:List Sym},l.length≤n→Wf 1 l→IsT n l:=by
 intro n
 induction n with
 | zero=>intro l hl h; have:=Zeg h; omega
 | succ n ih =>
  intro l hl h
  obtain ⟨s,r,rfl,hr,hv⟩:=Zun h
  by_cases hs:s.name=[]
  ·exact Or.inl ⟨s.num,hv hs⟩
  ·obtain ⟨_,_,h3,_⟩:=h
   obtain ⟨ls,e1,rfl,hls⟩:=Zqe _ hr
   refine Or.inr ⟨s.name,ls,hs,?_,fun l' hl' => ?_⟩
   ·rw [e1,← h3 hs]
   ·have:=Zck hl'
    simp only [Qf] at hl
    exact ih (by omega) (hls l' hl')
def Zcp (s:ByteArray):Option (List Cls) :=
 if 800<s.size then none else if (Zdz (Zal s) (Zbu false)).1≠0 then none else Zee 1000 (Zal s) []
def Zeb (s:ByteArray):Option (List (List Sym) × Names) :=
 if 120<s.size then none else if (Zdz (Zal s) (Zbu true)).1≠0 then none else (Zci 1000 1000 (Zal s) [] []).map (fun q=>(q.1,q.2.2))
def Zih:List UInt8→Names→List (List Sym)→List UInt8
 | sep,x::xs,t::ts=>sep++(x++(61::(Zbm t []++Zih [44] xs ts)))
 | _,_,_=>[]
def Zgv (names:Names) (n:ND):List UInt8:=if names=[] then [121,101,115] else Zih [] names (Zay n.vals []).1
def Zfq:List UInt8→List Nat→List UInt8
 | _,[]=>[]
 | sep,k::ks=>sep++(Lib.decDigits k++Zfq [46] ks)
def Zla (n:ND):List UInt8:=Zfq [] n.used
end Go.Proofs.YtlmjilpjmgjjcaaDoor
