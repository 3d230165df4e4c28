/-
  PROVED HERE: what the reference's 'Try' makes of a node that lies in memory, said of the node but for what variables are called (the conditions stand in each statement).
-/
import Derived.Test.YtlmjilpjmgjjcaaGreatDoorT10
import Derived.Deep.CutRange
set_option linter.unusedSimpArgs false
set_option linter.unusedVariables false
set_option maxRecDepth 10000
set_option maxHeartbeats 4000000
namespace Go.Proofs.YtlmjilpjmgjjcaaGreatDoor
open Go.RowKit
theorem Znn {k V:Nat} {l:List Sym} (hw:Wf k l) (hl:l.length≤1000) (ho:∀ v,Occ v l→v<V) (hV:V≤200000):TmOk l :=
 ⟨⟨k,hw⟩,hl,fun s hs=>by
  obtain ⟨i,hi⟩:=List.mem_iff_getElem?.1 hs
  by_cases hn:s.name=[]
  ·have:=ho s.num ⟨s,hs,hn,rfl⟩
   omega
  ·rw [(Zjk hw hi).2 hn]; omega⟩
theorem TmOk.rn {l:List Sym} {v:Nat} {k:Nat} (hw:Wf k l) (hl:l.length≤1000) {V:Nat} (ho:∀ u,Occ u l→u<V) (hV:V+v≤200000):TmOk (l.map (YtlmjilpjmgjjcaaGreatDoor.rn v)):=by
 rw [← Zlu hw]
 have hlen:(ap (Zbr v) l).length=l.length:=by rw [Zlu hw]; simp
 exact Znn (Znk (Zpm v) hw) (by omega) (V:=V+v) (fun u hu=>by
  obtain ⟨x,hx,rfl⟩:=Zgq hu
  have:=ho x hx
  omega) hV
def TryOut (n:ND) (c:Cls) (k:Nat) (w:World) (e:Ending) (w':World):Prop:=Ext w w'∧∃ g1 g2 g3 v1 v2 v3 r1 r2 r3,∃ uu q:Nat,e = .returned (.tuple #[.agg #[.slice g1 g2 g3,.slice v1 v2 v3,.slice r1 r2 r3,.int .i64 uu],.int .i64 q]) ∧
 ((q=0∧(n.goals=[]∨Out n c k 0 n))∨(q=2∧∃ ch,Out n c k 3 ch)∨(q=1∧∃ ch qq,(qq=1∨qq=2)∧Out n c k qq ch∧NodeNew w.heap.size w' (.slice g1 g2 g3) (.slice v1 v2 v3) (.slice r1 r2 r3) ch∧uu=ch.vars∧g2=ch.goals.length))
theorem Zhe (σ:Nat→List Sym) (n:ND) (c:Cls) (hc:COk c) (k:Nat) (g:List Sym × Nat) (gs:List (List Sym × Nat)):(Zaq σ n c k g gs).goals.map (·.1)=((c.body.map (fun l=>l.map (rn n.vars))++gs.map (·.1))).map (ap σ):=by
 unfold Zaq
 simp only
 rw [Zpn,Qr,List.map_map]
 congr 2
 refine List.map_congr_left (fun l hl => ?_)
 exact Zlu (hc.wfb l hl)
theorem Zkt (σ:Nat→List Sym) (n:ND) (c:Cls) (k:Nat) (g:List Sym × Nat) (gs:List (List Sym × Nat)):(Zaq σ n c k g gs).done.map (·.1)=(n.done.map (·.1)++[g.1]).map (ap σ):=by
 unfold Zaq
 simp only
 rw [Zpn,Qr]
 rfl
theorem Ycc {n:ND} (hn:NOk n) {c:Cls} (hc:COk c) (k:Nat) {g:List Sym × Nat} {gs:List (List Sym × Nat)} (hg:n.goals=g::gs) {σ:Nat→List Sym} (h1:Mgu σ g.1 (ap (Zbr n.vars) c.head)) {l:List Sym} (hl:l ∈ (c.body.map (fun l=>l.map (rn n.vars))++gs.map (·.1))++(n.vals++(n.done.map (·.1)++[g.1]))) (hb:30<(ap σ l).length):Zcw (Zaq σ n c k g gs)=3:=by
 refine Classical.byContradiction (fun hne => ?_)
 have hok:=Zpo hn hc k hg h1 hne
 have hle:(ap σ l).length≤30:=by
  rcases Qk.1 hl with hl | hl
  ·have:ap σ l ∈ (Zaq σ n c k g gs).goals.map (·.1):=by rw [Zhe σ n c hc]; exact List.mem_map.2 ⟨l,hl,rfl⟩
   obtain ⟨x,hx,e⟩:=List.mem_map.1 this
   rw [← e]; exact (hok.gs x hx).1
  ·rcases Qk.1 hl with hl | hl
   ·exact hok.vsize (t:=ap σ l) (List.mem_map.2 ⟨l,hl,rfl⟩)
   ·have:ap σ l ∈ (Zaq σ n c k g gs).done.map (·.1):=by rw [Zkt]; exact List.mem_map.2 ⟨l,hl,rfl⟩
    obtain ⟨x,hx,e⟩:=List.mem_map.1 this
    rw [← e]; exact (hok.ds x hx).1
 omega
theorem Zyt {n:ND} {c:Cls} (k:Nat) {g:List Sym × Nat} {gs:List (List Sym × Nat)} {σ:Nat→List Sym} (h:40<c.body.length+gs.length∨100<n.used.length+1):Zcw (Zaq σ n c k g gs)=3:=by
 have:Ziz (Zaq σ n c k g gs)=true:=by
  unfold Ziz Zaq carr
  simp only [Bool.or_eq_true,decide_eq_true_eq,Ql,Qg,Qf,Qt]
  omega
 unfold Zcw
 rw [if_pos this]
theorem Zuh {n:ND} {c:Cls} (hc:COk c) (k:Nat) {g:List Sym × Nat} {gs:List (List Sym × Nat)} {σ:Nat→List Sym} (h1:¬ 40<c.body.length+gs.length) (h2:¬ 100<n.used.length+1) (h:∀ l ∈ (c.body.map (fun l=>l.map (rn n.vars))++gs.map (·.1))++(n.vals++(n.done.map (·.1)++[g.1])),(ap σ l).length≤30):Zcw (Zaq σ n c k g gs)=1∨Zcw (Zaq σ n c k g gs)=2:=by
 have:Ziz (Zaq σ n c k g gs)=false:=by
  have hg:∀ x ∈ (Zaq σ n c k g gs).goals,¬ bigG x=true:=fun x hx=>by
   have:x.1 ∈ (Zaq σ n c k g gs).goals.map (·.1):=List.mem_map.2 ⟨x,hx,rfl⟩
   rw [Zhe σ n c hc] at this
   obtain ⟨l,hl,e⟩:=List.mem_map.1 this
   have:=h l (List.mem_append_left _ hl)
   unfold bigG
   rw [← e]
   simpa using this
  have hd:∀ x ∈ (Zaq σ n c k g gs).done,¬ bigG x=true:=fun x hx=>by
   have:x.1 ∈ (Zaq σ n c k g gs).done.map (·.1):=List.mem_map.2 ⟨x,hx,rfl⟩
   rw [Zkt] at this
   obtain ⟨l,hl,e⟩:=List.mem_map.1 this
   have:=h l (List.mem_append_right _ (List.mem_append_right _ hl))
   unfold bigG
   rw [← e]
   simpa using this
  unfold Ziz
  simp only [Bool.or_eq_false_iff,decide_eq_false_iff_not]
  refine ⟨⟨⟨?_,?_⟩,List.any_eq_false.2 hg⟩,List.any_eq_false.2 hd⟩
  ·unfold Zaq carr; simp; omega
  ·unfold Zaq carr; simp; omega
 unfold Zcw
 rw [this]
 simp only [Bool.false_eq_true,if_false]
 split
 ·exact Or.inr rfl
 ·exact Or.inl rfl
theorem Yeq (w:World) (gv vv rv hv bv nv:Value) (n:ND) (c:Cls) (k:Nat) (hn:NOk n) (hc:COk c) (h:NodeIn w gv vv rv n) (hcl:ClsIn w hv bv nv c) :
  Calls Tryz.prog 97 #[.agg #[gv,vv,rv,.int .i64 n.vars],.agg #[hv,bv,nv]] w (TryOut n c k w):=by
 obtain ⟨ga,gcap,rfl⟩:=h.goals.shape
 obtain ⟨va,vcap,rfl⟩:=h.vals.shape
 obtain ⟨ra,rcap,rfl⟩:=h.done.shape
 obtain ⟨ha,hcap,rfl⟩:=Zad hcl.head
 obtain ⟨ba,bcap,rfl⟩:=hcl.body.shape
 obtain ⟨na,ncap,rfl⟩:=Zad hcl.names
 have hgl:(n.goals.map (·.1)).length=n.goals.length:=by simp
 have hdl:(n.done.map (·.1)).length=n.done.length:=by simp
 rw [hgl,hdl] at h ⊢
 have hV:n.vars≤101000:=by have:=hn.vars; have:=hn.ul; omega
 have hcn:c.names.length≤1000:=hc.n
 have hg40:=hn.gl
 have hd100:n.done.length≤100:=by rw [hn.dl]; exact hn.ul
 have hb6:=hc.bn
 obtain ⟨W,hW⟩:∃ W,W=((w.alloc (.cells #[.slice ga n.goals.length gcap,.slice va n.vals.length vcap,.slice ra n.done.length rcap,.int .i64 n.vars] 87)).alloc (.cells #[.slice ha c.head.length hcap,.slice ba c.body.length bcap,.slice na c.names.length ncap] 107)).alloc (.cells #[.slice none 0 0,.slice none 0 0,.slice none 0 0,.int .i64 0] 87):=⟨_,rfl⟩
 have hE0:Ext w W:=by rw [hW]; exact (Ext.of (by repeat' (first | with_reducible(first|exact Qx _ _|apply Kept.drew|apply Kept.drewN|apply Qz|refine Qy ?_ ?_ _)|exact fun h=>absurd h (by simp <;> omega))))
 have hWs:W.heap.size=w.heap.size+3:=by rw [hW]; simp
 have hb0:NB W w.heap.size (.slice ga n.goals.length gcap) (.slice va n.vals.length vcap) (.slice ra n.done.length rcap) n.vars:=by rw [hW]; exact Zag (Zag (heap_alloc_new w _) _) _
 have hb1:W.heap[w.heap.size+1]?=some (.cells #[.slice ha c.head.length hcap,.slice ba c.body.length bcap,.slice na c.names.length ncap] 107 (0,0)):=by rw [hW]; exact Zag (Zfj (by simp) _) _
 have hb2:NB W (w.heap.size+2) (.slice none 0 0) (.slice none 0 0) (.slice none 0 0) 0:=by rw [hW]; exact Zfj (by simp) _
 have HB:Hid (∀ y,Ext W y→y.cell? ⟨w.heap.size,0,none⟩=some (.slice ga n.goals.length gcap)∧y.cell? ⟨w.heap.size,1,none⟩=some (.slice va n.vals.length vcap)∧y.cell? ⟨w.heap.size,2,none⟩=some (.slice ra n.done.length rcap)∧y.cell? ⟨w.heap.size,3,none⟩=some (.int .i64 n.vars) ∧
   y.cell? ⟨w.heap.size+1,0,none⟩=some (.slice ha c.head.length hcap)∧y.cell? ⟨w.heap.size+1,1,none⟩=some (.slice ba c.body.length bcap)∧y.cell? ⟨w.heap.size+1,2,none⟩=some (.slice na c.names.length ncap)∧NB y (w.heap.size+2) (.slice none 0 0) (.slice none 0 0) (.slice none 0 0) 0∧w.heap.size+2<y.heap.size):=fun y hE=>by
  have e0:=(hE.block _ (Zac hb0)).trans hb0
  have e1:=(hE.block _ (Zac hb1)).trans hb1
  have e2:=(hE.block _ (Zac hb2)).trans hb2
  exact ⟨Zab e0 0 _ rfl,Zab e0 1 _ rfl,Zab e0 2 _ rfl,Zab e0 3 _ rfl,Zab e1 0 _ rfl,Zab e1 1 _ rfl,Zab e1 2 _ rfl,e2,Zac e2⟩
 have hset:Hid (∀ y x0 x1 x2 x3,Ext w y→Ext w ((((y.setCell ⟨w.heap.size+2,0,none⟩ x0).setCell ⟨w.heap.size+2,1,none⟩ x1).setCell ⟨w.heap.size+2,2,none⟩ x2).setCell ⟨w.heap.size+2,3,none⟩ x3)):=fun y x0 x1 x2 x3 hE =>
  (((hE.setCell (p:=⟨w.heap.size+2,0,none⟩) (by simp) _).setCell (p:=⟨w.heap.size+2,1,none⟩) (by simp) _).setCell (p:=⟨w.heap.size+2,2,none⟩) (by simp) _).setCell (p:=⟨w.heap.size+2,3,none⟩) (by simp) _
 have hhead:TmOk (c.head.map (rn n.vars)):=TmOk.rn hc.wfh (by have:=hc.hl; omega) hc.och (by have:=hc.n; omega)
 have hheadl:(c.head.map (rn n.vars)).length=c.head.length:=by simp
 have hhl:=hc.hl
 have HR:=Zaa (Zic W (.slice ha c.head.length hcap) c.head n.vars (WordAt.ext hcl.head hE0) (by omega) (fun s hs=>(Znn hc.wfh (by omega) hc.och (by have:=hc.n; omega)).num s hs) (by omega))
 obtain ⟨HD,hHD⟩:∃ l,l=c.head.map (rn n.vars):=⟨_,rfl⟩
 have HHD:Hid (HD=ap (Zbr n.vars) c.head):=by show _=_; rw [hHD]; exact (Zlu hc.wfh).symm
 rw [← hHD] at HR hheadl hhead
 have H:=Zaa h
 have Hcl:=Zaa hcl
 have Hn:=Zaa hn
 have Hc:=Zaa hc
 have HE0:=Zaa hE0
 have Hhead:=Zaa hhead
 have Hhl:=Zaa hheadl
 have HW:=Zaa hW
 clear h hcl hE0 hb0 hb1 hb2 hhead hHD hgl hdl hn hc hheadl
 cases hgo:n.goals with
 | nil =>
  have Hgo:=Zaa hgo
  rw [hgo] at HB
  obtain ⟨c0,c1,c2,c3,c4,c5,c6,c7,c8⟩:=HB.out W (Below.refl _ _)
  have r0:=Zab c7 0 _ rfl
  have r1:=Zab c7 1 _ rfl
  have r2:=Zab c7 2 _ rfl
  have r3:=Zab c7 3 _ rfl
  have rf:=fun i=>Zae c7 i
  rw [hgo] at hW
  clear hgo c7 hg40
  go_enter Tryz.func97,Tryz.ntmps97
  go_wp2_with fail
  rw [Qt] at hW
  rw [← hW]
  refine bodyPost_ret (v := .tuple #[.agg #[.slice none 0 0,.slice none 0 0,.slice none 0 0,.int .i64 0],.int .i64 0]) (by simp [results,Tryz.results97,go_sem,r0,r1,r2,r3,rf,c8]) rfl ?_
  exact ⟨HE0.out,none,0,0,none,0,0,none,0,0,0,0,rfl,Or.inl ⟨rfl,Or.inl Hgo.out⟩⟩
 | cons g gs =>
  have hgn:n.goals.length=gs.length+1:=by rw [hgo]; simp
  have z1:((n.goals.length:Int) == 0)=false:=by rw [Qu]; omega
  obtain ⟨us,hT⟩:=H.out.goals
  obtain ⟨x,hx,hxo⟩:=hT.all 0 g.1 (by rw [hgo]; rfl)
  obtain ⟨xa,xcap,rfl⟩:=Zad hxo
  obtain ⟨gb,cap',cur,he,_,hgb,_⟩:=Zan hT.owns (by simp; omega)
  simp only [Value.slice.injEq] at he
  obtain ⟨rfl,_,rfl⟩:=he
  have hgw:=Zac hgb
  have x0:w.cell? ⟨gb,0,none⟩=some (.slice xa g.1.length xcap):=Zaf (by have:=hT.owns; rw [Ql] at this; exact this) _ _ hx
  have hgt:g.1 ∈ n.terms:=by unfold ND.terms; rw [hgo]; simp
  have hgW:=Hn.out.wf g.1 hgt
  have hg30:=(Hn.out.gs g (by rw [hgo]; simp)).1
  have hgO:=(Znn hgW (by omega) (Hn.out.occ g.1 hgt) (by omega)).num
  have hHW:Wf 1 HD:=by rw [HHD.out]; exact Znk (Zpm _) Hc.out.wfh
  have hHl:=Hhl.out
  have HWd:Hid (∀ y hx hc,Ext w y→WordAt y (.slice hx HD.length hc) HD→Calls Tryz.prog 127 #[.slice xa g.1.length xcap,.slice hx HD.length hc] y (Zuf g.1 HD y)):=fun y hx hc hE hr =>
   Zyr y _ _ g.1 HD (WordAt.ext hxo hE) hr hgW hHW (by omega) (by omega) (fun s hs=>by
    rcases Qk.1 hs with hs | hs
    ·exact hgO s hs
    ·exact Hhead.out.num s hs)
  have Hgo:=Zaa hgo
  have Hgn:=Zaa hgn
  have Hg30:=Zaa hg30
  clear hT hx hxo hgb hgt hgW hgO hHW hHl hgo hgn hg30
  obtain ⟨gl,hgl⟩:∃ m,m=n.goals.length:=⟨_,rfl⟩
  rw [← hgl] at HB hW z1 hg40
  rw [show (g::gs).length=gl from by rw [hgl,Hgn.out]; rfl]
  have hgp:0<gl:=by rw [hgl,Hgn.out]; omega
  have Hgl:=Zaa hgl
  clear hgl
  go_enter Tryz.func97,Tryz.ntmps97
  go_wp2_with fail
  rw [← hW]
  refine HR.out.mono ?_
  rintro e w1 ⟨hv1,B1,rfl,hB1,hr1,hE1⟩
  obtain ⟨h1a,h1c,rfl⟩:=Zad hr1
  obtain ⟨c0,c1,c2,c3,c4,c5,c6,c7,c8⟩:=HB.out w1 hE1
  have hEw1:Ext w w1:=HE0.out.trans (hE1.mono (by omega))
  have hz1:=hE1.size
  have x1:w1.cell? ⟨gb,0,none⟩=some (.slice xa g.1.length xcap):=(hEw1.cell (p:=⟨gb,0,none⟩) hgw).trans x0
  have hgw1:gb<w1.heap.size:=by omega
  have HWd1:=Zaa (HWd.out w1 h1a h1c hEw1 (Zbb hr1 (Qm _)))
  have HE1:=Zaa hE1
  have HEw1:=Zaa hEw1
  clear hr1 hE1 hEw1 HR x0 HWd hW
  go_wp2_with fail
  refine HWd1.out.mono ?_
  rintro e w2 ⟨hE2,sx,sn,sc,q,rfl,hout⟩
  obtain ⟨c0,c1,c2,c3,c4,c5,c6,c7,c8⟩:=HB.out w2 (HE1.out.trans (hE2.mono hz1))
  have hz2:=hE2.size
  have r0:=Zab c7 0 _ rfl
  have r1:=Zab c7 1 _ rfl
  have r2:=Zab c7 2 _ rfl
  have r3:=Zab c7 3 _ rfl
  have rf:=fun i=>Zae c7 i
  have hEw2:Ext w w2:=HEw1.out.trans (hE2.mono (by omega))
  have k0:w.heap.size<w2.heap.size:=by omega
  have k1:w.heap.size+1<w2.heap.size:=by omega
  have HE2:=Zaa hE2
  have HEw2:=Zaa hEw2
  have Hc7:=Zaa c7
  clear hE2 hEw2 x1 HWd1 c7
  rcases hout with ⟨rfl,hno⟩ | ⟨rfl,hva⟩ | ⟨rfl,ts,tvs,hts,hmg,hsm,htl,ht30⟩
  ·have Hno:Hid (Out n c k 0 n):=⟨g,gs,Hgo.out,Or.inl ⟨rfl,by rw [← HHD.out]; exact hno⟩⟩
   clear hno
   go_wp2
   refine bodyPost_ret (v := .tuple #[.agg #[.slice none 0 0,.slice none 0 0,.slice none 0 0,.int .i64 0],.int .i64 0]) (by simp [results,Tryz.results97,go_sem,r0,r1,r2,r3,rf,c8]) rfl ?_
   refine ⟨(hset.out w2 (.slice none 0 0) (.slice none 0 0) (.slice none 0 0) (.int .i64 0) HEw2.out).alloc (by simp; omega) _,none,0,0,none,0,0,none,0,0,0,0,rfl,Or.inl ⟨rfl,Or.inr Hno.out⟩⟩
  ·have Hva:Hid (∃ ch,Out n c k 3 ch):=⟨n,g,gs,Hgo.out,Or.inr (Or.inl ⟨rfl,by rw [← HHD.out]; exact hva⟩)⟩
   clear hva
   go_wp2
   refine bodyPost_ret (v := .tuple #[.agg #[.slice none 0 0,.slice none 0 0,.slice none 0 0,.int .i64 0],.int .i64 2]) (by simp [results,Tryz.results97,go_sem,r0,r1,r2,r3,rf,c8]) rfl ?_
   refine ⟨(hset.out w2 (.slice none 0 0) (.slice none 0 0) (.slice none 0 0) (.int .i64 0) HEw2.out).alloc (by simp; omega) _,none,0,0,none,0,0,none,0,0,0,2,rfl,Or.inr (Or.inl ⟨rfl,Hva.out⟩)⟩
  ·rw [HHD.out] at hmg
   have Hmg:=Zaa hmg
   have Hts:=Zaa hts
   have Ht30:=Zaa ht30
   have Hsm:=Zaa hsm
   clear hmg hts ht30 hsm
   by_cases hmany:40<c.body.length+gs.length∨100<n.used.length+1
   ·have Hk:Hid (∃ ch,Out n c k 3 ch):=⟨_,g,gs,Hgo.out,Or.inr (Or.inr ⟨sbOf ts,Hmg.out,Hsm.out,(Zyt k hmany).symm,rfl⟩)⟩
    have hgl':gl=gs.length+1:=by rw [Hgl.out,Hgn.out]
    have hdu:=Hn.out.dl
    by_cases h40:40<c.body.length+gs.length
    ·have hi:(40:Int)<(c.body.length:Int)+(gl:Int) - 1:=by omega
     clear hmany h40 hgl' hdu
     go_wp2
     refine bodyPost_ret (v := .tuple #[.agg #[.slice none 0 0,.slice none 0 0,.slice none 0 0,.int .i64 0],.int .i64 2]) (by simp [results,Tryz.results97,go_sem,r0,r1,r2,r3,rf,c8]) rfl ?_
     exact ⟨(hset.out w2 (.slice none 0 0) (.slice none 0 0) (.slice none 0 0) (.int .i64 0) HEw2.out).alloc (by simp; omega) _,none,0,0,none,0,0,none,0,0,0,2,rfl,Or.inr (Or.inl ⟨rfl,Hk.out⟩)⟩
    ·have hi:¬ ((40:Int)<(c.body.length:Int)+(gl:Int) - 1):=by omega
     have hi2:(100:Int)<(n.done.length:Int)+1:=by omega
     clear hmany h40 hgl' hdu
     go_wp2
     refine bodyPost_ret (v := .tuple #[.agg #[.slice none 0 0,.slice none 0 0,.slice none 0 0,.int .i64 0],.int .i64 2]) (by simp [results,Tryz.results97,go_sem,r0,r1,r2,r3,rf,c8]) rfl ?_
     exact ⟨(hset.out w2 (.slice none 0 0) (.slice none 0 0) (.slice none 0 0) (.int .i64 0) HEw2.out).alloc (by simp; omega) _,none,0,0,none,0,0,none,0,0,0,2,rfl,Or.inr (Or.inl ⟨rfl,Hk.out⟩)⟩
   ·have hgl':gl=gs.length+1:=by rw [Hgl.out,Hgn.out]
    have hdu:=Hn.out.dl
    have hi:¬ ((40:Int)<(c.body.length:Int)+(gl:Int) - 1):=by omega
    have hi2:¬ ((100:Int)<(n.done.length:Int)+1):=by omega
    have hm1:¬ 40<c.body.length+gs.length:=fun h=>hmany (Or.inl h)
    have hm2:¬ 100<n.used.length+1:=fun h=>hmany (Or.inr h)
    obtain ⟨sl,hsl⟩:∃ m,m=sn:=⟨_,rfl⟩
    have hN:NodeIn w (.slice (some ⟨gb,0,none⟩) gl gcap) (.slice va n.vals.length vcap) (.slice ra n.done.length rcap) n:=by rw [Hgl.out]; exact H.out
    have hE3:Ext w (w2.alloc (.cells #[.slice sx sn sc] 216)):=HEw2.out.alloc (by omega) _
    have hg3:=(hN.ext hE3).goals
    rw [Hgo.out,List.map_cons] at hg3
    have HBd:=Zaa (Zsj (w2.alloc (.cells #[.slice sx sn sc] 216)) (.slice (some ⟨gb,0,none⟩) gl gcap) (.slice va n.vals.length vcap) (.slice ra n.done.length rcap) (.slice ha c.head.length hcap) (.slice ba c.body.length bcap) (.slice na c.names.length ncap) g.1 (gs.map (·.1)) n.vals (n.done.map (·.1)) c.body c.names n.vars
     hg3 (hN.ext hE3).vals (hN.ext hE3).done ⟨_,_,_,rfl⟩ (Hcl.out.ext hE3).body (Hcl.out.ext hE3).names (by simp; omega) (by simp; omega) (by omega) (by omega) (by omega) (fun l hl=>Znn (Hc.out.wfb l hl) (by have:=Hc.out.bl l hl; omega) (Hc.out.ocb l hl) (by have:=Hc.out.n; omega)))
    have HN:=Zaa hN
    have HE3:=Zaa hE3
    clear hgl' hdu hmany hsl hN hE3 hg3
    go_wp2_with fail
    refine HBd.out.mono ?_
    rintro e w4 ⟨hE4,b1,b2,d1,d2,rfl,hbg,hbr⟩
    obtain ⟨G2,hG2⟩:∃ l,l=c.body.map (fun l=>l.map (rn n.vars))++gs.map (·.1):=⟨_,rfl⟩
    obtain ⟨R2,hR2⟩:∃ l,l=n.done.map (·.1)++[g.1]:=⟨_,rfl⟩
    rw [← hG2] at hbg ⊢
    rw [← hR2] at hbr ⊢
    have hG2l:G2.length≤1000:=by rw [hG2]; simp; omega
    have hR2l:R2.length≤1000:=by rw [hR2]; simp; omega
    have hok:∀ l ∈ G2++(n.vals++R2),TmOk l:=fun l hl=>by
     rcases Qk.1 hl with hl | hl
     ·rw [hG2] at hl
      rcases Qk.1 hl with hl | hl
      ·obtain ⟨m,hm,rfl⟩:=List.mem_map.1 hl
       exact TmOk.rn (Hc.out.wfb m hm) (by have:=Hc.out.bl m hm; omega) (Hc.out.ocb m hm) (by have:=Hc.out.n; omega)
      ·obtain ⟨m,hm,rfl⟩:=List.mem_map.1 hl
       have hmt:m.1 ∈ n.terms:=by unfold ND.terms; rw [Hgo.out]; exact List.mem_append_left _ (List.mem_map.2 ⟨m,by simp [hm],rfl⟩)
       exact Znn (Hn.out.wf _ hmt) (by have:=(Hn.out.gs m (by rw [Hgo.out]; simp [hm])).1; omega) (Hn.out.occ _ hmt) (by omega)
     ·rcases Qk.1 hl with hl | hl
      ·have hmt:l ∈ n.terms:=by unfold ND.terms; simp [hl]
       exact Znn (Hn.out.wf _ hmt) (by have:=Hn.out.vsize hl; omega) (Hn.out.occ _ hmt) (by omega)
      ·rw [hR2] at hl
       rcases Qk.1 hl with hl | hl
       ·obtain ⟨m,hm,rfl⟩:=List.mem_map.1 hl
        have hmt:m.1 ∈ n.terms:=by unfold ND.terms; exact List.mem_append_right _ (List.mem_append_right _ (List.mem_map.2 ⟨m,hm,rfl⟩))
        exact Znn (Hn.out.wf _ hmt) (by have:=(Hn.out.ds m hm).1; omega) (Hn.out.occ _ hmt) (by omega)
       ·simp at hl
        subst hl
        have hmt:g.1 ∈ n.terms:=by unfold ND.terms; rw [Hgo.out]; simp
        exact Znn (Hn.out.wf _ hmt) (by have:=Hg30.out; omega) (Hn.out.occ _ hmt) (by omega)
    have hz4:=hE4.size
    have hz4:w2.heap.size+1≤w4.heap.size:=by simpa using hz4
    have hsb:w4.heap[w2.heap.size]?=some (.cells #[.slice sx sn sc] 216 (0,0)):=(hE4.block _ (by simp)).trans (heap_alloc_new w2 _)
    have sb0:=Zab hsb 0 _ rfl
    have hE24:Ext w2 w4:=(show Ext w2 (w2.alloc (.cells #[.slice sx sn sc] 216)) from (Ext.of (by repeat' (first | with_reducible(first|exact Qx _ _|apply Kept.drew|apply Kept.drewN|apply Qz|refine Qy ?_ ?_ _)|exact fun h=>absurd h (by simp <;> omega))))).trans (hE4.mono (by simp))
    have hEw4:Ext w w4:=HEw2.out.trans (hE24.mono (by omega))
    have c74:NB w4 (w.heap.size+2) (.slice none 0 0) (.slice none 0 0) (.slice none 0 0) 0:=(hE24.block _ c8).trans Hc7.out
    have hE45:∀ o,Ext w4 (w4.alloc o):=fun o=>(Ext.of (by repeat' (first | with_reducible(first|exact Qx _ _|apply Kept.drew|apply Kept.drewN|apply Qz|refine Qy ?_ ?_ _)|exact fun h=>absurd h (by simp <;> omega))))
    have HWt:Hid (∀ o,Calls Tryz.prog 129 #[.agg #[.slice b1 G2.length b2,.slice va n.vals.length vcap,.slice d1 R2.length d2,.int .i64 ((n.vars+c.names.length:Nat):Int)],.agg #[.slice sx sn sc]] (w4.alloc o) (Ybz ts G2 n.vals R2 (n.vars+c.names.length) (w4.alloc o))):=fun o =>
     Zqh (w4.alloc o) (.slice sx sn sc) _ _ _ ts G2 n.vals R2 tvs (n.vars+c.names.length) ((Hts.out.ext hE24).ext (hE45 o)) (hbg.ext (hE45 o)) ((HN.out.vals.ext hEw4).ext (hE45 o)) (hbr.ext (hE45 o)) htl Ht30.out (by omega) (by have:=Hn.out.vl; omega) (by omega) hok (by omega)
    have HEw4:=Zaa hEw4
    have Hc74:=Zaa c74
    have HG2:=Zaa hG2
    have HR2:=Zaa hR2
    have k4:w.heap.size+2<w4.heap.size:=by omega
    have k5:w2.heap.size<w4.heap.size:=by omega
    clear hE4 hbg hbr hok hsb hE24 hEw4 c74 hE45 hG2 hR2 HBd
    go_wp2_with fail
    refine (HWt.out _).mono ?_
    rintro e w6 ⟨hE6,hout⟩
    have hz6:=hE6.size
    have hz6:w4.heap.size+1≤w6.heap.size:=by simpa using hz6
    have hE46:Ext w4 w6:=(Below.refl _ w4 |>.alloc (Qe _) _).trans (hE6.mono (by simp))
    have hEw6:Ext w w6:=HEw4.out.trans (hE46.mono (by omega))
    have c76:NB w6 (w.heap.size+2) (.slice none 0 0) (.slice none 0 0) (.slice none 0 0) 0:=(hE46.block _ k4).trans Hc74.out
    have r0:=Zab c76 0 _ rfl
    have r1:=Zab c76 1 _ rfl
    have r2:=Zab c76 2 _ rfl
    have r3:=Zab c76 3 _ rfl
    have rf:=fun i=>Zae c76 i
    have k6:w.heap.size+2<w6.heap.size:=by omega
    have HEw6:=Zaa hEw6
    have Hc76:=Zaa c76
    clear hE6 hE46 hEw6 c76 HWt
    rcases hout with ⟨hsmall,g1,g2,g3,v1,v2,v3,q1,q2,q3,rfl,t1,t2,t3⟩ | ⟨⟨l,hl,hbig⟩,rfl⟩
    ·have hkind:=Zuh (k:=k) (g:=g) (gs:=gs) Hc.out (σ:=sbOf ts) hm1 hm2 (by rw [← HG2.out,← HR2.out]; exact hsmall)
     have hK2:∀ x0 x1 x2 x3,Kept (fun j=>j=w.heap.size+2) w6 ((((w6.setCell ⟨w.heap.size+2,0,none⟩ x0).setCell ⟨w.heap.size+2,1,none⟩ x1).setCell ⟨w.heap.size+2,2,none⟩ x2).setCell ⟨w.heap.size+2,3,none⟩ x3):=fun x0 x1 x2 x3=>((((Qx (only (w.heap.size+2)) w6).put 0 _).put 1 _).put 2 _).put 3 _
     have hout:TryOut n c k w (.returned (.tuple #[.agg #[.slice g1 g2 g3,.slice v1 v2 v3,.slice q1 q2 q3,.int .i64 ((n.vars+c.names.length:Nat):Int)],.int .i64 1])) ((((w6.setCell ⟨w.heap.size+2,0,none⟩ (.slice g1 g2 g3)).setCell ⟨w.heap.size+2,1,none⟩ (.slice v1 v2 v3)).setCell ⟨w.heap.size+2,2,none⟩ (.slice q1 q2 q3)).setCell ⟨w.heap.size+2,3,none⟩ (.int .i64 ((n.vars+c.names.length:Nat):Int))):=by
      refine ⟨hset.out w6 _ _ _ _ HEw6.out,g1,g2,g3,v1,v2,v3,q1,q2,q3,n.vars+c.names.length,1,rfl,Or.inr (Or.inr ⟨rfl,Zaq (sbOf ts) n c k g gs,Zcw (Zaq (sbOf ts) n c k g gs),hkind,⟨g,gs,Hgo.out,Or.inr (Or.inr ⟨sbOf ts,Hmg.out,Hsm.out,rfl,rfl⟩)⟩,⟨?_,?_,?_⟩,rfl,?_⟩)⟩
      ·rw [Zhe _ _ _ Hc.out,← HG2.out]; exact (t1.box Hc76.out (by decide) (by decide) (hK2 _ _ _ _)).mono (by simp; omega)
      ·exact (t2.box Hc76.out (by decide) (by decide) (hK2 _ _ _ _)).mono (by simp; omega)
      ·rw [Zkt,← HR2.out]; exact (t3.box Hc76.out (by decide) (by decide) (hK2 _ _ _ _)).mono (by simp; omega)
      ·obtain ⟨za,zc,ze⟩:=t1.inn.shape
       simp only [Value.slice.injEq] at ze
       rw [ze.2.1,HG2.out,← Zhe (sbOf ts) n c Hc.out k g gs,Ql]
     have Hout:=Zaa hout
     clear hout hsmall hkind hK2 t1 t2 t3
     go_wp2
     refine bodyPost_ret (v := .tuple #[.agg #[.slice g1 g2 g3,.slice v1 v2 v3,.slice q1 q2 q3,.int .i64 ((n.vars+c.names.length:Nat):Int)],.int .i64 1]) (by simp [results,Tryz.results97,go_sem,r0,r1,r2,r3,rf,k6]) rfl ?_
     exact Hout.out
    ·have Hk:Hid (∃ ch,Out n c k 3 ch):=⟨_,g,gs,Hgo.out,Or.inr (Or.inr ⟨sbOf ts,Hmg.out,Hsm.out,(Ycc Hn.out Hc.out k Hgo.out Hmg.out (by rw [← HG2.out,← HR2.out]; exact hl) hbig).symm,rfl⟩)⟩
     clear hl hbig
     go_wp2
     refine bodyPost_ret (v := .tuple #[.agg #[.slice none 0 0,.slice none 0 0,.slice none 0 0,.int .i64 0],.int .i64 2]) (by simp [results,Tryz.results97,go_sem,r0,r1,r2,r3,rf,k6]) rfl ?_
     exact ⟨hset.out w6 _ _ _ _ HEw6.out,none,0,0,none,0,0,none,0,0,0,2,rfl,Or.inr (Or.inl ⟨rfl,Hk.out⟩)⟩
def Zku:ByteArray:=⟨#[48,49,50,51,52,53,54,55,56,57]⟩
theorem Zio (c:UInt8):inB c Zku=figB c:=by
 have:=Zeg (p:=fun c=>inB c Zku == figB c) (by decide +kernel) c
 simpa using this
theorem Zex {c:UInt8} (h:figB c=true):48≤c.toNat∧c.toNat≤57:=by simpa [figB] using h
theorem Zlf (s:ByteArray) (p:Nat) (h:¬ p<s.size):Zao (s.data.toList.drop p)=(0,0):=by rw [Zfp s p h]; rfl
theorem Zmv (s:ByteArray) (p:Nat) (h:p<s.size) (hf:figB s[p]=false):Zao (s.data.toList.drop p)=(0,0):=by
 rw [Zcu s p h]; simp [Zao,hf]
theorem Zlg (s:ByteArray) (p:Nat) (h:p<s.size) (hf:figB s[p]=true) (h0:s[p].toNat - 48=0):Zao (s.data.toList.drop p)=(s[p].toNat - 48,1):=by
 have:=Zex hf
 rw [Zcu s p h]; simp [Zao,hf,show s[p].toNat=48 by omega]
theorem Zmw (s:ByteArray) (p:Nat) (h:p<s.size) (hf:figB s[p]=true) (h1:¬ p+1<s.size):Zao (s.data.toList.drop p)=(s[p].toNat - 48,1):=by
 rw [Zcu s p h,Zfp s (p+1) h1]
 simp only [Zao,hf,if_true]
 split
 ·rename_i h0; rw [h0]
 ·rfl
theorem Zlh (s:ByteArray) (p:Nat) (h:p<s.size) (hf:figB s[p]=true) (h1:p+1<s.size) (hf1:figB s[p+1]=false):Zao (s.data.toList.drop p)=(s[p].toNat - 48,1):=by
 rw [Zcu s p h,Zcu s (p+1) h1]
 simp only [Zao,hf,hf1,if_true]
 split
 ·rename_i h0; rw [h0]
 ·simp
theorem Zmx (s:ByteArray) (p:Nat) (h:p<s.size) (hf:figB s[p]=true) (h0:¬ s[p].toNat - 48=0) (h1:p+1<s.size) (hf1:figB s[p+1]=true):Zao (s.data.toList.drop p)=(10 * (s[p].toNat - 48)+(s[p+1].toNat - 48),2):=by
 rw [Zcu s p h,Zcu s (p+1) h1]
 simp only [Zao,hf,hf1,if_true]
 rw [if_neg (by omega)]
theorem Zjo (s:ByteArray) (p:Nat) (w:World) (hs:s.size≤100000) (hp:p≤100001) :
  Calls Tryz.prog 151 #[.string s,.int .i64 p] w fun e w'=>e = .returned (.tuple #[.int .i64 (Zao (s.data.toList.drop p)).1,.int .i64 (Zao (s.data.toList.drop p)).2])∧w'=w:=by
 obtain ⟨r,hr⟩:∃ r,r=Zao (s.data.toList.drop p):=⟨_,rfl⟩
 rw [← hr]
 have Hr:=Zaa hr
 clear hr
 go_enter Tryz.func151,Tryz.ntmps151
 go_wp2
 go_loopg [6,7] 4 (fun gk nv zv wr=>∃ (m c:Nat),nv = .int .i64 m∧zv = .int .i64 c∧c≤2∧2 - c<gk∧wr=w ∧
  ((c=0∧m=0)∨(c=1∧∃ h:p<s.size,figB s[p]=true∧m=s[p].toNat - 48)∨(c=2∧r=(m,2))))
 case atStart=>exact ⟨0,0,by go_num,by go_num,by omega,by omega,rfl,Or.inl ⟨rfl,rfl⟩⟩
 case round =>
  obtain ⟨m,c,rfl,rfl,hc,hgk,rfl,h⟩:=hrel
  rcases h with ⟨rfl,rfl⟩ | ⟨rfl,hlt,hf,hm⟩ | ⟨rfl,hr⟩
  ·by_cases hlt:p<s.size
   ·cases hf:figB s[p] with
    | false =>
     have HI:Hid _:=Zaa (Zct s[p] Zku wr (by decide))
     have hv:=HI.out
     rw [Zio,hf] at hv
     have HV:=Zaa hv
     have Hrr:Hid (r=(0,0)):=Hr.out.trans (Zmv s p hlt hf)
     clear hv HI hf
     go_wp2_with (go_at_call 175; refine HV.out.mono ?_; rintro e w' ⟨rfl,rfl⟩)
     go_ret2
     rw [Hrr.out]
     exact ⟨rfl,rfl⟩
    | true =>
     have hv:=Zct s[p] Zku wr (by decide)
     rw [Zio,hf] at hv
     have HV:=Zaa hv
     obtain ⟨f1,f2⟩:=Zex hf
     have Hf:=Zaa hf
     clear hv hf
     go_wp2_with (go_at_call 175; refine HV.out.mono ?_; rintro e w' ⟨rfl,rfl⟩)
     go_roundg 2
     case measure=>omega
     case rel=>exact ⟨s[p].toNat - 48,1,by simp; omega,by go_num,by omega,by omega,rfl,Or.inr (Or.inl ⟨rfl,hlt,Hf.out,rfl⟩)⟩
   ·have Hrr:Hid (r=(0,0)):=Hr.out.trans (Zlf s p hlt)
    go_wp2
    go_ret2
    rw [Hrr.out]
    exact ⟨rfl,rfl⟩
  ·obtain ⟨f1,f2⟩:=Zex hf
   by_cases hlt1:p+1<s.size
   ·cases hf1:figB s[p+1] with
    | false =>
     have hv:=Zct s[p+1] Zku wr (by decide)
     rw [Zio,hf1] at hv
     have HV:=Zaa hv
     have Hrr:Hid (r=(m,1)):=by show _=_; rw [Hr.out,Zlh s p hlt hf hlt1 hf1,hm]
     clear hv hf1 hm hf
     go_wp2_with (go_at_call 175; refine HV.out.mono ?_; rintro e w' ⟨rfl,rfl⟩)
     go_ret2
     rw [Hrr.out]
     exact ⟨rfl,rfl⟩
    | true =>
     have hv:=Zct s[p+1] Zku wr (by decide)
     rw [Zio,hf1] at hv
     have HV:=Zaa hv
     obtain ⟨f3,f4⟩:=Zex hf1
     by_cases h0:m=0
     ·have Hrr:Hid (r=(m,1)):=by show _=_; rw [Hr.out,Zlg s p hlt hf (by omega),hm]
      subst h0
      clear hv hf1 hm hf
      go_wp2_with (go_at_call 175; refine HV.out.mono ?_; rintro e w' ⟨rfl,rfl⟩)
      go_ret2
      rw [Hrr.out]
      exact ⟨rfl,rfl⟩
     ·have Hrr:Hid (r=(10 * m+(s[p+1].toNat - 48),2)):=by show _=_; rw [Hr.out,Zmx s p hlt hf (by omega) hlt1 hf1,hm]
      have hmi:((m:Int) == 0)=false:=by rw [Qu]; omega
      have hm9:m≤9:=by omega
      clear hv hf1 hm hf
      go_wp2_with (go_at_call 175; refine HV.out.mono ?_; rintro e w' ⟨rfl,rfl⟩)
      go_roundg 1
      case measure=>omega
      case rel=>exact ⟨10 * m+(s[p+1].toNat - 48),2,by simp; omega,by go_num,by omega,by omega,rfl,Or.inr (Or.inr ⟨rfl,Hrr.out⟩)⟩
   ·have Hrr:Hid (r=(m,1)):=by show _=_; rw [Hr.out,Zmw s p hlt hf hlt1,hm]
    clear hf hm
    go_wp2
    go_ret2
    rw [Hrr.out]
    exact ⟨rfl,rfl⟩
  ·have Hrr:=Zaa hr
   clear hr
   by_cases hlt2:p+2<s.size
   ·go_wp2
    go_ret2
    rw [Hrr.out]
    exact ⟨rfl,rfl⟩
   ·go_wp2
    go_ret2
    rw [Hrr.out]
    exact ⟨rfl,rfl⟩
def Zkv (s:ByteArray) (p:Nat):Bool:=if h:p<s.size then figB s[p] else false
theorem Zwd {s:ByteArray} {p:Nat} (h:Zkv s p=true):∃ h:p<s.size,figB s[p]=true:=by
 unfold Zkv at h
 split at h
 ·rename_i h1; exact ⟨h1,h⟩
 ·simp at h
theorem Ycd (s:ByteArray) (p:Nat) (w:World) (hs:s.size≤100000) (hp:p≤100001) :
  Calls Tryz.prog 126 #[.string s,.int .i64 p] w fun e w'=>e = .returned (.bool (Zkv s p))∧w'=w:=by
 have h0:(0:Int)≤(p:Int):=by omega
 by_cases hlt:p<s.size
 ·have hlt':(p:Int)<(s.size:Int):=by omega
  cases hf:figB s[p] with
  | true =>
   obtain ⟨f1,f2⟩:=Zex hf
   have Hd:Hid (Zkv s p=true):=by show _=_; unfold Zkv; rw [dif_pos hlt]; exact hf
   clear hf
   go_enter Tryz.func126,Tryz.ntmps126
   go_wp2
   go_ret
   rw [Hd.out]
   exact ⟨by simp; omega,rfl⟩
  | false =>
   have Hd:Hid (Zkv s p=false):=by show _=_; unfold Zkv; rw [dif_pos hlt]; exact hf
   have hb:s[p].toNat<48∨57<s[p].toNat:=by
    simp only [figB,decide_eq_false_iff_not] at hf
    omega
   clear hf
   rcases hb with hb | hb
   ·have f1:¬ 48≤s[p].toNat:=by omega
    go_enter Tryz.func126,Tryz.ntmps126
    go_wp2
    go_ret
    rw [Hd.out]
    exact ⟨rfl,rfl⟩
   ·have f1:48≤s[p].toNat:=by omega
    have f2:¬ s[p].toNat≤57:=by omega
    go_enter Tryz.func126,Tryz.ntmps126
    go_wp2
    go_ret
    rw [Hd.out]
    exact ⟨by simp; omega,rfl⟩
 ·have hlt':¬ (p:Int)<(s.size:Int):=by omega
  have Hd:Hid (Zkv s p=false):=by show _=_; unfold Zkv; rw [dif_neg hlt]
  go_enter Tryz.func126,Tryz.ntmps126
  go_wp2
  go_ret
  rw [Hd.out]
  exact ⟨rfl,rfl⟩
theorem Ygf (s:ByteArray) (p:Nat) (w:World) (hs:s.size≤100000) (hp:p≤100000) :
  Calls Tryz.prog 96 #[.string s,.int .i64 p] w fun e w'=>e = .returned (.tuple #[.int .i64 (Zao (s.data.toList.drop p)).1,.int .i64 ((p+(Zao (s.data.toList.drop p)).2:Nat):Int)])∧w'=w:=by
 have HD:=Zaa (fun q u (hq:q≤100001)=>Ycd s q u hs hq)
 obtain ⟨r,hr⟩:∃ r,r=Zao (s.data.toList.drop p):=⟨_,rfl⟩
 rw [← hr]
 have Hr:=Zaa hr
 clear hr
 cases hd:Zkv s p with
 | false =>
  have Hrr:Hid (r=(0,0)):=by
   show _=_
   rw [Hr.out]
   by_cases hlt:p<s.size
   ·refine Zmv s p hlt ?_
    unfold Zkv at hd
    rw [dif_pos hlt] at hd
    exact hd
   ·exact Zlf s p hlt
  have H0:=HD.out p w (by omega)
  rw [hd] at H0
  have H0:=Zaa H0
  clear hd
  go_enter Tryz.func96,Tryz.ntmps96
  go_wp2_with fail
  refine H0.out.mono ?_
  rintro e w' ⟨rfl,rfl⟩
  go_wp2
  go_ret2
  rw [Hrr.out]
  exact ⟨by simp,rfl⟩
 | true =>
  obtain ⟨hlt,hf⟩:=Zwd hd
  obtain ⟨f1,f2⟩:=Zex hf
  have H0:=HD.out p w (by omega)
  rw [hd] at H0
  have H0:=Zaa H0
  have H1:=HD.out (p+1) w (by omega)
  clear hd
  by_cases h0:s[p].toNat - 48=0
  ·have Hrr:Hid (r=(0,1)):=by show _=_; rw [Hr.out,Zlg s p hlt hf h0,h0]
   have h48:s[p].toNat=48:=by omega
   clear hf H1
   go_enter Tryz.func96,Tryz.ntmps96
   go_wp2_with fail
   refine H0.out.mono ?_
   rintro e w' ⟨rfl,rfl⟩
   go_wp2
   go_ret2
   rw [Hrr.out]
   exact ⟨by simp [h48],rfl⟩
  ·cases hd1:Zkv s (p+1) with
   | false =>
    have Hrr:Hid (r=(s[p].toNat - 48,1)):=by
     show _=_
     rw [Hr.out]
     by_cases hlt1:p+1<s.size
     ·refine Zlh s p hlt hf hlt1 ?_
      unfold Zkv at hd1
      rw [dif_pos hlt1] at hd1
      exact hd1
     ·exact Zmw s p hlt hf hlt1
    rw [hd1] at H1
    have H1:=Zaa H1
    clear hf hd1
    go_enter Tryz.func96,Tryz.ntmps96
    go_wp2_with fail
    refine H0.out.mono ?_
    rintro e w' ⟨rfl,rfl⟩
    go_wp2_with fail
    refine H1.out.mono ?_
    rintro e w' ⟨rfl,rfl⟩
    go_wp2
    go_ret2
    rw [Hrr.out]
    exact ⟨by simp; omega,rfl⟩
   | true =>
    obtain ⟨hlt1,hf1⟩:=Zwd hd1
    obtain ⟨f3,f4⟩:=Zex hf1
    have Hrr:Hid (r=(10 * (s[p].toNat - 48)+(s[p+1].toNat - 48),2)):=by
     show _=_
     rw [Hr.out]
     exact Zmx s p hlt hf h0 hlt1 hf1
    rw [hd1] at H1
    have H1:=Zaa H1
    clear hf hd1 hf1
    go_enter Tryz.func96,Tryz.ntmps96
    go_wp2_with fail
    refine H0.out.mono ?_
    rintro e w' ⟨rfl,rfl⟩
    go_wp2_with fail
    refine H1.out.mono ?_
    rintro e w' ⟨rfl,rfl⟩
    go_wp2
    go_ret2
    rw [Hrr.out]
    exact ⟨by simp; omega,rfl⟩
def Zmy (n:Nat):Prop:=∀ (w:World) (X:Nat→Prop) (a b c:Value) (l:List Sym) (v:Nat),l.length≤n→l.length≤4000→Rep X w a b c l→(∀ k,X k→k<w.heap.size)→v≤1000000→(∀ s ∈ l,s.num≤1000000) →
 Calls Tryz.prog 180 #[.agg #[a,b,c],.int .i64 v] w fun e w'=>∃ a' b' c',e = .returned (.agg #[a',b',c'])∧Ext w w'∧Rep X w' a' b' c' (ap (Zbr v) l)
theorem Zui (w:World) (X:Nat→Prop) (n v:Nat) (hn:n≤1000000) (hv:v≤1000000) :
  Calls Tryz.prog 180 #[.agg #[.string ⟨#[]⟩,.int .i64 n,.slice none 0 0],.int .i64 v] w fun e w'=>∃ a' b' c',e = .returned (.agg #[a',b',c'])∧Ext w w'∧Rep X w' a' b' c' (vr (n+v)):=by
 go_enter Tryz.func180,Tryz.ntmps180
 go_wp2
 refine bodyPost_ret (v := .agg #[.string ⟨#[]⟩,.int .i64 ((n+v:Nat):Int),.slice none 0 0]) (by simp [results,Tryz.results180,go_sem]) rfl ?_
 exact ⟨_,_,_,rfl,(Ext.of (by repeat' (first | with_reducible(first|exact Qx _ _|apply Kept.drew|apply Kept.drewN|apply Qz|refine Qy ?_ ?_ _)|exact fun h=>absurd h (by simp <;> omega)))),Rep.var _ _ _⟩
theorem Zsk (n:Nat) (IH:Zmy n) (w:World) (X:Nat→Prop) (nm:List UInt8) (hnm:nm≠[]) (c:Value) (ls:List (List Sym)) (xs:List Value) (v:Nat)
  (hrow:RowT X w c ls xs) (hX:∀ k,X k→k<w.heap.size) (hn:ls.flatten.length≤n) (hbig:ls.flatten.length≤3999) (hv:v≤1000000) (hv2:∀ s ∈ ls.flatten,s.num≤1000000) :
  Calls Tryz.prog 180 #[.agg #[.string ⟨nm.toArray⟩,.int .i64 0,c],.int .i64 v] w fun e w'=>∃ a' b' c',e = .returned (.agg #[a',b',c'])∧Ext w w'∧Rep X w' a' b' c' (⟨nm,0,ls.length⟩::ap (Zbr v) ls.flatten):=by
 obtain ⟨ca,ccap,rfl⟩:=Zad hrow.1
 have hwf:=hrow.wf
 have hll:ls.length≤ls.flatten.length:=Zcp (Zdd hwf)
 have he:nm.isEmpty=false:=by simpa using hnm
 have Hrow:=Zaa hrow
 have Hih:=Zaa IH
 have HX:=Zaa hX
 clear hrow IH hX
 go_enter Tryz.func180,Tryz.ntmps180
 go_wp2
 go_loopg [6] (ls.length+1) (fun gk i wr=>∃ (k:Nat) (cv:Value) (ys:List Value),i = .int .i64 k∧k≤ls.length∧ls.length - k<gk∧Ext w wr ∧
   wr.heap[w.heap.size]?=some (.cells #[.string ⟨nm.toArray⟩,.int .i64 0,.slice ca ls.length ccap] 183 (0,0)) ∧
   wr.heap[w.heap.size+1]?=some (.cells #[.string ⟨#[]⟩,.int .i64 0,.slice none 0 0] 183 (0,0)) ∧
   wr.heap[w.heap.size+1+1]?=some (.cells #[.string ⟨nm.toArray⟩,.int .i64 0,cv] 183 (0,0)) ∧
   Acc (boxed X w.heap.size 3) wr (w.heap.size+3) cv k ((ls.take k).map (ap (Zbr v))) ys)
 case atStart =>
  refine ⟨0,.slice none 0 0,[],by go_num,Qm _,by omega,(Ext.of (by repeat' (first | with_reducible(first|exact Qx _ _|apply Kept.drew|apply Kept.drewN|apply Qz|refine Qy ?_ ?_ _)|exact fun h=>absurd h (by simp <;> omega)))),?_,?_,?_,by simpa using Acc.nil _ _ _⟩
  ·exact Zag (Zag (heap_alloc_new w _) _) _
  ·simpa using Zag (heap_alloc_new (w.alloc _) _) _
  ·simpa using heap_alloc_new ((w.alloc _).alloc _) _
 case round =>
  obtain ⟨k,cv,ys,rfl,hk,hg,hext,h0,h2,h3,hacc⟩:=hrel
  obtain ⟨cva,cvcap,rfl⟩:=Zad hacc.owns
  have hsz:=Zac h3
  obtain ⟨c0,c1,c2,cf⟩:=box3 h0
  have Hext:=Zaa hext
  have H0:=Zaa h0
  have H2:=Zaa h2
  have H3:=Zaa h3
  have Hacc:=Zaa hacc
  clear hext h0 h2 h3 hacc
  by_cases hlt:k<ls.length
  ·obtain ⟨l',hl'⟩:∃ l',ls[k]?=some l':=⟨_,Qb hlt⟩
   obtain ⟨_,_,hlf,_⟩:=Zjh hl' hwf
   obtain ⟨a',b',c',x0,x1,x2,hrep⟩:=Hrow.out.2.2 k l' hl'
   obtain ⟨s1,n1,c1a,c1l,c1c,rfl,rfl,rfl⟩:=hrep.shape
   have hrow':=Hrow.out.ext (Y:=X) Hext.out (fun _ _ h=>h)
   obtain ⟨g,cap',cur,hge,hBg,hgb,hcp⟩:=Zan hrow'.1 (by omega)
   simp only [Value.slice.injEq] at hge
   obtain ⟨rfl,_,rfl⟩:=hge
   have y0:wr.cell? ⟨g,k * 3,none⟩=some (.string s1):=Zaf hrow'.1 _ _ x0
   have y1:wr.cell? ⟨g,k * 3+1,none⟩=some (.int .i64 n1):=Zaf hrow'.1 _ _ x1
   have y2:wr.cell? ⟨g,k * 3+2,none⟩=some (.slice c1a c1l c1c):=Zaf hrow'.1 _ _ x2
   have hbl:∀ s ∈ l',s.num≤1000000:=fun s hs=>hv2 s (List.mem_flatten.2 ⟨l',Qh hl',hs⟩)
   have HI:Hid (∀ Z u,Ext wr u→(∀ k,Z k→wr.heap.size≤k∧k<u.heap.size)→Calls Tryz.prog 180 #[.agg #[.string s1,.int .i64 n1,.slice c1a c1l c1c],.int .i64 v] u fun e u' =>
     ∃ r,e = .returned r∧Ext u u'∧RT (fun j=>boxed X w.heap.size 3 j∨Zap (.slice cva k cvcap) j) (ap (Zbr v) l') Z r u'):=fun Z u hu hZ=>by
    have hwu:Ext w u:=Hext.out.trans (hu.mono Hext.out.size)
    have hz:=Zrx (X:=X) Hacc.out (fun k h=>(hZ k h).1) Hext.out.size
    refine (Hih.out u _ _ _ _ l' v (by omega) (by omega) (hrep.ext hwu hz) ?_ hv hbl).mono ?_
    ·rintro j (h | h)
     ·exact Nat.lt_of_lt_of_le (Zok Hacc.out HX.out (by omega) j h) hu.size
     ·exact (hZ j h).2
    ·rintro e u' ⟨a,b,c,rfl,he,hr⟩
     exact ⟨_,rfl,he,RT.of hr⟩
   have Htk:Hid ((ls.take (k+1)).map (ap (Zbr v))=(ls.take k).map (ap (Zbr v))++[ap (Zbr v) l']):=by
    show _=_
    rw [List.take_add_one,hl']; simp
   clear hgb hrow' hrep x0 x1 x2 hl'
   go_wp2_with fail
   refine (HI.out (fun _=>False) wr (Ext.of (by repeat' (first | with_reducible(first|exact Qx _ _|apply Kept.drew|apply Kept.drewN|apply Qz|refine Qy ?_ ?_ _)|exact fun h=>absurd h (by simp <;> omega)))) (fun _ h=>h.elim)).mono ?_
   rintro e w1 ⟨vc,rfl,hext1,s2,n2,c2a,c2l,c2c,rfl,hrep1⟩
   have h3':=(hext1.block _ hsz).trans H3.out
   have hown1:=(Kept.of_below hext1).owns Hacc.out.owns (fun k hk e=>by have:=(Hacc.out.owns.lt k hk).2; omega)
   have e2:w1.cell? ⟨w.heap.size+1+1,2,none⟩=some (.slice cva k cvcap):=Zab h3' 2 _ rfl
   have hs1:=hext1.size
   have hm1:w.heap.size+1+1<w1.heap.size:=by omega
   have Hown1:=Zaa hown1
   have Hext1:=Zaa hext1
   have Hrep1:=Zaa hrep1
   have H3':=Zaa h3'
   clear hown1 hext1 hrep1 h3'
   go_wp2_with (at_builtin; refine Zal _ rfl (.tmp 34) (.tmp 36) 146 rfl (w.heap.size+3) 183 Tryz.infoTerm Tryz.underlying146 rfl (by decide) _ k ys rfl (Hown1.out.alloc _) _ rfl (by simp) rfl Zig ?_ ?_ ?_)
   ·omega
   ·simp; omega
   intro cv' w3 hap3
   obtain ⟨c3a,c3cap,rfl⟩:=Zad hap3.owns
   have hnot:¬ Zap (.slice cva k cvcap) (w.heap.size+1+1):=fun e=>by have:=(Hown1.out.lt _ e).1; omega
   have hblk3:=(hap3.kept.block _ (by simp; omega) hnot).trans (Zag H3'.out _)
   have p2:w3.cell? ⟨w.heap.size+1+1,2,none⟩=some (.slice cva k cvcap):=Zab hblk3 2 _ rfl
   have pf:∀ i,w3.frozen? ⟨w.heap.size+1+1,i,none⟩=false:=fun i=>Zae hblk3 i
   have Hblk3:=Zaa hblk3
   have Hap3:=Zaa hap3
   clear hblk3 hap3 e2
   go_wp2
   go_roundg (ls.length - k)
   case measure=>omega
   case rel =>
    obtain ⟨hacc',hk14⟩:=Hacc.out.step (w4:=w3.setCell ⟨w.heap.size+1+1,2,none⟩ (.slice c3a (k+1) c3cap)) (Hext1.out.alloc Hext1.out.size _) ((Hrep1.out.on (fun j hj hn _=>⟨rfl,fun h=>hn (Or.inl h)⟩)).ext (Ext.of (by repeat' (first | with_reducible(first|exact Qx _ _|apply Kept.drew|apply Kept.drewN|apply Qz|refine Qy ?_ ?_ _)|exact fun h=>absurd h (by simp <;> omega)))) (fun _ _ h=>h)) Hap3.out
     (Qy (Qx _ w3) (p:=⟨w.heap.size+1+1,2,none⟩) (fun _=>Or.inr (by simp only; omega)) _) (Zdv HX.out)
    rw [← Htk.out] at hacc'
    have hkb:=Hap3.out.under (N:=w.heap.size+1+1) (Hext1.out.alloc Hext1.out.size _) (fun j e=>by have:=(Hown1.out.lt j e).1; omega) (by omega) 2 (.slice c3a (k+1) c3cap)
    exact ⟨k+1,_,_,by go_num,by omega,by omega,Hext.out.trans (hkb.mono (by omega)),(hkb.block _ (by omega)).trans H0.out,(hkb.block _ (by omega)).trans H2.out,Zai Hblk3.out 2 _,hacc'⟩
  ·have f0:wr.cell? ⟨w.heap.size+1+1,0,none⟩=some (.string ⟨nm.toArray⟩):=Zab H3.out 0 _ rfl
   have f1:wr.cell? ⟨w.heap.size+1+1,1,none⟩=some (.int .i64 0):=Zab H3.out 1 _ rfl
   have f2:wr.cell? ⟨w.heap.size+1+1,2,none⟩=some (.slice cva k cvcap):=Zab H3.out 2 _ rfl
   obtain ⟨r0,r1,r2,rf⟩:=box3 H2.out
   go_wp2
   refine bodyPost_ret (v := .agg #[.string ⟨nm.toArray⟩,.int .i64 0,.slice cva k cvcap]) (by simp [results,Tryz.results180,go_sem,r0,r1,r2,rf]) rfl ?_
   have hek:k=ls.length:=by omega
   subst hek
   have hkp:=(((Qx (only (w.heap.size+1)) wr).put 0 (.string ⟨nm.toArray⟩)).put 1 (.int .i64 0)).put 2 (.slice cva ls.length cvcap)
   refine ⟨_,_,_,rfl,Hext.out.trans (hkp.below Hext.out.size (fun j e=>by have e:j=w.heap.size+1:=e; omega)),?_⟩
   have hr:=Hacc.out.row (X:=X) (hkp.mono (fun j _ e=>Or.inr (by have e:j=w.heap.size+1:=e; omega))) (fun j h=>Or.inl h) (Zdv HX.out)
   rw [List.take_length] at hr
   have:=Rep.name hnm hr
   rw [← Zfk] at this
   simpa using this
theorem Zmz:∀ n,Zmy n:=by
 intro n
 induction n with
 | zero =>
  intro w X a b c l v hl _ h
  have:=Zcp (h.wf _ (Qe _))
  omega
 | succ n ih =>
  intro w X a b c l v hl hl4 h hX hv hb
  rcases h.out with ⟨k,rfl,rfl,rfl,rfl⟩ | ⟨nm,ls,xs,h1,rfl,rfl,rfl,h5⟩
  ·have e:ap (Zbr v) [⟨[],k,0⟩]=vr (k+v):=Zpj _ _
   rw [e]
   exact Zui w X k v (hb ⟨[],k,0⟩ (by simp)) hv
  ·have e:ap (Zbr v) (⟨nm,0,ls.length⟩::ls.flatten)=⟨nm,0,ls.length⟩::ap (Zbr v) ls.flatten:=by rw [Zca]; simp [ap1,h1]
   rw [e]
   simp only [Qf] at hl hl4
   exact Zsk n ih w X nm h1 c ls xs v h5 hX (by omega) (by omega) hv (fun s hs=>hb s (by simp [hs]))
structure GoalsIn (X:Nat→Prop) (w:World) (gs:List (List Sym × Nat)) (ys:List Value):Prop where
 len:ys.length=gs.length * 4
 all:∀ (i:Nat) (g:List Sym × Nat),gs[i]?=some g→∃ a b c,ys[i * 4]?=some a∧ys[i * 4+1]?=some b∧ys[i * 4+2]?=some c∧ys[i * 4+3]?=some (.int .i64 g.2)∧Rep X w a b c g.1
theorem GoalsIn.one {X:Nat→Prop} {w:World} {gs:List (List Sym × Nat)} {ys:List Value} (h:GoalsIn X w gs ys):∀ u ∈ ys,u.oneCell'=true:=by
 intro u hu
 obtain ⟨i,hi,rfl⟩:=List.getElem_of_mem hu
 have hl:=h.len
 have hq:i / 4<gs.length:=by omega
 obtain ⟨a,b,c,x0,x1,x2,x3,hr⟩:=h.all (i / 4) _ (Qb hq)
 obtain ⟨s,n,ca,cl,cc,rfl,rfl,rfl⟩:=hr.shape
 have hs:∀ (j:Nat) (v:Value),ys[j]?=some v→i=j→ys[i]=v:=fun j v hv e=>by subst e; exact (Qa.1 hv).2
 have hm:i % 4=0∨i % 4=1∨i % 4=2∨i % 4=3:=by omega
 rcases hm with hm | hm | hm | hm
 ·rw [hs _ _ x0 (by omega)]; rfl
 ·rw [hs _ _ x1 (by omega)]; rfl
 ·rw [hs _ _ x2 (by omega)]; rfl
 ·rw [hs _ _ x3 (by omega)]; rfl
theorem RowG.ins {X:Nat→Prop} {w:World} {B n:Nat} {cv:Value} {gs:List (List Sym × Nat)} {xs:List Value} (h:RowG X w B cv n gs xs):GoalsIn X w gs xs:=⟨by rw [h.owns.1,h.len],h.all⟩
theorem GoalsIn.tail {X:Nat→Prop} {w:World} {g:List Sym × Nat} {gs:List (List Sym × Nat)} {ys:List Value} (h:GoalsIn X w (g::gs) ys):GoalsIn X w gs (ys.drop 4):=by
 have hl:=h.len
 simp only [Qf] at hl
 refine ⟨by simp; omega,fun i g' hg => ?_⟩
 obtain ⟨a,b,c,x0,x1,x2,x3,hr⟩:=h.all (i+1) g' (by simpa using hg)
 have e:∀ j,(ys.drop 4)[i * 4+j]?=ys[(i+1) * 4+j]?:=fun j=>by
  rw [List.getElem?_drop]; congr 1; omega
 refine ⟨a,b,c,?_,?_,?_,?_,hr⟩
 ·have:=e 0; simp only [Nat.add_zero] at this; rw [this]; exact x0
 ·rw [e 1]; exact x1
 ·rw [e 2]; exact x2
 ·rw [e 3]; exact x3
theorem RowG.more {X:Nat→Prop} {w w':World} {B n m:Nat} {cv cv':Value} {gs hs:List (List Sym × Nat)} {xs ys:List Value} (h:RowG X w B cv n gs xs) (hi:GoalsIn X w hs ys) (ha:Appended w B 200 4 cv (n+m) (xs++ys) cv' w') (hm:hs.length=m) :
  RowG X w' B cv' (n+m) (gs++hs) (xs++ys):=by
 have hon:∀ {a b c:Value} {l:List Sym},Rep X w a b c l→Rep X w' a b c l:=fun hr=>hr.on (fun k hk hx ht=>by
  obtain ⟨cur,hc⟩:=ht
  exact ⟨ha.kept.block k hk (Zah h.owns (by decide) hc),hx⟩)
 have hxl:=h.owns.1
 have hL:=h.len
 refine ⟨ha.owns,by simp [hL,hm],fun i s hs' => ?_⟩
 rcases Nat.lt_or_ge i gs.length with hi' | hi'
 ·rw [Qc hi'] at hs'
  obtain ⟨a',b',c',x0,x1,x2,x3,g⟩:=h.all i s hs'
  refine ⟨a',b',c',?_,?_,?_,?_,hon g⟩
  ·rw [Qc (by omega)]; exact x0
  ·rw [Qc (by omega)]; exact x1
  ·rw [Qc (by omega)]; exact x2
  ·rw [Qc (by omega)]; exact x3
 ·rw [Qd hi'] at hs'
  obtain ⟨a',b',c',x0,x1,x2,x3,g⟩:=hi.all (i - gs.length) s hs'
  have e:∀ j,(xs++ys)[i * 4+j]?=ys[(i - gs.length) * 4+j]?:=fun j=>by
   rw [Qd (by omega)]; congr 1; omega
  refine ⟨a',b',c',?_,?_,?_,?_,hon g⟩
  ·have:=e 0; simp only [Nat.add_zero] at this; rw [this]; exact x0
  ·rw [e 1]; exact x1
  ·rw [e 2]; exact x2
  ·rw [e 3]; exact x3
theorem Zyu {X:Nat→Prop} {w:World} {B ga gcap:Nat} {g:List Sym × Nat} {gs:List (List Sym × Nat)} {xs:List Value} (h:RowG X w B (.slice (some ⟨ga,0,none⟩) (gs.length+1) gcap) (gs.length+1) (g::gs) xs) (c:Nat) :
  Zqf w 4 (.slice (some ⟨ga,4,none⟩) gs.length c) gs.length (xs.drop 4):=by
 have ht:=h.ins.tail
 refine ⟨ht.len,ht.one,Or.inr ⟨⟨ga,4,none⟩,c,rfl,fun j u hu => ?_⟩⟩
 rw [List.getElem?_drop] at hu
 have:=Zaf h.owns (4+j) u hu
 have hadd:(⟨ga,4,none⟩:Addr).add j=⟨ga,4+j,none⟩:=by unfold Addr.add; split <;> simp_all
 rw [hadd]; exact this
def Yce (v:Value):Prop:=∃ a0 l0 c0 a1 l1 c1 a2 l2 c2 a3 l3 c3,∃ v4:Int,v = .agg #[.slice a0 l0 c0,.slice a1 l1 c1,.slice a2 l2 c2,.slice a3 l3 c3,.int .i64 v4]
def Rows4 (B:Nat) (m0 m1 m2 m3:Value):Prop:=∀ k,Zap m0 k∨Zap m1 k∨Zap m2 k∨Zap m3 k→B≤k
theorem Yer (d:Nat) (h:d≤1000):IntKind.i64.wrap ((d:Int)+1)=(d:Int)+1:=by
  have e:IntKind.i64.bits=64:=rfl
  rw [IntKind.wrap]
  simp [e]
  omega
theorem FitOut.shape {X:Nat→Prop} {l m:List Sym} {w w':World} {r:Value} (h:FitOut X l m w w' r):∃ cv q,r = .tuple #[cv,.int .i64 q]:=by
  rcases h with ⟨rfl,_⟩ | ⟨rfl,_⟩ | ⟨cv,L,xs,rfl,_⟩
  · exact ⟨_,_,rfl⟩
  · exact ⟨_,_,rfl⟩
  · exact ⟨_,_,rfl⟩
set_option maxHeartbeats 8000000 in
theorem Yhp (w:World) (X:Nat→Prop) (lv gv vv dv uv:Value) (cs:List Cls) (xs:List Value) (n:ND) (k:Nat) (c:Cls) (g:List Sym × Nat) (gs:List (List Sym × Nat)) (hC:RowC X w lv cs xs) (hN:RepN X w gv vv dv uv n) (hX:∀ k,X k→k<w.heap.size)
    (hk:cs[k]?=some c) (hg:n.goals=g::gs) (hcl:cs.length≤4000) (hgl:n.goals.length≤40) (hdl:n.done.length≤100) (hul:n.used.length≤100) (hvl:n.vals.length≤1000) (hv:n.vars≤500000) (hcn:c.n≤1000)
    (hs1:∀ g ∈ n.goals,g.1.length≤30) (hs2:∀ g ∈ n.done,g.1.length≤30) (hs3:∀ t ∈ n.vals,t.length≤30) (hh:c.head.length≤30) (hb:∀ t ∈ c.body,t.length≤30) (hbl:c.body.length≤100) (hhn:∀ s ∈ c.head,s.num≤1000) (hbn:∀ t ∈ c.body,∀ s ∈ t,s.num≤1000) (hdp:∀ g ∈ n.goals,g.2≤1000) :
    Calls Tryz.prog 147 #[lv,.agg #[gv,vv,dv,uv,.int .i64 n.vars],.int .i64 k] w fun e w'=>∃ (m0 m1 m2 m3 m4:Value) (q:Nat),e = .returned (.tuple #[.agg #[m0,m1,m2,m3,m4],.int .i64 q])∧Yce (.agg #[m0,m1,m2,m3,m4])∧Ext w w' ∧
      ((q=0∧NoFit g.1 (ap (Zbr n.vars) c.head))∨(q=3∧Vast g.1 (ap (Zbr n.vars) c.head)) ∨
       (∃ σ,Mgu σ g.1 (ap (Zbr n.vars) c.head)∧(ap σ g.1).length≤30∧q=Zcw (Zaq σ n c k g gs)∧m4 = .int .i64 (n.vars+c.n:Nat)∧RepN X w' m0 m1 m2 m3 (Zaq σ n c k g gs)∧Rows4 w.heap.size m0 m1 m2 m3)):=by
  obtain ⟨gx,h1⟩:=hN.goals
  obtain ⟨vx,h2⟩:=hN.vals
  obtain ⟨dx,h3⟩:=hN.done
  have h4:=hN.used
  rw [hg] at h1
  obtain ⟨ga,gcap,gcur,rfl,hgB,hgblk,hgc⟩:=Zan h1.owns (by simp)
  obtain ⟨va,vcap,rfl⟩:=Zad h2.1
  obtain ⟨da,dcap,rfl⟩:=Zad h3.owns
  obtain ⟨ua,ucap,rfl⟩:=Zad h4
  have hkl:=(Qa.1 hk).1
  obtain ⟨la,lcap,lcur,rfl,hlB,hlblk,hlc⟩:=Zan hC.owns (by omega)
  obtain ⟨a,b,d,bv,ys,x0,x1,x2,x3,x4,hhd,hbd⟩:=hC.all k c hk
  obtain ⟨sh,nh,cha,chl,chc,rfl,rfl,rfl⟩:=hhd.shape
  obtain ⟨ba,bcap,rfl⟩:=Zad hbd.1
  have y0:w.cell? ⟨la,k * 5,none⟩=some (.string sh):=Zaf hC.owns _ _ x0
  have y1:w.cell? ⟨la,k * 5+1,none⟩=some (.int .i64 nh):=Zaf hC.owns _ _ x1
  have y2:w.cell? ⟨la,k * 5+2,none⟩=some (.slice cha chl chc):=Zaf hC.owns _ _ x2
  have y3:w.cell? ⟨la,k * 5+3,none⟩=some (.slice ba c.body.length bcap):=Zaf hC.owns _ _ x3
  have y4:w.cell? ⟨la,k * 5+4,none⟩=some (.int .i64 c.n):=Zaf hC.owns _ _ x4
  have hla:=Zac hlblk
  have Hhd:=Zaa hhd
  have Hbd:=Zaa hbd
  have H1:=Zaa h1
  have H2:=Zaa h2
  have H3:=Zaa h3
  have H4:=Zaa h4
  have HX:=Zaa hX
  have Hg:=Zaa hg
  have Hs1:=Zaa hs1
  have Hs2:=Zaa hs2
  have Hs3:=Zaa hs3
  have Hb:=Zaa hb
  have Hhn:=Zaa hhn
  have Hbn:=Zaa hbn
  have Hdp:=Zaa hdp
  clear hC hN hk hg hhd hbd h1 h2 h3 h4 hX hs1 hs2 hs3 hb hhn hbn hdp x0 x1 x2 x3 x4 hlblk hgblk
  simp only [Qf] at hgc ⊢
  go_enter Tryz.func147,Tryz.ntmps147
  go_wp2_with fail
  obtain ⟨W0,hW0⟩:∃ W0,W0=(((w.alloc (.cells #[.slice (some ⟨ga,0,none⟩) (gs.length+1) gcap,.slice va n.vals.length vcap,.slice da n.done.length dcap,.slice ua n.used.length ucap,.int .i64 n.vars] 152)).alloc (.cells #[.slice none 0 0,.slice none 0 0,.slice none 0 0,.slice none 0 0,.int .i64 0] 152)).alloc
    (.cells #[.string sh,.int .i64 nh,.slice cha chl chc,.slice ba c.body.length bcap,.int .i64 c.n] 185)):=⟨_,rfl⟩
  have hE0:Ext w W0:=by rw [hW0]; exact (Ext.of (by repeat' (first | with_reducible(first|exact Qx _ _|apply Kept.drew|apply Kept.drewN|apply Qz|refine Qy ?_ ?_ _)|exact fun h=>absurd h (by simp <;> omega))))
  have hs0:W0.heap.size=w.heap.size+3:=by rw [hW0]; simp
  have hbn0:W0.heap[w.heap.size]?=some (.cells #[.slice (some ⟨ga,0,none⟩) (gs.length+1) gcap,.slice va n.vals.length vcap,.slice da n.done.length dcap,.slice ua n.used.length ucap,.int .i64 n.vars] 152 (0,0)):=by
    rw [hW0]; exact Zag (Zag (heap_alloc_new w _) _) _
  have hbr0:W0.heap[w.heap.size+1]?=some (.cells #[.slice none 0 0,.slice none 0 0,.slice none 0 0,.slice none 0 0,.int .i64 0] 152 (0,0)):=by
    rw [hW0]; simpa using Zag (heap_alloc_new (w.alloc _) _) _
  have hbc0:W0.heap[w.heap.size+1+1]?=some (.cells #[.string sh,.int .i64 nh,.slice cha chl chc,.slice ba c.body.length bcap,.int .i64 c.n] 185 (0,0)):=by
    rw [hW0]; simpa using heap_alloc_new ((w.alloc _).alloc _) _
  rw [← hW0]
  have HE0:=Zaa hE0
  have Hbn0:=Zaa hbn0
  have Hbr0:=Zaa hbr0
  have Hbc0:=Zaa hbc0
  clear hW0 hE0 hbn0 hbr0 hbc0
  refine (Zmz c.head.length W0 X _ _ _ c.head n.vars (Qe _) (by omega) (Hhd.out.ext HE0.out (fun _ _ h=>h)) (fun k h=>by have:=HX.out k h; omega) (by omega) (fun s h=>by have:=Hhn.out s h; omega)).mono ?_
  rintro e w1 ⟨a1,b1,c1,rfl,hext1,hrep1⟩
  obtain ⟨s1,n1,c1a,c1l,c1c,rfl,rfl,rfl⟩:=hrep1.shape
  have hs1:=hext1.size
  have hE1:Ext w w1:=HE0.out.trans (hext1.mono (by omega))
  obtain ⟨p0,p1,p2,p3,p4,pf⟩:=box5 ((hext1.block _ (by omega)).trans Hbn0.out)
  have hrow1:=H1.out.ext (Y:=X) (B':=0) hE1 (fun _ _ h=>h) (Qe _)
  obtain ⟨ag,bg,cg,gx0,gx1,gx2,gx3,hgrep⟩:=hrow1.all 0 g rfl
  obtain ⟨sg,ng,cga,cgl,cgc,rfl,rfl,rfl⟩:=hgrep.shape
  have g0:w1.cell? ⟨ga,0,none⟩=some (.string sg):=Zaf hrow1.owns _ _ gx0
  have g1:w1.cell? ⟨ga,1,none⟩=some (.int .i64 ng):=Zaf hrow1.owns _ _ gx1
  have g2:w1.cell? ⟨ga,2,none⟩=some (.slice cga cgl cgc):=Zaf hrow1.owns _ _ gx2
  have g3:w1.cell? ⟨ga,3,none⟩=some (.int .i64 g.2):=Zaf hrow1.owns _ _ gx3
  have m0:w.heap.size<w1.heap.size:=by omega
  have mg':ga<w1.heap.size:=by
    have:=(hrow1.owns.lt ga rfl).2
    exact this
  have hHead:(ap (Zbr n.vars) c.head).length≤30:=by
    have:=Zhz (σ:=Zbr n.vars) (k:=1) (Qe _) (fun n=>by simp [Zbr,vr]) c.head
    omega
  have hgl30:g.1.length≤30:=Hs1.out g (by rw [Hg.out]; simp)
  have HF:=Zaa (fun u (hu:Ext w1 u)=>Yhf u X _ _ _ _ _ _ g.1 (ap (Zbr n.vars) c.head) (hgrep.ext hu (fun _ _ h=>h)) (hrep1.ext hu (fun _ _ h=>h)) (fun k h=>by have:=HX.out k h; have:=hu.size; omega) hgl30 hHead)
  have HE1:=Zaa hE1
  have Hext1:=Zaa hext1
  have Hgrep:=Zaa hgrep
  clear hE1 hext1 hrow1 hgrep hrep1 gx0 gx1 gx2 gx3 y0 y1 y2 y3 y4
  go_wp2_with fail
  refine Zji (by kernel_rfl) [.pur (.pointer (some ⟨w.heap.size,0,none⟩)),.pur (.slice (some ⟨ga,0,none⟩) (gs.length+1) gcap),.pur (.pointer (some ⟨ga,0,none⟩)),.pur (.pointer (some ⟨ga,0,none⟩)),.pur (.agg #[.string sg,.int .i64 ng,.slice cga cgl cgc]),.pur (.agg #[.string s1,.int .i64 n1,.slice c1a c1l c1c]),
    .cal,.post (fun v=>v),.post (Zff 0),.post (Zff 1),.post (Zff 0),.post (Zff 1)] 6 12 (by kernel_rfl)
    (fun v u=>Ext w1 u∧∃ u0,Ext w1 u0∧Ext u0 u∧FitOut X g.1 (ap (Zbr n.vars) c.head) u0 u v) (fun v u=>Ext w1 u∧∃ u0,Ext w1 u0∧Ext u0 u∧FitOut X g.1 (ap (Zbr n.vars) c.head) u0 u v) 181
    #[.agg #[.string sg,.int .i64 ng,.slice cga cgl cgc],.agg #[.string s1,.int .i64 n1,.slice c1a c1l c1c]] ?_ ?_ rfl (by decide) (Or.inr ⟨by decide,fun _ _ h=>h⟩) ?_
  · refine (HF.out _ (Ext.of (by repeat' (first | with_reducible(first|exact Qx _ _|apply Kept.drew|apply Kept.drewN|apply Qz|refine Qy ?_ ?_ _)|exact fun h=>absurd h (by simp <;> omega))))).mono ?_
    rintro e u ⟨r,rfl,he,hf⟩
    refine ⟨r,rfl,Below.trans (Ext.of (by repeat' (first | with_reducible(first|exact Qx _ _|apply Kept.drew|apply Kept.drewN|apply Qz|refine Qy ?_ ?_ _)|exact fun h=>absurd h (by simp <;> omega)))) (he.mono (by simp [World.drew])),_,(Ext.of (by repeat' (first | with_reducible(first|exact Qx _ _|apply Kept.drew|apply Kept.drewN|apply Qz|refine Qy ?_ ?_ _)|exact fun h=>absurd h (by simp <;> omega)))),he,hf⟩
  · refine ⟨fun vc => ?_,fun vc => ?_,fun vc => ?_,fun vc => ?_,fun vc => ?_,fun vc => ?_,fun vc => ?_,?_,?_,?_,?_,?_,trivial⟩
    all_goals try (simp [pa,Kd.val,go_sem,p0,g0,g1,g2,m0,mg']; done)
    all_goals
      intro vc u hR
      obtain ⟨cv,q,rfl⟩:∃ cv q,vc = .tuple #[cv,.int .i64 q]:=by
        rcases hR with ⟨_,u0,_,_,hf⟩ | ⟨_,u0,_,_,hf⟩ <;> exact hf.shape
      simp [pa,Kd.val,go_sem,Zff]
  rintro vc w2 ⟨hE12,u0,hE10,hE02,hfit⟩
  have HE12:=Zaa hE12
  have hs2:=hE12.size
  simp only [paAll,pa,Kd.val,if_true,Act.put]
  have hbr2:=(hE12.block (w.heap.size+1) (by omega)).trans ((Hext1.out.block _ (by omega)).trans Hbr0.out)
  obtain ⟨r0,r1,r2,r3,r4,rf⟩:=box5 hbr2
  rcases hfit with ⟨rfl,hno⟩ | ⟨rfl,hvast⟩ | ⟨cv,L,sx,rfl,hsubs,hmgu,hsm,hls,hl60⟩
  · have Hno:=Zaa hno
    clear hno hE12 hbr2
    simp only [Zff]
    go_wp2
    refine bodyPost_ret (v := .tuple #[.agg #[.slice none 0 0,.slice none 0 0,.slice none 0 0,.slice none 0 0,.int .i64 0],.int .i64 0]) (by simp [results,Tryz.results147,go_sem,r0,r1,r2,r3,r4,rf]) rfl ?_
    exact ⟨_,_,_,_,_,0,rfl,⟨_,_,_,_,_,_,_,_,_,_,_,_,_,rfl⟩,(HE1.out.trans (HE12.out.mono (by omega))).trans (Kept.below (S:=fun k=>w.heap.size≤k∧k<w.heap.size+3) (by repeat' (first | with_reducible(first|exact Qx _ _|apply Kept.drew|apply Kept.drewN|apply Qz|refine Qy ?_ ?_ _)|(intro _; simp only; omega))) (by omega) (fun j h=>h.1)),Or.inl ⟨rfl,Hno.out⟩⟩
  · have Hno:=Zaa hvast
    clear hvast hE12 hbr2
    simp only [Zff]
    go_wp2
    refine bodyPost_ret (v := .tuple #[.agg #[.slice none 0 0,.slice none 0 0,.slice none 0 0,.slice none 0 0,.int .i64 0],.int .i64 3]) (by simp [results,Tryz.results147,go_sem,r0,r1,r2,r3,r4,rf]) rfl ?_
    exact ⟨_,_,_,_,_,3,rfl,⟨_,_,_,_,_,_,_,_,_,_,_,_,_,rfl⟩,(HE1.out.trans (HE12.out.mono (by omega))).trans (Kept.below (S:=fun k=>w.heap.size≤k∧k<w.heap.size+3) (by repeat' (first | with_reducible(first|exact Qx _ _|apply Kept.drew|apply Kept.drewN|apply Qz|refine Qy ?_ ?_ _)|(intro _; simp only; omega))) (by omega) (fun j h=>h.1)),Or.inr (Or.inl ⟨rfl,Hno.out⟩)⟩
  · obtain ⟨cva,cvcap,rfl⟩:=Zad hsubs.owns
    have Hsubs:=Zaa (hsubs.ext (Y:=X) (B':=0) (Below.refl _ _) (fun _ h=>h) (Qm _))
    have Hmgu:=Zaa hmgu
    have Hls:=Zaa hls
    clear hsubs hmgu hls hE12 hbr2
    have HEw2:=Zaa (HE1.out.trans (HE12.out.mono (by omega)):Ext w w2)
    have Hbn2:=Zaa ((HE12.out.block _ (by omega)).trans ((Hext1.out.block _ (by omega)).trans Hbn0.out))
    have Hbr2:=Zaa ((HE12.out.block _ (by omega)).trans ((Hext1.out.block _ (by omega)).trans Hbr0.out))
    have Hbc2:=Zaa ((HE12.out.block _ (by omega)).trans ((Hext1.out.block _ (by omega)).trans Hbc0.out))
    have Hg3:=Zaa ((HE12.out.cell (p:=⟨ga,3,none⟩) mg').trans g3)
    have hbwf:=Hbd.out.wf
    have hdep:g.2≤1000:=Hdp.out g (by rw [Hg.out]; simp)
    clear r0 r1 r2 r3 r4 rf p0 p1 p2 p3 p4 pf g0 g1 g2 g3
    simp only [Zff]
    go_wp2
    go_loopg [12,13] (c.body.length+1) (fun gk ov i wr=>∃ (j:Nat) (zs:List Value),i = .int .i64 j∧j≤c.body.length∧c.body.length - j<gk∧Ext w2 wr∧RowG X wr w2.heap.size ov j ((c.body.take j).map (fun t=>(ap (Zbr n.vars) t,g.2+1))) zs)
    case atStart=>exact ⟨0,[],by go_num,Qm _,by omega,Below.refl _ _,RowG.nil _ _ _⟩
    case round =>
      obtain ⟨j,zs,rfl,hj,hgk,hext,hrow⟩:=hrel
      obtain ⟨oa,ocap,rfl⟩:=Zad hrow.owns
      have hsr:=hext.size
      obtain ⟨n0,n1',n2',n3',n4',nf⟩:=box5 ((hext.block _ (by omega)).trans Hbn2.out)
      obtain ⟨c0,c1',c2',c3',c4',cf⟩:=box5 ((hext.block _ (by omega)).trans Hbc2.out)
      have d3:wr.cell? ⟨ga,3,none⟩=some (.int .i64 g.2):=(hext.cell (p:=⟨ga,3,none⟩) (by show ga<_; omega)).trans Hg3.out
      have HEr:=Zaa (HEw2.out.trans (hext.mono HEw2.out.size):Ext w wr)
      have Hext:=Zaa hext
      have Hrow:=Zaa hrow
      clear hext hrow
      by_cases hlt:j<c.body.length
      · obtain ⟨t,ht⟩:∃ t,c.body[j]?=some t:=⟨_,Qb hlt⟩
        obtain ⟨a',b',c',x0,x1,x2,hrt⟩:=Hbd.out.2.2 j t ht
        obtain ⟨s3,n3,c3a,c3l,c3c,rfl,rfl,rfl⟩:=hrt.shape
        have hrow':=Hbd.out.ext (Y:=X) HEr.out (fun _ _ h=>h)
        obtain ⟨gb,cap',cur,hge,hBg,hgb,hcp⟩:=Zan hrow'.1 (by omega)
        simp only [Value.slice.injEq] at hge
        obtain ⟨rfl,_,rfl⟩:=hge
        have y0:wr.cell? ⟨gb,j * 3,none⟩=some (.string s3):=Zaf hrow'.1 _ _ x0
        have y1:wr.cell? ⟨gb,j * 3+1,none⟩=some (.int .i64 n3):=Zaf hrow'.1 _ _ x1
        have y2:wr.cell? ⟨gb,j * 3+2,none⟩=some (.slice c3a c3l c3c):=Zaf hrow'.1 _ _ x2
        have htm:=Qh ht
        have ht30:=Hb.out t htm
        have HI:Hid (∀ Z u,Ext wr.drew u→(∀ k,Z k→wr.heap.size≤k∧k<u.heap.size)→Calls Tryz.prog 180 #[.agg #[.string s3,.int .i64 n3,.slice c3a c3l c3c],.int .i64 n.vars] u fun e u'=>∃ r,e = .returned r∧Ext u u'∧RT X (ap (Zbr n.vars) t) Z r u'):=fun Z u hu hZ=>by
          have hwu:Ext w u:=HEr.out.trans (hu.undrew.mono HEr.out.size)
          refine (Zmz t.length u (fun k=>X k∨Z k) _ _ _ t n.vars (Qe _) (by omega) (hrt.ext hwu (fun k hk h => ?_)) ?_ (by omega) (fun s h=>by have:=Hbn.out t htm s h; omega)).mono ?_
          · rcases h with h | h
            · exact h
            · have:=(hZ k h).1; have:=HEr.out.size; omega
          · rintro k (h | h)
            · have:=HX.out k h; have:=hwu.size; omega
            · exact (hZ k h).2
          · rintro e u' ⟨a,b,c,rfl,he,hr⟩
            exact ⟨_,rfl,he,RT.of hr⟩
        have Htk:Hid ((c.body.take (j+1)).map (fun t=>(ap (Zbr n.vars) t,g.2+1))=(c.body.take j).map (fun t=>(ap (Zbr n.vars) t,g.2+1))++[(ap (Zbr n.vars) t,g.2+1)]):=by
          show _=_
          rw [List.take_add_one,ht]; simp
        have hgbl:=Zac hgb
        clear hgb hrow' hrt x0 x1 x2 ht
        go_wp2_with fail
        refine Zhc (by kernel_rfl) [.pur (.pointer (some ⟨w.heap.size+1+1,3,none⟩)),.pur (.slice (some ⟨gb,0,none⟩) c.body.length bcap),.pur (.int .i64 j),.pur (.pointer (some ⟨gb,j * 3,none⟩)),.pur (.agg #[.string s3,.int .i64 n3,.slice c3a c3l c3c]),.pur (.pointer (some ⟨w.heap.size,4,none⟩)),.pur (.int .i64 n.vars),
          .cal,.alo 183 #[.string ⟨#[]⟩,.int .i64 0,.slice none 0 0] 9 cellsOf,.sto 8] 7 (by kernel_rfl) (RT X (ap (Zbr n.vars) t)) 180 _ RT.stable HI.out ?_ rfl (by decide) ?_
        · refine ⟨fun vc β u hu => ?_,fun vc β u hu => ?_,fun vc β u hu => ?_,fun vc β u hu => ?_,fun vc β u hu => ?_,fun vc β u hu => ?_,fun vc β u hu => ?_,fun vc β u => ?_,fun vc β u => ?_,?_,trivial⟩
          all_goals try (simp [pa,Kd.val,go_sem,hu.up c3',hu.up y0,hu.up y1,hu.up y2,hu.up n4',hlt]; done)
          all_goals try (simp [pa,Kd.val,go_sem]; done)
          rintro vc β Z u t z s cs he ⟨s2,n2,c2a,c2l,c2c,rfl,hr⟩ hb
          simp at he
          obtain ⟨rfl,rfl,rfl,rfl⟩:=he
          obtain ⟨q0,q1,q2,qf⟩:=box3 hb
          refine ⟨_,?_,Zjy hb (.string s2) (.int .i64 n2) (.slice c2a c2l c2c)⟩
          simp [pa,Kd.val,go_sem,q0,q1,q2,qf]
        rintro vc β w3 hext3 ⟨s4,n4,c4a,c4l,c4c,rfl,hrep4⟩ hbox _
        have hext3:=hext3.undrew
        have hs3:=hext3.size
        obtain ⟨hb0,hbx⟩:=hbox 8 _ _ _ _ rfl
        obtain ⟨q0,q1,q2,_⟩:=box3 hbx
        have e0:w3.cell? ⟨w.heap.size,0,none⟩=some (.slice (some ⟨ga,0,none⟩) (gs.length+1) gcap):=(hext3.cell (p:=⟨w.heap.size,0,none⟩) (by show w.heap.size<_; omega)).trans n0
        have e3:w3.cell? ⟨ga,3,none⟩=some (.int .i64 g.2):=(hext3.cell (p:=⟨ga,3,none⟩) (by show ga<_; omega)).trans d3
        have Hrow3:=Zaa (Hrow.out.ext (Y:=X) (B':=w2.heap.size) (w':=w3.drewN 1) (hext3.trans ⟨rfl,rfl,rfl,Qe _,fun _ _=>rfl⟩) (fun _ _ h=>h) (Qe _))
        have Hrep4:Hid (Rep X (w3.drewN 1) (.string s4) (.int .i64 n4) (.slice c4a c4l c4c) (ap (Zbr n.vars) t)):=hrep4.on (fun k hk hn _=>⟨rfl,fun h=>hn (Or.inl h)⟩)
        have Hext3:=Zaa hext3
        clear hext3 hbox hbx hrep4 n0 n1' n2' n3' n4' nf c0 c1' c2' c3' c4' cf d3 y0 y1 y2
        simp only [paAll,pa,Kd.val,if_true,Act.put]
        go_wp2_with fail
        have hwr:=Yer g.2 hdep
        go_region_law (refine Zch (w3.drewN 1) rfl (.tmp 58) (.tmp 67) 150 rfl w2.heap.size 200 Tryz.infoGoal Tryz.underlying150 rfl (by decide) (.slice oa j ocap) j zs rfl Hrow3.out.owns #[.string s4,.int .i64 n4,.slice c4a c4l c4c,.int .i64 ((g.2:Int)+1)] rfl (by simp) rfl Zls (by omega) (by simp; omega) rfl ?_; intro v' w4 hap; obtain ⟨v1a,v1cap,rfl⟩:=Zad hap.owns; have Hap:=Zaa hap; clear hap)
        all_goals
          go_wp2
          go_roundg (c.body.length - j)
          case measure=>omega
          case rel =>
            have hst:=Hrow3.out.step (d:=g.2+1) Hrep4.out (by simpa using Hap.out)
            rw [← Htk.out] at hst
            refine ⟨j+1,_,by go_num,by omega,by omega,?_,hst⟩
            have h1:Below w2.heap.size w2 w3:=Hext.out.trans (Hext3.out.mono hsr)
            exact (h1.trans (⟨rfl,rfl,rfl,Qe _,fun _ _=>rfl⟩:Below w2.heap.size w3 (w3.drewN 1))).trans (Hap.out.kept.below (by show w2.heap.size≤w3.heap.size; omega) (fun k e=>(Hrow3.out.owns.lt k e).1))
      · have hej:j=c.body.length:=by omega
        subst hej
        have hrowA:=Hrow.out
        rw [List.take_length] at hrowA
        have h1r:=H1.out.ext (Y:=X) (B':=0) HEr.out (fun _ _ h=>h) (Qe _)
        have hE1r:Ext w2 wr:=Hext.out
        have hcap1:1≤gcap:=by omega
        have hgsl:gs.length≤39:=by have:=hgl; rw [Hg.out] at this; simpa using this
        have HrowA:=Zaa hrowA
        have H1r:=Zaa h1r
        clear hrowA h1r
        go_upto_region 12 with fail
        go_cut [12] from 43 (fun v wc=>∃ oa1 ocap1,v = .slice oa1 (c.body.length+gs.length) ocap1∧Appended wr w2.heap.size 200 4 (.slice oa c.body.length ocap) (c.body.length+gs.length) (zs++gx.drop 4) v wc)
        case first =>
          by_cases hc1:gcap=1
          · subst hc1
            have hg0:gs.length=0:=by omega
            have hR:Zqf wr 4 (.slice (some ⟨ga,0,none⟩) 0 0) gs.length (gx.drop 4):=by
              have ht:=H1r.out.ins.tail
              refine ⟨ht.len,ht.one,Or.inr ⟨⟨ga,0,none⟩,0,by rw [hg0],fun j u hu => ?_⟩⟩
              have hlen:=ht.len
              rw [hg0] at hlen
              have:=(Qa.1 hu).1
              omega
            have HR:=Zaa hR
            clear hR hg0
            go_wp2_with (at_builtin; refine Zcm _ rfl (.tmp 69) (.tmp 72) 150 rfl w2.heap.size 200 Tryz.infoGoal Tryz.underlying150 rfl (by decide) _ c.body.length zs rfl HrowA.out.owns _ gs.length (gx.drop 4) rfl HR.out ?_ ?_ ?_)
            · omega
            · omega
            intro v' w3 hap
            obtain ⟨v1a,v1cap,rfl⟩:=Zad hap.owns
            have Hap:=Zaa hap
            clear hap
            go_wp2_with fail
            go_meet
            case rel=>exact ⟨_,_,rfl,Hap.out⟩
          · have HR:=Zaa (Zyu H1r.out (gcap - 1))
            have hc2:¬ (gcap - 1=0):=by omega
            go_wp2_with (at_builtin; refine Zcm _ rfl (.tmp 69) (.tmp 72) 150 rfl w2.heap.size 200 Tryz.infoGoal Tryz.underlying150 rfl (by decide) _ c.body.length zs rfl HrowA.out.owns _ gs.length (gx.drop 4) rfl HR.out ?_ ?_ ?_)
            · omega
            · omega
            intro v' w3 hap
            obtain ⟨v1a,v1cap,rfl⟩:=Zad hap.owns
            have Hap:=Zaa hap
            clear hap
            go_wp2_with fail
            go_meet
            case rel=>exact ⟨_,_,rfl,Hap.out⟩
        case rest =>
          obtain ⟨oa1,ocap1,rfl,hap1⟩:=hcut
          have hrow1:=HrowA.out.more H1r.out.ins.tail hap1 rfl
          have hE1:Ext w2 wc:=hE1r.trans (hap1.kept.below hsr (fun k e=>(HrowA.out.owns.lt k e).1))
          have hs1c:=hE1.size
          have hEw1:Ext w wc:=HEw2.out.trans (hE1.mono HEw2.out.size)
          have hd1:=H3.out.ext (Y:=X) (B':=0) hEw1 (fun _ _ h=>h) (Qe _)
          have HRd:=Zaa (Zke hd1.owns hd1.ins.one)
          obtain ⟨n0,n1',n2',n3',n4',nf⟩:=box5 ((hE1.block _ (by omega)).trans Hbn2.out)
          have Hrow1:=Zaa hrow1
          have HE1c:=Zaa hE1
          have HEw1:=Zaa hEw1
          have Hd1:=Zaa hd1
          have hww2:=HEw2.out.size
          clear hrow1 hE1 hEw1 hd1 hap1 HF hE10 hE02 HE12 Hext1 HE1 Hgrep Hhd Hbd HrowA H1r Hrow Hext HEr hE1r Hbn0 Hbr0 Hbc0 HE0 Hhn Hbn
          go_wp2_with (at_builtin; refine Zcm _ rfl (.tmp 74) (.tmp 76) 150 rfl wc.heap.size 200 Tryz.infoGoal Tryz.underlying150 rfl (by decide) _ 0 [] rfl (World.ownsRow_nil _ _ _ _) _ n.done.length dx rfl HRd.out ?_ ?_ ?_)
          · omega
          · omega
          intro v2 u2 hap2
          try simp only [Nat.zero_add,List.nil_append] at hap2
          obtain ⟨da2,dcap2,rfl⟩:=Zad hap2.owns
          have hrow2:RowG X u2 wc.heap.size (.slice da2 n.done.length dcap2) n.done.length n.done dx:=by
            have:=(RowG.nil X wc wc.heap.size).more (m:=n.done.length) (cv' := .slice da2 n.done.length dcap2) (w':=u2) Hd1.out.ins (by simpa using hap2) rfl
            simpa using this
          have hE2:Ext wc u2:=hap2.kept.below (Qe _) (fun k e=>by simp [Zap,Value.ownBlock] at e)
          have hs2c:=hE2.size
          have hEw2:Ext w u2:=HEw1.out.trans (hE2.mono HEw1.out.size)
          have hE22:Ext w2 u2:=HE1c.out.trans (hE2.mono hs1c)
          obtain ⟨n0,n1',n2',n3',n4',nf⟩:=box5 ((hE22.block _ (by omega)).trans Hbn2.out)
          have hg2:=H1.out.ext (Y:=X) (B':=0) hEw2 (fun _ _ h=>h) (Qe _)
          obtain ⟨ag,bg,cg,gx0,gx1,gx2,gx3,hgrep⟩:=hg2.all 0 g rfl
          obtain ⟨sg2,ng2,cga2,cgl2,cgc2,rfl,rfl,rfl⟩:=hgrep.shape
          have g0:u2.cell? ⟨ga,0,none⟩=some (.string sg2):=Zaf hg2.owns _ _ gx0
          have g1:u2.cell? ⟨ga,1,none⟩=some (.int .i64 ng2):=Zaf hg2.owns _ _ gx1
          have g2:u2.cell? ⟨ga,2,none⟩=some (.slice cga2 cgl2 cgc2):=Zaf hg2.owns _ _ gx2
          have g3:u2.cell? ⟨ga,3,none⟩=some (.int .i64 g.2):=Zaf hg2.owns _ _ gx3
          have Hrow2:=Zaa hrow2
          have HE2:=Zaa hE2
          have Hgrep:=Zaa hgrep
          have Hap2:=Zaa hap2.owns
          clear hrow2 hE2 hgrep hg2 hap2 gx0 gx1 gx2 gx3 hEw2 hE22
          go_wp2_with (at_builtin; refine Zal _ rfl (.tmp 78) (.tmp 83) 150 rfl wc.heap.size 200 Tryz.infoGoal Tryz.underlying150 rfl (by decide) _ n.done.length dx rfl Hap2.out _ rfl (by simp) rfl Zls ?_ ?_ ?_)
          · omega
          · omega
          intro v3 u3 hap3
          obtain ⟨da3,dcap3,rfl⟩:=Zad hap3.owns
          have hrow3:RowG X u3 wc.heap.size (.slice da3 (n.done.length+1) dcap3) (n.done.length+1) (n.done++[g]) _:=Hrow2.out.step (d:=g.2) Hgrep.out hap3
          have hE3:Ext wc u3:=HE2.out.trans (hap3.kept.below hs2c (fun k e=>(Hap2.out.lt k e).1))
          have hs3c:=hE3.size
          have hE23:Ext w2 u3:=HE1c.out.trans (hE3.mono hs1c)
          have hEw3:Ext w u3:=HEw1.out.trans (hE3.mono HEw1.out.size)
          have hX3:∀ k,X k→k<u3.heap.size:=fun k h=>by have:=HX.out k h; omega
          have hlenG:(c.body.map (fun t=>(ap (Zbr n.vars) t,g.2+1))++gs).length=c.body.length+gs.length:=by simp
          have hbnd:∀ (t:List Sym) (k:Nat),t.length≤30→(ap (sgm (L.take k)) t).length≤4000:=fun t k ht=>by
            have:=Zhz (σ:=sgm (L.take k)) (k:=30) (by omega) (fun n=>Hls.out.2 k n) t
            omega
          have HsubsU:=Zaa (fun u (hu:Ext w2 u)=>Hsubs.out.ext (Y:=X) (B':=0) hu (fun _ h=>h) (Qe _))
          have hbG:∀ k,∀ x ∈ (c.body.map (fun t=>(ap (Zbr n.vars) t,g.2+1))++gs),(ap (sgm (L.take k)) x.1).length≤4000:=fun k x hx=>by
            refine hbnd x.1 k ?_
            rcases Qk.1 hx with hx | hx
            · obtain ⟨t,ht,rfl⟩:=List.mem_map.1 hx
              have h1:=Hb.out t ht
              have h2:=Zhz (σ:=Zbr n.vars) (k:=1) (Qe _) (fun n=>by simp [Zbr,vr]) t
              show (ap (Zbr n.vars) t).length≤30
              omega
            · exact Hs1.out x (by rw [Hg.out]; simp [hx])
          have hbD:∀ k,∀ x ∈ (n.done++[g]),(ap (sgm (L.take k)) x.1).length≤4000:=fun k x hx=>by
            refine hbnd x.1 k ?_
            rcases Qk.1 hx with hx | hx
            · exact Hs2.out x hx
            · simp at hx; subst hx; exact hgl30
          have HC1:=Zaa (fun u (hu:Ext u3 u)=>Zmr u X w2.heap.size 0 (.slice oa1 (c.body.length+gs.length) ocap1) (.slice cva L.length cvcap) (c.body.map (fun t=>(ap (Zbr n.vars) t,g.2+1))++gs) L _ _
            (by rw [hlenG]; exact Hrow1.out.ext (Y:=X) (B':=w2.heap.size) (hE3.trans (hu.mono hs3c)) (fun _ _ h=>h) (Qe _)) (HsubsU.out u (hE23.trans (hu.mono hE23.size))) (fun k h=>by have:=hX3 k h; have:=hu.size; omega) hbG (by omega) (by rw [hlenG]; omega))
          have HC2:=Zaa (fun u (hu:Ext u3 u)=>Zmr u X wc.heap.size 0 (.slice da3 (n.done.length+1) dcap3) (.slice cva L.length cvcap) (n.done++[g]) L _ _
            (by have hl:(n.done++[g]).length=n.done.length+1:=by simp
                rw [hl]; exact hrow3.ext (Y:=X) (B':=wc.heap.size) hu (fun _ _ h=>h) (Qe _)) (HsubsU.out u (hE23.trans (hu.mono hE23.size))) (fun k h=>by have:=hX3 k h; have:=hu.size; omega) hbD (by omega) (by simp; omega))
          have HE3:=Zaa hE3
          have HE23:=Zaa hE23
          have HEw3:=Zaa hEw3
          have HX3:=Zaa hX3
          have Hbnd:=Zaa hbnd
          clear hrow3 hE3 hE23 hEw3 hap3 Hrow2 HE2 Hgrep Hap2 hX3 hbG hbD hbnd g0 g1 g2 g3
          go_wp2_with fail
          refine (HC1.out _ (Ext.of (by repeat' (first | with_reducible(first|exact Qx _ _|apply Kept.drew|apply Kept.drewN|apply Qz|refine Qy ?_ ?_ _)|exact fun h=>absurd h (by simp <;> omega))))).mono ?_
          rintro e u5 ⟨gvc,zs5,rfl,hE5,hrow5⟩
          rw [hlenG] at hrow5
          obtain ⟨gca,gccap,rfl⟩:=Zad hrow5.owns
          have hs5:=hE5.size
          simp at hs5
          have Hfg:Hid (∀ i,Zap (.slice gca (c.body.length+gs.length) gccap) i→w.heap.size≤i):=fun i e=>by have h1:=(hrow5.owns.lt i e).1; simp at h1; have:=HEw3.out.size; omega
          have hM5:u5.heap[u3.heap.size]?=some (.cells #[.slice none 0 0,.slice none 0 0,.slice none 0 0,.slice none 0 0,.int .i64 0] 152 (0,0)):=(hE5.block _ (by simp)).trans (heap_alloc_new u3 _)
          obtain ⟨p0,p1,p2,p3,p4,pf⟩:=box5 hM5
          have hE35:Ext u3 u5:=((Ext.of (by repeat' (first | with_reducible(first|exact Qx _ _|apply Kept.drew|apply Kept.drewN|apply Qz|refine Qy ?_ ?_ _)|exact fun h=>absurd h (by simp <;> omega)))):Ext u3 (u3.alloc _)).trans (hE5.mono (by simp))
          have HM5:=Zaa hM5
          have HE35:=Zaa hE35
          have Hrow5:=Zaa hrow5
          have hmu:u3.heap.size<u5.heap.size:=by omega
          clear hM5 hE35 hrow5 hE5 n0 n1' n2' n3' n4' nf
          go_wp2_with fail
          refine (HC2.out _ (HE35.out.trans (Kept.below (S:=fun k=>k=u3.heap.size) ((Qx (only u3.heap.size) u5).put 0 _) (by omega) (fun j h=>by omega)))).mono ?_
          rintro e u6 ⟨dvc,zs6,rfl,hE6,hrow6⟩
          have hlD:(n.done++[g]).length=n.done.length+1:=by simp
          rw [hlD] at hrow6
          obtain ⟨dca,dccap,rfl⟩:=Zad hrow6.owns
          have hs6:=hE6.size
          simp at hs6
          have Hfd:Hid (∀ i,Zap (.slice dca (n.done.length+1) dccap) i→w.heap.size≤i):=fun i e=>by have h1:=(hrow6.owns.lt i e).1; simp at h1; have:=HEw3.out.size; omega
          have hK5:Kept (fun k=>k=u3.heap.size) u5 (u5.setCell ⟨u3.heap.size,0,none⟩ (.slice gca (c.body.length+gs.length) gccap)):=(Qx (only u3.heap.size) u5).put 0 _
          have hM6:u6.heap[u3.heap.size]?=some (.cells #[.slice gca (c.body.length+gs.length) gccap,.slice none 0 0,.slice none 0 0,.slice none 0 0,.int .i64 0] 152 (0,0)):=(hE6.block _ (by simp; omega)).trans (Zai HM5.out 0 _)
          have hG6:=(Hrow5.out.box HM5.out (by decide) (by decide) hK5).ext (Y:=X) (B':=0) hE6 (fun _ _ h=>h) (Qm _)
          have hE36:Ext u3 u6:=(HE35.out.trans (hK5.below (by omega) (fun j h=>by omega))).trans (hE6.mono (by simp; omega))
          obtain ⟨p0,p1,p2,p3,p4,pf⟩:=box5 hM6
          have hmu6:u3.heap.size<u6.heap.size:=by omega
          have hK6:Kept (fun k=>k=u3.heap.size) u6 (u6.setCell ⟨u3.heap.size,2,none⟩ (.slice dca (n.done.length+1) dccap)):=(Qx (only u3.heap.size) u6).put 2 _
          have hG7:=hG6.box hM6 (by decide) (by decide) hK6
          have hD7:=(hrow6.box hM6 (by decide) (by decide) hK6).ext (Y:=X) (B':=0) (Below.refl _ _) (fun _ _ h=>h) (Qm _)
          have hM7:(u6.setCell ⟨u3.heap.size,2,none⟩ (.slice dca (n.done.length+1) dccap)).heap[u3.heap.size]?=some (.cells #[.slice gca (c.body.length+gs.length) gccap,.slice none 0 0,.slice dca (n.done.length+1) dccap,.slice none 0 0,.int .i64 0] 152 (0,0)):=Zai hM6 2 _
          have hE37:Ext u3 (u6.setCell ⟨u3.heap.size,2,none⟩ (.slice dca (n.done.length+1) dccap)):=hE36.trans (hK6.below (by omega) (fun j h=>by omega))
          generalize hU:u6.setCell ⟨u3.heap.size,2,none⟩ (.slice dca (n.done.length+1) dccap)=U at hG7 hD7 hM7 hE37
          have hsU:=hE37.size
          have hmuU:=Zac hM7
          have HG7:=Zaa hG7
          have HD7:=Zaa hD7
          have HM7:=Zaa hM7
          have HE37:=Zaa hE37
          have HU:=Zaa hU
          clear hM6 hG6 hE36 hK5 hK6 hG7 hD7 hM7 hE37 hE6 hrow6 hU HM5 Hrow5 HC1 HC2
          go_wp2_with fail
          go_loopg [17] (n.vals.length+1) (fun gk i wr=>∃ (k:Nat) (cv:Value) (ys:List Value),i = .int .i64 k∧k≤n.vals.length∧n.vals.length - k<gk∧Kept (fun j=>j=u3.heap.size) U wr ∧
            wr.heap[u3.heap.size]?=some (.cells #[.slice gca (c.body.length+gs.length) gccap,cv,.slice dca (n.done.length+1) dccap,.slice none 0 0,.int .i64 0] 152 (0,0)) ∧
            Acc (fun j=>X j∨j=u3.heap.size) wr U.heap.size cv k ((n.vals.take k).map (ap (sgm L))) ys)
          case atStart =>
            rw [HU.out]
            exact ⟨0,.slice none 0 0,[],by go_num,Qm _,by omega,Qx _ _,HM7.out,by simpa using Acc.nil _ _ _⟩
          case round =>
            obtain ⟨j,cv,ys2,rfl,hj,hgk,hkept,hM,hacc⟩:=hrel
            obtain ⟨cwa,cwcap,rfl⟩:=Zad hacc.owns
            have hsw:=hkept.size
            have hE3r:Ext u3 wr:=HE37.out.trans (hkept.below hsU (fun i e=>by omega))
            have hEwr:Ext w wr:=HEw3.out.trans (hE3r.mono HEw3.out.size)
            have hE2r:Ext w2 wr:=HE23.out.trans (hE3r.mono HE23.out.size)
            obtain ⟨n0,n1',n2',n3',n4',nf⟩:=box5 ((hE2r.block _ (by omega)).trans Hbn2.out)
            obtain ⟨p0,p1,p2,p3,p4,pf⟩:=box5 hM
            have hmr:=Zac hM
            have hw23:=HE23.out.size
            have hww3:=HEw3.out.size
            have Hkept:=Zaa hkept
            have HM:=Zaa hM
            have Hacc:=Zaa hacc
            have HE2r:=Zaa hE2r
            have HEwr:=Zaa hEwr
            clear hkept hM hacc hE3r hEwr hE2r
            by_cases hlt:j<n.vals.length
            · obtain ⟨t,ht⟩:∃ t,n.vals[j]?=some t:=⟨_,Qb hlt⟩
              obtain ⟨a',b',c',x0,x1,x2,hrt⟩:=H2.out.2.2 j t ht
              obtain ⟨s3,n3,c3a,c3l,c3c,rfl,rfl,rfl⟩:=hrt.shape
              have hrow':=H2.out.ext (Y:=X) HEwr.out (fun _ _ h=>h)
              obtain ⟨gb,cap',cur,hge,hBg,hgb,hcp⟩:=Zan hrow'.1 (by omega)
              simp only [Value.slice.injEq] at hge
              obtain ⟨rfl,_,rfl⟩:=hge
              have y0:wr.cell? ⟨gb,j * 3,none⟩=some (.string s3):=Zaf hrow'.1 _ _ x0
              have y1:wr.cell? ⟨gb,j * 3+1,none⟩=some (.int .i64 n3):=Zaf hrow'.1 _ _ x1
              have y2:wr.cell? ⟨gb,j * 3+2,none⟩=some (.slice c3a c3l c3c):=Zaf hrow'.1 _ _ x2
              have ht30:=Hs3.out t (Qh ht)
              have hown:∀ i,Zap (.slice cwa j cwcap) i→U.heap.size≤i:=fun i e=>(Hacc.out.owns.lt i e).1
              have HI:=Zaa (Zwa wr (fun i=>(X i∨i=u3.heap.size)∨Zap (.slice cwa j cwcap) i) 0 (.slice cva L.length cvcap) L sx _ _ _ t
                (hrt.on (fun i hi hn _=>⟨HEwr.out.block i hi,fun h=>by
                  rcases h with (h | h) | h
                  · exact hn h
                  · omega
                  · have:=hown i h; omega⟩))
                (Hsubs.out.on (fun i hi=>HE2r.out.block i (Hsubs.out.owns.lt i hi).2) (fun i hi hn _=>⟨HE2r.out.block i hi,fun h=>by
                  rcases h with (h | h) | h
                  · exact hn h
                  · omega
                  · have:=hown i h; omega⟩))
                (fun i h=>by
                  rcases h with (h | h) | h
                  · have:=HX3.out i h; omega
                  · omega
                  · exact (Hacc.out.owns.lt i h).2)
                (fun q=>Hbnd.out t q ht30) (by omega))
              have Htk:Hid ((n.vals.take (j+1)).map (ap (sgm L))=(n.vals.take j).map (ap (sgm L))++[ap (sgm L) t]):=by
                show _=_
                rw [List.take_add_one,ht]; simp
              clear hgb hrow' hrt x0 x1 x2 ht
              go_wp2_with fail
              refine HI.out.mono ?_
              rintro e w7 ⟨a7,b7,c7,rfl,hE7,hrep7⟩
              obtain ⟨s7,n7,c7a,c7l,c7c,rfl,rfl,rfl⟩:=hrep7.shape
              have hs7:=hE7.size
              have hM7':=(hE7.block _ hmr).trans HM.out
              have hown7:=(Kept.of_below hE7).owns Hacc.out.owns (fun i hi e=>by have:=(Hacc.out.owns.lt i hi).2; omega)
              have e1:w7.cell? ⟨u3.heap.size,1,none⟩=some (.slice cwa j cwcap):=Zab hM7' 1 _ rfl
              have hm7:u3.heap.size<w7.heap.size:=by omega
              have Hown7:=Zaa hown7
              have HE7:=Zaa hE7
              have Hrep7:=Zaa hrep7
              have HM7':=Zaa hM7'
              clear hown7 hE7 hrep7 hM7' y0 y1 y2
              go_wp2_with (at_builtin; refine Zal _ rfl (.tmp 108) (.tmp 110) 146 rfl U.heap.size 183 Tryz.infoTerm Tryz.underlying146 rfl (by decide) _ j ys2 rfl (Hown7.out.alloc _) _ rfl (by simp) rfl Zig ?_ ?_ ?_)
              · omega
              · simp; omega
              intro cv' w8 hap8
              obtain ⟨c8a,c8cap,rfl⟩:=Zad hap8.owns
              have hM8:=(hap8.kept.block _ (by simp; omega) (fun e=>by have:=(Hown7.out.lt _ e).1; omega)).trans (Zag HM7'.out _)
              obtain ⟨q0,q1,q2,q3,q4,qf⟩:=box5 hM8
              have HM8:=Zaa hM8
              have Hap8:=Zaa hap8
              clear hM8 hap8 e1
              go_wp2
              go_roundg (n.vals.length - j)
              case measure=>omega
              case rel =>
                obtain ⟨hacc',_⟩:=Hacc.out.step (w4:=w8.setCell ⟨u3.heap.size,1,none⟩ (.slice c8a (j+1) c8cap)) (HE7.out.alloc HE7.out.size _) (Hrep7.out.ext (Ext.of (by repeat' (first | with_reducible(first|exact Qx _ _|apply Kept.drew|apply Kept.drewN|apply Qz|refine Qy ?_ ?_ _)|exact fun h=>absurd h (by simp <;> omega)))) (fun _ _ h=>h)) Hap8.out
                  (Qy (Qx _ w8) (p:=⟨u3.heap.size,1,none⟩) (fun _=>Or.inr rfl) _) (fun i h=>by
                    rcases h with h | h
                    · have:=HX3.out i h; omega
                    · omega)
                rw [← Htk.out] at hacc'
                have k1:Kept (fun i=>i=u3.heap.size∨U.heap.size≤i) wr (w7.alloc (.cells #[.string s7,.int .i64 n7,.slice c7a c7l c7c] 183)):=((Kept.of_below HE7.out).alloc _).mono (fun i hi h=>by omega)
                have k2:=k1.then Hap8.out.kept (fun i hi e=>Or.inr (Hacc.out.owns.lt i e).1)
                have k3:=k2.setCell (p:=⟨u3.heap.size,1,none⟩) (fun _=>Or.inl rfl) (.slice c8a (j+1) c8cap)
                exact ⟨j+1,_,_,by go_num,by omega,by omega,Hkept.out.then k3 (fun i hi h=>by omega),Zai HM8.out 1 _,hacc'⟩
            · have hej:j=n.vals.length:=by omega
              subst hej
              have hacc:=Hacc.out
              rw [List.take_length] at hacc
              have Hfv:Hid (∀ i,Zap (.slice cwa n.vals.length cwcap) i→w.heap.size≤i):=fun i e=>by have h1:=(hacc.owns.lt i e).1; omega
              have hV:=hacc.row (X:=X) (Qx _ _) (fun i h=>Or.inl h) (fun i h=>by
                rcases h with h | h
                · have:=HX3.out i h; omega
                · omega)
              have hGr:=HG7.out.box HM7.out (by decide) (by decide) Hkept.out
              have hDr:=HD7.out.box HM7.out (by decide) (by decide) Hkept.out
              have hUr:=Zak H4.out (fun i hi=>HEwr.out.block i (H4.out.lt i hi).2)
              have HRu:=Zaa (Zke hUr (fun u hu=>by
                simp only [ints,List.mem_map] at hu
                obtain ⟨x,_,rfl⟩:=hu
                rfl))
              obtain ⟨c0,c1',c2',c3',c4',cf⟩:=box5 ((HE2r.out.block _ (by omega)).trans Hbc2.out)
              have HV:=Zaa hV
              have HGr:=Zaa hGr
              have HDr:=Zaa hDr
              have HUr:=Zaa hUr
              clear hacc hV hGr hDr hUr Hacc
              go_wp2_with (at_builtin; refine Zcm _ rfl (.tmp 114) (.tmp 116) 25 rfl wr.heap.size 3 Tryz.infoInt Tryz.underlying25 rfl (by decide) _ 0 [] rfl (World.ownsRow_nil _ _ _ _) _ n.used.length (ints n.used) rfl HRu.out ?_ ?_ ?_)
              · omega
              · omega
              intro v8 u8 hap8
              try simp only [Nat.zero_add,List.nil_append] at hap8
              obtain ⟨ua8,ucap8,rfl⟩:=Zad hap8.owns
              have hE8:Ext wr u8:=hap8.kept.below (Qe _) (fun i e=>by simp [Zap,Value.ownBlock] at e)
              have hM8:=(hE8.block _ hmr).trans HM.out
              have hK8:Kept (fun i=>i=u3.heap.size) u8 (u8.setCell ⟨u3.heap.size,3,none⟩ (.slice ua8 n.used.length ucap8)):=(Qx (only u3.heap.size) u8).put 3 _
              have hown8:=Zdl hap8.owns hM8 (by decide) hK8
              obtain ⟨q0,q1,q2,q3,q4,qf⟩:=box5 hM8
              have hs8:=hE8.size
              have hm8:u3.heap.size<u8.heap.size:=by omega
              obtain ⟨W8,hW8⟩:∃ W8,W8=u8.setCell ⟨u3.heap.size,3,none⟩ (.slice ua8 n.used.length ucap8):=⟨_,rfl⟩
              have hMW8:W8.heap[u3.heap.size]?=some (.cells #[.slice gca (c.body.length+gs.length) gccap,.slice cwa n.vals.length cwcap,.slice dca (n.done.length+1) dccap,.slice ua8 n.used.length ucap8,.int .i64 0] 152 (0,0)):=by rw [hW8]; exact Zai hM8 3 _
              rw [← hW8] at hK8
              have HE8:=Zaa hE8
              have HM8:=Zaa hM8
              have HK8:=Zaa hK8
              have Hown8:=Zaa hown8
              have HMW8:=Zaa hMW8
              have HW8:=Zaa hW8
              have hsW8:=hK8.size
              clear hap8 hE8 hM8 hK8 hown8 hMW8 hW8
              go_wp2_with (at_builtin; refine Zal _ rfl (.tmp 120) (.tmp 122) 25 rfl wr.heap.size 3 Tryz.infoInt Tryz.underlying25 rfl (by decide) _ n.used.length (ints n.used) rfl Hown8.out _ rfl (by simp) rfl (Ziv _) ?_ ?_ ?_)
              · omega
              · simp; omega
              rw [← HW8.out]
              intro v9 u9 hap9
              obtain ⟨ua9,ucap9,rfl⟩:=Zad hap9.owns
              have hk89:Kept (fun i=>wr.heap.size≤i) W8 u9:=hap9.kept.mono (fun i _ e=>by have:=Hown8.out; rw [← HW8.out] at this; exact (this.lt i e).1)
              have hM9:=(hk89.block _ (by omega) (by omega)).trans HMW8.out
              obtain ⟨q0,q1,q2,q3,q4,qf⟩:=box5 hM9
              have hs9:=hk89.size
              have hE9:Ext w2 u9:=((HE2r.out.trans (HE8.out.mono HE2r.out.size)).trans (HK8.out.below (by omega) (fun i e=>by omega))).trans (hk89.below (by omega) (fun i e=>by omega))
              obtain ⟨n0,n1',n2',n3',n4',nf⟩:=box5 ((hE9.block _ (by omega)).trans Hbn2.out)
              obtain ⟨c0,c1',c2',c3',c4',cf⟩:=box5 ((hE9.block _ (by omega)).trans Hbc2.out)
              have hr9:=(hE9.block _ (show w.heap.size+1<w2.heap.size by omega)).trans Hbr2.out
              have hap9o:=hap9.owns
              have Hfu:Hid (∀ i,Zap (.slice ua9 (n.used.length+1) ucap9) i→w.heap.size≤i):=fun i e=>by have h1:=(hap9o.lt i e).1; have:=HEwr.out.size; omega
              have hchild:RepN X W8 (.slice gca (c.body.length+gs.length) gccap) (.slice cwa n.vals.length cwcap) (.slice dca (n.done.length+1) dccap) (.slice ua8 n.used.length ucap8) { Zaq (sgm L) n c k g gs with used:=n.used }:=by
                have e1:(Zaq (sgm L) n c k g gs).goals.length=c.body.length+gs.length:=by simp [Zaq,carr]
                have e2:(Zaq (sgm L) n c k g gs).done.length=n.done.length+1:=by simp [Zaq,carr]
                refine ⟨⟨zs5,?_⟩,⟨ys2,?_⟩,⟨zs6,?_⟩,?_⟩
                · show RowG X W8 0 _ (Zaq (sgm L) n c k g gs).goals.length _ zs5
                  rw [e1]
                  exact (HGr.out.ext (Y:=X) (B':=0) HE8.out (fun _ _ h=>h) (Qe _)).box HM8.out (by decide) (by decide) HK8.out
                · exact (HV.out.ext (Y:=X) HE8.out (fun _ _ h=>h)).box HM8.out (by decide) HK8.out
                · show RowG X W8 0 _ (Zaq (sgm L) n c k g gs).done.length _ zs6
                  rw [e2]
                  exact (HDr.out.ext (Y:=X) (B':=0) HE8.out (fun _ _ h=>h) (Qe _)).box HM8.out (by decide) (by decide) HK8.out
                · have:=Hown8.out
                  rw [← HW8.out] at this
                  exact Zbb this (Qm _)
              have hchild9:RepN X u9 (.slice gca (c.body.length+gs.length) gccap) (.slice cwa n.vals.length cwcap) (.slice dca (n.done.length+1) dccap) (.slice ua9 (n.used.length+1) ucap9) (Zaq (sgm L) n c k g gs):=by
                have ho8:=Hown8.out
                rw [← HW8.out] at ho8
                obtain ⟨y1,g1⟩:=hchild.goals
                obtain ⟨y2,g2⟩:=hchild.vals
                obtain ⟨y3,g3⟩:=hchild.done
                refine ⟨⟨y1,g1.aside ho8 (by decide) (by decide) hap9.kept⟩,⟨y2,g2.aside ho8 (by decide) hap9.kept⟩,⟨y3,g3.aside ho8 (by decide) (by decide) hap9.kept⟩,?_⟩
                have:=Zbb hap9o (Qm _)
                simpa [Zaq,ints] using this
              have hK9:Kept (fun i=>i=u3.heap.size) u9 ((u9.setCell ⟨u3.heap.size,3,none⟩ (.slice ua9 (n.used.length+1) ucap9)).setCell ⟨u3.heap.size,4,none⟩ (.int .i64 (Zaq (sgm L) n c k g gs).vars)):=((Qx (only u3.heap.size) u9).put 3 _).put 4 _
              have hchildA:=hchild9.box hM9 (by decide) (by decide) (by decide) hK9
              have hMA:((u9.setCell ⟨u3.heap.size,3,none⟩ (.slice ua9 (n.used.length+1) ucap9)).setCell ⟨u3.heap.size,4,none⟩ (.int .i64 (Zaq (sgm L) n c k g gs).vars)).heap[u3.heap.size]?=some (.cells #[.slice gca (c.body.length+gs.length) gccap,.slice cwa n.vals.length cwcap,.slice dca (n.done.length+1) dccap,.slice ua9 (n.used.length+1) ucap9,.int .i64 (Zaq (sgm L) n c k g gs).vars] 152 (0,0)):=Zai (Zai hM9 3 _) 4 _
              have hrA:=(hK9.block _ (Zac hr9) (by omega)).trans hr9
              have hEA:=(hE9.trans (hK9.below (by omega) (fun i e=>by omega)))
              have hlenA:∀ x ∈ (Zaq (sgm L) n c k g gs).goals,x.1.length≤4000:=fun x hx=>by
                simp only [Zaq,carr,List.mem_map] at hx
                obtain ⟨y,hy,rfl⟩:=hx
                show (ap (sgm L) y.1).length≤4000
                have hb:=Hbnd.out y.1 L.length (by
                  rcases Qk.1 hy with hy | hy
                  · obtain ⟨t,ht,rfl⟩:=List.mem_map.1 hy
                    have h1:=Hb.out t ht
                    have h2:=Zhz (σ:=Zbr n.vars) (k:=1) (Qe _) (fun n=>by simp [Zbr,vr]) t
                    show (ap (Zbr n.vars) t).length≤30
                    omega
                  · exact Hs1.out y (by rw [Hg.out]; simp [hy]))
                rw [List.take_length] at hb
                exact hb
              have hlenB:∀ x ∈ (Zaq (sgm L) n c k g gs).done,x.1.length≤4000:=fun x hx=>by
                simp only [Zaq,carr,List.mem_map] at hx
                obtain ⟨y,hy,rfl⟩:=hx
                show (ap (sgm L) y.1).length≤4000
                have hb:=Hbnd.out y.1 L.length (by
                  rcases Qk.1 hy with hy | hy
                  · exact Hs2.out y hy
                  · simp at hy; subst hy; exact hgl30)
                rw [List.take_length] at hb
                exact hb
              have hKi:=Yef _ X _ _ _ _ (Zaq (sgm L) n c k g gs) hchildA (by simp [Zaq,carr]; omega) (by simp [Zaq,carr]; omega) (by simp [Zaq]; omega) hlenA hlenB
              have hvs:((Zaq (sgm L) n c k g gs).vars:Int)=(n.vars:Int)+c.n:=by simp [Zaq]
              have HEA:=Zaa hEA
              have HMA:=Zaa hMA
              have HrA:=Zaa hrA
              have HchildA:=Zaa hchildA
              rw [hvs] at hKi
              have HKi:=Zaa hKi
              have Hvs:=Zaa hvs
              clear hchild hchild9 hK9 hchildA hMA hrA hEA hlenA hlenB hKi hvs hap9 hap9o hM9 hr9 hE9 hk89
              go_wp2_with fail
              refine HKi.out.mono ?_
              rintro e uB ⟨rfl,hEB⟩
              rw [← Hvs.out] at hEB
              have hMB:=(hEB.block _ (Zac HMA.out)).trans HMA.out
              have hrB:=(hEB.block _ (Zac HrA.out)).trans HrA.out
              rw [Hvs.out] at hMB
              obtain ⟨q0,q1,q2,q3,q4,qf⟩:=box5 hMB
              obtain ⟨r0,r1,r2,r3,r4,rf⟩:=box5 hrB
              have hchB:=HchildA.out.ext (Y:=X) hEB (fun _ _ h=>h)
              have hEwB:Ext w uB:=HEw2.out.trans ((HEA.out.mono hww2).trans (hEB.mono (by have:=HEA.out.size; omega)))
              have HchB:=Zaa hchB
              have HEwB:=Zaa hEwB
              have HrB:=Zaa hrB
              have hsB:=hEwB.size
              clear hMB hrB hchB hEwB hEB
              generalize hkq:Zcw (Zaq (sgm L) n c k g gs)=kq
              have Hkq:=Zaa hkq
              clear hkq
              go_wp2
              refine bodyPost_ret (v := .tuple #[.agg #[.slice gca (c.body.length+gs.length) gccap,.slice cwa n.vals.length cwcap,.slice dca (n.done.length+1) dccap,.slice ua9 (n.used.length+1) ucap9,.int .i64 ((n.vars:Int)+c.n)],.int .i64 kq]) (by simp [results,Tryz.results147,go_sem,r0,r1,r2,r3,r4,rf]) rfl ?_
              refine ⟨_,_,_,_,_,kq,rfl,⟨_,_,_,_,_,_,_,_,_,_,_,_,_,rfl⟩,HEwB.out.trans (Kept.below (S:=fun i=>i=w.heap.size+1) ((((((Qx (only (w.heap.size+1)) uB).put 0 _).put 1 _).put 2 _).put 3 _).put 4 _) (by omega) (fun i e=>by omega)),Or.inr (Or.inr ⟨sgm L,Hmgu.out,hsm,Hkq.out.symm,by simp,?_,?_⟩)⟩
              rotate_left
              · rintro i (h | h | h | h)
                · exact Hfg.out i h
                · exact Hfv.out i h
                · exact Hfd.out i h
                · exact Hfu.out i h
              exact HchB.out.box HrB.out (by decide) (by decide) (by decide) ((((((Qx (only (w.heap.size+1)) uB).put 0 _).put 1 _).put 2 _).put 3 _).put 4 _)
theorem Zyv {q:List (List Sym)} {k:Nat} {t:List Sym} (h:q[k]?=some t):(q.take (k+1)).map (fun t=>(t,0))=(q.take k).map (fun t=>(t,0))++[(t,(0:Nat))]:=by
 rw [List.take_add_one,h]; simp
theorem Yhq (w:World) (X:Nat→Prop) (av nv:Value) (q:List (List Sym) × Names) (ax:List Value) (hA:RowT X w av q.1 ax) (hN:∃ na ncap,nv = .slice na q.2.length ncap) (hX:∀ k,X k→k<w.heap.size) (hl:q.1.length≤100) (hn:q.2.length≤1000) :
  Calls Tryz.prog 120 #[.agg #[av,nv]] w fun e w'=>∃ m0 m1 m2 m3,e = .returned (.agg #[m0,m1,m2,m3,.int .i64 (topN q).vars])∧Ext w w'∧RepN X w' m0 m1 m2 m3 (topN q):=by
 obtain ⟨na,ncap,rfl⟩:=hN
 obtain ⟨aa,acap,rfl⟩:=Zad hA.1
 have HA:=Zaa hA
 have HX:=Zaa hX
 clear hA hX
 go_enter Tryz.func120,Tryz.ntmps120
 go_wp2
 go_loopg [4] (q.1.length+1) (fun gk i wr=>∃ (k:Nat) (gv:Value) (zs:List Value),i = .int .i64 k∧k≤q.1.length∧q.1.length - k<gk∧Ext w wr ∧
   wr.heap[w.heap.size]?=some (.cells #[.slice aa q.1.length acap,.slice na q.2.length ncap] 148 (0,0)) ∧
   wr.heap[w.heap.size+1]?=some (.cells #[.slice none 0 0,.slice none 0 0,.slice none 0 0,.slice none 0 0,.int .i64 0] 152 (0,0)) ∧
   wr.heap[w.heap.size+1+1]?=some (.cells #[gv,.slice none 0 0,.slice none 0 0,.slice none 0 0,.int .i64 0] 152 (0,0)) ∧
   RowG X wr (w.heap.size+3) gv k ((q.1.take k).map (fun t=>(t,0))) zs)
 case atStart =>
  refine ⟨0,.slice none 0 0,[],by go_num,Qm _,by omega,(Ext.of (by repeat' (first | with_reducible(first|exact Qx _ _|apply Kept.drew|apply Kept.drewN|apply Qz|refine Qy ?_ ?_ _)|exact fun h=>absurd h (by simp <;> omega)))),?_,?_,?_,RowG.nil _ _ _⟩
  ·exact Zag (Zag (heap_alloc_new w _) _) _
  ·simpa using Zag (heap_alloc_new (w.alloc _) _) _
  ·simpa using heap_alloc_new ((w.alloc _).alloc _) _
 case round =>
  obtain ⟨k,gv,zs,rfl,hk,hg,hext,h0,h1,h2,hrow⟩:=hrel
  obtain ⟨ga,gcap,rfl⟩:=Zad hrow.owns
  have hsz:=Zac h2
  obtain ⟨b0,b1,bf⟩:wr.cell? ⟨w.heap.size,0,none⟩=some (.slice aa q.1.length acap)∧wr.cell? ⟨w.heap.size,1,none⟩=some (.slice na q.2.length ncap)∧∀ i,wr.frozen? ⟨w.heap.size,i,none⟩=false :=
   ⟨Zab h0 0 _ rfl,Zab h0 1 _ rfl,fun i=>Zae h0 i⟩
  obtain ⟨m0,m1,m2,m3,m4,mf⟩:=box5 h2
  have Hext:=Zaa hext
  have H0:=Zaa h0
  have H1:=Zaa h1
  have H2:=Zaa h2
  have Hrow:=Zaa hrow
  clear hext h0 h1 h2 hrow
  by_cases hlt:k<q.1.length
  ·obtain ⟨t,ht⟩:∃ t,q.1[k]?=some t:=⟨_,Qb hlt⟩
   obtain ⟨a',b',c',x0,x1,x2,hrt⟩:=HA.out.2.2 k t ht
   obtain ⟨s3,n3,c3a,c3l,c3c,rfl,rfl,rfl⟩:=hrt.shape
   have hrow':=HA.out.ext (Y:=X) Hext.out (fun _ _ h=>h)
   obtain ⟨gb,cap',cur,hge,hBg,hgb,hcp⟩:=Zan hrow'.1 (by omega)
   simp only [Value.slice.injEq] at hge
   obtain ⟨rfl,_,rfl⟩:=hge
   have y0:wr.cell? ⟨gb,k * 3,none⟩=some (.string s3):=Zaf hrow'.1 _ _ x0
   have y1:wr.cell? ⟨gb,k * 3+1,none⟩=some (.int .i64 n3):=Zaf hrow'.1 _ _ x1
   have y2:wr.cell? ⟨gb,k * 3+2,none⟩=some (.slice c3a c3l c3c):=Zaf hrow'.1 _ _ x2
   have Hrt:=Zaa (hrt.ext (Y:=X) Hext.out (fun _ _ h=>h))
   have Htk:=Zaa (Zyv ht)
   have Hrow1:=Zaa (Hrow.out.ext (Y:=X) (B':=w.heap.size+3) (w':=wr.drewN 1) ⟨rfl,rfl,rfl,Qe _,fun _ _=>rfl⟩ (fun _ _ h=>h) (Qe _))
   clear hgb hrow' hrt x0 x1 x2 ht
   go_wp2_with fail
   go_region_law (refine Zch (wr.drewN 1) rfl (.tmp 14) (.tmp 21) 150 rfl (w.heap.size+3) 200 Tryz.infoGoal Tryz.underlying150 rfl (by decide) (.slice ga k gcap) k zs rfl Hrow1.out.owns #[.string s3,.int .i64 n3,.slice c3a c3l c3c,.int .i64 0] rfl (by simp) rfl Zls (by omega) (by show w.heap.size+3≤wr.heap.size; omega) rfl ?_; intro v' w2 hap; obtain ⟨v1a,v1cap,rfl⟩:=Zad hap.owns; have hblk2:=(hap.kept.block _ (show w.heap.size+1+1<wr.heap.size by omega) (fun e=>by have:=(Hrow1.out.owns.lt _ e).1; omega)).trans H2.out; obtain ⟨d0,d1,d2,d3,d4,df⟩:=box5 hblk2; have Hblk2:=Zaa hblk2; have Hap:=Zaa hap; clear hap hblk2)
   all_goals
    go_wp2
    go_roundg (q.1.length - k)
    case measure=>omega
    case rel =>
     have hst:=Hrow1.out.step (d:=0) (Hrt.out.on (fun k _ hn _=>⟨rfl,hn⟩)) Hap.out
     rw [← Htk.out] at hst
     have hlow:Below (w.heap.size+1+1) wr w2:=(⟨rfl,rfl,rfl,Qe _,fun _ _=>rfl⟩:Below _ wr (wr.drewN 1)).trans (Hap.out.kept.below (by show _≤wr.heap.size; omega) (fun j e=>by have:=(Hrow1.out.owns.lt j e).1; omega))
     have hs2:=Hap.out.kept.size
     have hK:Kept (fun j=>j=w.heap.size+1+1) w2 (w2.setCell ⟨w.heap.size+1+1,0,none⟩ (.slice v1a (k+1) v1cap)):=(Qx (only (w.heap.size+1+1)) w2).put 0 _
     refine ⟨k+1,_,_,by go_num,by omega,by omega,?_,?_,?_,Zai Hblk2.out 0 _,hst.box Hblk2.out (by decide) (by decide) hK⟩
     ·exact Hext.out.trans ((hlow.mono (by omega)).trans (hK.below (by have:=hlow.size; omega) (fun j e=>by omega)))
     ·exact (hK.block _ (by have:=hlow.size; omega) (by omega)).trans ((hlow.block _ (by omega)).trans H0.out)
     ·exact (hK.block _ (by have:=hlow.size; omega) (by omega)).trans ((hlow.block _ (by omega)).trans H1.out)
  ·have hek:k=q.1.length:=by omega
   subst hek
   have hg0:=Hrow.out
   rw [List.take_length] at hg0
   have Hg0:=Zaa hg0
   clear hg0
   obtain ⟨wo,hwo⟩:∃ x,x=wr:=⟨_,rfl⟩
   subst hwo
   go_wp2
   go_loopg [5] (q.2.length+1) (fun gk i wr=>∃ (k:Nat) (cv:Value) (ys:List Value),i = .int .i64 k∧k≤q.2.length∧q.2.length - k<gk∧Kept (fun j=>j=w.heap.size+1+1) wo wr ∧
    wr.heap[w.heap.size+1+1]?=some (.cells #[.slice ga q.1.length gcap,cv,.slice none 0 0,.slice none 0 0,.int .i64 0] 152 (0,0)) ∧
    Acc (fun j=>X j∨j=w.heap.size+1+1) wr wo.heap.size cv k ((List.range k).map vr) ys)
   case atStart=>exact ⟨0,.slice none 0 0,[],by go_num,Qm _,by omega,Qx _ _,H2.out,Acc.nil _ _ _⟩
   case round =>
    obtain ⟨k,cv,ys,rfl,hk,hg,hkept,h2,hacc⟩:=hrel
    obtain ⟨cva,cvcap,rfl⟩:=Zad hacc.owns
    have hs1:=hkept.size
    have h0:=(hkept.block _ (show w.heap.size<wo.heap.size by omega) (by omega)).trans H0.out
    have h1:=(hkept.block _ (show w.heap.size+1<wo.heap.size by omega) (by omega)).trans H1.out
    obtain ⟨b0,b1,bf⟩:wr.cell? ⟨w.heap.size,0,none⟩=some (.slice aa q.1.length acap)∧wr.cell? ⟨w.heap.size,1,none⟩=some (.slice na q.2.length ncap)∧∀ i,wr.frozen? ⟨w.heap.size,i,none⟩=false :=
     ⟨Zab h0 0 _ rfl,Zab h0 1 _ rfl,fun i=>Zae h0 i⟩
    obtain ⟨m0,m1,m2,m3,m4,mf⟩:=box5 h2
    have hmlt:=Zac h2
    have Hkept:=Zaa hkept
    have H0':=Zaa h0
    have H1':=Zaa h1
    have H2':=Zaa h2
    have Hacc:=Zaa hacc
    clear hkept h0 h1 h2 hacc
    by_cases hlt:k<q.2.length
    ·go_wp2_with (at_builtin; refine Zal _ rfl (.tmp 32) (.tmp 35) 146 rfl wo.heap.size 183 Tryz.infoTerm Tryz.underlying146 rfl (by decide) _ k ys rfl Hacc.out.owns _ rfl rfl rfl Zig ?_ ?_ ?_)
     ·omega
     ·omega
     intro v' w3 hap
     obtain ⟨v1a,v1cap,rfl⟩:=Zad hap.owns
     have hblk3:=(hap.kept.block _ hmlt (fun e=>by have:=(Hacc.out.owns.lt _ e).1; omega)).trans H2'.out
     obtain ⟨p0,p1,p2,p3,p4,pf⟩:=box5 hblk3
     have Hblk3:=Zaa hblk3
     have Hap:=Zaa hap
     clear hap hblk3
     go_wp2
     go_roundg (q.2.length - k)
     case measure=>omega
     case rel =>
      have hK:Kept (fun j=>X j∨j=w.heap.size+1+1) w3 (w3.setCell ⟨w.heap.size+1+1,1,none⟩ (.slice v1a (k+1) v1cap)):=Qy (Qx _ w3) (p:=⟨w.heap.size+1+1,1,none⟩) (fun _=>Or.inr rfl) _
      have hK':Kept (fun j=>j=w.heap.size+1+1) w3 (w3.setCell ⟨w.heap.size+1+1,1,none⟩ (.slice v1a (k+1) v1cap)):=(Qx (only (w.heap.size+1+1)) w3).put 1 _
      obtain ⟨hacc',_⟩:=Hacc.out.step (Below.refl _ _) (Rep.var _ wr k) Hap.out hK (fun j h=>by
       rcases h with h | h
       ·have:=HX.out j h; omega
       ·omega)
      have e:(List.range (k+1)).map vr=(List.range k).map vr++[vr k]:=by rw [List.range_succ]; simp
      rw [← e] at hacc'
      refine ⟨k+1,_,_,by go_num,by omega,by omega,?_,Zai Hblk3.out 1 _,hacc'⟩
      exact Hkept.out.then (S':=fun j=>j=w.heap.size+1+1∨wo.heap.size≤j) ((Hap.out.kept.mono (fun j _ e=>Or.inr (Hacc.out.owns.lt j e).1)).then hK' (fun _ _ e=>Or.inl e)) (fun j hj h=>by omega)
    ·have hek:k=q.2.length:=by omega
     subst hek
     obtain ⟨r0,r1,r2,r3,r4,rf⟩:=box5 H1'.out
     go_wp2
     refine bodyPost_ret (v := .agg #[.slice ga q.1.length gcap,.slice cva q.2.length cvcap,.slice none 0 0,.slice none 0 0,.int .i64 q.2.length]) (by simp [results,Tryz.results120,go_sem,r0,r1,r2,r3,r4,rf]) rfl ?_
     have hN:RepN X wr (.slice ga q.1.length gcap) (.slice cva q.2.length cvcap) (.slice none 0 0) (.slice none 0 0) (topN q):=by
      refine ⟨⟨zs,?_⟩,⟨ys,?_⟩,⟨[],RowG.nil _ _ _⟩,World.ownsRow_nil _ _ _ _⟩
      ·have:=Hg0.out.box H2.out (by decide) (by decide) Hkept.out
       have e:(topN q).goals.length=q.1.length:=by simp [topN]
       rw [e]
       exact ⟨Zbb this.owns (Qm _),this.len,this.all⟩
      ·exact Hacc.out.row (Qx _ _) (fun j h=>Or.inl h) (fun j h=>by
        rcases h with h | h
        ·have:=HX.out j h; omega
        ·omega)
     have hK1:Kept (fun j=>j=w.heap.size+1+1) wr (wr.setCell ⟨w.heap.size+1+1,4,none⟩ (.int .i64 q.2.length)):=(Qx (only (w.heap.size+1+1)) wr).put 4 _
     have hb1:=(hK1.block _ (Zac H1'.out) (by omega)).trans H1'.out
     have hN1:=hN.box H2'.out (by decide) (by decide) (by decide) hK1
     refine ⟨_,_,_,_,rfl,?_,hN1.box hb1 (by decide) (by decide) (by decide) (((((((Qx (only (w.heap.size+1)) _).put 0 _).put 1 _).put 2 _).put 3 _).put 4 _))⟩
     refine (Hext.out.trans (Hkept.out.below (by omega) (fun j e=>by omega))).trans (Kept.below (S:=fun k=>w.heap.size≤k∧k<w.heap.size+3) (by repeat' (first | with_reducible(first|exact Qx _ _|apply Kept.drew|apply Kept.drewN|apply Qz|refine Qy ?_ ?_ _)|(intro _; simp only; omega))) (by omega) (fun j h=>h.1))
structure NodeAt (X:Nat→Prop) (w:World) (m0 m1 m2 m3 m4:Value) (n0:ND):Prop where
 node:∃ n,RepN X w m0 m1 m2 m3 n∧NOk n∧NNm n∧Same n n0∧m4 = .int .i64 n.vars
 off:∀ k,Zap m0 k∨Zap m1 k∨Zap m2 k∨Zap m3 k→¬ X k
theorem NodeAt.on {X Y:Nat→Prop} {w w':World} {m0 m1 m2 m3 m4:Value} {n0:ND} (h:NodeAt X w m0 m1 m2 m3 m4 n0) (hs:∀ k,k<w.heap.size→¬ X k→w'.heap[k]?=w.heap[k]?) (hy:∀ k,k<w.heap.size→Y k→X k):NodeAt Y w' m0 m1 m2 m3 m4 n0:=by
 obtain ⟨n,hR,h2,h3,h4,h5⟩:=h.node
 obtain ⟨xs,g1⟩:=hR.goals
 obtain ⟨ys,g2⟩:=hR.vals
 obtain ⟨zs,g3⟩:=hR.done
 have hT:∀ k,k<w.heap.size→¬ X k→Zeo w k→w'.heap[k]?=w.heap[k]?∧¬ Y k:=fun k hk hx _=>⟨hs k hk hx,fun hy'=>hx (hy k hk hy')⟩
 refine ⟨⟨n,⟨⟨xs,g1.on (fun k hk=>hs k (g1.owns.lt k hk).2 (h.off k (Or.inl hk))) hT⟩,⟨ys,g2.on hT⟩,⟨zs,g3.on (fun k hk=>hs k (g3.owns.lt k hk).2 (h.off k (Or.inr (Or.inr (Or.inl hk))))) hT⟩,Zak hR.used (fun k hk=>hs k (hR.used.lt k hk).2 (h.off k (Or.inr (Or.inr (Or.inr hk)))))⟩,h2,h3,h4,h5⟩,?_⟩
 intro k hk hYk
 have hlt:k<w.heap.size:=by
  rcases hk with hk | hk | hk | hk
  ·exact (g1.owns.lt k hk).2
  ·exact (g2.1.lt k hk).2
  ·exact (g3.owns.lt k hk).2
  ·exact (hR.used.lt k hk).2
 exact h.off k hk (hy k hlt hYk)
theorem NodeAt.ext {X Y:Nat→Prop} {w w':World} {m0 m1 m2 m3 m4:Value} {n0:ND} (h:NodeAt X w m0 m1 m2 m3 m4 n0) (e:Ext w w') (hy:∀ k,k<w.heap.size→Y k→X k):NodeAt Y w' m0 m1 m2 m3 m4 n0:=h.on (fun k hk _=>e.block k hk) hy
def TryR (n0:ND) (c:Cls) (k:Nat):(Nat→Prop)→Value→World→Prop:=fun Z v u=>∃ m0 m1 m2 m3 m4:Value,∃ q:Nat,v = .tuple #[.agg #[m0,m1,m2,m3,m4],.int .i64 q]∧Yce (.agg #[m0,m1,m2,m3,m4])∧q=(tryN n0 c k).2∧(q=1∨q=2→NodeAt Z u m0 m1 m2 m3 m4 (tryN n0 c k).1)
theorem Ygg:∀ {l:List Sym} {k N:Nat},Wf k l→(∀ v,Occ v l→v<N)→∀ s ∈ l,s.num≤N:=by
 intro l k N h ho s hs
 by_cases hn:s.name=[]
 ·exact Nat.le_of_lt (ho s.num ⟨s,hs,hn,rfl⟩)
 ·obtain ⟨i,hi⟩:=List.mem_iff_getElem?.1 hs
  clear ho
  induction l generalizing k i with
  | nil=>simp at hs
  | cons t l ih =>
   obtain ⟨_,_,h3,h4⟩:=h
   cases i with
   | zero=>simp at hi; subst hi; rw [h3 hn]; omega
   | succ i=>exact ih h4 (Qh (by simpa using hi)) i (by simpa using hi)
theorem Yes (w:World) (X:Nat→Prop) (lv:Value) (cs:List Cls) (xs:List Value) (m0 m1 m2 m3 m4:Value) (n0:ND) (k:Nat) (c:Cls) (hC:RowC X w lv cs xs) (hcs:∀ c ∈ cs,COk c∧CNm c) (hcl:cs.length≤24) (hN:NodeAt X w m0 m1 m2 m3 m4 n0)
  (hX:∀ k,X k→k<w.heap.size) (hk:cs[k]?=some c) (hg:n0.goals≠[]) :
  Calls Tryz.prog 147 #[lv,.agg #[m0,m1,m2,m3,m4],.int .i64 k] w fun e w'=>∃ r,e = .returned r∧Ext w w'∧TryR n0 c k X r w':=by
 obtain ⟨n,hR,hOk,hNm,hS,rfl⟩:=hN.node
 obtain ⟨c1,c2⟩:=hcs c (Qh hk)
 obtain ⟨g,gs,hgs⟩:∃ g gs,n.goals=g::gs:=by
  cases h:n.goals with
  | nil=>exact absurd (List.eq_nil_of_length_eq_zero (by rw [← hS.gl,h]; rfl)) hg
  | cons x y=>exact ⟨x,y,rfl⟩
 have hv:=hOk.vars
 have hu:=hOk.ul
 have hcn:=c1.n
 refine (Yhp w X lv m0 m1 m2 m3 cs xs n k c g gs hC hR hX hk hgs (by omega) hOk.gl (by rw [hOk.dl]; exact hu) hu hOk.vl (by omega) hcn (fun g hg=>(hOk.gs g hg).1) (fun g hg=>(hOk.ds g hg).1) (fun t ht=>hOk.vsize ht) c1.hl c1.bl (by have:=c1.bn; omega)
  (fun s hs=>Qq (Ygg c1.wfh c1.och s hs) hcn) (fun t ht s hs=>Qq (Ygg (c1.wfb t ht) (c1.ocb t ht) s hs) hcn) (fun g hg=>by have:=(hOk.gs g hg).2; omega)).mono ?_
 rintro e w' ⟨p0,p1,p2,p3,p4,q,rfl,hval,hext,hc⟩
 refine ⟨_,rfl,hext,p0,p1,p2,p3,p4,q,rfl,hval,?_⟩
 rcases hc with ⟨rfl,h⟩ | ⟨rfl,h⟩ | ⟨σ,h1,h2,h3,h4,h5,h6⟩
 ·have ho:Out n c k 0 n:=⟨g,gs,hgs,Or.inl ⟨rfl,h⟩⟩
  obtain ⟨e1,_⟩:=Zkm hOk hS c1 ho
  exact ⟨e1,fun h=>by omega⟩
 ·have ho:Out n c k 3 n:=⟨g,gs,hgs,Or.inr (Or.inl ⟨rfl,h⟩)⟩
  obtain ⟨e1,_⟩:=Zkm hOk hS c1 ho
  exact ⟨e1,fun h=>by omega⟩
 ·have ho:Out n c k q (Zaq σ n c k g gs):=⟨g,gs,hgs,Or.inr (Or.inr ⟨σ,h1,h2,h3,rfl⟩)⟩
  obtain ⟨e1,e2⟩:=Zkm hOk hS c1 ho
  refine ⟨e1,fun hq=>⟨⟨_,h5,(e2 hq).1,Yga ho hq hNm c2,(e2 hq).2,h4⟩,fun j hj hx => ?_⟩⟩
  have:=h6 j hj
  have:=hX j hx
  omega
theorem Yet (w:World) (av nv:Value) (q:List (List Sym) × Names) (ax:List Value) (hA:RowT (fun _=>False) w av q.1 ax) (hN:∃ na ncap,nv = .slice na q.2.length ncap) (hOk:NOk (topN q)) (hNm:NNm (topN q)) (hl:q.1.length≤6) (hn:q.2.length≤121) :
  Calls Tryz.prog 120 #[.agg #[av,nv]] w fun e w'=>∃ m0 m1 m2 m3 m4,e = .returned (.agg #[m0,m1,m2,m3,m4])∧Ext w w'∧NodeAt (fun _=>False) w' m0 m1 m2 m3 m4 (topN q):=by
 refine (Yhq w (fun _=>False) av nv q ax hA hN (fun _ h=>h.elim) (by omega) (by omega)).mono ?_
 rintro e w' ⟨m0,m1,m2,m3,rfl,hE,hR⟩
 exact ⟨m0,m1,m2,m3,_,rfl,hE,⟨topN q,hR,hOk,hNm,Same.refl hOk,rfl⟩,fun _ _ h=>h⟩
end Go.Proofs.YtlmjilpjmgjjcaaGreatDoor
