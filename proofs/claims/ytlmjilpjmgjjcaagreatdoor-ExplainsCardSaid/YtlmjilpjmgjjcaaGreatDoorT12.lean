/-
  PROVED HERE: plain facts on rows of goals in memory that are appended to each other (the conditions stand in each statement).
-/
import Derived.Test.YtlmjilpjmgjjcaaGreatDoorT11
namespace Go.Proofs.YtlmjilpjmgjjcaaGreatDoor
open Go.RowKit
set_option linter.unusedSimpArgs false
set_option linter.unusedVariables false
theorem tm_ok {k V:Nat} {l:List Sym} (hw:Wf k l) (hl:l.length≤1000) (ho:∀ v,Occ v l→v<V) (hV:V≤200000):TmOk l :=
 ⟨⟨k,hw⟩,hl,fun s hs=>by
  obtain ⟨i,hi⟩:=List.mem_iff_getElem?.1 hs
  by_cases hn:s.name=[]
  ·have:=ho s.num ⟨s,hs,hn,rfl⟩
   omega
  ·rw [(syms_wf hw hi).2 hn]; omega⟩
theorem TmOk.rn {l:List Sym} {v:Nat} {k:Nat} (hw:Wf k l) (hl:l.length≤1000) {V:Nat} (ho:∀ u,Occ u l→u<V) (hV:V+v≤200000):TmOk (l.map (YtlmjilpjmgjjcaaGreatDoor.rn v)):=by
 rw [← ap_shift hw]
 have hlen:(ap (shift v) l).length=l.length:=by rw [ap_shift hw]; simp
 exact tm_ok (wf_ap (ts_shift v) hw) (by omega) (V:=V+v) (fun u hu=>by
  obtain ⟨x,hx,rfl⟩:=shift_occ hu
  have:=ho x hx
  omega) hV
def TryOut (n:ND) (c:Cls) (k:Nat) (w:World) (e:Ending) (w':World):Prop:=Ext w w'∧∃ g1 g2 g3 v1 v2 v3 r1 r2 r3,∃ uu q:Nat,e = .returned (.tuple #[.agg #[.slice g1 g2 g3,.slice v1 v2 v3,.slice r1 r2 r3,.int .i64 uu],.int .i64 q]) ∧
 ((q=0∧(n.goals=[]∨Out n c k 0 n))∨(q=2∧∃ ch,Out n c k 3 ch)∨(q=1∧∃ ch qq,(qq=1∨qq=2)∧Out n c k qq ch∧NodeNew w.heap.size w' (.slice g1 g2 g3) (.slice v1 v2 v3) (.slice r1 r2 r3) ch∧uu=ch.vars∧g2=ch.goals.length))
theorem child_goals (σ:Nat→List Sym) (n:ND) (c:Cls) (hc:COk c) (k:Nat) (g:List Sym × Nat) (gs:List (List Sym × Nat)):(childBy σ n c k g gs).goals.map (·.1)=((c.body.map (fun l=>l.map (rn n.vars))++gs.map (·.1))).map (ap σ):=by
 unfold childBy
 simp only
 rw [carr_fst,List.map_append,List.map_map]
 congr 2
 refine List.map_congr_left (fun l hl => ?_)
 exact ap_shift (hc.wfb l hl)
theorem child_done (σ:Nat→List Sym) (n:ND) (c:Cls) (k:Nat) (g:List Sym × Nat) (gs:List (List Sym × Nat)):(childBy σ n c k g gs).done.map (·.1)=(n.done.map (·.1)++[g.1]).map (ap σ):=by
 unfold childBy
 simp only
 rw [carr_fst,List.map_append]
 rfl
theorem child_big {n:ND} (hn:NOk n) {c:Cls} (hc:COk c) (k:Nat) {g:List Sym × Nat} {gs:List (List Sym × Nat)} (hg:n.goals=g::gs) {σ:Nat→List Sym} (h1:Mgu σ g.1 (ap (shift n.vars) c.head)) {l:List Sym} (hl:l ∈ (c.body.map (fun l=>l.map (rn n.vars))++gs.map (·.1))++(n.vals++(n.done.map (·.1)++[g.1]))) (hb:30<(ap σ l).length):kindOf (childBy σ n c k g gs)=3:=by
 refine Classical.byContradiction (fun hne => ?_)
 have hok:=child_ok hn hc k hg h1 hne
 have hle:(ap σ l).length≤30:=by
  rcases List.mem_append.1 hl with hl | hl
  ·have:ap σ l ∈ (childBy σ n c k g gs).goals.map (·.1):=by rw [child_goals σ n c hc]; exact List.mem_map.2 ⟨l,hl,rfl⟩
   obtain ⟨x,hx,e⟩:=List.mem_map.1 this
   rw [← e]; exact (hok.gs x hx).1
  ·rcases List.mem_append.1 hl with hl | hl
   ·exact hok.vsize (t:=ap σ l) (List.mem_map.2 ⟨l,hl,rfl⟩)
   ·have:ap σ l ∈ (childBy σ n c k g gs).done.map (·.1):=by rw [child_done]; exact List.mem_map.2 ⟨l,hl,rfl⟩
    obtain ⟨x,hx,e⟩:=List.mem_map.1 this
    rw [← e]; exact (hok.ds x hx).1
 omega
theorem child_many {n:ND} {c:Cls} (k:Nat) {g:List Sym × Nat} {gs:List (List Sym × Nat)} {σ:Nat→List Sym} (h:40<c.body.length+gs.length∨100<n.used.length+1):kindOf (childBy σ n c k g gs)=3:=by
 have:overB (childBy σ n c k g gs)=true:=by
  unfold overB childBy carr
  simp only [Bool.or_eq_true,decide_eq_true_eq,List.length_map,List.length_append,List.length_cons,List.length_nil]
  omega
 unfold kindOf
 rw [if_pos this]
theorem child_small {n:ND} {c:Cls} (hc:COk c) (k:Nat) {g:List Sym × Nat} {gs:List (List Sym × Nat)} {σ:Nat→List Sym} (h1:¬ 40<c.body.length+gs.length) (h2:¬ 100<n.used.length+1) (h:∀ l ∈ (c.body.map (fun l=>l.map (rn n.vars))++gs.map (·.1))++(n.vals++(n.done.map (·.1)++[g.1])),(ap σ l).length≤30):kindOf (childBy σ n c k g gs)=1∨kindOf (childBy σ n c k g gs)=2:=by
 have:overB (childBy σ n c k g gs)=false:=by
  have hg:∀ x ∈ (childBy σ n c k g gs).goals,¬ bigG x=true:=fun x hx=>by
   have:x.1 ∈ (childBy σ n c k g gs).goals.map (·.1):=List.mem_map.2 ⟨x,hx,rfl⟩
   rw [child_goals σ n c hc] at this
   obtain ⟨l,hl,e⟩:=List.mem_map.1 this
   have:=h l (List.mem_append_left _ hl)
   unfold bigG
   rw [← e]
   simpa using this
  have hd:∀ x ∈ (childBy σ n c k g gs).done,¬ bigG x=true:=fun x hx=>by
   have:x.1 ∈ (childBy σ n c k g gs).done.map (·.1):=List.mem_map.2 ⟨x,hx,rfl⟩
   rw [child_done] at this
   obtain ⟨l,hl,e⟩:=List.mem_map.1 this
   have:=h l (List.mem_append_right _ (List.mem_append_right _ hl))
   unfold bigG
   rw [← e]
   simpa using this
  unfold overB
  simp only [Bool.or_eq_false_iff,decide_eq_false_iff_not]
  refine ⟨⟨⟨?_,?_⟩,List.any_eq_false.2 hg⟩,List.any_eq_false.2 hd⟩
  ·unfold childBy carr; simp; omega
  ·unfold childBy carr; simp; omega
 unfold kindOf
 rw [this]
 simp only [Bool.false_eq_true,if_false]
 split
 ·exact Or.inr rfl
 ·exact Or.inl rfl
set_option maxRecDepth 10000 in
set_option maxHeartbeats 4000000 in
theorem try_code (w:World) (gv vv rv hv bv nv:Value) (n:ND) (c:Cls) (k:Nat) (hn:NOk n) (hc:COk c) (h:NodeIn w gv vv rv n) (hcl:ClsIn w hv bv nv c) :
  Calls Tryz.prog 97 #[.agg #[gv,vv,rv,.int .i64 n.vars],.agg #[hv,bv,nv]] w (TryOut n c k w):=by
 obtain ⟨ga,gcap,rfl⟩:=h.goals.shape
 obtain ⟨va,vcap,rfl⟩:=h.vals.shape
 obtain ⟨ra,rcap,rfl⟩:=h.done.shape
 obtain ⟨ha,hcap,rfl⟩:=owns_slice hcl.head
 obtain ⟨ba,bcap,rfl⟩:=hcl.body.shape
 obtain ⟨na,ncap,rfl⟩:=owns_slice hcl.names
 have hgl:(n.goals.map (·.1)).length=n.goals.length:=by simp
 have hdl:(n.done.map (·.1)).length=n.done.length:=by simp
 rw [hgl,hdl] at h ⊢
 have hV:n.vars≤101000:=by have:=hn.vars; have:=hn.ul; omega
 have hcn:c.names.length≤1000:=hc.n
 have hg40:=hn.gl
 have hd100:n.done.length≤100:=by rw [hn.dl]; exact hn.ul
 have hb6:=hc.bn
 obtain ⟨W,hW⟩:∃ W,W=((w.alloc (.cells #[.slice ga n.goals.length gcap,.slice va n.vals.length vcap,.slice ra n.done.length rcap,.int .i64 n.vars] 87)).alloc (.cells #[.slice ha c.head.length hcap,.slice ba c.body.length bcap,.slice na c.names.length ncap] 107)).alloc (.cells #[.slice none 0 0,.slice none 0 0,.slice none 0 0,.int .i64 0] 87):=⟨_,rfl⟩
 have hE0:Ext w W:=by rw [hW]; exact (Ext.of (by repeat' (first | with_reducible exact Kept.refl _ _ | with_reducible apply Kept.drew | with_reducible apply Kept.drewN | with_reducible apply Kept.alloc | with_reducible refine Kept.setCell ?_ ?_ _ | exact fun h=>absurd h (by simp <;> omega))))
 have hWs:W.heap.size=w.heap.size+3:=by rw [hW]; simp
 have hb0:NB W w.heap.size (.slice ga n.goals.length gcap) (.slice va n.vals.length vcap) (.slice ra n.done.length rcap) n.vars:=by rw [hW]; exact block_alloc (block_alloc (heap_alloc_new w _) _) _
 have hb1:W.heap[w.heap.size+1]?=some (.cells #[.slice ha c.head.length hcap,.slice ba c.body.length bcap,.slice na c.names.length ncap] 107 (0,0)):=by rw [hW]; exact block_alloc (block_at (by simp) _) _
 have hb2:NB W (w.heap.size+2) (.slice none 0 0) (.slice none 0 0) (.slice none 0 0) 0:=by rw [hW]; exact block_at (by simp) _
 have HB:Hid (∀ y,Ext W y→y.cell? ⟨w.heap.size,0,none⟩=some (.slice ga n.goals.length gcap)∧y.cell? ⟨w.heap.size,1,none⟩=some (.slice va n.vals.length vcap)∧y.cell? ⟨w.heap.size,2,none⟩=some (.slice ra n.done.length rcap)∧y.cell? ⟨w.heap.size,3,none⟩=some (.int .i64 n.vars) ∧
   y.cell? ⟨w.heap.size+1,0,none⟩=some (.slice ha c.head.length hcap)∧y.cell? ⟨w.heap.size+1,1,none⟩=some (.slice ba c.body.length bcap)∧y.cell? ⟨w.heap.size+1,2,none⟩=some (.slice na c.names.length ncap)∧NB y (w.heap.size+2) (.slice none 0 0) (.slice none 0 0) (.slice none 0 0) 0∧w.heap.size+2<y.heap.size):=fun y hE=>by
  have e0:=(hE.block _ (lt_of_block hb0)).trans hb0
  have e1:=(hE.block _ (lt_of_block hb1)).trans hb1
  have e2:=(hE.block _ (lt_of_block hb2)).trans hb2
  exact ⟨cell_of_block e0 0 _ rfl,cell_of_block e0 1 _ rfl,cell_of_block e0 2 _ rfl,cell_of_block e0 3 _ rfl,cell_of_block e1 0 _ rfl,cell_of_block e1 1 _ rfl,cell_of_block e1 2 _ rfl,e2,lt_of_block e2⟩
 have hset:Hid (∀ y x0 x1 x2 x3,Ext w y→Ext w ((((y.setCell ⟨w.heap.size+2,0,none⟩ x0).setCell ⟨w.heap.size+2,1,none⟩ x1).setCell ⟨w.heap.size+2,2,none⟩ x2).setCell ⟨w.heap.size+2,3,none⟩ x3)):=fun y x0 x1 x2 x3 hE =>
  (((hE.setCell (p:=⟨w.heap.size+2,0,none⟩) (by simp) _).setCell (p:=⟨w.heap.size+2,1,none⟩) (by simp) _).setCell (p:=⟨w.heap.size+2,2,none⟩) (by simp) _).setCell (p:=⟨w.heap.size+2,3,none⟩) (by simp) _
 have hhead:TmOk (c.head.map (rn n.vars)):=TmOk.rn hc.wfh (by have:=hc.hl; omega) hc.och (by have:=hc.n; omega)
 have hheadl:(c.head.map (rn n.vars)).length=c.head.length:=by simp
 have hhl:=hc.hl
 have HR:=hide' (renamed_code W (.slice ha c.head.length hcap) c.head n.vars (WordAt.ext hcl.head hE0) (by omega) (fun s hs=>(tm_ok hc.wfh (by omega) hc.och (by have:=hc.n; omega)).num s hs) (by omega))
 obtain ⟨HD,hHD⟩:∃ l,l=c.head.map (rn n.vars):=⟨_,rfl⟩
 have HHD:Hid (HD=ap (shift n.vars) c.head):=by show _=_; rw [hHD]; exact (ap_shift hc.wfh).symm
 rw [← hHD] at HR hheadl hhead
 have H:=hide' h
 have Hcl:=hide' hcl
 have Hn:=hide' hn
 have Hc:=hide' hc
 have HE0:=hide' hE0
 have Hhead:=hide' hhead
 have Hhl:=hide' hheadl
 have HW:=hide' hW
 clear h hcl hE0 hb0 hb1 hb2 hhead hHD hgl hdl hn hc hheadl
 cases hgo:n.goals with
 | nil =>
  have Hgo:=hide' hgo
  rw [hgo] at HB
  obtain ⟨c0,c1,c2,c3,c4,c5,c6,c7,c8⟩:=HB.out W (Below.refl _ _)
  have r0:=cell_of_block c7 0 _ rfl
  have r1:=cell_of_block c7 1 _ rfl
  have r2:=cell_of_block c7 2 _ rfl
  have r3:=cell_of_block c7 3 _ rfl
  have rf:=fun i=>thawed_of_block c7 i
  rw [hgo] at hW
  clear hgo c7 hg40
  go_enter Tryz.func97,Tryz.ntmps97
  go_wp2_with fail
  rw [List.length_nil] at hW
  rw [← hW]
  refine bodyPost_ret (v := .tuple #[.agg #[.slice none 0 0,.slice none 0 0,.slice none 0 0,.int .i64 0],.int .i64 0]) (by simp [results,Tryz.results97,go_sem,r0,r1,r2,r3,rf,c8]) rfl ?_
  exact ⟨HE0.out,none,0,0,none,0,0,none,0,0,0,0,rfl,Or.inl ⟨rfl,Or.inl Hgo.out⟩⟩
 | cons g gs =>
  have hgn:n.goals.length=gs.length+1:=by rw [hgo]; simp
  have z1:((n.goals.length:Int) == 0)=false:=by rw [beq_eq_false_iff_ne]; omega
  obtain ⟨us,hT⟩:=H.out.goals
  obtain ⟨x,hx,hxo⟩:=hT.all 0 g.1 (by rw [hgo]; rfl)
  obtain ⟨xa,xcap,rfl⟩:=owns_slice hxo
  obtain ⟨gb,cap',cur,he,_,hgb,_⟩:=owns_some hT.owns (by simp; omega)
  simp only [Value.slice.injEq] at he
  obtain ⟨rfl,_,rfl⟩:=he
  have hgw:=lt_of_block hgb
  have x0:w.cell? ⟨gb,0,none⟩=some (.slice xa g.1.length xcap):=owns_cell (by have:=hT.owns; rw [List.length_map] at this; exact this) _ _ hx
  have hgt:g.1 ∈ n.terms:=by unfold ND.terms; rw [hgo]; simp
  have hgW:=Hn.out.wf g.1 hgt
  have hg30:=(Hn.out.gs g (by rw [hgo]; simp)).1
  have hgO:=(tm_ok hgW (by omega) (Hn.out.occ g.1 hgt) (by omega)).num
  have hHW:Wf 1 HD:=by rw [HHD.out]; exact wf_ap (ts_shift _) Hc.out.wfh
  have hHl:=Hhl.out
  have HWd:Hid (∀ y hx hc,Ext w y→WordAt y (.slice hx HD.length hc) HD→Calls Tryz.prog 127 #[.slice xa g.1.length xcap,.slice hx HD.length hc] y (WideOut g.1 HD y)):=fun y hx hc hE hr =>
   widest_any y _ _ g.1 HD (WordAt.ext hxo hE) hr hgW hHW (by omega) (by omega) (fun s hs=>by
    rcases List.mem_append.1 hs with hs | hs
    ·exact hgO s hs
    ·exact Hhead.out.num s hs)
  have Hgo:=hide' hgo
  have Hgn:=hide' hgn
  have Hg30:=hide' hg30
  clear hT hx hxo hgb hgt hgW hgO hHW hHl hgo hgn hg30
  obtain ⟨gl,hgl⟩:∃ m,m=n.goals.length:=⟨_,rfl⟩
  rw [← hgl] at HB hW z1 hg40
  rw [show (g::gs).length=gl from by rw [hgl,Hgn.out]; rfl]
  have hgp:0<gl:=by rw [hgl,Hgn.out]; omega
  have Hgl:=hide' hgl
  clear hgl
  go_enter Tryz.func97,Tryz.ntmps97
  go_wp2_with fail
  rw [← hW]
  refine HR.out.mono ?_
  rintro e w1 ⟨hv1,B1,rfl,hB1,hr1,hE1⟩
  obtain ⟨h1a,h1c,rfl⟩:=owns_slice hr1
  obtain ⟨c0,c1,c2,c3,c4,c5,c6,c7,c8⟩:=HB.out w1 hE1
  have hEw1:Ext w w1:=HE0.out.trans (hE1.mono (by omega))
  have hz1:=hE1.size
  have x1:w1.cell? ⟨gb,0,none⟩=some (.slice xa g.1.length xcap):=(hEw1.cell (p:=⟨gb,0,none⟩) hgw).trans x0
  have hgw1:gb<w1.heap.size:=by omega
  have HWd1:=hide' (HWd.out w1 h1a h1c hEw1 (owns_base hr1 (Nat.zero_le _)))
  have HE1:=hide' hE1
  have HEw1:=hide' hEw1
  clear hr1 hE1 hEw1 HR x0 HWd hW
  go_wp2_with fail
  refine HWd1.out.mono ?_
  rintro e w2 ⟨hE2,sx,sn,sc,q,rfl,hout⟩
  obtain ⟨c0,c1,c2,c3,c4,c5,c6,c7,c8⟩:=HB.out w2 (HE1.out.trans (hE2.mono hz1))
  have hz2:=hE2.size
  have r0:=cell_of_block c7 0 _ rfl
  have r1:=cell_of_block c7 1 _ rfl
  have r2:=cell_of_block c7 2 _ rfl
  have r3:=cell_of_block c7 3 _ rfl
  have rf:=fun i=>thawed_of_block c7 i
  have hEw2:Ext w w2:=HEw1.out.trans (hE2.mono (by omega))
  have k0:w.heap.size<w2.heap.size:=by omega
  have k1:w.heap.size+1<w2.heap.size:=by omega
  have HE2:=hide' hE2
  have HEw2:=hide' hEw2
  have Hc7:=hide' c7
  clear hE2 hEw2 x1 HWd1 c7
  rcases hout with ⟨rfl,hno⟩ | ⟨rfl,hva⟩ | ⟨rfl,ts,tvs,hts,hmg,hsm,htl,ht30⟩
  ·have Hno:Hid (Out n c k 0 n):=⟨g,gs,Hgo.out,Or.inl ⟨rfl,by rw [← HHD.out]; exact hno⟩⟩
   clear hno
   go_wp2
   refine bodyPost_ret (v := .tuple #[.agg #[.slice none 0 0,.slice none 0 0,.slice none 0 0,.int .i64 0],.int .i64 0]) (by simp [results,Tryz.results97,go_sem,r0,r1,r2,r3,rf,c8]) rfl ?_
   refine ⟨(hset.out w2 (.slice none 0 0) (.slice none 0 0) (.slice none 0 0) (.int .i64 0) HEw2.out).alloc (by simp; omega) _,none,0,0,none,0,0,none,0,0,0,0,rfl,Or.inl ⟨rfl,Or.inr Hno.out⟩⟩
  ·have Hva:Hid (∃ ch,Out n c k 3 ch):=⟨n,g,gs,Hgo.out,Or.inr (Or.inl ⟨rfl,by rw [← HHD.out]; exact hva⟩)⟩
   clear hva
   go_wp2
   refine bodyPost_ret (v := .tuple #[.agg #[.slice none 0 0,.slice none 0 0,.slice none 0 0,.int .i64 0],.int .i64 2]) (by simp [results,Tryz.results97,go_sem,r0,r1,r2,r3,rf,c8]) rfl ?_
   refine ⟨(hset.out w2 (.slice none 0 0) (.slice none 0 0) (.slice none 0 0) (.int .i64 0) HEw2.out).alloc (by simp; omega) _,none,0,0,none,0,0,none,0,0,0,2,rfl,Or.inr (Or.inl ⟨rfl,Hva.out⟩)⟩
  ·rw [HHD.out] at hmg
   have Hmg:=hide' hmg
   have Hts:=hide' hts
   have Ht30:=hide' ht30
   have Hsm:=hide' hsm
   clear hmg hts ht30 hsm
   by_cases hmany:40<c.body.length+gs.length∨100<n.used.length+1
   ·have Hk:Hid (∃ ch,Out n c k 3 ch):=⟨_,g,gs,Hgo.out,Or.inr (Or.inr ⟨sbOf ts,Hmg.out,Hsm.out,(child_many k hmany).symm,rfl⟩)⟩
    have hgl':gl=gs.length+1:=by rw [Hgl.out,Hgn.out]
    have hdu:=Hn.out.dl
    by_cases h40:40<c.body.length+gs.length
    ·have hi:(40:Int)<(c.body.length:Int)+(gl:Int) - 1:=by omega
     clear hmany h40 hgl' hdu
     go_wp2
     refine bodyPost_ret (v := .tuple #[.agg #[.slice none 0 0,.slice none 0 0,.slice none 0 0,.int .i64 0],.int .i64 2]) (by simp [results,Tryz.results97,go_sem,r0,r1,r2,r3,rf,c8]) rfl ?_
     exact ⟨(hset.out w2 (.slice none 0 0) (.slice none 0 0) (.slice none 0 0) (.int .i64 0) HEw2.out).alloc (by simp; omega) _,none,0,0,none,0,0,none,0,0,0,2,rfl,Or.inr (Or.inl ⟨rfl,Hk.out⟩)⟩
    ·have hi:¬ ((40:Int)<(c.body.length:Int)+(gl:Int) - 1):=by omega
     have hi2:(100:Int)<(n.done.length:Int)+1:=by omega
     clear hmany h40 hgl' hdu
     go_wp2
     refine bodyPost_ret (v := .tuple #[.agg #[.slice none 0 0,.slice none 0 0,.slice none 0 0,.int .i64 0],.int .i64 2]) (by simp [results,Tryz.results97,go_sem,r0,r1,r2,r3,rf,c8]) rfl ?_
     exact ⟨(hset.out w2 (.slice none 0 0) (.slice none 0 0) (.slice none 0 0) (.int .i64 0) HEw2.out).alloc (by simp; omega) _,none,0,0,none,0,0,none,0,0,0,2,rfl,Or.inr (Or.inl ⟨rfl,Hk.out⟩)⟩
   ·have hgl':gl=gs.length+1:=by rw [Hgl.out,Hgn.out]
    have hdu:=Hn.out.dl
    have hi:¬ ((40:Int)<(c.body.length:Int)+(gl:Int) - 1):=by omega
    have hi2:¬ ((100:Int)<(n.done.length:Int)+1):=by omega
    have hm1:¬ 40<c.body.length+gs.length:=fun h=>hmany (Or.inl h)
    have hm2:¬ 100<n.used.length+1:=fun h=>hmany (Or.inr h)
    obtain ⟨sl,hsl⟩:∃ m,m=sn:=⟨_,rfl⟩
    have hN:NodeIn w (.slice (some ⟨gb,0,none⟩) gl gcap) (.slice va n.vals.length vcap) (.slice ra n.done.length rcap) n:=by rw [Hgl.out]; exact H.out
    have hE3:Ext w (w2.alloc (.cells #[.slice sx sn sc] 216)):=HEw2.out.alloc (by omega) _
    have hg3:=(hN.ext hE3).goals
    rw [Hgo.out,List.map_cons] at hg3
    have HBd:=hide' (withBody_any (w2.alloc (.cells #[.slice sx sn sc] 216)) (.slice (some ⟨gb,0,none⟩) gl gcap) (.slice va n.vals.length vcap) (.slice ra n.done.length rcap) (.slice ha c.head.length hcap) (.slice ba c.body.length bcap) (.slice na c.names.length ncap) g.1 (gs.map (·.1)) n.vals (n.done.map (·.1)) c.body c.names n.vars
     hg3 (hN.ext hE3).vals (hN.ext hE3).done ⟨_,_,_,rfl⟩ (Hcl.out.ext hE3).body (Hcl.out.ext hE3).names (by simp; omega) (by simp; omega) (by omega) (by omega) (by omega) (fun l hl=>tm_ok (Hc.out.wfb l hl) (by have:=Hc.out.bl l hl; omega) (Hc.out.ocb l hl) (by have:=Hc.out.n; omega)))
    have HN:=hide' hN
    have HE3:=hide' hE3
    clear hgl' hdu hmany hsl hN hE3 hg3
    go_wp2_with fail
    refine HBd.out.mono ?_
    rintro e w4 ⟨hE4,b1,b2,d1,d2,rfl,hbg,hbr⟩
    obtain ⟨G2,hG2⟩:∃ l,l=c.body.map (fun l=>l.map (rn n.vars))++gs.map (·.1):=⟨_,rfl⟩
    obtain ⟨R2,hR2⟩:∃ l,l=n.done.map (·.1)++[g.1]:=⟨_,rfl⟩
    rw [← hG2] at hbg ⊢
    rw [← hR2] at hbr ⊢
    have hG2l:G2.length≤1000:=by rw [hG2]; simp; omega
    have hR2l:R2.length≤1000:=by rw [hR2]; simp; omega
    have hok:∀ l ∈ G2++(n.vals++R2),TmOk l:=fun l hl=>by
     rcases List.mem_append.1 hl with hl | hl
     ·rw [hG2] at hl
      rcases List.mem_append.1 hl with hl | hl
      ·obtain ⟨m,hm,rfl⟩:=List.mem_map.1 hl
       exact TmOk.rn (Hc.out.wfb m hm) (by have:=Hc.out.bl m hm; omega) (Hc.out.ocb m hm) (by have:=Hc.out.n; omega)
      ·obtain ⟨m,hm,rfl⟩:=List.mem_map.1 hl
       have hmt:m.1 ∈ n.terms:=by unfold ND.terms; rw [Hgo.out]; exact List.mem_append_left _ (List.mem_map.2 ⟨m,by simp [hm],rfl⟩)
       exact tm_ok (Hn.out.wf _ hmt) (by have:=(Hn.out.gs m (by rw [Hgo.out]; simp [hm])).1; omega) (Hn.out.occ _ hmt) (by omega)
     ·rcases List.mem_append.1 hl with hl | hl
      ·have hmt:l ∈ n.terms:=by unfold ND.terms; simp [hl]
       exact tm_ok (Hn.out.wf _ hmt) (by have:=Hn.out.vsize hl; omega) (Hn.out.occ _ hmt) (by omega)
      ·rw [hR2] at hl
       rcases List.mem_append.1 hl with hl | hl
       ·obtain ⟨m,hm,rfl⟩:=List.mem_map.1 hl
        have hmt:m.1 ∈ n.terms:=by unfold ND.terms; exact List.mem_append_right _ (List.mem_append_right _ (List.mem_map.2 ⟨m,hm,rfl⟩))
        exact tm_ok (Hn.out.wf _ hmt) (by have:=(Hn.out.ds m hm).1; omega) (Hn.out.occ _ hmt) (by omega)
       ·simp at hl
        subst hl
        have hmt:g.1 ∈ n.terms:=by unfold ND.terms; rw [Hgo.out]; simp
        exact tm_ok (Hn.out.wf _ hmt) (by have:=Hg30.out; omega) (Hn.out.occ _ hmt) (by omega)
    have hz4:=hE4.size
    have hz4:w2.heap.size+1≤w4.heap.size:=by simpa using hz4
    have hsb:w4.heap[w2.heap.size]?=some (.cells #[.slice sx sn sc] 216 (0,0)):=(hE4.block _ (by simp)).trans (heap_alloc_new w2 _)
    have sb0:=cell_of_block hsb 0 _ rfl
    have hE24:Ext w2 w4:=(show Ext w2 (w2.alloc (.cells #[.slice sx sn sc] 216)) from (Ext.of (by repeat' (first | with_reducible exact Kept.refl _ _ | with_reducible apply Kept.drew | with_reducible apply Kept.drewN | with_reducible apply Kept.alloc | with_reducible refine Kept.setCell ?_ ?_ _ | exact fun h=>absurd h (by simp <;> omega))))).trans (hE4.mono (by simp))
    have hEw4:Ext w w4:=HEw2.out.trans (hE24.mono (by omega))
    have c74:NB w4 (w.heap.size+2) (.slice none 0 0) (.slice none 0 0) (.slice none 0 0) 0:=(hE24.block _ c8).trans Hc7.out
    have hE45:∀ o,Ext w4 (w4.alloc o):=fun o=>(Ext.of (by repeat' (first | with_reducible exact Kept.refl _ _ | with_reducible apply Kept.drew | with_reducible apply Kept.drewN | with_reducible apply Kept.alloc | with_reducible refine Kept.setCell ?_ ?_ _ | exact fun h=>absurd h (by simp <;> omega))))
    have HWt:Hid (∀ o,Calls Tryz.prog 129 #[.agg #[.slice b1 G2.length b2,.slice va n.vals.length vcap,.slice d1 R2.length d2,.int .i64 ((n.vars+c.names.length:Nat):Int)],.agg #[.slice sx sn sc]] (w4.alloc o) (WithOut ts G2 n.vals R2 (n.vars+c.names.length) (w4.alloc o))):=fun o =>
     withTerms_any (w4.alloc o) (.slice sx sn sc) _ _ _ ts G2 n.vals R2 tvs (n.vars+c.names.length) ((Hts.out.ext hE24).ext (hE45 o)) (hbg.ext (hE45 o)) ((HN.out.vals.ext hEw4).ext (hE45 o)) (hbr.ext (hE45 o)) htl Ht30.out (by omega) (by have:=Hn.out.vl; omega) (by omega) hok (by omega)
    have HEw4:=hide' hEw4
    have Hc74:=hide' c74
    have HG2:=hide' hG2
    have HR2:=hide' hR2
    have k4:w.heap.size+2<w4.heap.size:=by omega
    have k5:w2.heap.size<w4.heap.size:=by omega
    clear hE4 hbg hbr hok hsb hE24 hEw4 c74 hE45 hG2 hR2 HBd
    go_wp2_with fail
    refine (HWt.out _).mono ?_
    rintro e w6 ⟨hE6,hout⟩
    have hz6:=hE6.size
    have hz6:w4.heap.size+1≤w6.heap.size:=by simpa using hz6
    have hE46:Ext w4 w6:=(Below.refl _ w4 |>.alloc (Nat.le_refl _) _).trans (hE6.mono (by simp))
    have hEw6:Ext w w6:=HEw4.out.trans (hE46.mono (by omega))
    have c76:NB w6 (w.heap.size+2) (.slice none 0 0) (.slice none 0 0) (.slice none 0 0) 0:=(hE46.block _ k4).trans Hc74.out
    have r0:=cell_of_block c76 0 _ rfl
    have r1:=cell_of_block c76 1 _ rfl
    have r2:=cell_of_block c76 2 _ rfl
    have r3:=cell_of_block c76 3 _ rfl
    have rf:=fun i=>thawed_of_block c76 i
    have k6:w.heap.size+2<w6.heap.size:=by omega
    have HEw6:=hide' hEw6
    have Hc76:=hide' c76
    clear hE6 hE46 hEw6 c76 HWt
    rcases hout with ⟨hsmall,g1,g2,g3,v1,v2,v3,q1,q2,q3,rfl,t1,t2,t3⟩ | ⟨⟨l,hl,hbig⟩,rfl⟩
    ·have hkind:=child_small (k:=k) (g:=g) (gs:=gs) Hc.out (σ:=sbOf ts) hm1 hm2 (by rw [← HG2.out,← HR2.out]; exact hsmall)
     have hK2:∀ x0 x1 x2 x3,Kept (fun j=>j=w.heap.size+2) w6 ((((w6.setCell ⟨w.heap.size+2,0,none⟩ x0).setCell ⟨w.heap.size+2,1,none⟩ x1).setCell ⟨w.heap.size+2,2,none⟩ x2).setCell ⟨w.heap.size+2,3,none⟩ x3):=fun x0 x1 x2 x3=>((((Kept.refl (only (w.heap.size+2)) w6).put 0 _).put 1 _).put 2 _).put 3 _
     have hout:TryOut n c k w (.returned (.tuple #[.agg #[.slice g1 g2 g3,.slice v1 v2 v3,.slice q1 q2 q3,.int .i64 ((n.vars+c.names.length:Nat):Int)],.int .i64 1])) ((((w6.setCell ⟨w.heap.size+2,0,none⟩ (.slice g1 g2 g3)).setCell ⟨w.heap.size+2,1,none⟩ (.slice v1 v2 v3)).setCell ⟨w.heap.size+2,2,none⟩ (.slice q1 q2 q3)).setCell ⟨w.heap.size+2,3,none⟩ (.int .i64 ((n.vars+c.names.length:Nat):Int))):=by
      refine ⟨hset.out w6 _ _ _ _ HEw6.out,g1,g2,g3,v1,v2,v3,q1,q2,q3,n.vars+c.names.length,1,rfl,Or.inr (Or.inr ⟨rfl,childBy (sbOf ts) n c k g gs,kindOf (childBy (sbOf ts) n c k g gs),hkind,⟨g,gs,Hgo.out,Or.inr (Or.inr ⟨sbOf ts,Hmg.out,Hsm.out,rfl,rfl⟩)⟩,⟨?_,?_,?_⟩,rfl,?_⟩)⟩
      ·rw [child_goals _ _ _ Hc.out,← HG2.out]; exact (t1.box Hc76.out (by decide) (by decide) (hK2 _ _ _ _)).mono (by simp; omega)
      ·exact (t2.box Hc76.out (by decide) (by decide) (hK2 _ _ _ _)).mono (by simp; omega)
      ·rw [child_done,← HR2.out]; exact (t3.box Hc76.out (by decide) (by decide) (hK2 _ _ _ _)).mono (by simp; omega)
      ·obtain ⟨za,zc,ze⟩:=t1.inn.shape
       simp only [Value.slice.injEq] at ze
       rw [ze.2.1,HG2.out,← child_goals (sbOf ts) n c Hc.out k g gs,List.length_map]
     have Hout:=hide' hout
     clear hout hsmall hkind hK2 t1 t2 t3
     go_wp2
     refine bodyPost_ret (v := .tuple #[.agg #[.slice g1 g2 g3,.slice v1 v2 v3,.slice q1 q2 q3,.int .i64 ((n.vars+c.names.length:Nat):Int)],.int .i64 1]) (by simp [results,Tryz.results97,go_sem,r0,r1,r2,r3,rf,k6]) rfl ?_
     exact Hout.out
    ·have Hk:Hid (∃ ch,Out n c k 3 ch):=⟨_,g,gs,Hgo.out,Or.inr (Or.inr ⟨sbOf ts,Hmg.out,Hsm.out,(child_big Hn.out Hc.out k Hgo.out Hmg.out (by rw [← HG2.out,← HR2.out]; exact hl) hbig).symm,rfl⟩)⟩
     clear hl hbig
     go_wp2
     refine bodyPost_ret (v := .tuple #[.agg #[.slice none 0 0,.slice none 0 0,.slice none 0 0,.int .i64 0],.int .i64 2]) (by simp [results,Tryz.results97,go_sem,r0,r1,r2,r3,rf,k6]) rfl ?_
     exact ⟨hset.out w6 _ _ _ _ HEw6.out,none,0,0,none,0,0,none,0,0,0,2,rfl,Or.inr (Or.inl ⟨rfl,Hk.out⟩)⟩
def figures:ByteArray:=⟨#[48,49,50,51,52,53,54,55,56,57]⟩
theorem in_figures (c:UInt8):inB c figures=figB c:=by
 have:=allBytes (p:=fun c=>inB c figures == figB c) (by decide +kernel) c
 simpa using this
theorem fig_bounds {c:UInt8} (h:figB c=true):48≤c.toNat∧c.toNat≤57:=by simpa [figB] using h
theorem numeral_none (s:ByteArray) (p:Nat) (h:¬ p<s.size):numeralL (s.data.toList.drop p)=(0,0):=by rw [drop_none s p h]; rfl
theorem numeral_off (s:ByteArray) (p:Nat) (h:p<s.size) (hf:figB s[p]=false):numeralL (s.data.toList.drop p)=(0,0):=by
 rw [drop_cons s p h]; simp [numeralL,hf]
theorem numeral_zero (s:ByteArray) (p:Nat) (h:p<s.size) (hf:figB s[p]=true) (h0:s[p].toNat - 48=0):numeralL (s.data.toList.drop p)=(s[p].toNat - 48,1):=by
 have:=fig_bounds hf
 rw [drop_cons s p h]; simp [numeralL,hf,show s[p].toNat=48 by omega]
theorem numeral_end (s:ByteArray) (p:Nat) (h:p<s.size) (hf:figB s[p]=true) (h1:¬ p+1<s.size):numeralL (s.data.toList.drop p)=(s[p].toNat - 48,1):=by
 rw [drop_cons s p h,drop_none s (p+1) h1]
 simp only [numeralL,hf,if_true]
 split
 ·rename_i h0; rw [h0]
 ·rfl
theorem numeral_stop (s:ByteArray) (p:Nat) (h:p<s.size) (hf:figB s[p]=true) (h1:p+1<s.size) (hf1:figB s[p+1]=false):numeralL (s.data.toList.drop p)=(s[p].toNat - 48,1):=by
 rw [drop_cons s p h,drop_cons s (p+1) h1]
 simp only [numeralL,hf,hf1,if_true]
 split
 ·rename_i h0; rw [h0]
 ·simp
theorem numeral_two (s:ByteArray) (p:Nat) (h:p<s.size) (hf:figB s[p]=true) (h0:¬ s[p].toNat - 48=0) (h1:p+1<s.size) (hf1:figB s[p+1]=true):numeralL (s.data.toList.drop p)=(10 * (s[p].toNat - 48)+(s[p+1].toNat - 48),2):=by
 rw [drop_cons s p h,drop_cons s (p+1) h1]
 simp only [numeralL,hf,hf1,if_true]
 rw [if_neg (by omega)]
set_option maxRecDepth 10000 in
set_option maxHeartbeats 2000000 in
theorem numeral_any (s:ByteArray) (p:Nat) (w:World) (hs:s.size≤100000) (hp:p≤100001) :
  Calls Tryz.prog 151 #[.string s,.int .i64 p] w fun e w'=>e = .returned (.tuple #[.int .i64 (numeralL (s.data.toList.drop p)).1,.int .i64 (numeralL (s.data.toList.drop p)).2])∧w'=w:=by
 obtain ⟨r,hr⟩:∃ r,r=numeralL (s.data.toList.drop p):=⟨_,rfl⟩
 rw [← hr]
 have Hr:=hide' hr
 clear hr
 go_enter Tryz.func151,Tryz.ntmps151
 go_wp2
 go_loopg [6,7] 4 (fun gk nv zv wr=>∃ (m c:Nat),nv = .int .i64 m∧zv = .int .i64 c∧c≤2∧2 - c<gk∧wr=w ∧
  ((c=0∧m=0)∨(c=1∧∃ h:p<s.size,figB s[p]=true∧m=s[p].toNat - 48)∨(c=2∧r=(m,2))))
 case atStart=>exact ⟨0,0,by go_num,by go_num,by omega,by omega,rfl,Or.inl ⟨rfl,rfl⟩⟩
 case round =>
  obtain ⟨m,c,rfl,rfl,hc,hgk,rfl,h⟩:=hrel
  rcases h with ⟨rfl,rfl⟩ | ⟨rfl,hlt,hf,hm⟩ | ⟨rfl,hr⟩
  ·by_cases hlt:p<s.size
   ·cases hf:figB s[p] with
    | false =>
     have HI:Hid _:=hide' (in_any s[p] figures wr (by decide))
     have hv:=HI.out
     rw [in_figures,hf] at hv
     have HV:=hide' hv
     have Hrr:Hid (r=(0,0)):=Hr.out.trans (numeral_off s p hlt hf)
     clear hv HI hf
     go_wp2_with (go_at_call 175; refine HV.out.mono ?_; rintro e w' ⟨rfl,rfl⟩)
     go_ret2
     rw [Hrr.out]
     exact ⟨rfl,rfl⟩
    | true =>
     have hv:=in_any s[p] figures wr (by decide)
     rw [in_figures,hf] at hv
     have HV:=hide' hv
     obtain ⟨f1,f2⟩:=fig_bounds hf
     have Hf:=hide' hf
     clear hv hf
     go_wp2_with (go_at_call 175; refine HV.out.mono ?_; rintro e w' ⟨rfl,rfl⟩)
     go_roundg 2
     case measure=>omega
     case rel=>exact ⟨s[p].toNat - 48,1,by simp; omega,by go_num,by omega,by omega,rfl,Or.inr (Or.inl ⟨rfl,hlt,Hf.out,rfl⟩)⟩
   ·have Hrr:Hid (r=(0,0)):=Hr.out.trans (numeral_none s p hlt)
    go_wp2
    go_ret2
    rw [Hrr.out]
    exact ⟨rfl,rfl⟩
  ·obtain ⟨f1,f2⟩:=fig_bounds hf
   by_cases hlt1:p+1<s.size
   ·cases hf1:figB s[p+1] with
    | false =>
     have hv:=in_any s[p+1] figures wr (by decide)
     rw [in_figures,hf1] at hv
     have HV:=hide' hv
     have Hrr:Hid (r=(m,1)):=by show _=_; rw [Hr.out,numeral_stop s p hlt hf hlt1 hf1,hm]
     clear hv hf1 hm hf
     go_wp2_with (go_at_call 175; refine HV.out.mono ?_; rintro e w' ⟨rfl,rfl⟩)
     go_ret2
     rw [Hrr.out]
     exact ⟨rfl,rfl⟩
    | true =>
     have hv:=in_any s[p+1] figures wr (by decide)
     rw [in_figures,hf1] at hv
     have HV:=hide' hv
     obtain ⟨f3,f4⟩:=fig_bounds hf1
     by_cases h0:m=0
     ·have Hrr:Hid (r=(m,1)):=by show _=_; rw [Hr.out,numeral_zero s p hlt hf (by omega),hm]
      subst h0
      clear hv hf1 hm hf
      go_wp2_with (go_at_call 175; refine HV.out.mono ?_; rintro e w' ⟨rfl,rfl⟩)
      go_ret2
      rw [Hrr.out]
      exact ⟨rfl,rfl⟩
     ·have Hrr:Hid (r=(10 * m+(s[p+1].toNat - 48),2)):=by show _=_; rw [Hr.out,numeral_two s p hlt hf (by omega) hlt1 hf1,hm]
      have hmi:((m:Int) == 0)=false:=by rw [beq_eq_false_iff_ne]; omega
      have hm9:m≤9:=by omega
      clear hv hf1 hm hf
      go_wp2_with (go_at_call 175; refine HV.out.mono ?_; rintro e w' ⟨rfl,rfl⟩)
      go_roundg 1
      case measure=>omega
      case rel=>exact ⟨10 * m+(s[p+1].toNat - 48),2,by simp; omega,by go_num,by omega,by omega,rfl,Or.inr (Or.inr ⟨rfl,Hrr.out⟩)⟩
   ·have Hrr:Hid (r=(m,1)):=by show _=_; rw [Hr.out,numeral_end s p hlt hf hlt1,hm]
    clear hf hm
    go_wp2
    go_ret2
    rw [Hrr.out]
    exact ⟨rfl,rfl⟩
  ·have Hrr:=hide' hr
   clear hr
   by_cases hlt2:p+2<s.size
   ·go_wp2
    go_ret2
    rw [Hrr.out]
    exact ⟨rfl,rfl⟩
   ·go_wp2
    go_ret2
    rw [Hrr.out]
    exact ⟨rfl,rfl⟩
theorem owns_one (w:World) (v:Value) (e:TypeId):(w.alloc (.cells #[v] e)).ownsRow w.heap.size e 1 (.slice (some ⟨w.heap.size,0,none⟩) 1 1) 1 [v] :=
 ⟨rfl,Or.inr ⟨_,1,#[v],rfl,Nat.le_refl _,heap_alloc_new w _,Nat.le_refl _,by unfold maxLen; omega,rfl,rfl⟩⟩
def numsTail (f:Nat) (l:List UInt8) (p:Nat) (acc:List Nat):Option (List Nat) × Nat :=
 match l with
 | []=>(some acc,0)
 | c::r=>if c=46 then numbersF f r (p+1) acc else (none,p)
theorem numbersF_step (f:Nat) (l:List UInt8) (p:Nat) (acc:List Nat) (h:(numeralL l).2≠0):numbersF (f+1) l p acc=numsTail f (l.drop (numeralL l).2) (p+(numeralL l).2) (acc++[(numeralL l).1]):=by
 rw [numbersF,if_neg h]; rfl
theorem numbersF_none (f:Nat) (l:List UInt8) (p:Nat) (acc:List Nat) (h:(numeralL l).2=0):numbersF (f+1) l p acc=(none,p):=by
 rw [numbersF,if_pos h]
def NumbersOut (s:ByteArray) (e:Ending) (w':World):Prop :=
 (∃ ks lv,numbersL s=(some ks,0)∧e = .returned (.tuple #[lv,.int .i64 (-1)])∧w'.ownsRow 0 3 1 lv ks.length (ints ks)∧ks.length≤400∧∀ k ∈ ks,k≤99)∨(∃ pl:Nat,numbersL s=(none,pl)∧e = .returned (.tuple #[.slice none 0 0,.int .i64 pl]))
set_option maxRecDepth 10000 in
set_option maxHeartbeats 2000000 in
theorem numbers_any (s:ByteArray) (w:World) (hs:s.size≤400):Calls Tryz.prog 150 #[.string s] w fun e w'=>Ext w w'∧NumbersOut s e w':=by
 have hsl:s.data.toList.length=s.size:=by simp
 have HN:=hide' (fun p u (hp:p≤401)=>numeral_any s p u (by omega) (by omega))
 obtain ⟨m,z,hmz⟩:∃ m z,numeralL s.data.toList=(m,z):=⟨_,_,rfl⟩
 have hsz:=numeralL_size s.data.toList
 rw [hmz] at hsz
 simp only at hsz
 have h0:=HN.out 0 w (by omega)
 rw [List.drop_zero,hmz] at h0
 have H0:=hide' h0
 have Hmz:=hide' hmz
 clear h0 hmz
 by_cases hz:z=0
 ·have Hnum:Hid (numbersL s=(none,0)):=by
   show _=_
   rw [numbersL,numbersF_none _ _ _ _ (by rw [Hmz.out]; exact hz)]
  subst hz
  go_enter Tryz.func150,Tryz.ntmps150
  go_wp2_with fail
  refine H0.out.mono ?_
  rintro e w' ⟨rfl,rfl⟩
  go_wp2
  go_ret2
  exact ⟨Below.refl _ _,Or.inr ⟨0,Hnum.out,rfl⟩⟩
 ·have Hnum:Hid (numbersL s=numsTail s.size (s.data.toList.drop z) z [m]):=by
   show _=_
   rw [numbersL,numbersF_step _ _ _ _ (by rw [Hmz.out]; exact hz),Hmz.out]
   simp
  have hz':(((z:Nat):Int) == 0)=false:=by rw [beq_eq_false_iff_ne]; omega
  go_enter Tryz.func150,Tryz.ntmps150
  go_wp2_with fail
  refine H0.out.mono ?_
  rintro e w' ⟨rfl,rfl⟩
  go_wp2
  go_loopg [6,7] (s.size+1) (fun gk lv av wr=>∃ (p f:Nat) (acc:List Nat),av = .int .i64 p∧p≤s.size∧s.size - p<gk∧s.size - p≤f∧numbersL s=numsTail f (s.data.toList.drop p) p acc∧acc.length≤p∧(∀ k ∈ acc,k≤99)∧Ext w' wr∧wr.ownsRow w'.heap.size 3 1 lv acc.length (ints acc))
  case atStart=>exact ⟨z,s.size,[m],by go_num,by omega,by omega,by omega,Hnum.out,by simp; omega,by simp; omega,(Ext.of (by repeat' (first | with_reducible exact Kept.refl _ _ | with_reducible apply Kept.drew | with_reducible apply Kept.drewN | with_reducible apply Kept.alloc | with_reducible refine Kept.setCell ?_ ?_ _ | exact fun h=>absurd h (by simp <;> omega)))),owns_one w' _ _⟩
  case round =>
   obtain ⟨p,f,acc,rfl,hp,hgk,hf,hnum,hal,ha9,hext,hown⟩:=hrel
   obtain ⟨la,lcap,rfl⟩:=owns_slice hown
   have hsr:=hext.size
   have Hnm:=hide' hnum
   have Hext:=hide' hext
   have Hown:=hide' hown
   have Ha9:=hide' ha9
   clear hnum hext hown ha9
   by_cases hlt:p<s.size
   ·have hd:=drop_cons s p hlt
    by_cases hc:s[p]=46
    ·have hcb:((s[p].toNat:Int) != 46)=false:=by rw [hc]; rfl
     obtain ⟨f',rfl⟩:∃ f',f=f'+1:=⟨f - 1,by omega⟩
     obtain ⟨m2,z2,hmz2⟩:∃ m z,numeralL (s.data.toList.drop (p+1))=(m,z):=⟨_,_,rfl⟩
     have hsz2:=numeralL_size (s.data.toList.drop (p+1))
     rw [hmz2] at hsz2
     simp only [List.length_drop] at hsz2
     have h1:=HN.out (p+1) wr (by omega)
     rw [hmz2] at h1
     have H1:=hide' h1
     have Hnm2:Hid (numbersL s=numbersF (f'+1) (s.data.toList.drop (p+1)) (p+1) acc):=by
      show _=_
      rw [Hnm.out,hd]
      simp [numsTail,hc]
     have Hmz2:=hide' hmz2
     have Hc:=hide' hc
     clear h1 hmz2 hd hc
     by_cases hz2:z2=0
     ·have Hr:Hid (numbersL s=(none,p+1)):=by
       show _=_
       rw [Hnm2.out,numbersF_none _ _ _ _ (by rw [Hmz2.out]; exact hz2)]
      subst hz2
      go_wp2_with fail
      refine H1.out.mono ?_
      rintro e w2 ⟨rfl,rfl⟩
      go_wp2
      go_ret2
      exact ⟨Hext.out,Or.inr ⟨p+1,Hr.out,by simp⟩⟩
     ·have Hr:Hid (numbersL s=numsTail f' (s.data.toList.drop (p+1+z2)) (p+1+z2) (acc++[m2])):=by
       show _=_
       rw [Hnm2.out,numbersF_step _ _ _ _ (by rw [Hmz2.out]; exact hz2),Hmz2.out,List.drop_drop]
      have hz2':(((z2:Nat):Int) == 0)=false:=by rw [beq_eq_false_iff_ne]; omega
      go_wp2_with fail
      refine H1.out.mono ?_
      rintro e w2 ⟨rfl,rfl⟩
      go_wp2_with (at_builtin; refine wpList_append1 _ rfl (.tmp 38) (.tmp 40) 25 rfl w'.heap.size 3 Tryz.infoInt Tryz.underlying25 rfl (by decide) _ acc.length (ints acc) rfl Hown.out _ rfl rfl rfl (int_one _) ?_ ?_ ?_)
      ·omega
      ·omega
      intro v' w3 hap
      obtain ⟨v1a,v1cap,rfl⟩:=owns_slice hap.owns
      have Hap:=hide' hap
      clear hap
      go_wp2
      go_roundg (s.size - p)
      case measure=>omega
      case rel =>
       refine ⟨p+1+z2,f',acc++[m2],by go_num,by omega,by omega,by omega,Hr.out,by simp; omega,fun k hk => ?_,?_,?_⟩
       ·rcases List.mem_append.1 hk with hk | hk
        ·exact Ha9.out k hk
        ·simp at hk; subst hk; omega
       ·exact Hext.out.trans (Hap.out.kept.below hsr (fun i e=>(Hown.out.lt i e).1))
       ·have:=Hap.out.owns
        simpa [ints] using this
    ·have hcb:((s[p].toNat:Int) != 46)=true:=by
      rw [bne_iff_ne]
      intro e
      apply hc
      apply UInt8.toNat_inj.1
      have:s[p].toNat=46:=by omega
      rw [this]; rfl
     have Hr:Hid (numbersL s=(none,p)):=by
      show _=_
      rw [Hnm.out,hd]
      simp [numsTail,hc]
     clear hd hc
     go_wp2
     go_ret2
     exact ⟨Hext.out,Or.inr ⟨p,Hr.out,by simp⟩⟩
   ·have hd:=drop_none s p hlt
    have Hr:Hid (numbersL s=(some acc,0)):=by
     show _=_
     rw [Hnm.out,hd]
     simp [numsTail]
    clear hd
    go_wp2
    go_ret2
    exact ⟨Hext.out,Or.inl ⟨acc,_,Hr.out,rfl,owns_base Hown.out (Nat.zero_le _),by omega,Ha9.out⟩⟩
def digAt (s:ByteArray) (p:Nat):Bool:=if h:p<s.size then figB s[p] else false
theorem digAt_on {s:ByteArray} {p:Nat} (h:digAt s p=true):∃ h:p<s.size,figB s[p]=true:=by
 unfold digAt at h
 split at h
 ·rename_i h1; exact ⟨h1,h⟩
 ·simp at h
set_option maxRecDepth 10000 in
set_option maxHeartbeats 2000000 in
theorem digit_any (s:ByteArray) (p:Nat) (w:World) (hs:s.size≤100000) (hp:p≤100001) :
  Calls Tryz.prog 126 #[.string s,.int .i64 p] w fun e w'=>e = .returned (.bool (digAt s p))∧w'=w:=by
 have h0:(0:Int)≤(p:Int):=by omega
 by_cases hlt:p<s.size
 ·have hlt':(p:Int)<(s.size:Int):=by omega
  cases hf:figB s[p] with
  | true =>
   obtain ⟨f1,f2⟩:=fig_bounds hf
   have Hd:Hid (digAt s p=true):=by show _=_; unfold digAt; rw [dif_pos hlt]; exact hf
   clear hf
   go_enter Tryz.func126,Tryz.ntmps126
   go_wp2
   go_ret
   rw [Hd.out]
   exact ⟨by simp; omega,rfl⟩
  | false =>
   have Hd:Hid (digAt s p=false):=by show _=_; unfold digAt; rw [dif_pos hlt]; exact hf
   have hb:s[p].toNat<48∨57<s[p].toNat:=by
    simp only [figB,decide_eq_false_iff_not] at hf
    omega
   clear hf
   rcases hb with hb | hb
   ·have f1:¬ 48≤s[p].toNat:=by omega
    go_enter Tryz.func126,Tryz.ntmps126
    go_wp2
    go_ret
    rw [Hd.out]
    exact ⟨rfl,rfl⟩
   ·have f1:48≤s[p].toNat:=by omega
    have f2:¬ s[p].toNat≤57:=by omega
    go_enter Tryz.func126,Tryz.ntmps126
    go_wp2
    go_ret
    rw [Hd.out]
    exact ⟨by simp; omega,rfl⟩
 ·have hlt':¬ (p:Int)<(s.size:Int):=by omega
  have Hd:Hid (digAt s p=false):=by show _=_; unfold digAt; rw [dif_neg hlt]
  go_enter Tryz.func126,Tryz.ntmps126
  go_wp2
  go_ret
  rw [Hd.out]
  exact ⟨rfl,rfl⟩
set_option maxRecDepth 10000 in
set_option maxHeartbeats 2000000 in
theorem at_any (s:ByteArray) (p:Nat) (w:World) (hs:s.size≤100000) (hp:p≤100000) :
  Calls Tryz.prog 96 #[.string s,.int .i64 p] w fun e w'=>e = .returned (.tuple #[.int .i64 (numeralL (s.data.toList.drop p)).1,.int .i64 ((p+(numeralL (s.data.toList.drop p)).2:Nat):Int)])∧w'=w:=by
 have HD:=hide' (fun q u (hq:q≤100001)=>digit_any s q u hs hq)
 obtain ⟨r,hr⟩:∃ r,r=numeralL (s.data.toList.drop p):=⟨_,rfl⟩
 rw [← hr]
 have Hr:=hide' hr
 clear hr
 cases hd:digAt s p with
 | false =>
  have Hrr:Hid (r=(0,0)):=by
   show _=_
   rw [Hr.out]
   by_cases hlt:p<s.size
   ·refine numeral_off s p hlt ?_
    unfold digAt at hd
    rw [dif_pos hlt] at hd
    exact hd
   ·exact numeral_none s p hlt
  have H0:=HD.out p w (by omega)
  rw [hd] at H0
  have H0:=hide' H0
  clear hd
  go_enter Tryz.func96,Tryz.ntmps96
  go_wp2_with fail
  refine H0.out.mono ?_
  rintro e w' ⟨rfl,rfl⟩
  go_wp2
  go_ret2
  rw [Hrr.out]
  exact ⟨by simp,rfl⟩
 | true =>
  obtain ⟨hlt,hf⟩:=digAt_on hd
  obtain ⟨f1,f2⟩:=fig_bounds hf
  have H0:=HD.out p w (by omega)
  rw [hd] at H0
  have H0:=hide' H0
  have H1:=HD.out (p+1) w (by omega)
  clear hd
  by_cases h0:s[p].toNat - 48=0
  ·have Hrr:Hid (r=(0,1)):=by show _=_; rw [Hr.out,numeral_zero s p hlt hf h0,h0]
   have h48:s[p].toNat=48:=by omega
   clear hf H1
   go_enter Tryz.func96,Tryz.ntmps96
   go_wp2_with fail
   refine H0.out.mono ?_
   rintro e w' ⟨rfl,rfl⟩
   go_wp2
   go_ret2
   rw [Hrr.out]
   exact ⟨by simp [h48],rfl⟩
  ·cases hd1:digAt s (p+1) with
   | false =>
    have Hrr:Hid (r=(s[p].toNat - 48,1)):=by
     show _=_
     rw [Hr.out]
     by_cases hlt1:p+1<s.size
     ·refine numeral_stop s p hlt hf hlt1 ?_
      unfold digAt at hd1
      rw [dif_pos hlt1] at hd1
      exact hd1
     ·exact numeral_end s p hlt hf hlt1
    rw [hd1] at H1
    have H1:=hide' H1
    clear hf hd1
    go_enter Tryz.func96,Tryz.ntmps96
    go_wp2_with fail
    refine H0.out.mono ?_
    rintro e w' ⟨rfl,rfl⟩
    go_wp2_with fail
    refine H1.out.mono ?_
    rintro e w' ⟨rfl,rfl⟩
    go_wp2
    go_ret2
    rw [Hrr.out]
    exact ⟨by simp; omega,rfl⟩
   | true =>
    obtain ⟨hlt1,hf1⟩:=digAt_on hd1
    obtain ⟨f3,f4⟩:=fig_bounds hf1
    have Hrr:Hid (r=(10 * (s[p].toNat - 48)+(s[p+1].toNat - 48),2)):=by
     show _=_
     rw [Hr.out]
     exact numeral_two s p hlt hf h0 hlt1 hf1
    rw [hd1] at H1
    have H1:=hide' H1
    clear hf hd1 hf1
    go_enter Tryz.func96,Tryz.ntmps96
    go_wp2_with fail
    refine H0.out.mono ?_
    rintro e w' ⟨rfl,rfl⟩
    go_wp2_with fail
    refine H1.out.mono ?_
    rintro e w' ⟨rfl,rfl⟩
    go_wp2
    go_ret2
    rw [Hrr.out]
    exact ⟨by simp; omega,rfl⟩
def CNumsOut (s:ByteArray) (w:World) (e:Ending) (w':World):Prop:=Ext w w' ∧
 ((400<s.size∧e = .returned (.tuple #[.slice none 0 0,.agg #[.int .i64 1,.int .i64 0]]))∨(s.size≤400 ∧
  ((∃ ks a c,numbersL s=(some ks,0)∧e = .returned (.tuple #[.slice a ks.length c,.agg #[.int .i64 0,.int .i64 0]])∧w'.ownsRow 0 3 1 (.slice a ks.length c) ks.length (ints ks)∧ks.length≤400∧∀ k ∈ ks,k≤99) ∨
   (∃ pl:Nat,numbersL s=(none,pl)∧e = .returned (.tuple #[.slice none 0 0,.agg #[.int .i64 6,.int .i64 pl]])))))
set_option maxRecDepth 10000 in
set_option maxHeartbeats 2000000 in
theorem nums_any (s:ByteArray) (w:World) (hm:s.size≤maxLen):Calls Tryz.prog 67 #[.string s] w (CNumsOut s w):=by
 unfold maxLen at hm
 have hset:Hid (∀ y x0 x1,Ext w y→Ext w ((y.setCell ⟨w.heap.size,0,none⟩ x0).setCell ⟨w.heap.size,1,none⟩ x1)):=fun y x0 x1 hE=>(hE.setCell (p:=⟨w.heap.size,0,none⟩) (Nat.le_refl _) _).setCell (p:=⟨w.heap.size,1,none⟩) (Nat.le_refl _) _
 by_cases hbig:400<s.size
 ·have hb':(400:Int)<(s.size:Int):=by omega
  go_enter Tryz.func67,Tryz.ntmps67
  go_wp2
  refine bodyPost_ret (v := .tuple #[.slice none 0 0,.agg #[.int .i64 1,.int .i64 0]]) (by simp [results,Tryz.results67,go_sem]) rfl ?_
  exact ⟨(Ext.of (by repeat' (first | with_reducible exact Kept.refl _ _ | with_reducible apply Kept.drew | with_reducible apply Kept.drewN | with_reducible apply Kept.alloc | with_reducible refine Kept.setCell ?_ ?_ _ | exact fun h=>absurd h (by simp <;> omega)))),Or.inl ⟨hbig,rfl⟩⟩
 ·have hs:s.size≤400:=by omega
  have hb':¬ ((400:Int)<(s.size:Int)):=by omega
  have hsl:s.data.toList.length=s.size:=by simp
  have HN:=hide' (fun p u (hp:p≤401)=>at_any s p u (by omega) (by omega))
  go_enter Tryz.func67,Tryz.ntmps67
  go_wp2
  go_loopg [4,5] (s.size+2) (fun gk lv av wr=>∃ (p f:Nat) (acc:List Nat),av = .int .i64 p∧p≤s.size∧s.size+1 - p<gk∧s.size+1 - p≤f∧numbersL s=numbersF f (s.data.toList.drop p) p acc∧acc.length≤p∧(∀ k ∈ acc,k≤99)∧Ext w wr∧wr.heap[w.heap.size]?=some (.cells #[.int .i64 0,.int .i64 0] 91 (0,0))∧wr.ownsRow w.heap.size 3 1 lv acc.length (ints acc))
  case atStart=>exact ⟨0,s.size+1,[],by go_num,by omega,by omega,by omega,by rw [numbersL]; rfl,by simp,by simp,(Ext.of (by repeat' (first | with_reducible exact Kept.refl _ _ | with_reducible apply Kept.drew | with_reducible apply Kept.drewN | with_reducible apply Kept.alloc | with_reducible refine Kept.setCell ?_ ?_ _ | exact fun h=>absurd h (by simp <;> omega)))),heap_alloc_new w _,World.ownsRow_nil _ _ _ _⟩
  case round =>
   obtain ⟨p,f,acc,rfl,hp,hgk,hf,hnum,hal,ha9,hext,hblk,hown⟩:=hrel
   obtain ⟨la,lcap,rfl⟩:=owns_slice hown
   have hsr:=hext.size
   obtain ⟨hT4,f0,f1,ff⟩:=FaultAt.cells (e:=0) (p:=0) hblk
   obtain ⟨m,z,hmz⟩:∃ m z,numeralL (s.data.toList.drop p)=(m,z):=⟨_,_,rfl⟩
   have hsz:=numeralL_size (s.data.toList.drop p)
   rw [hmz] at hsz
   simp only [List.length_drop] at hsz
   have h1:=HN.out p wr (by omega)
   rw [hmz] at h1
   have H1:=hide' h1
   have Hmz:=hide' hmz
   have Hnm:=hide' hnum
   have Hext:=hide' hext
   have Hown:=hide' hown
   have Hblk:=hide' hblk
   have Ha9:=hide' ha9
   clear h1 hmz hnum hext hown hblk ha9
   by_cases hz:z=0
   ·have Hr:Hid (numbersL s=(none,p)):=by
     show _=_
     cases f with
     | zero =>
      exfalso; omega
     | succ f=>rw [Hnm.out,numbersF_none _ _ _ _ (by rw [Hmz.out]; exact hz)]
    subst hz
    go_wp2_with fail
    refine H1.out.mono ?_
    rintro e w2 ⟨rfl,rfl⟩
    go_wp2
    refine bodyPost_ret (v := .tuple #[.slice none 0 0,.agg #[.int .i64 6,.int .i64 p]]) (by simp [results,Tryz.results67,go_sem,f0,f1,ff,hT4]) rfl ?_
    exact ⟨hset.out _ _ _ Hext.out,Or.inr ⟨hs,Or.inr ⟨p,Hr.out,rfl⟩⟩⟩
   ·have hple:p<s.size:=by omega
    obtain ⟨f',rfl⟩:∃ f',f=f'+1:=⟨f - 1,by omega⟩
    have Hr:Hid (numbersL s=numsTail f' (s.data.toList.drop (p+z)) (p+z) (acc++[m])):=by
     show _=_
     rw [Hnm.out,numbersF_step _ _ _ _ (by rw [Hmz.out]; exact hz),Hmz.out,List.drop_drop]
    have hz':(((p+z:Nat):Int) == (p:Int))=false:=by rw [beq_eq_false_iff_ne]; omega
    go_wp2_with fail
    refine H1.out.mono ?_
    rintro e w2 ⟨rfl,rfl⟩
    go_wp2_with (at_builtin; go_loud (refine wpList_append1 _ rfl (.tmp 23) (.tmp 25) 25 rfl w.heap.size 3 Tryz.infoInt Tryz.underlying25 rfl (by decide) (.slice la acc.length lcap) acc.length (ints acc) rfl Hown.out _ rfl rfl rfl (int_one _) ?_ ?_ ?_))
    ·omega
    ·omega
    intro v' w3 hap
    obtain ⟨v1a,v1cap,rfl⟩:=owns_slice hap.owns
    have hE3:Ext w w3:=Hext.out.trans (hap.kept.below hsr (fun i e=>(Hown.out.lt i e).1))
    have hb3:=(hap.kept.block _ (lt_of_block Hblk.out) (owns_apart Hown.out (by decide) Hblk.out)).trans Hblk.out
    obtain ⟨hT5,g0,g1,gf⟩:=FaultAt.cells (e:=0) (p:=0) hb3
    have hrow3:w3.ownsRow w.heap.size 3 1 (.slice v1a (acc.length+1) v1cap) (acc++[m]).length (ints (acc++[m])):=by
     have:=hap.owns
     simpa [ints] using this
    have HE3:=hide' hE3
    have Hb3:=hide' hb3
    have Hrow3:=hide' hrow3
    clear hap hE3 hb3 hrow3 f0 f1 ff hT4
    have h9:Hid (∀ k ∈ acc++[m],k≤99):=fun k hk=>by
     rcases List.mem_append.1 hk with hk | hk
     ·exact Ha9.out k hk
     ·simp at hk; subst hk; omega
    by_cases hlt:p+z<s.size
    ·have hd:=drop_cons s (p+z) hlt
     have hlt':¬ ((s.size:Int)≤((p+z:Nat):Int)):=by omega
     by_cases hc:s[p+z]=46
     ·have hcb:((s[p+z].toNat:Int) != 46)=false:=by rw [hc]; rfl
      have Hr2:Hid (numbersL s=numbersF f' (s.data.toList.drop (p+z+1)) (p+z+1) (acc++[m])):=by
       show _=_
       rw [Hr.out,hd]
       simp [numsTail,hc]
      clear hd hc
      go_wp2
      go_roundg (s.size+1 - p)
      case measure=>omega
      case rel=>exact ⟨p+z+1,f',acc++[m],by go_num,by omega,by omega,by omega,Hr2.out,by simp; omega,h9.out,HE3.out,Hb3.out,by have:=Hrow3.out; simpa using this⟩
     ·have hcb:((s[p+z].toNat:Int) != 46)=true:=by
       rw [bne_iff_ne]
       intro e
       apply hc
       apply UInt8.toNat_inj.1
       have:s[p+z].toNat=46:=by omega
       rw [this]; rfl
      have Hr2:Hid (numbersL s=(none,p+z)):=by
       show _=_
       rw [Hr.out,hd]
       simp [numsTail,hc]
      clear hd hc
      go_wp2
      refine bodyPost_ret (v := .tuple #[.slice none 0 0,.agg #[.int .i64 6,.int .i64 ((p+z:Nat):Int)]]) (by simp [results,Tryz.results67,go_sem,g0,g1,gf,hT5]) rfl ?_
      exact ⟨hset.out _ _ _ HE3.out,Or.inr ⟨hs,Or.inr ⟨p+z,Hr2.out,rfl⟩⟩⟩
    ·have hd:=drop_none s (p+z) hlt
     have hlt':(s.size:Int)≤((p+z:Nat):Int):=by omega
     have Hr2:Hid (numbersL s=(some (acc++[m]),0)):=by
      show _=_
      rw [Hr.out,hd]
      simp [numsTail]
     clear hd
     go_wp2
     refine bodyPost_ret (v := .tuple #[.slice v1a (acc.length+1) v1cap,.agg #[.int .i64 0,.int .i64 0]]) (by simp [results,Tryz.results67,go_sem,g0,g1,gf,hT5]) rfl ?_
     have hK:∀ x0 x1,Kept (fun j=>j=w.heap.size) w3 ((w3.setCell ⟨w.heap.size,0,none⟩ x0).setCell ⟨w.heap.size,1,none⟩ x1):=fun x0 x1=>((Kept.refl (only w.heap.size) w3).put 0 _).put 1 _
     have hrow:=Hrow3.out
     refine ⟨hset.out _ _ _ HE3.out,Or.inr ⟨hs,Or.inl ⟨acc++[m],v1a,v1cap,Hr2.out,by simp,?_,by simp; omega,h9.out⟩⟩⟩
     have hlen:(acc++[m]).length=acc.length+1:=by simp
     rw [hlen] at hrow ⊢
     exact owns_base (owns_box hrow Hb3.out (by decide) (hK (.int .i64 0) (.int .i64 0))) (Nat.zero_le _)
def RenamedSaid (n:Nat):Prop:=∀ (w:World) (X:Nat→Prop) (a b c:Value) (l:List Sym) (v:Nat),l.length≤n→l.length≤4000→Rep X w a b c l→(∀ k,X k→k<w.heap.size)→v≤1000000→(∀ s ∈ l,s.num≤1000000) →
 Calls Tryz.prog 180 #[.agg #[a,b,c],.int .i64 v] w fun e w'=>∃ a' b' c',e = .returned (.agg #[a',b',c'])∧Ext w w'∧Rep X w' a' b' c' (ap (shift v) l)
set_option maxRecDepth 10000 in
set_option maxHeartbeats 1000000 in
theorem renamed_var (w:World) (X:Nat→Prop) (n v:Nat) (hn:n≤1000000) (hv:v≤1000000) :
  Calls Tryz.prog 180 #[.agg #[.string ⟨#[]⟩,.int .i64 n,.slice none 0 0],.int .i64 v] w fun e w'=>∃ a' b' c',e = .returned (.agg #[a',b',c'])∧Ext w w'∧Rep X w' a' b' c' (vr (n+v)):=by
 go_enter Tryz.func180,Tryz.ntmps180
 go_wp2
 refine bodyPost_ret (v := .agg #[.string ⟨#[]⟩,.int .i64 ((n+v:Nat):Int),.slice none 0 0]) (by simp [results,Tryz.results180,go_sem]) rfl ?_
 exact ⟨_,_,_,rfl,(Ext.of (by repeat' (first | with_reducible exact Kept.refl _ _ | with_reducible apply Kept.drew | with_reducible apply Kept.drewN | with_reducible apply Kept.alloc | with_reducible refine Kept.setCell ?_ ?_ _ | exact fun h=>absurd h (by simp <;> omega)))),Rep.var _ _ _⟩
set_option maxRecDepth 10000 in
set_option maxHeartbeats 1000000 in
theorem renamed_name (n:Nat) (IH:RenamedSaid n) (w:World) (X:Nat→Prop) (nm:List UInt8) (hnm:nm≠[]) (c:Value) (ls:List (List Sym)) (xs:List Value) (v:Nat)
  (hrow:RowT X w c ls xs) (hX:∀ k,X k→k<w.heap.size) (hn:ls.flatten.length≤n) (hbig:ls.flatten.length≤3999) (hv:v≤1000000) (hv2:∀ s ∈ ls.flatten,s.num≤1000000) :
  Calls Tryz.prog 180 #[.agg #[.string ⟨nm.toArray⟩,.int .i64 0,c],.int .i64 v] w fun e w'=>∃ a' b' c',e = .returned (.agg #[a',b',c'])∧Ext w w'∧Rep X w' a' b' c' (⟨nm,0,ls.length⟩::ap (shift v) ls.flatten):=by
 obtain ⟨ca,ccap,rfl⟩:=owns_slice hrow.1
 have hwf:=hrow.wf
 have hll:ls.length≤ls.flatten.length:=wf_len (wf_flatten hwf)
 have he:nm.isEmpty=false:=by simpa using hnm
 have Hrow:=hide' hrow
 have Hih:=hide' IH
 have HX:=hide' hX
 clear hrow IH hX
 go_enter Tryz.func180,Tryz.ntmps180
 go_wp2
 go_loopg [6] (ls.length+1) (fun gk i wr=>∃ (k:Nat) (cv:Value) (ys:List Value),i = .int .i64 k∧k≤ls.length∧ls.length - k<gk∧Ext w wr ∧
   wr.heap[w.heap.size]?=some (.cells #[.string ⟨nm.toArray⟩,.int .i64 0,.slice ca ls.length ccap] 183 (0,0)) ∧
   wr.heap[w.heap.size+1]?=some (.cells #[.string ⟨#[]⟩,.int .i64 0,.slice none 0 0] 183 (0,0)) ∧
   wr.heap[w.heap.size+1+1]?=some (.cells #[.string ⟨nm.toArray⟩,.int .i64 0,cv] 183 (0,0)) ∧
   Acc (boxed X w.heap.size 3) wr (w.heap.size+3) cv k ((ls.take k).map (ap (shift v))) ys)
 case atStart =>
  refine ⟨0,.slice none 0 0,[],by go_num,Nat.zero_le _,by omega,(Ext.of (by repeat' (first | with_reducible exact Kept.refl _ _ | with_reducible apply Kept.drew | with_reducible apply Kept.drewN | with_reducible apply Kept.alloc | with_reducible refine Kept.setCell ?_ ?_ _ | exact fun h=>absurd h (by simp <;> omega)))),?_,?_,?_,by simpa using Acc.nil _ _ _⟩
  ·exact block_alloc (block_alloc (heap_alloc_new w _) _) _
  ·simpa using block_alloc (heap_alloc_new (w.alloc _) _) _
  ·simpa using heap_alloc_new ((w.alloc _).alloc _) _
 case round =>
  obtain ⟨k,cv,ys,rfl,hk,hg,hext,h0,h2,h3,hacc⟩:=hrel
  obtain ⟨cva,cvcap,rfl⟩:=owns_slice hacc.owns
  have hsz:=lt_of_block h3
  obtain ⟨c0,c1,c2,cf⟩:=box3 h0
  have Hext:=hide' hext
  have H0:=hide' h0
  have H2:=hide' h2
  have H3:=hide' h3
  have Hacc:=hide' hacc
  clear hext h0 h2 h3 hacc
  by_cases hlt:k<ls.length
  ·obtain ⟨l',hl'⟩:∃ l',ls[k]?=some l':=⟨_,List.getElem?_eq_getElem hlt⟩
   obtain ⟨_,_,hlf,_⟩:=flat_at hl' hwf
   obtain ⟨a',b',c',x0,x1,x2,hrep⟩:=Hrow.out.2.2 k l' hl'
   obtain ⟨s1,n1,c1a,c1l,c1c,rfl,rfl,rfl⟩:=hrep.shape
   have hrow':=Hrow.out.ext (Y:=X) Hext.out (fun _ _ h=>h)
   obtain ⟨g,cap',cur,hge,hBg,hgb,hcp⟩:=owns_some hrow'.1 (by omega)
   simp only [Value.slice.injEq] at hge
   obtain ⟨rfl,_,rfl⟩:=hge
   have y0:wr.cell? ⟨g,k * 3,none⟩=some (.string s1):=owns_cell hrow'.1 _ _ x0
   have y1:wr.cell? ⟨g,k * 3+1,none⟩=some (.int .i64 n1):=owns_cell hrow'.1 _ _ x1
   have y2:wr.cell? ⟨g,k * 3+2,none⟩=some (.slice c1a c1l c1c):=owns_cell hrow'.1 _ _ x2
   have hbl:∀ s ∈ l',s.num≤1000000:=fun s hs=>hv2 s (List.mem_flatten.2 ⟨l',List.mem_of_getElem? hl',hs⟩)
   have HI:Hid (∀ Z u,Ext wr u→(∀ k,Z k→wr.heap.size≤k∧k<u.heap.size)→Calls Tryz.prog 180 #[.agg #[.string s1,.int .i64 n1,.slice c1a c1l c1c],.int .i64 v] u fun e u' =>
     ∃ r,e = .returned r∧Ext u u'∧RT (fun j=>boxed X w.heap.size 3 j∨ownOf (.slice cva k cvcap) j) (ap (shift v) l') Z r u'):=fun Z u hu hZ=>by
    have hwu:Ext w u:=Hext.out.trans (hu.mono Hext.out.size)
    have hz:=boxed_low (X:=X) Hacc.out (fun k h=>(hZ k h).1) Hext.out.size
    refine (Hih.out u _ _ _ _ l' v (by omega) (by omega) (hrep.ext hwu hz) ?_ hv hbl).mono ?_
    ·rintro j (h | h)
     ·exact Nat.lt_of_lt_of_le (boxed_high Hacc.out HX.out (by omega) j h) hu.size
     ·exact (hZ j h).2
    ·rintro e u' ⟨a,b,c,rfl,he,hr⟩
     exact ⟨_,rfl,he,RT.of hr⟩
   have Htk:Hid ((ls.take (k+1)).map (ap (shift v))=(ls.take k).map (ap (shift v))++[ap (shift v) l']):=by
    show _=_
    rw [List.take_add_one,hl']; simp
   clear hgb hrow' hrep x0 x1 x2 hl'
   go_wp2_with fail
   refine (HI.out (fun _=>False) wr (Ext.of (by repeat' (first | with_reducible exact Kept.refl _ _ | with_reducible apply Kept.drew | with_reducible apply Kept.drewN | with_reducible apply Kept.alloc | with_reducible refine Kept.setCell ?_ ?_ _ | exact fun h=>absurd h (by simp <;> omega)))) (fun _ h=>h.elim)).mono ?_
   rintro e w1 ⟨vc,rfl,hext1,s2,n2,c2a,c2l,c2c,rfl,hrep1⟩
   have h3':=(hext1.block _ hsz).trans H3.out
   have hown1:=(Kept.of_below hext1).owns Hacc.out.owns (fun k hk e=>by have:=(Hacc.out.owns.lt k hk).2; omega)
   have e2:w1.cell? ⟨w.heap.size+1+1,2,none⟩=some (.slice cva k cvcap):=cell_of_block h3' 2 _ rfl
   have hs1:=hext1.size
   have hm1:w.heap.size+1+1<w1.heap.size:=by omega
   have Hown1:=hide' hown1
   have Hext1:=hide' hext1
   have Hrep1:=hide' hrep1
   have H3':=hide' h3'
   clear hown1 hext1 hrep1 h3'
   go_wp2_with (at_builtin; refine wpList_append1 _ rfl (.tmp 34) (.tmp 36) 146 rfl (w.heap.size+3) 183 Tryz.infoTerm Tryz.underlying146 rfl (by decide) _ k ys rfl (Hown1.out.alloc _) _ rfl (by simp) rfl term_one ?_ ?_ ?_)
   ·omega
   ·simp; omega
   intro cv' w3 hap3
   obtain ⟨c3a,c3cap,rfl⟩:=owns_slice hap3.owns
   have hnot:¬ ownOf (.slice cva k cvcap) (w.heap.size+1+1):=fun e=>by have:=(Hown1.out.lt _ e).1; omega
   have hblk3:=(hap3.kept.block _ (by simp; omega) hnot).trans (block_alloc H3'.out _)
   have p2:w3.cell? ⟨w.heap.size+1+1,2,none⟩=some (.slice cva k cvcap):=cell_of_block hblk3 2 _ rfl
   have pf:∀ i,w3.frozen? ⟨w.heap.size+1+1,i,none⟩=false:=fun i=>thawed_of_block hblk3 i
   have Hblk3:=hide' hblk3
   have Hap3:=hide' hap3
   clear hblk3 hap3 e2
   go_wp2
   go_roundg (ls.length - k)
   case measure=>omega
   case rel =>
    obtain ⟨hacc',hk14⟩:=Hacc.out.step (w4:=w3.setCell ⟨w.heap.size+1+1,2,none⟩ (.slice c3a (k+1) c3cap)) (Hext1.out.alloc Hext1.out.size _) ((Hrep1.out.on (fun j hj hn _=>⟨rfl,fun h=>hn (Or.inl h)⟩)).ext (Ext.of (by repeat' (first | with_reducible exact Kept.refl _ _ | with_reducible apply Kept.drew | with_reducible apply Kept.drewN | with_reducible apply Kept.alloc | with_reducible refine Kept.setCell ?_ ?_ _ | exact fun h=>absurd h (by simp <;> omega)))) (fun _ _ h=>h)) Hap3.out
     (Kept.setCell (Kept.refl _ w3) (p:=⟨w.heap.size+1+1,2,none⟩) (fun _=>Or.inr (by simp only; omega)) _) (boxed_lt HX.out)
    rw [← Htk.out] at hacc'
    have hkb:=Hap3.out.under (N:=w.heap.size+1+1) (Hext1.out.alloc Hext1.out.size _) (fun j e=>by have:=(Hown1.out.lt j e).1; omega) (by omega) 2 (.slice c3a (k+1) c3cap)
    exact ⟨k+1,_,_,by go_num,by omega,by omega,Hext.out.trans (hkb.mono (by omega)),(hkb.block _ (by omega)).trans H0.out,(hkb.block _ (by omega)).trans H2.out,block_set Hblk3.out 2 _,hacc'⟩
  ·have f0:wr.cell? ⟨w.heap.size+1+1,0,none⟩=some (.string ⟨nm.toArray⟩):=cell_of_block H3.out 0 _ rfl
   have f1:wr.cell? ⟨w.heap.size+1+1,1,none⟩=some (.int .i64 0):=cell_of_block H3.out 1 _ rfl
   have f2:wr.cell? ⟨w.heap.size+1+1,2,none⟩=some (.slice cva k cvcap):=cell_of_block H3.out 2 _ rfl
   obtain ⟨r0,r1,r2,rf⟩:=box3 H2.out
   go_wp2
   refine bodyPost_ret (v := .agg #[.string ⟨nm.toArray⟩,.int .i64 0,.slice cva k cvcap]) (by simp [results,Tryz.results180,go_sem,r0,r1,r2,rf]) rfl ?_
   have hek:k=ls.length:=by omega
   subst hek
   have hkp:=(((Kept.refl (only (w.heap.size+1)) wr).put 0 (.string ⟨nm.toArray⟩)).put 1 (.int .i64 0)).put 2 (.slice cva ls.length cvcap)
   refine ⟨_,_,_,rfl,Hext.out.trans (hkp.below Hext.out.size (fun j e=>by have e:j=w.heap.size+1:=e; omega)),?_⟩
   have hr:=Hacc.out.row (X:=X) (hkp.mono (fun j _ e=>Or.inr (by have e:j=w.heap.size+1:=e; omega))) (fun j h=>Or.inl h) (boxed_lt HX.out)
   rw [List.take_length] at hr
   have:=Rep.name hnm hr
   rw [← ap_flatten] at this
   simpa using this
theorem renamed_any:∀ n,RenamedSaid n:=by
 intro n
 induction n with
 | zero =>
  intro w X a b c l v hl _ h
  have:=wf_len (h.wf _ (Nat.le_refl _))
  omega
 | succ n ih =>
  intro w X a b c l v hl hl4 h hX hv hb
  rcases h.out with ⟨k,rfl,rfl,rfl,rfl⟩ | ⟨nm,ls,xs,h1,rfl,rfl,rfl,h5⟩
  ·have e:ap (shift v) [⟨[],k,0⟩]=vr (k+v):=ap_vr _ _
   rw [e]
   exact renamed_var w X k v (hb ⟨[],k,0⟩ (by simp)) hv
  ·have e:ap (shift v) (⟨nm,0,ls.length⟩::ls.flatten)=⟨nm,0,ls.length⟩::ap (shift v) ls.flatten:=by rw [ap_cons]; simp [ap1,h1]
   rw [e]
   simp only [List.length_cons] at hl hl4
   exact renamed_name n ih w X nm h1 c ls xs v h5 hX (by omega) (by omega) hv (fun s hs=>hb s (by simp [hs]))
structure GoalsIn (X:Nat→Prop) (w:World) (gs:List (List Sym × Nat)) (ys:List Value):Prop where
 len:ys.length=gs.length * 4
 all:∀ (i:Nat) (g:List Sym × Nat),gs[i]?=some g→∃ a b c,ys[i * 4]?=some a∧ys[i * 4+1]?=some b∧ys[i * 4+2]?=some c∧ys[i * 4+3]?=some (.int .i64 g.2)∧Rep X w a b c g.1
theorem GoalsIn.one {X:Nat→Prop} {w:World} {gs:List (List Sym × Nat)} {ys:List Value} (h:GoalsIn X w gs ys):∀ u ∈ ys,u.oneCell'=true:=by
 intro u hu
 obtain ⟨i,hi,rfl⟩:=List.getElem_of_mem hu
 have hl:=h.len
 have hq:i / 4<gs.length:=by omega
 obtain ⟨a,b,c,x0,x1,x2,x3,hr⟩:=h.all (i / 4) _ (List.getElem?_eq_getElem hq)
 obtain ⟨s,n,ca,cl,cc,rfl,rfl,rfl⟩:=hr.shape
 have hs:∀ (j:Nat) (v:Value),ys[j]?=some v→i=j→ys[i]=v:=fun j v hv e=>by subst e; exact (List.getElem?_eq_some_iff.1 hv).2
 have hm:i % 4=0∨i % 4=1∨i % 4=2∨i % 4=3:=by omega
 rcases hm with hm | hm | hm | hm
 ·rw [hs _ _ x0 (by omega)]; rfl
 ·rw [hs _ _ x1 (by omega)]; rfl
 ·rw [hs _ _ x2 (by omega)]; rfl
 ·rw [hs _ _ x3 (by omega)]; rfl
theorem RowG.ins {X:Nat→Prop} {w:World} {B n:Nat} {cv:Value} {gs:List (List Sym × Nat)} {xs:List Value} (h:RowG X w B cv n gs xs):GoalsIn X w gs xs:=⟨by rw [h.owns.1,h.len],h.all⟩
theorem GoalsIn.tail {X:Nat→Prop} {w:World} {g:List Sym × Nat} {gs:List (List Sym × Nat)} {ys:List Value} (h:GoalsIn X w (g::gs) ys):GoalsIn X w gs (ys.drop 4):=by
 have hl:=h.len
 simp only [List.length_cons] at hl
 refine ⟨by simp; omega,fun i g' hg => ?_⟩
 obtain ⟨a,b,c,x0,x1,x2,x3,hr⟩:=h.all (i+1) g' (by simpa using hg)
 have e:∀ j,(ys.drop 4)[i * 4+j]?=ys[(i+1) * 4+j]?:=fun j=>by
  rw [List.getElem?_drop]; congr 1; omega
 refine ⟨a,b,c,?_,?_,?_,?_,hr⟩
 ·have:=e 0; simp only [Nat.add_zero] at this; rw [this]; exact x0
 ·rw [e 1]; exact x1
 ·rw [e 2]; exact x2
 ·rw [e 3]; exact x3
theorem RowG.more {X:Nat→Prop} {w w':World} {B n m:Nat} {cv cv':Value} {gs hs:List (List Sym × Nat)} {xs ys:List Value} (h:RowG X w B cv n gs xs) (hi:GoalsIn X w hs ys) (ha:Appended w B 200 4 cv (n+m) (xs++ys) cv' w') (hm:hs.length=m) :
  RowG X w' B cv' (n+m) (gs++hs) (xs++ys):=by
 have hon:∀ {a b c:Value} {l:List Sym},Rep X w a b c l→Rep X w' a b c l:=fun hr=>hr.on (fun k hk hx ht=>by
  obtain ⟨cur,hc⟩:=ht
  exact ⟨ha.kept.block k hk (owns_apart h.owns (by decide) hc),hx⟩)
 have hxl:=h.owns.1
 have hL:=h.len
 refine ⟨ha.owns,by simp [hL,hm],fun i s hs' => ?_⟩
 rcases Nat.lt_or_ge i gs.length with hi' | hi'
 ·rw [List.getElem?_append_left hi'] at hs'
  obtain ⟨a',b',c',x0,x1,x2,x3,g⟩:=h.all i s hs'
  refine ⟨a',b',c',?_,?_,?_,?_,hon g⟩
  ·rw [List.getElem?_append_left (by omega)]; exact x0
  ·rw [List.getElem?_append_left (by omega)]; exact x1
  ·rw [List.getElem?_append_left (by omega)]; exact x2
  ·rw [List.getElem?_append_left (by omega)]; exact x3
 ·rw [List.getElem?_append_right hi'] at hs'
  obtain ⟨a',b',c',x0,x1,x2,x3,g⟩:=hi.all (i - gs.length) s hs'
  have e:∀ j,(xs++ys)[i * 4+j]?=ys[(i - gs.length) * 4+j]?:=fun j=>by
   rw [List.getElem?_append_right (by omega)]; congr 1; omega
  refine ⟨a',b',c',?_,?_,?_,?_,hon g⟩
  ·have:=e 0; simp only [Nat.add_zero] at this; rw [this]; exact x0
  ·rw [e 1]; exact x1
  ·rw [e 2]; exact x2
  ·rw [e 3]; exact x3
theorem reads_tail {X:Nat→Prop} {w:World} {B ga gcap:Nat} {g:List Sym × Nat} {gs:List (List Sym × Nat)} {xs:List Value} (h:RowG X w B (.slice (some ⟨ga,0,none⟩) (gs.length+1) gcap) (gs.length+1) (g::gs) xs) (c:Nat) :
  Reads w 4 (.slice (some ⟨ga,4,none⟩) gs.length c) gs.length (xs.drop 4):=by
 have ht:=h.ins.tail
 refine ⟨ht.len,ht.one,Or.inr ⟨⟨ga,4,none⟩,c,rfl,fun j u hu => ?_⟩⟩
 rw [List.getElem?_drop] at hu
 have:=owns_cell h.owns (4+j) u hu
 have hadd:(⟨ga,4,none⟩:Addr).add j=⟨ga,4+j,none⟩:=by unfold Addr.add; split <;> simp_all
 rw [hadd]; exact this
end Go.Proofs.YtlmjilpjmgjjcaaGreatDoor
