/-
  PROVED HERE: what the program's 'placeOf' and 'inOrder' make of terms in memory (the conditions stand in each statement).
-/
import Derived.Test.YtlmjilpjmgjjcaaGreatDoorT8
set_option linter.unusedSimpArgs false
set_option linter.unusedVariables false
set_option maxRecDepth 10000
set_option maxHeartbeats 4000000
namespace Go.Proofs.YtlmjilpjmgjjcaaGreatDoor
open Go.RowKit
theorem Zns {k V:Nat} {l:List Sym} (hw:Wf k l) (hl:l.length≤1000) (ho:∀ v,Occ v l→v<V) (hV:V≤200000):TmOk l :=
 ⟨⟨k,hw⟩,hl,fun s hs=>by
  obtain ⟨i,hi⟩:=List.mem_iff_getElem?.1 hs
  by_cases hn:s.name=[]
  ·have:=ho s.num ⟨s,hs,hn,rfl⟩
   omega
  ·rw [(Zjq hw hi).2 hn]; omega⟩
theorem TmOk.rn {l:List Sym} {v:Nat} {k:Nat} (hw:Wf k l) (hl:l.length≤1000) {V:Nat} (ho:∀ u,Occ u l→u<V) (hV:V+v≤200000):TmOk (l.map (YtlmjilpjmgjjcaaGreatDoor.rn v)):=by
 rw [← Zmh hw]
 have hlen:(ap (Zcj v) l).length=l.length:=by rw [Zmh hw]; simp
 exact Zns (Zha (Zqi v) hw) (by omega) (V:=V+v) (fun u hu=>by
  obtain ⟨x,hx,rfl⟩:=Zhb hu
  have:=ho x hx
  omega) hV
def TryOut (n:ND) (c:Cls) (k:Nat) (w:World) (e:Ending) (w':World):Prop:=Ext w w'∧∃ g1 g2 g3 v1 v2 v3 r1 r2 r3,∃ uu q:Nat,e = .returned (.tuple #[.agg #[.slice g1 g2 g3,.slice v1 v2 v3,.slice r1 r2 r3,.int .i64 uu],.int .i64 q]) ∧
 ((q=0∧(n.goals=[]∨Out n c k 0 n))∨(q=2∧∃ ch,Out n c k 3 ch)∨(q=1∧∃ ch qq,(qq=1∨qq=2)∧Out n c k qq ch∧NodeNew w.heap.size w' (.slice g1 g2 g3) (.slice v1 v2 v3) (.slice r1 r2 r3) ch∧uu=ch.vars∧g2=ch.goals.length))
theorem Zhv (σ:Nat→List Sym) (n:ND) (c:Cls) (hc:COk c) (k:Nat) (g:List Sym × Nat) (gs:List (List Sym × Nat)):(Zar σ n c k g gs).goals.map (·.1)=((c.body.map (fun l=>l.map (rn n.vars))++gs.map (·.1))).map (ap σ):=by
 unfold Zar
 simp only
 rw [Zqj,Qr,List.map_map]
 congr 2
 refine List.map_congr_left (fun l hl => ?_)
 exact Zmh (hc.wfb l hl)
theorem Zlh (σ:Nat→List Sym) (n:ND) (c:Cls) (k:Nat) (g:List Sym × Nat) (gs:List (List Sym × Nat)):(Zar σ n c k g gs).done.map (·.1)=(n.done.map (·.1)++[g.1]).map (ap σ):=by
 unfold Zar
 simp only
 rw [Zqj,Qr]
 rfl
theorem Yfy {n:ND} (hn:NOk n) {c:Cls} (hc:COk c) (k:Nat) {g:List Sym × Nat} {gs:List (List Sym × Nat)} (hg:n.goals=g::gs) {σ:Nat→List Sym} (h1:Mgu σ g.1 (ap (Zcj n.vars) c.head)) {l:List Sym} (hl:l ∈ (c.body.map (fun l=>l.map (rn n.vars))++gs.map (·.1))++(n.vals++(n.done.map (·.1)++[g.1]))) (hb:30<(ap σ l).length):Zfi (Zar σ n c k g gs)=3:=by
 refine Classical.byContradiction (fun hne => ?_)
 have hok:=Zqk hn hc k hg h1 hne
 have hle:(ap σ l).length≤30:=by
  rcases Qk.1 hl with hl | hl
  ·have:ap σ l ∈ (Zar σ n c k g gs).goals.map (·.1):=by rw [Zhv σ n c hc]; exact List.mem_map.2 ⟨l,hl,rfl⟩
   obtain ⟨x,hx,e⟩:=List.mem_map.1 this
   rw [← e]; exact (hok.gs x hx).1
  ·rcases Qk.1 hl with hl | hl
   ·exact hok.vsize (t:=ap σ l) (List.mem_map.2 ⟨l,hl,rfl⟩)
   ·have:ap σ l ∈ (Zar σ n c k g gs).done.map (·.1):=by rw [Zlh]; exact List.mem_map.2 ⟨l,hl,rfl⟩
    obtain ⟨x,hx,e⟩:=List.mem_map.1 this
    rw [← e]; exact (hok.ds x hx).1
 omega
theorem Ybi {n:ND} {c:Cls} (k:Nat) {g:List Sym × Nat} {gs:List (List Sym × Nat)} {σ:Nat→List Sym} (h:40<c.body.length+gs.length∨100<n.used.length+1):Zfi (Zar σ n c k g gs)=3:=by
 have:Zoj (Zar σ n c k g gs)=true:=by
  unfold Zoj Zar carr
  simp only [Bool.or_eq_true,decide_eq_true_eq,Ql,Qg,Qf,Jt]
  omega
 unfold Zfi
 rw [if_pos this]
theorem Zwe {n:ND} {c:Cls} (hc:COk c) (k:Nat) {g:List Sym × Nat} {gs:List (List Sym × Nat)} {σ:Nat→List Sym} (h1:¬ 40<c.body.length+gs.length) (h2:¬ 100<n.used.length+1) (h:∀ l ∈ (c.body.map (fun l=>l.map (rn n.vars))++gs.map (·.1))++(n.vals++(n.done.map (·.1)++[g.1])),(ap σ l).length≤30):Zfi (Zar σ n c k g gs)=1∨Zfi (Zar σ n c k g gs)=2:=by
 have:Zoj (Zar σ n c k g gs)=false:=by
  have hg:∀ x ∈ (Zar σ n c k g gs).goals,¬ bigG x=true:=fun x hx=>by
   have:x.1 ∈ (Zar σ n c k g gs).goals.map (·.1):=List.mem_map.2 ⟨x,hx,rfl⟩
   rw [Zhv σ n c hc] at this
   obtain ⟨l,hl,e⟩:=List.mem_map.1 this
   have:=h l (List.mem_append_left _ hl)
   unfold bigG
   rw [← e]
   simpa using this
  have hd:∀ x ∈ (Zar σ n c k g gs).done,¬ bigG x=true:=fun x hx=>by
   have:x.1 ∈ (Zar σ n c k g gs).done.map (·.1):=List.mem_map.2 ⟨x,hx,rfl⟩
   rw [Zlh] at this
   obtain ⟨l,hl,e⟩:=List.mem_map.1 this
   have:=h l (List.mem_append_right _ (List.mem_append_right _ hl))
   unfold bigG
   rw [← e]
   simpa using this
  unfold Zoj
  simp only [Bool.or_eq_false_iff,decide_eq_false_iff_not]
  refine ⟨⟨⟨?_,?_⟩,List.any_eq_false.2 hg⟩,List.any_eq_false.2 hd⟩
  ·unfold Zar carr; simp; omega
  ·unfold Zar carr; simp; omega
 unfold Zfi
 rw [this]
 simp only [Bool.false_eq_true,if_false]
 split
 ·exact Or.inr rfl
 ·exact Or.inl rfl
theorem Zrp (w:World) (gv vv rv hv bv nv:Value) (n:ND) (c:Cls) (k:Nat) (hn:NOk n) (hc:COk c) (h:NodeIn w gv vv rv n) (hcl:ClsIn w hv bv nv c) :
  Calls Tryz.prog 97 #[.agg #[gv,vv,rv,.int .i64 n.vars],.agg #[hv,bv,nv]] w (TryOut n c k w):=by
 obtain ⟨ga,gcap,rfl⟩:=h.goals.shape
 obtain ⟨va,vcap,rfl⟩:=h.vals.shape
 obtain ⟨ra,rcap,rfl⟩:=h.done.shape
 obtain ⟨ha,hcap,rfl⟩:=Zae hcl.head
 obtain ⟨ba,bcap,rfl⟩:=hcl.body.shape
 obtain ⟨na,ncap,rfl⟩:=Zae hcl.names
 have hgl:(n.goals.map (·.1)).length=n.goals.length:=by simp
 have hdl:(n.done.map (·.1)).length=n.done.length:=by simp
 rw [hgl,hdl] at h ⊢
 have hV:n.vars≤101000:=by have:=hn.vars; have:=hn.ul; omega
 have hcn:c.names.length≤1000:=hc.n
 have hg40:=hn.gl
 have hd100:n.done.length≤100:=by rw [hn.dl]; exact hn.ul
 have hb6:=hc.bn
 obtain ⟨W,hW⟩:∃ W,W=((w.alloc (.cells #[.slice ga n.goals.length gcap,.slice va n.vals.length vcap,.slice ra n.done.length rcap,.int .i64 n.vars] 87)).alloc (.cells #[.slice ha c.head.length hcap,.slice ba c.body.length bcap,.slice na c.names.length ncap] 107)).alloc (.cells #[.slice none 0 0,.slice none 0 0,.slice none 0 0,.int .i64 0] 87):=⟨_,rfl⟩
 have hE0:Ext w W:=by rw [hW]; exact (Ext.of (by repeat' (first | with_reducible(first|exact Qx _ _|apply Kept.drew|apply Kept.drewN|apply Qz|refine Qy ?_ ?_ _)|exact fun h=>absurd h (by simp <;> omega))))
 have hWs:W.heap.size=w.heap.size+3:=by rw [hW]; simp
 have hb0:NB W w.heap.size (.slice ga n.goals.length gcap) (.slice va n.vals.length vcap) (.slice ra n.done.length rcap) n.vars:=by rw [hW]; exact Zau (Zau (heap_alloc_new w _) _) _
 have hb1:W.heap[w.heap.size+1]?=some (.cells #[.slice ha c.head.length hcap,.slice ba c.body.length bcap,.slice na c.names.length ncap] 107 (0,0)):=by rw [hW]; exact Zau (Zdm (by simp) _) _
 have hb2:NB W (w.heap.size+2) (.slice none 0 0) (.slice none 0 0) (.slice none 0 0) 0:=by rw [hW]; exact Zdm (by simp) _
 have HB:Hid (∀ y,Ext W y→y.cell? ⟨w.heap.size,0,none⟩=some (.slice ga n.goals.length gcap)∧y.cell? ⟨w.heap.size,1,none⟩=some (.slice va n.vals.length vcap)∧y.cell? ⟨w.heap.size,2,none⟩=some (.slice ra n.done.length rcap)∧y.cell? ⟨w.heap.size,3,none⟩=some (.int .i64 n.vars) ∧
   y.cell? ⟨w.heap.size+1,0,none⟩=some (.slice ha c.head.length hcap)∧y.cell? ⟨w.heap.size+1,1,none⟩=some (.slice ba c.body.length bcap)∧y.cell? ⟨w.heap.size+1,2,none⟩=some (.slice na c.names.length ncap)∧NB y (w.heap.size+2) (.slice none 0 0) (.slice none 0 0) (.slice none 0 0) 0∧w.heap.size+2<y.heap.size):=fun y hE=>by
  have e0:=(hE.block _ (Zab hb0)).trans hb0
  have e1:=(hE.block _ (Zab hb1)).trans hb1
  have e2:=(hE.block _ (Zab hb2)).trans hb2
  exact ⟨Zaa e0 0 _ rfl,Zaa e0 1 _ rfl,Zaa e0 2 _ rfl,Zaa e0 3 _ rfl,Zaa e1 0 _ rfl,Zaa e1 1 _ rfl,Zaa e1 2 _ rfl,e2,Zab e2⟩
 have hset:Hid (∀ y x0 x1 x2 x3,Ext w y→Ext w ((((y.setCell ⟨w.heap.size+2,0,none⟩ x0).setCell ⟨w.heap.size+2,1,none⟩ x1).setCell ⟨w.heap.size+2,2,none⟩ x2).setCell ⟨w.heap.size+2,3,none⟩ x3)):=fun y x0 x1 x2 x3 hE =>
  (((hE.setCell (p:=⟨w.heap.size+2,0,none⟩) (by simp) _).setCell (p:=⟨w.heap.size+2,1,none⟩) (by simp) _).setCell (p:=⟨w.heap.size+2,2,none⟩) (by simp) _).setCell (p:=⟨w.heap.size+2,3,none⟩) (by simp) _
 have hhead:TmOk (c.head.map (rn n.vars)):=TmOk.rn hc.wfh (by have:=hc.hl; omega) hc.och (by have:=hc.n; omega)
 have hheadl:(c.head.map (rn n.vars)).length=c.head.length:=by simp
 have hhl:=hc.hl
 have HR:=Zac (Zim W (.slice ha c.head.length hcap) c.head n.vars (WordAt.ext hcl.head hE0) (by omega) (fun s hs=>(Zns hc.wfh (by omega) hc.och (by have:=hc.n; omega)).num s hs) (by omega))
 obtain ⟨HD,hHD⟩:∃ l,l=c.head.map (rn n.vars):=⟨_,rfl⟩
 have HHD:Hid (HD=ap (Zcj n.vars) c.head):=by show _=_; rw [hHD]; exact (Zmh hc.wfh).symm
 rw [← hHD] at HR hheadl hhead
 have H:=Zac h
 have Hcl:=Zac hcl
 have Hn:=Zac hn
 have Hc:=Zac hc
 have HE0:=Zac hE0
 have Hhead:=Zac hhead
 have Hhl:=Zac hheadl
 have HW:=Zac hW
 clear h hcl hE0 hb0 hb1 hb2 hhead hHD hgl hdl hn hc hheadl
 cases hgo:n.goals with
 | nil =>
  have Hgo:=Zac hgo
  rw [hgo] at HB
  obtain ⟨c0,c1,c2,c3,c4,c5,c6,c7,c8⟩:=HB.out W (Below.refl _ _)
  have r0:=Zaa c7 0 _ rfl
  have r1:=Zaa c7 1 _ rfl
  have r2:=Zaa c7 2 _ rfl
  have r3:=Zaa c7 3 _ rfl
  have rf:=fun i=>Zad c7 i
  rw [hgo] at hW
  clear hgo c7 hg40
  go_enter Tryz.func97,Tryz.ntmps97
  go_wp2_with fail
  rw [Jt] at hW
  rw [← hW]
  refine bodyPost_ret (v := .tuple #[.agg #[.slice none 0 0,.slice none 0 0,.slice none 0 0,.int .i64 0],.int .i64 0]) (by simp [results,Tryz.results97,go_sem,r0,r1,r2,r3,rf,c8]) rfl ?_
  exact ⟨HE0.out,none,0,0,none,0,0,none,0,0,0,0,rfl,Or.inl ⟨rfl,Or.inl Hgo.out⟩⟩
 | cons g gs =>
  have hgn:n.goals.length=gs.length+1:=by rw [hgo]; simp
  have z1:((n.goals.length:Int) == 0)=false:=by rw [Qu]; omega
  obtain ⟨us,hT⟩:=H.out.goals
  obtain ⟨x,hx,hxo⟩:=hT.all 0 g.1 (by rw [hgo]; rfl)
  obtain ⟨xa,xcap,rfl⟩:=Zae hxo
  obtain ⟨gb,cap',cur,he,_,hgb,_⟩:=Zao hT.owns (by simp; omega)
  simp only [Value.slice.injEq] at he
  obtain ⟨rfl,_,rfl⟩:=he
  have hgw:=Zab hgb
  have x0:w.cell? ⟨gb,0,none⟩=some (.slice xa g.1.length xcap):=Zag (by have:=hT.owns; rw [Ql] at this; exact this) _ _ hx
  have hgt:g.1 ∈ n.terms:=by unfold ND.terms; rw [hgo]; simp
  have hgW:=Hn.out.wf g.1 hgt
  have hg30:=(Hn.out.gs g (by rw [hgo]; simp)).1
  have hgO:=(Zns hgW (by omega) (Hn.out.occ g.1 hgt) (by omega)).num
  have hHW:Wf 1 HD:=by rw [HHD.out]; exact Zha (Zqi _) Hc.out.wfh
  have hHl:=Hhl.out
  have HWd:Hid (∀ y hx hc,Ext w y→WordAt y (.slice hx HD.length hc) HD→Calls Tryz.prog 127 #[.slice xa g.1.length xcap,.slice hx HD.length hc] y (Zwc g.1 HD y)):=fun y hx hc hE hr =>
   Ybg y _ _ g.1 HD (WordAt.ext hxo hE) hr hgW hHW (by omega) (by omega) (fun s hs=>by
    rcases Qk.1 hs with hs | hs
    ·exact hgO s hs
    ·exact Hhead.out.num s hs)
  have Hgo:=Zac hgo
  have Hgn:=Zac hgn
  have Hg30:=Zac hg30
  clear hT hx hxo hgb hgt hgW hgO hHW hHl hgo hgn hg30
  obtain ⟨gl,hgl⟩:∃ m,m=n.goals.length:=⟨_,rfl⟩
  rw [← hgl] at HB hW z1 hg40
  rw [show (g::gs).length=gl from by rw [hgl,Hgn.out]; rfl]
  have hgp:0<gl:=by rw [hgl,Hgn.out]; omega
  have Hgl:=Zac hgl
  clear hgl
  go_enter Tryz.func97,Tryz.ntmps97
  go_wp2_with fail
  rw [← hW]
  refine HR.out.mono ?_
  rintro e w1 ⟨hv1,B1,rfl,hB1,hr1,hE1⟩
  obtain ⟨h1a,h1c,rfl⟩:=Zae hr1
  obtain ⟨c0,c1,c2,c3,c4,c5,c6,c7,c8⟩:=HB.out w1 hE1
  have hEw1:Ext w w1:=HE0.out.trans (hE1.mono (by omega))
  have hz1:=hE1.size
  have x1:w1.cell? ⟨gb,0,none⟩=some (.slice xa g.1.length xcap):=(hEw1.cell (p:=⟨gb,0,none⟩) hgw).trans x0
  have hgw1:gb<w1.heap.size:=by omega
  have HWd1:=Zac (HWd.out w1 h1a h1c hEw1 (Zbe hr1 (Qm _)))
  have HE1:=Zac hE1
  have HEw1:=Zac hEw1
  clear hr1 hE1 hEw1 HR x0 HWd hW
  go_wp2_with fail
  refine HWd1.out.mono ?_
  rintro e w2 ⟨hE2,sx,sn,sc,q,rfl,hout⟩
  obtain ⟨c0,c1,c2,c3,c4,c5,c6,c7,c8⟩:=HB.out w2 (HE1.out.trans (hE2.mono hz1))
  have hz2:=hE2.size
  have r0:=Zaa c7 0 _ rfl
  have r1:=Zaa c7 1 _ rfl
  have r2:=Zaa c7 2 _ rfl
  have r3:=Zaa c7 3 _ rfl
  have rf:=fun i=>Zad c7 i
  have hEw2:Ext w w2:=HEw1.out.trans (hE2.mono (by omega))
  have k0:w.heap.size<w2.heap.size:=by omega
  have k1:w.heap.size+1<w2.heap.size:=by omega
  have HE2:=Zac hE2
  have HEw2:=Zac hEw2
  have Hc7:=Zac c7
  clear hE2 hEw2 x1 HWd1 c7
  rcases hout with ⟨rfl,hno⟩ | ⟨rfl,hva⟩ | ⟨rfl,ts,tvs,hts,hmg,hsm,htl,ht30⟩
  ·have Hno:Hid (Out n c k 0 n):=⟨g,gs,Hgo.out,Or.inl ⟨rfl,by rw [← HHD.out]; exact hno⟩⟩
   clear hno
   go_wp2
   refine bodyPost_ret (v := .tuple #[.agg #[.slice none 0 0,.slice none 0 0,.slice none 0 0,.int .i64 0],.int .i64 0]) (by simp [results,Tryz.results97,go_sem,r0,r1,r2,r3,rf,c8]) rfl ?_
   refine ⟨(hset.out w2 (.slice none 0 0) (.slice none 0 0) (.slice none 0 0) (.int .i64 0) HEw2.out).alloc (by simp; omega) _,none,0,0,none,0,0,none,0,0,0,0,rfl,Or.inl ⟨rfl,Or.inr Hno.out⟩⟩
  ·have Hva:Hid (∃ ch,Out n c k 3 ch):=⟨n,g,gs,Hgo.out,Or.inr (Or.inl ⟨rfl,by rw [← HHD.out]; exact hva⟩)⟩
   clear hva
   go_wp2
   refine bodyPost_ret (v := .tuple #[.agg #[.slice none 0 0,.slice none 0 0,.slice none 0 0,.int .i64 0],.int .i64 2]) (by simp [results,Tryz.results97,go_sem,r0,r1,r2,r3,rf,c8]) rfl ?_
   refine ⟨(hset.out w2 (.slice none 0 0) (.slice none 0 0) (.slice none 0 0) (.int .i64 0) HEw2.out).alloc (by simp; omega) _,none,0,0,none,0,0,none,0,0,0,2,rfl,Or.inr (Or.inl ⟨rfl,Hva.out⟩)⟩
  ·rw [HHD.out] at hmg
   have Hmg:=Zac hmg
   have Hts:=Zac hts
   have Ht30:=Zac ht30
   have Hsm:=Zac hsm
   clear hmg hts ht30 hsm
   by_cases hmany:40<c.body.length+gs.length∨100<n.used.length+1
   ·have Hk:Hid (∃ ch,Out n c k 3 ch):=⟨_,g,gs,Hgo.out,Or.inr (Or.inr ⟨sbOf ts,Hmg.out,Hsm.out,(Ybi k hmany).symm,rfl⟩)⟩
    have hgl':gl=gs.length+1:=by rw [Hgl.out,Hgn.out]
    have hdu:=Hn.out.dl
    by_cases h40:40<c.body.length+gs.length
    ·have hi:(40:Int)<(c.body.length:Int)+(gl:Int) - 1:=by omega
     clear hmany h40 hgl' hdu
     go_wp2
     refine bodyPost_ret (v := .tuple #[.agg #[.slice none 0 0,.slice none 0 0,.slice none 0 0,.int .i64 0],.int .i64 2]) (by simp [results,Tryz.results97,go_sem,r0,r1,r2,r3,rf,c8]) rfl ?_
     exact ⟨(hset.out w2 (.slice none 0 0) (.slice none 0 0) (.slice none 0 0) (.int .i64 0) HEw2.out).alloc (by simp; omega) _,none,0,0,none,0,0,none,0,0,0,2,rfl,Or.inr (Or.inl ⟨rfl,Hk.out⟩)⟩
    ·have hi:¬ ((40:Int)<(c.body.length:Int)+(gl:Int) - 1):=by omega
     have hi2:(100:Int)<(n.done.length:Int)+1:=by omega
     clear hmany h40 hgl' hdu
     go_wp2
     refine bodyPost_ret (v := .tuple #[.agg #[.slice none 0 0,.slice none 0 0,.slice none 0 0,.int .i64 0],.int .i64 2]) (by simp [results,Tryz.results97,go_sem,r0,r1,r2,r3,rf,c8]) rfl ?_
     exact ⟨(hset.out w2 (.slice none 0 0) (.slice none 0 0) (.slice none 0 0) (.int .i64 0) HEw2.out).alloc (by simp; omega) _,none,0,0,none,0,0,none,0,0,0,2,rfl,Or.inr (Or.inl ⟨rfl,Hk.out⟩)⟩
   ·have hgl':gl=gs.length+1:=by rw [Hgl.out,Hgn.out]
    have hdu:=Hn.out.dl
    have hi:¬ ((40:Int)<(c.body.length:Int)+(gl:Int) - 1):=by omega
    have hi2:¬ ((100:Int)<(n.done.length:Int)+1):=by omega
    have hm1:¬ 40<c.body.length+gs.length:=fun h=>hmany (Or.inl h)
    have hm2:¬ 100<n.used.length+1:=fun h=>hmany (Or.inr h)
    obtain ⟨sl,hsl⟩:∃ m,m=sn:=⟨_,rfl⟩
    have hN:NodeIn w (.slice (some ⟨gb,0,none⟩) gl gcap) (.slice va n.vals.length vcap) (.slice ra n.done.length rcap) n:=by rw [Hgl.out]; exact H.out
    have hE3:Ext w (w2.alloc (.cells #[.slice sx sn sc] 216)):=HEw2.out.alloc (by omega) _
    have hg3:=(hN.ext hE3).goals
    rw [Hgo.out,List.map_cons] at hg3
    have HBd:=Zac (Zuc (w2.alloc (.cells #[.slice sx sn sc] 216)) (.slice (some ⟨gb,0,none⟩) gl gcap) (.slice va n.vals.length vcap) (.slice ra n.done.length rcap) (.slice ha c.head.length hcap) (.slice ba c.body.length bcap) (.slice na c.names.length ncap) g.1 (gs.map (·.1)) n.vals (n.done.map (·.1)) c.body c.names n.vars
     hg3 (hN.ext hE3).vals (hN.ext hE3).done ⟨_,_,_,rfl⟩ (Hcl.out.ext hE3).body (Hcl.out.ext hE3).names (by simp; omega) (by simp; omega) (by omega) (by omega) (by omega) (fun l hl=>Zns (Hc.out.wfb l hl) (by have:=Hc.out.bl l hl; omega) (Hc.out.ocb l hl) (by have:=Hc.out.n; omega)))
    have HN:=Zac hN
    have HE3:=Zac hE3
    clear hgl' hdu hmany hsl hN hE3 hg3
    go_wp2_with fail
    refine HBd.out.mono ?_
    rintro e w4 ⟨hE4,b1,b2,d1,d2,rfl,hbg,hbr⟩
    obtain ⟨G2,hG2⟩:∃ l,l=c.body.map (fun l=>l.map (rn n.vars))++gs.map (·.1):=⟨_,rfl⟩
    obtain ⟨R2,hR2⟩:∃ l,l=n.done.map (·.1)++[g.1]:=⟨_,rfl⟩
    rw [← hG2] at hbg ⊢
    rw [← hR2] at hbr ⊢
    have hG2l:G2.length≤1000:=by rw [hG2]; simp; omega
    have hR2l:R2.length≤1000:=by rw [hR2]; simp; omega
    have hok:∀ l ∈ G2++(n.vals++R2),TmOk l:=fun l hl=>by
     rcases Qk.1 hl with hl | hl
     ·rw [hG2] at hl
      rcases Qk.1 hl with hl | hl
      ·obtain ⟨m,hm,rfl⟩:=List.mem_map.1 hl
       exact TmOk.rn (Hc.out.wfb m hm) (by have:=Hc.out.bl m hm; omega) (Hc.out.ocb m hm) (by have:=Hc.out.n; omega)
      ·obtain ⟨m,hm,rfl⟩:=List.mem_map.1 hl
       have hmt:m.1 ∈ n.terms:=by unfold ND.terms; rw [Hgo.out]; exact List.mem_append_left _ (List.mem_map.2 ⟨m,by simp [hm],rfl⟩)
       exact Zns (Hn.out.wf _ hmt) (by have:=(Hn.out.gs m (by rw [Hgo.out]; simp [hm])).1; omega) (Hn.out.occ _ hmt) (by omega)
     ·rcases Qk.1 hl with hl | hl
      ·have hmt:l ∈ n.terms:=by unfold ND.terms; simp [hl]
       exact Zns (Hn.out.wf _ hmt) (by have:=Hn.out.vsize hl; omega) (Hn.out.occ _ hmt) (by omega)
      ·rw [hR2] at hl
       rcases Qk.1 hl with hl | hl
       ·obtain ⟨m,hm,rfl⟩:=List.mem_map.1 hl
        have hmt:m.1 ∈ n.terms:=by unfold ND.terms; exact List.mem_append_right _ (List.mem_append_right _ (List.mem_map.2 ⟨m,hm,rfl⟩))
        exact Zns (Hn.out.wf _ hmt) (by have:=(Hn.out.ds m hm).1; omega) (Hn.out.occ _ hmt) (by omega)
       ·simp at hl
        subst hl
        have hmt:g.1 ∈ n.terms:=by unfold ND.terms; rw [Hgo.out]; simp
        exact Zns (Hn.out.wf _ hmt) (by have:=Hg30.out; omega) (Hn.out.occ _ hmt) (by omega)
    have hz4:=hE4.size
    have hz4:w2.heap.size+1≤w4.heap.size:=by simpa using hz4
    have hsb:w4.heap[w2.heap.size]?=some (.cells #[.slice sx sn sc] 216 (0,0)):=(hE4.block _ (by simp)).trans (heap_alloc_new w2 _)
    have sb0:=Zaa hsb 0 _ rfl
    have hE24:Ext w2 w4:=(show Ext w2 (w2.alloc (.cells #[.slice sx sn sc] 216)) from (Ext.of (by repeat' (first | with_reducible(first|exact Qx _ _|apply Kept.drew|apply Kept.drewN|apply Qz|refine Qy ?_ ?_ _)|exact fun h=>absurd h (by simp <;> omega))))).trans (hE4.mono (by simp))
    have hEw4:Ext w w4:=HEw2.out.trans (hE24.mono (by omega))
    have c74:NB w4 (w.heap.size+2) (.slice none 0 0) (.slice none 0 0) (.slice none 0 0) 0:=(hE24.block _ c8).trans Hc7.out
    have hE45:∀ o,Ext w4 (w4.alloc o):=fun o=>(Ext.of (by repeat' (first | with_reducible(first|exact Qx _ _|apply Kept.drew|apply Kept.drewN|apply Qz|refine Qy ?_ ?_ _)|exact fun h=>absurd h (by simp <;> omega))))
    have HWt:Hid (∀ o,Calls Tryz.prog 129 #[.agg #[.slice b1 G2.length b2,.slice va n.vals.length vcap,.slice d1 R2.length d2,.int .i64 ((n.vars+c.names.length:Nat):Int)],.agg #[.slice sx sn sc]] (w4.alloc o) (Yfw ts G2 n.vals R2 (n.vars+c.names.length) (w4.alloc o))):=fun o =>
     Zrn (w4.alloc o) (.slice sx sn sc) _ _ _ ts G2 n.vals R2 tvs (n.vars+c.names.length) ((Hts.out.ext hE24).ext (hE45 o)) (hbg.ext (hE45 o)) ((HN.out.vals.ext hEw4).ext (hE45 o)) (hbr.ext (hE45 o)) htl Ht30.out (by omega) (by have:=Hn.out.vl; omega) (by omega) hok (by omega)
    have HEw4:=Zac hEw4
    have Hc74:=Zac c74
    have HG2:=Zac hG2
    have HR2:=Zac hR2
    have k4:w.heap.size+2<w4.heap.size:=by omega
    have k5:w2.heap.size<w4.heap.size:=by omega
    clear hE4 hbg hbr hok hsb hE24 hEw4 c74 hE45 hG2 hR2 HBd
    go_wp2_with fail
    refine (HWt.out _).mono ?_
    rintro e w6 ⟨hE6,hout⟩
    have hz6:=hE6.size
    have hz6:w4.heap.size+1≤w6.heap.size:=by simpa using hz6
    have hE46:Ext w4 w6:=(Below.refl _ w4 |>.alloc (Qe _) _).trans (hE6.mono (by simp))
    have hEw6:Ext w w6:=HEw4.out.trans (hE46.mono (by omega))
    have c76:NB w6 (w.heap.size+2) (.slice none 0 0) (.slice none 0 0) (.slice none 0 0) 0:=(hE46.block _ k4).trans Hc74.out
    have r0:=Zaa c76 0 _ rfl
    have r1:=Zaa c76 1 _ rfl
    have r2:=Zaa c76 2 _ rfl
    have r3:=Zaa c76 3 _ rfl
    have rf:=fun i=>Zad c76 i
    have k6:w.heap.size+2<w6.heap.size:=by omega
    have HEw6:=Zac hEw6
    have Hc76:=Zac c76
    clear hE6 hE46 hEw6 c76 HWt
    rcases hout with ⟨hsmall,g1,g2,g3,v1,v2,v3,q1,q2,q3,rfl,t1,t2,t3⟩ | ⟨⟨l,hl,hbig⟩,rfl⟩
    ·have hkind:=Zwe (k:=k) (g:=g) (gs:=gs) Hc.out (σ:=sbOf ts) hm1 hm2 (by rw [← HG2.out,← HR2.out]; exact hsmall)
     have hK2:∀ x0 x1 x2 x3,Kept (fun j=>j=w.heap.size+2) w6 ((((w6.setCell ⟨w.heap.size+2,0,none⟩ x0).setCell ⟨w.heap.size+2,1,none⟩ x1).setCell ⟨w.heap.size+2,2,none⟩ x2).setCell ⟨w.heap.size+2,3,none⟩ x3):=fun x0 x1 x2 x3=>((((Qx (only (w.heap.size+2)) w6).put 0 _).put 1 _).put 2 _).put 3 _
     have hout:TryOut n c k w (.returned (.tuple #[.agg #[.slice g1 g2 g3,.slice v1 v2 v3,.slice q1 q2 q3,.int .i64 ((n.vars+c.names.length:Nat):Int)],.int .i64 1])) ((((w6.setCell ⟨w.heap.size+2,0,none⟩ (.slice g1 g2 g3)).setCell ⟨w.heap.size+2,1,none⟩ (.slice v1 v2 v3)).setCell ⟨w.heap.size+2,2,none⟩ (.slice q1 q2 q3)).setCell ⟨w.heap.size+2,3,none⟩ (.int .i64 ((n.vars+c.names.length:Nat):Int))):=by
      refine ⟨hset.out w6 _ _ _ _ HEw6.out,g1,g2,g3,v1,v2,v3,q1,q2,q3,n.vars+c.names.length,1,rfl,Or.inr (Or.inr ⟨rfl,Zar (sbOf ts) n c k g gs,Zfi (Zar (sbOf ts) n c k g gs),hkind,⟨g,gs,Hgo.out,Or.inr (Or.inr ⟨sbOf ts,Hmg.out,Hsm.out,rfl,rfl⟩)⟩,⟨?_,?_,?_⟩,rfl,?_⟩)⟩
      ·rw [Zhv _ _ _ Hc.out,← HG2.out]; exact (t1.box Hc76.out (by decide) (by decide) (hK2 _ _ _ _)).mono (by simp; omega)
      ·exact (t2.box Hc76.out (by decide) (by decide) (hK2 _ _ _ _)).mono (by simp; omega)
      ·rw [Zlh,← HR2.out]; exact (t3.box Hc76.out (by decide) (by decide) (hK2 _ _ _ _)).mono (by simp; omega)
      ·obtain ⟨za,zc,ze⟩:=t1.inn.shape
       simp only [Value.slice.injEq] at ze
       rw [ze.2.1,HG2.out,← Zhv (sbOf ts) n c Hc.out k g gs,Ql]
     have Hout:=Zac hout
     clear hout hsmall hkind hK2 t1 t2 t3
     go_wp2
     refine bodyPost_ret (v := .tuple #[.agg #[.slice g1 g2 g3,.slice v1 v2 v3,.slice q1 q2 q3,.int .i64 ((n.vars+c.names.length:Nat):Int)],.int .i64 1]) (by simp [results,Tryz.results97,go_sem,r0,r1,r2,r3,rf,k6]) rfl ?_
     exact Hout.out
    ·have Hk:Hid (∃ ch,Out n c k 3 ch):=⟨_,g,gs,Hgo.out,Or.inr (Or.inr ⟨sbOf ts,Hmg.out,Hsm.out,(Yfy Hn.out Hc.out k Hgo.out Hmg.out (by rw [← HG2.out,← HR2.out]; exact hl) hbig).symm,rfl⟩)⟩
     clear hl hbig
     go_wp2
     refine bodyPost_ret (v := .tuple #[.agg #[.slice none 0 0,.slice none 0 0,.slice none 0 0,.int .i64 0],.int .i64 2]) (by simp [results,Tryz.results97,go_sem,r0,r1,r2,r3,rf,k6]) rfl ?_
     exact ⟨hset.out w6 _ _ _ _ HEw6.out,none,0,0,none,0,0,none,0,0,0,2,rfl,Or.inr (Or.inl ⟨rfl,Hk.out⟩)⟩
def Zli (s:ByteArray) (p:Nat):Bool:=if h:p<s.size then figB s[p] else false
theorem Zyi {s:ByteArray} {p:Nat} (h:Zli s p=true):∃ h:p<s.size,figB s[p]=true:=by
 unfold Zli at h
 split at h
 ·rename_i h1; exact ⟨h1,h⟩
 ·simp at h
theorem Yfz (s:ByteArray) (p:Nat) (w:World) (hs:s.size≤100000) (hp:p≤100001) :
  Calls Tryz.prog 126 #[.string s,.int .i64 p] w fun e w'=>e = .returned (.bool (Zli s p))∧w'=w:=by
 have h0:(0:Int)≤(p:Int):=by omega
 by_cases hlt:p<s.size
 ·have hlt':(p:Int)<(s.size:Int):=by omega
  cases hf:figB s[p] with
  | true =>
   obtain ⟨f1,f2⟩:=Ziw hf
   have Hd:Hid (Zli s p=true):=by show _=_; unfold Zli; rw [dif_pos hlt]; exact hf
   clear hf
   go_enter Tryz.func126,Tryz.ntmps126
   go_wp2
   go_ret
   rw [Hd.out]
   exact ⟨by simp; omega,rfl⟩
  | false =>
   have Hd:Hid (Zli s p=false):=by show _=_; unfold Zli; rw [dif_pos hlt]; exact hf
   have hb:s[p].toNat<48∨57<s[p].toNat:=by
    simp only [figB,decide_eq_false_iff_not] at hf
    omega
   clear hf
   rcases hb with hb | hb
   ·have f1:¬ 48≤s[p].toNat:=by omega
    go_enter Tryz.func126,Tryz.ntmps126
    go_wp2
    go_ret
    rw [Hd.out]
    exact ⟨rfl,rfl⟩
   ·have f1:48≤s[p].toNat:=by omega
    have f2:¬ s[p].toNat≤57:=by omega
    go_enter Tryz.func126,Tryz.ntmps126
    go_wp2
    go_ret
    rw [Hd.out]
    exact ⟨by simp; omega,rfl⟩
 ·have hlt':¬ (p:Int)<(s.size:Int):=by omega
  have Hd:Hid (Zli s p=false):=by show _=_; unfold Zli; rw [dif_neg hlt]
  go_enter Tryz.func126,Tryz.ntmps126
  go_wp2
  go_ret
  rw [Hd.out]
  exact ⟨rfl,rfl⟩
theorem Yga (s:ByteArray) (p:Nat) (w:World) (hs:s.size≤100000) (hp:p≤100000) :
  Calls Tryz.prog 96 #[.string s,.int .i64 p] w fun e w'=>e = .returned (.tuple #[.int .i64 (Zak (s.data.toList.drop p)).1,.int .i64 ((p+(Zak (s.data.toList.drop p)).2:Nat):Int)])∧w'=w:=by
 have HD:=Zac (fun q u (hq:q≤100001)=>Yfz s q u hs hq)
 obtain ⟨r,hr⟩:∃ r,r=Zak (s.data.toList.drop p):=⟨_,rfl⟩
 rw [← hr]
 have Hr:=Zac hr
 clear hr
 cases hd:Zli s p with
 | false =>
  have Hrr:Hid (r=(0,0)):=by
   show _=_
   rw [Hr.out]
   by_cases hlt:p<s.size
   ·refine Zvr s p hlt ?_
    unfold Zli at hd
    rw [dif_pos hlt] at hd
    exact hd
   ·exact Zth s p hlt
  have H0:=HD.out p w (by omega)
  rw [hd] at H0
  have H0:=Zac H0
  clear hd
  go_enter Tryz.func96,Tryz.ntmps96
  go_wp2_with fail
  refine H0.out.mono ?_
  rintro e w' ⟨rfl,rfl⟩
  go_wp2
  go_ret2
  rw [Hrr.out]
  exact ⟨by simp,rfl⟩
 | true =>
  obtain ⟨hlt,hf⟩:=Zyi hd
  obtain ⟨f1,f2⟩:=Ziw hf
  have H0:=HD.out p w (by omega)
  rw [hd] at H0
  have H0:=Zac H0
  have H1:=HD.out (p+1) w (by omega)
  clear hd
  by_cases h0:s[p].toNat - 48=0
  ·have Hrr:Hid (r=(0,1)):=by show _=_; rw [Hr.out,Zti s p hlt hf h0,h0]
   have h48:s[p].toNat=48:=by omega
   clear hf H1
   go_enter Tryz.func96,Tryz.ntmps96
   go_wp2_with fail
   refine H0.out.mono ?_
   rintro e w' ⟨rfl,rfl⟩
   go_wp2
   go_ret2
   rw [Hrr.out]
   exact ⟨by simp [h48],rfl⟩
  ·cases hd1:Zli s (p+1) with
   | false =>
    have Hrr:Hid (r=(s[p].toNat - 48,1)):=by
     show _=_
     rw [Hr.out]
     by_cases hlt1:p+1<s.size
     ·refine Ztj s p hlt hf hlt1 ?_
      unfold Zli at hd1
      rw [dif_pos hlt1] at hd1
      exact hd1
     ·exact Zvs s p hlt hf hlt1
    rw [hd1] at H1
    have H1:=Zac H1
    clear hf hd1
    go_enter Tryz.func96,Tryz.ntmps96
    go_wp2_with fail
    refine H0.out.mono ?_
    rintro e w' ⟨rfl,rfl⟩
    go_wp2_with fail
    refine H1.out.mono ?_
    rintro e w' ⟨rfl,rfl⟩
    go_wp2
    go_ret2
    rw [Hrr.out]
    exact ⟨by simp; omega,rfl⟩
   | true =>
    obtain ⟨hlt1,hf1⟩:=Zyi hd1
    obtain ⟨f3,f4⟩:=Ziw hf1
    have Hrr:Hid (r=(10 * (s[p].toNat - 48)+(s[p+1].toNat - 48),2)):=by
     show _=_
     rw [Hr.out]
     exact Zvt s p hlt hf h0 hlt1 hf1
    rw [hd1] at H1
    have H1:=Zac H1
    clear hf hd1 hf1
    go_enter Tryz.func96,Tryz.ntmps96
    go_wp2_with fail
    refine H0.out.mono ?_
    rintro e w' ⟨rfl,rfl⟩
    go_wp2_with fail
    refine H1.out.mono ?_
    rintro e w' ⟨rfl,rfl⟩
    go_wp2
    go_ret2
    rw [Hrr.out]
    exact ⟨by simp; omega,rfl⟩
def Yjn (s:ByteArray) (w:World) (e:Ending) (w':World):Prop:=Ext w w' ∧
 ((400<s.size∧e = .returned (.tuple #[.slice none 0 0,.agg #[.int .i64 1,.int .i64 0]]))∨(s.size≤400 ∧
  ((∃ ks a c,Zct s=(some ks,0)∧e = .returned (.tuple #[.slice a ks.length c,.agg #[.int .i64 0,.int .i64 0]])∧w'.ownsRow 0 3 1 (.slice a ks.length c) ks.length (ints ks)∧ks.length≤400∧∀ k ∈ ks,k≤99) ∨
   (∃ pl:Nat,Zct s=(none,pl)∧e = .returned (.tuple #[.slice none 0 0,.agg #[.int .i64 6,.int .i64 pl]])))))
theorem Yjo (s:ByteArray) (w:World) (hm:s.size≤maxLen):Calls Tryz.prog 67 #[.string s] w (Yjn s w):=by
 unfold maxLen at hm
 have hset:Hid (∀ y x0 x1,Ext w y→Ext w ((y.setCell ⟨w.heap.size,0,none⟩ x0).setCell ⟨w.heap.size,1,none⟩ x1)):=fun y x0 x1 hE=>(hE.setCell (p:=⟨w.heap.size,0,none⟩) (Qe _) _).setCell (p:=⟨w.heap.size,1,none⟩) (Qe _) _
 by_cases hbig:400<s.size
 ·have hb':(400:Int)<(s.size:Int):=by omega
  go_enter Tryz.func67,Tryz.ntmps67
  go_wp2
  refine bodyPost_ret (v := .tuple #[.slice none 0 0,.agg #[.int .i64 1,.int .i64 0]]) (by simp [results,Tryz.results67,go_sem]) rfl ?_
  exact ⟨(Ext.of (by repeat' (first | with_reducible(first|exact Qx _ _|apply Kept.drew|apply Kept.drewN|apply Qz|refine Qy ?_ ?_ _)|exact fun h=>absurd h (by simp <;> omega)))),Or.inl ⟨hbig,rfl⟩⟩
 ·have hs:s.size≤400:=by omega
  have hb':¬ ((400:Int)<(s.size:Int)):=by omega
  have hsl:s.data.toList.length=s.size:=by simp
  have HN:=Zac (fun p u (hp:p≤401)=>Yga s p u (by omega) (by omega))
  go_enter Tryz.func67,Tryz.ntmps67
  go_wp2
  go_loopg [4,5] (s.size+2) (fun gk lv av wr=>∃ (p f:Nat) (acc:List Nat),av = .int .i64 p∧p≤s.size∧s.size+1 - p<gk∧s.size+1 - p≤f∧Zct s=Zdu f (s.data.toList.drop p) p acc∧acc.length≤p∧(∀ k ∈ acc,k≤99)∧Ext w wr∧wr.heap[w.heap.size]?=some (.cells #[.int .i64 0,.int .i64 0] 91 (0,0))∧wr.ownsRow w.heap.size 3 1 lv acc.length (ints acc))
  case atStart=>exact ⟨0,s.size+1,[],by go_num,by omega,by omega,by omega,by rw [Zct]; rfl,by simp,by simp,(Ext.of (by repeat' (first | with_reducible(first|exact Qx _ _|apply Kept.drew|apply Kept.drewN|apply Qz|refine Qy ?_ ?_ _)|exact fun h=>absurd h (by simp <;> omega)))),heap_alloc_new w _,World.ownsRow_nil _ _ _ _⟩
  case round =>
   obtain ⟨p,f,acc,rfl,hp,hgk,hf,hnum,hal,ha9,hext,hblk,hown⟩:=hrel
   obtain ⟨la,lcap,rfl⟩:=Zae hown
   have hsr:=hext.size
   obtain ⟨hT4,f0,f1,ff⟩:=FaultAt.cells (e:=0) (p:=0) hblk
   obtain ⟨m,z,hmz⟩:∃ m z,Zak (s.data.toList.drop p)=(m,z):=⟨_,_,rfl⟩
   have hsz:=Zdt (s.data.toList.drop p)
   rw [hmz] at hsz
   simp only [List.length_drop] at hsz
   have h1:=HN.out p wr (by omega)
   rw [hmz] at h1
   have H1:=Zac h1
   have Hmz:=Zac hmz
   have Hnm:=Zac hnum
   have Hext:=Zac hext
   have Hown:=Zac hown
   have Hblk:=Zac hblk
   have Ha9:=Zac ha9
   clear h1 hmz hnum hext hown hblk ha9
   by_cases hz:z=0
   ·have Hr:Hid (Zct s=(none,p)):=by
     show _=_
     cases f with
     | zero =>
      exfalso; omega
     | succ f=>rw [Hnm.out,Zrg _ _ _ _ (by rw [Hmz.out]; exact hz)]
    subst hz
    go_wp2_with fail
    refine H1.out.mono ?_
    rintro e w2 ⟨rfl,rfl⟩
    go_wp2
    refine bodyPost_ret (v := .tuple #[.slice none 0 0,.agg #[.int .i64 6,.int .i64 p]]) (by simp [results,Tryz.results67,go_sem,f0,f1,ff,hT4]) rfl ?_
    exact ⟨hset.out _ _ _ Hext.out,Or.inr ⟨hs,Or.inr ⟨p,Hr.out,rfl⟩⟩⟩
   ·have hple:p<s.size:=by omega
    obtain ⟨f',rfl⟩:∃ f',f=f'+1:=⟨f - 1,by omega⟩
    have Hr:Hid (Zct s=Zkj f' (s.data.toList.drop (p+z)) (p+z) (acc++[m])):=by
     show _=_
     rw [Hnm.out,Zrf _ _ _ _ (by rw [Hmz.out]; exact hz),Hmz.out,List.drop_drop]
    have hz':(((p+z:Nat):Int) == (p:Int))=false:=by rw [Qu]; omega
    go_wp2_with fail
    refine H1.out.mono ?_
    rintro e w2 ⟨rfl,rfl⟩
    go_wp2_with (at_builtin; go_loud (refine Zal _ rfl (.tmp 23) (.tmp 25) 25 rfl w.heap.size 3 Tryz.infoInt Tryz.underlying25 rfl (by decide) (.slice la acc.length lcap) acc.length (ints acc) rfl Hown.out _ rfl rfl rfl (Zhn _) ?_ ?_ ?_))
    ·omega
    ·omega
    intro v' w3 hap
    obtain ⟨v1a,v1cap,rfl⟩:=Zae hap.owns
    have hE3:Ext w w3:=Hext.out.trans (hap.kept.below hsr (fun i e=>(Hown.out.lt i e).1))
    have hb3:=(hap.kept.block _ (Zab Hblk.out) (Zah Hown.out (by decide) Hblk.out)).trans Hblk.out
    obtain ⟨hT5,g0,g1,gf⟩:=FaultAt.cells (e:=0) (p:=0) hb3
    have hrow3:w3.ownsRow w.heap.size 3 1 (.slice v1a (acc.length+1) v1cap) (acc++[m]).length (ints (acc++[m])):=by
     have:=hap.owns
     simpa [ints] using this
    have HE3:=Zac hE3
    have Hb3:=Zac hb3
    have Hrow3:=Zac hrow3
    clear hap hE3 hb3 hrow3 f0 f1 ff hT4
    have h9:Hid (∀ k ∈ acc++[m],k≤99):=fun k hk=>by
     rcases Qk.1 hk with hk | hk
     ·exact Ha9.out k hk
     ·simp at hk; subst hk; omega
    by_cases hlt:p+z<s.size
    ·have hd:=Zdo s (p+z) hlt
     have hlt':¬ ((s.size:Int)≤((p+z:Nat):Int)):=by omega
     by_cases hc:s[p+z]=46
     ·have hcb:((s[p+z].toNat:Int) != 46)=false:=by rw [hc]; rfl
      have Hr2:Hid (Zct s=Zdu f' (s.data.toList.drop (p+z+1)) (p+z+1) (acc++[m])):=by
       show _=_
       rw [Hr.out,hd]
       simp [Zkj,hc]
      clear hd hc
      go_wp2
      go_roundg (s.size+1 - p)
      case measure=>omega
      case rel=>exact ⟨p+z+1,f',acc++[m],by go_num,by omega,by omega,by omega,Hr2.out,by simp; omega,h9.out,HE3.out,Hb3.out,by have:=Hrow3.out; simpa using this⟩
     ·have hcb:((s[p+z].toNat:Int) != 46)=true:=by
       rw [bne_iff_ne]
       intro e
       apply hc
       apply UInt8.toNat_inj.1
       have:s[p+z].toNat=46:=by omega
       rw [this]; rfl
      have Hr2:Hid (Zct s=(none,p+z)):=by
       show _=_
       rw [Hr.out,hd]
       simp [Zkj,hc]
      clear hd hc
      go_wp2
      refine bodyPost_ret (v := .tuple #[.slice none 0 0,.agg #[.int .i64 6,.int .i64 ((p+z:Nat):Int)]]) (by simp [results,Tryz.results67,go_sem,g0,g1,gf,hT5]) rfl ?_
      exact ⟨hset.out _ _ _ HE3.out,Or.inr ⟨hs,Or.inr ⟨p+z,Hr2.out,rfl⟩⟩⟩
    ·have hd:=Zie s (p+z) hlt
     have hlt':(s.size:Int)≤((p+z:Nat):Int):=by omega
     have Hr2:Hid (Zct s=(some (acc++[m]),0)):=by
      show _=_
      rw [Hr.out,hd]
      simp [Zkj]
     clear hd
     go_wp2
     refine bodyPost_ret (v := .tuple #[.slice v1a (acc.length+1) v1cap,.agg #[.int .i64 0,.int .i64 0]]) (by simp [results,Tryz.results67,go_sem,g0,g1,gf,hT5]) rfl ?_
     have hK:∀ x0 x1,Kept (fun j=>j=w.heap.size) w3 ((w3.setCell ⟨w.heap.size,0,none⟩ x0).setCell ⟨w.heap.size,1,none⟩ x1):=fun x0 x1=>((Qx (only w.heap.size) w3).put 0 _).put 1 _
     have hrow:=Hrow3.out
     refine ⟨hset.out _ _ _ HE3.out,Or.inr ⟨hs,Or.inl ⟨acc++[m],v1a,v1cap,Hr2.out,by simp,?_,by simp; omega,h9.out⟩⟩⟩
     have hlen:(acc++[m]).length=acc.length+1:=by simp
     rw [hlen] at hrow ⊢
     exact Zbe (Zcu hrow Hb3.out (by decide) (hK (.int .i64 0) (.int .i64 0))) (Qm _)
def offA (N:List (List UInt8 × Nat)) (s:Sym):Sym:=if s.name=[]∨(s.name,s.args) ∈ N then s else ⟨s.name++[0],s.num,s.args⟩
theorem Yna {N:List (List UInt8 × Nat)}:∀ {l:List Sym} {k:Nat},Wf k l→Wf k (l.map (offA N)):=by
 intro l
 induction l with
 | nil=>intro k h; exact h
 | cons s l ih =>
  intro k h
  obtain ⟨h1,h2,h3,h4⟩:=h
  have e1:(offA N s).args=s.args:=by unfold offA; split <;> rfl
  have e2:(offA N s).name=[]↔s.name=[]:=by
   unfold offA; split
   ·exact Iff.rfl
   ·rename_i h; simp at h ⊢; exact h.1
  have e3:(offA N s).num=s.num:=by unfold offA; split <;> rfl
  refine ⟨h1,fun h=>by rw [e1]; exact h2 (e2.1 h),fun h=>by rw [e3]; exact h3 (fun h'=>h (e2.2 h')),?_⟩
  rw [e1]; exact ih h4
theorem Mgu.nma {σ:Nat→List Sym} {a b:List Sym} (h:Mgu σ a b) (n:Nat):∀ s ∈ σ n,s.name≠[]→∃ t ∈ a++b,t.name=s.name∧t.args=s.args:=by
 intro s hs hn
 refine Classical.byContradiction (fun hno => ?_)
 have hno:∀ t ∈ a++b,¬ (t.name=s.name∧t.args=s.args):=fun t ht e=>hno ⟨t,ht,e⟩
 obtain ⟨N,hN⟩:∃ N,N=(a++b).map (fun t=>(t.name,t.args)):=⟨_,rfl⟩
 have hθ:Ts (fun n=>(σ n).map (offA N)):=fun n=>Yna (h.ts n)
 have key:∀ l:List Sym,(∀ t ∈ l,(t.name,t.args) ∈ N)→ap (fun n=>(σ n).map (offA N)) l=(ap σ l).map (offA N):=by
  intro l
  induction l with
  | nil=>intro _; rfl
  | cons t l ih =>
   intro ht
   rw [Zbb,Zbb,Qr,ih (fun u hu=>ht u (by simp [hu]))]
   congr 1
   unfold ap1
   split
   ·rfl
   ·have:offA N t=t:=by unfold offA; rw [if_pos (Or.inr (ht t (by simp)))]
    simp [this]
 have ha:=key a (fun t ht=>by rw [hN]; exact List.mem_map.2 ⟨t,by simp [ht],rfl⟩)
 have hb:=key b (fun t ht=>by rw [hN]; exact List.mem_map.2 ⟨t,by simp [ht],rfl⟩)
 have hw:=h.wide _ hθ (by rw [ha,hb,h.unif]) n
 have hf:=Zpf hθ hw s hs hn
 have hnN:¬ (s.name=[]∨(s.name,s.args) ∈ N):=by
  rintro (h | h)
  ·exact hn h
  ·rw [hN] at h
   obtain ⟨t,ht,e⟩:=List.mem_map.1 h
   simp only [Prod.mk.injEq] at e
   exact hno t ht e
 unfold offA at hf
 rw [if_neg hnN] at hf
 have:=congrArg (fun s=>s.name.length) hf
 simp at this
def Few (l:List Sym):Prop:=∀ s ∈ l,s.args≤4
def NFew (n:ND):Prop:=∀ t ∈ n.terms,Few t
def CFew (c:Cls):Prop:=Few c.head∧∀ t ∈ c.body,Few t
theorem Ylc (n:Nat):Few (vr n):=fun s hs=>by simp [vr] at hs; subst hs; simp
theorem Few.ap {σ:Nat→List Sym} {l:List Sym} (h:Few l) (hσ:∀ n,Few (σ n)):Few (ap σ l):=by
 intro s hs
 simp only [YtlmjilpjmgjjcaaGreatDoor.ap,List.mem_flatMap] at hs
 obtain ⟨t,ht,hs⟩:=hs
 unfold ap1 at hs
 split at hs
 ·exact hσ _ s hs
 ·simp at hs; subst hs; exact h s ht
theorem Zud (v n:Nat):Few (Zcj v n):=Ylc _
theorem Mgu.few {σ:Nat→List Sym} {a b:List Sym} (h:Mgu σ a b) (ha:Few a) (hb:Few b) (n:Nat):Few (σ n):=by
 intro s hs
 by_cases hn:s.name=[]
 ·rw [Zvg (h.ts n) s hs hn]; omega
 ·obtain ⟨t,ht,_,e⟩:=h.nma n s hs hn
  rw [← e]
  rcases Qk.1 ht with ht | ht
  ·exact ha t ht
  ·exact hb t ht
theorem Zwf {n:ND} {c:Cls} {k q:Nat} {ch:ND} (h:Out n c k q ch) (hq:q=1∨q=2) (hn:NFew n) (hc:CFew c):NFew ch:=by
 obtain ⟨g,gs,hg,h⟩:=h
 rcases h with ⟨rfl,_⟩ | ⟨rfl,_⟩ | ⟨σ,h1,_,_,rfl⟩
 ·omega
 ·omega
 ·have hgt:Few g.1:=hn g.1 (by simp [ND.terms,hg])
  have hhd:Few (ap (Zcj n.vars) c.head):=hc.1.ap (Zud _)
  have hσ:=h1.few hgt hhd
  intro t ht
  rw [Zfz] at ht
  simp only [Qk,List.mem_map] at ht
  rcases ht with ⟨u,hu,rfl⟩ | ⟨u,hu,rfl⟩ | ⟨u,hu,rfl⟩
  ·rcases hu with ⟨b,hb,rfl⟩ | ⟨x,hx,rfl⟩
   ·exact ((hc.2 b hb).ap (Zud _)).ap hσ
   ·exact (hn x.1 (by simp only [ND.terms,hg,List.map_cons,List.cons_append,Qp,Qk,List.mem_map]; exact Or.inr (Or.inl ⟨x,hx,rfl⟩))).ap hσ
  ·exact (hn u (by simp [ND.terms,hu])).ap hσ
  ·rcases hu with ⟨x,hx,rfl⟩ | hu
   ·exact (hn x.1 (by simp only [ND.terms,Qk,List.mem_map]; exact Or.inr (Or.inr ⟨x,hx,rfl⟩))).ap hσ
   ·simp at hu; subst hu; exact hgt.ap hσ
structure SF (st:RS):Prop where
 sb:SB st
 atom:Few st.atom
 head:Few st.head
 body:∀ l ∈ st.body,Few l
 cls:∀ c ∈ st.clauses,Few c.head∧∀ l ∈ c.body,Few l
theorem Zyj {l:List Sym} {s:Sym} (h:Few l) (hs:s.args≤4):Few (l++[s]):=fun t ht=>by
 rcases Qk.1 ht with ht | ht
 ·exact h t ht
 ·simp at ht; subst ht; exact hs
theorem Zwg:Few []:=fun s hs=>by simp at hs
theorem Zyk:∀ l ∈ ([]:List (List Sym)),Few l:=fun l hl=>by simp at hl
theorem Zyl {st:RS} (h:SF st) (hf:Zfj st=false) (hn:st.next=0∨st.next=1∨st.next=2):Few (Zck st):=by
 unfold Zck
 cases ho:st.opn with
 | nil=>exact h.atom
 | cons n r =>
  simp only
  by_cases h2:st.next=2
  ·have ha:Zky st<4:=by
    unfold Zfj at hf
    rw [if_neg (by omega),if_neg (by omega),if_pos h2] at hf
    simp at hf
    omega
   intro s hs
   obtain ⟨i,hi⟩:=List.mem_iff_getElem?.1 hs
   rw [List.getElem?_modify] at hi
   cases hx:st.atom[i]? with
   | none=>rw [hx] at hi; simp at hi
   | some x =>
    rw [hx] at hi
    simp at hi
    subst hi
    split
    ·rename_i e
     subst e
     have:Zky st=x.args:=by unfold Zky; rw [ho]; simp [hx]
     simp only
     omega
    ·exact h.atom x (Qh hx)
  ·have:=h.sb.empty h2 (by omega) (by omega)
   rw [this]
   intro s hs
   simp at hs
theorem SF.endAtom {st:RS} (h:SF st):Few (Zaq st).atom∧Few (Zaq st).head∧(∀ l ∈ (Zaq st).body,Few l)∧∀ c ∈ (Zaq st).clauses,Few c.head∧∀ l ∈ c.body,Few l:=by
 unfold Zaq
 split
 ·refine ⟨fun s hs=>by simp at hs,h.head,fun l hl => ?_,h.cls⟩
  simp at hl
  rcases hl with hl | rfl
  ·exact h.body l hl
  ·exact h.atom
 ·exact ⟨fun s hs=>by simp at hs,h.atom,h.body,h.cls⟩
theorem SF.take {st:RS} {kd len:Nat} {t:List UInt8} (h:SF st) (hc:Zbu st kd len=0) (hlen:len=t.length):SF (Zbm st kd t):=by
 have hs:=Zjj hc
 have hsb:=h.sb.take hc hlen
 have hfull:kd=1∨kd=2→Zfj st=false:=by
  intro hk
  unfold Zbu at hc
  rw [if_neg (by simp [hs])] at hc
  split at hc
  ·omega
  ·rename_i h'
   cases hf:Zfj st with
   | false=>rfl
   | true=>exact absurd ⟨hk,Or.inr hf⟩ h'
 have hnext:kd=1∨kd=2→st.next=0∨st.next=1∨st.next=2:=by
  intro hk
  unfold Zbk at hs
  split at hs
  ·omega
  ·split at hs
   ·omega
   ·split at hs
    ·rcases hk with rfl | rfl
     ·simp [Zbt] at hs
     ·simp [Zbt] at hs
    ·split at hs
     ·rcases hk with rfl | rfl
      ·simp [Zbt] at hs
      ·simp [Zbt] at hs
     ·simp at hs
 obtain ⟨e1,e2,e3,e4⟩:=h.endAtom
 refine ⟨hsb,?_,?_,?_,?_⟩
 all_goals clear hsb
 all_goals
  unfold Zbm
  split
  ·rename_i hk
   first
    | exact Zyj (Zyl h (hfull (Or.inl hk)) (hnext (Or.inl hk))) (by simp)
    | exact h.head
    | exact h.body
    | exact h.cls
  split
  ·rename_i _ hk
   first
    | exact Zyj (l:=Zck st) (Zyl h (hfull (Or.inr hk)) (hnext (Or.inr hk))) (by simp)
    | exact h.head
    | exact h.body
    | exact h.cls
  split
  ·first | exact h.atom | exact h.head | exact h.body | exact h.cls
  split
  ·unfold Zjb
   first | exact h.atom | exact h.head | exact h.body | exact h.cls
  split
  ·unfold Zgn
   split
   ·first | exact e1 | exact e2 | exact e3 | exact e4
   ·first | exact h.atom | exact h.head | exact h.body | exact h.cls
  split
  ·first | exact e1 | exact e2 | exact e3 | exact e4
  split
  ·unfold Zan
   first
    | exact e1
    | exact Zwg
    | exact Zyk
    | exact (fun c hc=>by
      simp only [Qk,List.mem_singleton] at hc
      rcases hc with hc | rfl
      ·exact e4 c hc
      ·exact ⟨e2,e3⟩)
  ·first | exact h.atom | exact h.head | exact h.body | exact h.cls
theorem SF.run {e:Nat}:∀ {ts:List Tok} {st:RS},SF st→(runT e ts st).1=0→SF (runT e ts st).2.2:=by
 intro ts
 induction ts with
 | nil=>intro st h _; unfold runT; split <;> exact h
 | cons t ts ih =>
  intro st h h0
  unfold runT at h0 ⊢
  split at h0
  ·rename_i hc; exact absurd h0 hc
  ·rename_i hc
   rw [if_neg hc]
   exact ih (h.take (len:=t.text.length) (by omega) rfl) h0
theorem SF.start (q:Bool):SF ⟨q,if q then 1 else 0,q,[],[],[],[],[],[]⟩:=⟨SB.start q,Zwg,Zwg,Zyk,fun c hc=>by simp at hc⟩
theorem Zrq {s:ByteArray} {cs:List Cls} (h:Zci s=some cs):∀ c ∈ cs,CFew c:=by
 obtain ⟨_,h0,e,_⟩:=Zej h
 have hB:SF (runs s false).2.2:=(SF.start false).run h0
 intro c hc
 exact hB.cls c (by rw [e]; exact hc)
theorem Zwh {s:ByteArray} {a:List (List Sym) × Names} (h:Zep s=some a):NFew (topN a):=by
 obtain ⟨_,h0,e,_⟩:=Zdx h
 have hB:SF (runs s true).2.2:=(SF.start true).run h0
 have hc:=(hB.cls ⟨[],a.1,a.2⟩ (by rw [e]; simp)).2
 intro t ht
 simp only [ND.terms,topN,List.map_map,List.map_nil,Qs,Qk,List.mem_map,Function.comp] at ht
 rcases ht with ⟨u,hu,rfl⟩ | ⟨i,_,rfl⟩
 ·exact hc u hu
 ·exact Ylc i
def TryX (n:ND) (c:Cls) (k:Nat) (X:Nat→Prop) (v:Value) (u:World):Prop:=∃ g1 g2 g3 v1 v2 v3 r1 r2 r3,∃ uu q:Nat,v = .tuple #[.agg #[.slice g1 g2 g3,.slice v1 v2 v3,.slice r1 r2 r3,.int .i64 uu],.int .i64 q] ∧
 ((q=0∧(n.goals=[]∨Out n c k 0 n))∨(q=2∧∃ ch,Out n c k 3 ch)∨(q=1∧∃ ch qq,(qq=1∨qq=2)∧Out n c k qq ch∧uu=ch.vars∧g2=ch.goals.length ∧
  (∃ vs,TermsAt u 0 (.slice g1 g2 g3) (ch.goals.map (·.1)) vs∧(∀ j,(Value.slice g1 g2 g3).ownBlock=some j→¬ X j)∧∀ x ∈ vs,∀ j,x.ownBlock=some j→¬ X j) ∧
  (∃ vs,TermsAt u 0 (.slice v1 v2 v3) ch.vals vs∧(∀ j,(Value.slice v1 v2 v3).ownBlock=some j→¬ X j)∧∀ x ∈ vs,∀ j,x.ownBlock=some j→¬ X j) ∧
  (∃ vs,TermsAt u 0 (.slice r1 r2 r3) (ch.done.map (·.1)) vs∧(∀ j,(Value.slice r1 r2 r3).ownBlock=some j→¬ X j)∧∀ x ∈ vs,∀ j,x.ownBlock=some j→¬ X j)))
theorem Zhw {X X':Nat→Prop} {v:Value} {ls:List (List Sym)} {u u':World} (h:∃ vs,TermsAt u 0 v ls vs∧(∀ j,v.ownBlock=some j→¬ X j)∧∀ x ∈ vs,∀ j,x.ownBlock=some j→¬ X j) (hb:∀ k,k<u.heap.size→¬ X k→u'.heap[k]?=u.heap[k]?) (hX:∀ k,k<u.heap.size→X' k→X k) :
  ∃ vs,TermsAt u' 0 v ls vs∧(∀ j,v.ownBlock=some j→¬ X' j)∧∀ x ∈ vs,∀ j,x.ownBlock=some j→¬ X' j:=by
 obtain ⟨vs,h,h1,h2⟩:=h
 have hlen:vs.length=ls.length:=by have:=h.owns.1; omega
 have hin:∀ x ∈ vs,∃ l,WordAt u x l:=fun x hx=>by
  obtain ⟨i,hi⟩:=List.mem_iff_getElem?.1 hx
  have hil:=(Qa.1 hi).1
  obtain ⟨y,h3,h4⟩:=h.all i _ (Qb (by omega))
  rw [hi] at h3
  simp only [Qo] at h3
  subst h3
  exact ⟨_,h4⟩
 refine ⟨vs,⟨Zai h.owns (fun j hj=>hb j (h.owns.lt j hj).2 (h1 j hj)),fun i l hi => ?_⟩,fun j hj hx=>h1 j hj (hX j (h.owns.lt j hj).2 hx),fun x hx j hj hx' => ?_⟩
 ·obtain ⟨y,h3,h4⟩:=h.all i l hi
  exact ⟨y,h3,Zai h4 (fun j hj=>hb j (h4.lt j hj).2 (h2 y (Qh h3) j hj))⟩
 ·obtain ⟨l,hl⟩:=hin x hx
  exact h2 x hx j hj (hX j (hl.lt j hj).2 hx')
theorem TryX.stable {n:ND} {c:Cls} {k:Nat}:∀ X X' v u u',TryX n c k X v u→(∀ k,k<u.heap.size→¬ X k→u'.heap[k]?=u.heap[k]?)→u.heap.size≤u'.heap.size→(∀ k,k<u.heap.size→X' k→X k)→TryX n c k X' v u':=by
 rintro X X' v u u' ⟨g1,g2,g3,v1,v2,v3,r1,r2,r3,uu,q,rfl,h⟩ hb _ hX
 refine ⟨g1,g2,g3,v1,v2,v3,r1,r2,r3,uu,q,rfl,?_⟩
 rcases h with h | h | ⟨rfl,ch,qq,h1,h2,h3,h4,h5,h6,h7⟩
 ·exact Or.inl h
 ·exact Or.inr (Or.inl h)
 ·exact Or.inr (Or.inr ⟨rfl,ch,qq,h1,h2,h3,h4,Zhw h5 hb hX,Zhw h6 hb hX,Zhw h7 hb hX⟩)
theorem TryOut.toX {n:ND} {c:Cls} {k:Nat} {X:Nat→Prop} {w w':World} {e:Ending} (h:TryOut n c k w e w') (hX:∀ j,X j→j<w.heap.size):∃ v,e = .returned v∧Ext w w'∧TryX n c k X v w':=by
 obtain ⟨hE,g1,g2,g3,v1,v2,v3,r1,r2,r3,uu,q,rfl,h⟩:=h
 refine ⟨_,rfl,hE,g1,g2,g3,v1,v2,v3,r1,r2,r3,uu,q,rfl,?_⟩
 have key:∀ {v:Value} {ls:List (List Sym)},TermsNew w.heap.size w' v ls→∃ vs,TermsAt w' 0 v ls vs∧(∀ j,v.ownBlock=some j→¬ X j)∧∀ x ∈ vs,∀ j,x.ownBlock=some j→¬ X j:=fun {v ls} h=>by
  obtain ⟨vs,h1,h2,h3⟩:=h
  exact ⟨vs,h1,fun j hj hx=>by have:=h2 j hj; have:=hX j hx; omega,fun x hx j hj hx'=>by have:=h3 x hx j hj; have:=hX j hx'; omega⟩
 rcases h with h | h | ⟨rfl,ch,qq,h1,h2,h3,h4,h5⟩
 ·exact Or.inl h
 ·exact Or.inr (Or.inl h)
 ·exact Or.inr (Or.inr ⟨rfl,ch,qq,h1,h2,h4,h5,key h3.goals,key h3.vals,key h3.done⟩)
def Zix (cs:List Cls) (a:List (List Sym) × Names) (ks:List Nat) (w:World) (e:Ending) (w':World):Prop:=Ext w w' ∧
 (((Zap cs (topN a) ks 0).2.1≠0∧e = .returned (.tuple #[.agg #[.slice none 0 0,.slice none 0 0,.slice none 0 0,.int .i64 0],.agg #[.int .i64 (Zap cs (topN a) ks 0).2.1,.int .i64 (Zap cs (topN a) ks 0).2.2]])) ∨
  ((Zap cs (topN a) ks 0).2=(0,0)∧∃ g1 g2 g3 v1 v2 v3 r1 r2 r3,∃ uu:Nat,∃ n,e = .returned (.tuple #[.agg #[.slice g1 g2 g3,.slice v1 v2 v3,.slice r1 r2 r3,.int .i64 uu],.agg #[.int .i64 0,.int .i64 0]])∧NodeIn w' (.slice g1 g2 g3) (.slice v1 v2 v3) (.slice r1 r2 r3) n∧NOk n∧NNm n∧NFew n∧Same n (Zap cs (topN a) ks 0).1))
theorem ProgIn.cell {w:World} {lb cap:Nat} {cs:List Cls} {xs:List (List Value)} (h:ProgIn w (.slice (some ⟨lb,0,none⟩) cs.length cap) cs xs) {k:Nat} {c:Cls} (hc:cs[k]?=some c):∃ hv bv nv,w.cell? ⟨lb,k * 3,none⟩=some hv∧w.cell? ⟨lb,k * 3+1,none⟩=some bv∧w.cell? ⟨lb,k * 3+2,none⟩=some nv∧ClsIn w hv bv nv c:=by
 obtain ⟨hv,bv,nv,hx,hcl⟩:=h.all k c hc
 have key:∀ (xs:List (List Value)) (k:Nat),(∀ x ∈ xs,x.length=3)→xs[k]?=some [hv,bv,nv]→∀ j,j<3→xs.flatten[k * 3+j]?=[hv,bv,nv][j]?:=by
  intro xs
  induction xs with
  | nil=>intro k _ h; simp at h
  | cons x xs ih =>
   intro k h3 hk j hj
   rw [List.flatten_cons]
   have hx3:=h3 x (by simp)
   cases k with
   | zero =>
    simp at hk
    subst hk
    rw [Qc (by simp; omega)]
    simp
   | succ k =>
    rw [Qd (by omega),hx3]
    have:=ih k (fun y hy=>h3 y (by simp [hy])) (by simpa using hk) j hj
    rw [← this]
    congr 1
    omega
 have k3:=key xs k h.three hx
 refine ⟨hv,bv,nv,Zag h.owns _ _ ?_,Zag h.owns _ _ ?_,Zag h.owns _ _ ?_,hcl⟩
 ·have:=k3 0 (by omega); simpa using this
 ·have:=k3 1 (by omega); simpa using this
 ·have:=k3 2 (by omega); simpa using this
structure FolAt (w:World) (nb:Nat) (cs:List Cls) (a:List (List Sym) × Names) (ks:List Nat) (i:Nat) (n m:ND) (gv vv rv:Value) (wr:World):Prop where
 ext:Ext w wr
 res:NB wr (w.heap.size+1) (.slice none 0 0) (.slice none 0 0) (.slice none 0 0) 0
 flt:wr.heap[w.heap.size+2]?=some (.cells #[.int .i64 0,.int .i64 0] 91 (0,0))
 box:NB wr nb gv vv rv n.vars
 node:NodeIn wr gv vv rv n
 ok:NOk n
 nm:NNm n
 few:NFew n
 same:Same n m
 fol:Zap cs (topN a) ks 0=Zap cs m (ks.drop i) i
theorem Zwi (w:World) (cv hv bv nv kv:Value) (cs:List Cls) (xs:List (List Value)) (a:List (List Sym) × Names) (ks:List Nat) (hP:ProgIn w cv cs xs) (hh:∃ a n x,hv = .slice a n x) (hb:TermsIn w bv a.1) (hns:w.ownsRow 0 9 1 nv a.2.length (strs a.2)) (hk:w.ownsRow 0 3 1 kv ks.length (ints ks))
  (hcs:∀ c ∈ cs,COk c∧CNm c) (hcf:∀ c ∈ cs,CFew c) (hcl:cs.length≤24) (hN:NOk (topN a)) (hNn:NNm (topN a)) (hNf:NFew (topN a)) (hal:a.1.length≤6) (han:a.2.length≤121) (hkl:ks.length≤400) (hk9:∀ k ∈ ks,k≤99) :
  Calls Tryz.prog 68 #[cv,.agg #[hv,bv,nv],kv] w (Zix cs a ks w):=by
 obtain ⟨h1,h2,h3,rfl⟩:=hh
 obtain ⟨ba,bcap,rfl⟩:=hb.shape
 obtain ⟨na,ncap,rfl⟩:=Zae hns
 obtain ⟨ka,kcap,rfl⟩:=Zae hk
 obtain ⟨la,lcap,rfl⟩:=Zae hP.owns
 obtain ⟨W,hW⟩:∃ W,W=((w.alloc (.cells #[.slice h1 h2 h3,.slice ba a.1.length bcap,.slice na a.2.length ncap] 107)).alloc (.cells #[.slice none 0 0,.slice none 0 0,.slice none 0 0,.int .i64 0] 87)).alloc (.cells #[.int .i64 0,.int .i64 0] 91):=⟨_,rfl⟩
 have hE0:Ext w W:=by rw [hW]; exact (Ext.of (by repeat' (first | with_reducible(first|exact Qx _ _|apply Kept.drew|apply Kept.drewN|apply Qz|refine Qy ?_ ?_ _)|exact fun h=>absurd h (by simp <;> omega))))
 have hWs:W.heap.size=w.heap.size+3:=by rw [hW]; simp
 have hb1:NB W (w.heap.size+1) (.slice none 0 0) (.slice none 0 0) (.slice none 0 0) 0:=by rw [hW]; exact Zau (Zdm (by simp) _) _
 have hb2:W.heap[w.heap.size+2]?=some (.cells #[.int .i64 0,.int .i64 0] 91 (0,0)):=by rw [hW]; exact Zdm (by simp) _
 have htm:∀ l ∈ a.1,TmOk l:=fun l hl=>by
  have hlt:l ∈ (topN a).terms:=by
   unfold ND.terms topN
   refine List.mem_append_left _ ?_
   simp
   exact hl
  have hg:=(hN.gs (l,0) (by unfold topN; simp; exact hl)).1
  exact Zns (hN.wf l hlt) (by have h':l.length≤30:=hg; omega) (hN.occ l hlt) (by have:(topN a).vars=a.2.length:=rfl; omega)
 have HT:=Zac (Zro W (.slice h1 h2 h3) (.slice ba a.1.length bcap) (.slice na a.2.length ncap) a.1 a.2 ⟨_,_,_,rfl⟩ (hb.ext hE0) (Zai hns (fun j hj=>hE0.block j (hns.lt j hj).2)) (by omega) (by omega) htm)
 have HP:=Zac hP
 have Hk:=Zac hk
 have Hcs:=Zac hcs
 have Hk9:=Zac hk9
 have HN:=Zac hN
 have HNn:=Zac hNn
 have HNf:=Zac hNf
 have Hcf:=Zac hcf
 have HE0:=Zac hE0
 have Hb1:=Zac hb1
 have Hb2:=Zac hb2
 clear hP hb hns hk hcs hk9 hN hNn hNf hcf hE0 hb1 hb2 htm
 go_enter Tryz.func68,Tryz.ntmps68
 go_wp2_with fail
 rw [← hW]
 have HW:=Zac hW
 clear hW
 refine HT.out.mono ?_
 rintro e w1 ⟨hE1,g1,gc,v1,vc,rfl,hg,hv⟩
 have hz1:=hE1.size
 have hEw1:Ext w w1:=HE0.out.trans (hE1.mono (by omega))
 have hF:FolAt w w1.heap.size cs a ks 0 (topN a) (topN a) (.slice g1 a.1.length gc) (.slice v1 a.2.length vc) (.slice none 0 0) (w1.alloc (.cells #[.slice g1 a.1.length gc,.slice v1 a.2.length vc,.slice none 0 0,.int .i64 a.2.length] 87)):=by
  have hE2:Ext w1 (w1.alloc (.cells #[.slice g1 a.1.length gc,.slice v1 a.2.length vc,.slice none 0 0,.int .i64 a.2.length] 87)):=(Ext.of (by repeat' (first | with_reducible(first|exact Qx _ _|apply Kept.drew|apply Kept.drewN|apply Qz|refine Qy ?_ ?_ _)|exact fun h=>absurd h (by simp <;> omega))))
  refine ⟨hEw1.trans (hE2.mono (by omega)),(hE2.block _ (by omega)).trans ((hE1.block _ (by omega)).trans Hb1.out),(hE2.block _ (by omega)).trans ((hE1.block _ (by omega)).trans Hb2.out),heap_alloc_new w1 _,⟨?_,hv.ext hE2,?_⟩,HN.out,HNn.out,HNf.out,Same.refl HN.out,by simp⟩
  ·have:(topN a).goals.map (·.1)=a.1:=by unfold topN; rw [List.map_map]; exact (List.map_congr_left (fun _ _=>rfl)).trans (List.map_id _)
   rw [this]; exact hg.ext hE2
  ·exact ⟨[],TermsAt.nil _ _⟩
 have HF:=Zac hF
 have hnb:w.heap.size+3≤w1.heap.size:=by omega
 have Hz:Hid (Ext w w1):=hEw1
 clear hE1 hEw1 hg hv hF HT hz1 hWs
 go_wp2
 go_loopg [17] (ks.length+1) (fun gk iv wr=>∃ (i:Nat) (n m:ND) (gv vv rv:Value),iv = .int .i64 i∧i≤ks.length∧ks.length - i<gk∧FolAt w w1.heap.size cs a ks i n m gv vv rv wr)
 case atStart=>exact ⟨0,topN a,topN a,_,_,_,by go_num,Qm _,by omega,HF.out⟩
 case round =>
  obtain ⟨j,n,m,gv,vv,rv,rfl,hj,hgk,hF⟩:=hrel
  obtain ⟨ga,gcap,rfl⟩:=hF.node.goals.shape
  obtain ⟨va,vcap,rfl⟩:=hF.node.vals.shape
  obtain ⟨ra,rcap,rfl⟩:=hF.node.done.shape
  simp only [Ql] at hF
  try simp only [Ql]
  have hsr:=hF.ext.size
  have n0:wr.cell? ⟨w1.heap.size,0,none⟩=some (.slice ga n.goals.length gcap):=Zaa hF.box 0 _ rfl
  have n1:wr.cell? ⟨w1.heap.size,1,none⟩=some (.slice va n.vals.length vcap):=Zaa hF.box 1 _ rfl
  have n2:wr.cell? ⟨w1.heap.size,2,none⟩=some (.slice ra n.done.length rcap):=Zaa hF.box 2 _ rfl
  have n3:wr.cell? ⟨w1.heap.size,3,none⟩=some (.int .i64 n.vars):=Zaa hF.box 3 _ rfl
  have nf:=fun i=>Zad hF.box i
  have nl:=Zab hF.box
  have r0:=Zaa hF.res 0 _ rfl
  have r1:=Zaa hF.res 1 _ rfl
  have r2:=Zaa hF.res 2 _ rfl
  have r3:=Zaa hF.res 3 _ rfl
  have rf:=fun i=>Zad hF.res i
  have rl:=Zab hF.res
  have f0:=Zaa hF.flt 0 _ rfl
  have f1:=Zaa hF.flt 1 _ rfl
  have ff:=fun i=>Zad hF.flt i
  have fl:=Zab hF.flt
  have HF:=Zac hF
  clear hF
  have Herr:Hid (∀ (p:Nat) (y:World) x0 x1 x2 x3 z0 z1,Ext w y→(Zap cs m (ks.drop j) j).2=(7,p)→Zix cs a ks w (.returned (.tuple #[.agg #[.slice none 0 0,.slice none 0 0,.slice none 0 0,.int .i64 0],.agg #[.int .i64 7,.int .i64 p]])) ((((((y.setCell ⟨w.heap.size+1,0,none⟩ x0).setCell ⟨w.heap.size+1,1,none⟩ x1).setCell ⟨w.heap.size+1,2,none⟩ x2).setCell ⟨w.heap.size+1,3,none⟩ x3).setCell ⟨w.heap.size+2,0,none⟩ z0).setCell ⟨w.heap.size+2,1,none⟩ z1)):=fun p y x0 x1 x2 x3 z0 z1 hE hf=>by
   refine ⟨(((((hE.setCell (p:=⟨w.heap.size+1,0,none⟩) (by simp) _).setCell (p:=⟨w.heap.size+1,1,none⟩) (by simp) _).setCell (p:=⟨w.heap.size+1,2,none⟩) (by simp) _).setCell (p:=⟨w.heap.size+1,3,none⟩) (by simp) _).setCell (p:=⟨w.heap.size+2,0,none⟩) (by simp) _).setCell (p:=⟨w.heap.size+2,1,none⟩) (by simp) _,Or.inl ?_⟩
   rw [HF.out.fol,hf]
   exact ⟨by simp,rfl⟩
  by_cases hlt:j<ks.length
  ·obtain ⟨k,hk⟩:∃ k,ks[j]?=some k:=⟨_,Qb hlt⟩
   have hdk:ks.drop j=k::ks.drop (j+1):=by rw [List.drop_eq_getElem_cons hlt,(Qa.1 hk).2]
   have hk99:=Hk9.out k (Qh hk)
   obtain ⟨kb,kcap',kcur,hke,hBk,hkb,hkc⟩:=Zao Hk.out (by omega)
   simp only [Value.slice.injEq] at hke
   obtain ⟨rfl,_,rfl⟩:=hke
   have hkbw:=Zab hkb
   have k0:wr.cell? ⟨kb,j,none⟩=some (.int .i64 k):=(HF.out.ext.cell (p:=⟨kb,j,none⟩) hkbw).trans (Zag Hk.out j _ (by simp only [ints,Qj,hk,Option.map_some]))
   have hkbl:kb<wr.heap.size:=by omega
   have Hdk:=Zac hdk
   have hkn:¬ ((k:Int)<0):=by omega
   clear hdk hkb hk
   by_cases hkc2:k<cs.length
   ·have hkc3:¬ ((cs.length:Int)≤(k:Int)):=by omega
    obtain ⟨c,hc⟩:∃ c,cs[k]?=some c:=⟨_,Qb hkc2⟩
    obtain ⟨lb,lcap',lcur,hle,_,hlb,_⟩:=Zao HP.out.owns (by omega)
    simp only [Value.slice.injEq] at hle
    obtain ⟨rfl,_,rfl⟩:=hle
    have hlbw:=Zab hlb
    obtain ⟨cv0,cv1,cv2,e0,e1,e2,hcl2⟩:=HP.out.cell hc
    have l0:=(HF.out.ext.cell (p:=⟨lb,k * 3,none⟩) hlbw).trans e0
    have l1:=(HF.out.ext.cell (p:=⟨lb,k * 3+1,none⟩) hlbw).trans e1
    have l2:=(HF.out.ext.cell (p:=⟨lb,k * 3+2,none⟩) hlbw).trans e2
    obtain ⟨d0,d1,rfl⟩:=Zae hcl2.head
    obtain ⟨d2,d3,rfl⟩:=hcl2.body.shape
    obtain ⟨d4,d5,rfl⟩:=Zae hcl2.names
    have hlbl:lb<wr.heap.size:=by omega
    obtain ⟨hco,hcm⟩:=Hcs.out c (Qh hc)
    have Hcm:=Zac hcm
    have Hcw:Hid (CFew c):=Hcf.out c (Qh hc)
    have HI:Hid (∀ Z u,Ext wr.drew u→(∀ k,Z k→wr.heap.size≤k∧k<u.heap.size)→Calls Tryz.prog 97 #[.agg #[.slice ga n.goals.length gcap,.slice va n.vals.length vcap,.slice ra n.done.length rcap,.int .i64 n.vars],.agg #[.slice d0 c.head.length d1,.slice d2 c.body.length d3,.slice d4 c.names.length d5]] u fun e u'=>∃ r,e = .returned r∧Ext u u'∧TryX n c k Z r u'):=fun Z u hu hZ=>by
     have hwu:Ext wr u:=hu.undrew
     refine (Zrp u _ _ _ _ _ _ n c k HF.out.ok hco (HF.out.node.ext hwu) (hcl2.ext (HF.out.ext.trans (hwu.mono hsr)))).mono ?_
     intro e u' h
     exact h.toX (fun j hj=>(hZ j hj).2)
    have Hc:=Zac hc
    have Hco:=Zac hco
    clear hc hlb e0 e1 e2 hcl2 hco hcm
    go_wp2_with fail
    refine Zjm (by kernel_rfl) [.pur (.agg #[.slice ga n.goals.length gcap,.slice va n.vals.length vcap,.slice ra n.done.length rcap,.int .i64 n.vars]),.pur (.slice (some ⟨lb,0,none⟩) cs.length lcap),.pur (.int .i64 k),.pur (.pointer (some ⟨lb,k * 3,none⟩)),.pur (.agg #[.slice d0 c.head.length d1,.slice d2 c.body.length d3,.slice d4 c.names.length d5]),
     .cal,.post (fun v=>v),.post (Zgw 0),.post (Zgw 1),.alo 87 #[.slice none 0 0,.slice none 0 0,.slice none 0 0,.int .i64 0] 10 (fun v=>cellsOf (Zgw 0 v)),.sto 9,.post (Zgw 1)] 5 (by kernel_rfl) (TryX n c k) 97 _ TryX.stable HI.out ?_ rfl (by decide) ?_
    ·refine ⟨fun vc β u hu => ?_,fun vc β u hu => ?_,fun vc β u hu => ?_,fun vc β u hu => ?_,fun vc β u hu => ?_,fun vc β u => ?_,?_,?_,?_,fun vc β u => ?_,?_,?_,trivial⟩
     all_goals try (simp [pa,Kd.val,go_sem,hu.up n0,hu.up n1,hu.up n2,hu.up n3,hu.up l0,hu.up l1,hu.up l2,hkc2]; done)
     all_goals try (simp [pa,Kd.val,go_sem]; done)
     all_goals try (rintro vc β Z u ⟨g1,g2,g3,v1,v2,v3,q1,q2,q3,uu,qq,rfl,_⟩; simp [pa,Kd.val,go_sem,Zgw]; done)
     rintro vc β Z u t z sx cl he ⟨g1,g2,g3,v1,v2,v3,q1,q2,q3,uu,qq,rfl,_⟩ hb
     simp at he
     obtain ⟨rfl,rfl,rfl,rfl⟩:=he
     have z0:=Zaa hb 0 _ rfl
     have z1:=Zaa hb 1 _ rfl
     have z2:=Zaa hb 2 _ rfl
     have z3:=Zaa hb 3 _ rfl
     have zf:=fun i=>Zad hb i
     refine ⟨_,?_,Zaf (Zaf (Zaf (Zaf hb 0 _) 1 _) 2 _) 3 _,((((Qx (only (β 9)) u).put 0 _).put 1 _).put 2 _).put 3 _⟩
     simp [pa,Kd.val,go_sem,z0,z1,z2,z3,zf,Zgw]
    rintro vc β w4 hext4 ⟨g1,g2,g3,v1,v2,v3,q1,q2,q3,uu,qq,rfl,hqq⟩ hbox _
    have hext4:=hext4.undrew
    have hs4:=hext4.size
    obtain ⟨hb0,hbx⟩:=hbox 9 _ _ _ _ rfl
    have hbx':w4.heap[β 9]?=some (.cells #[.slice g1 g2 g3,.slice v1 v2 v3,.slice q1 q2 q3,.int .i64 uu] 87 (0,0)):=hbx
    generalize hbe:β 9=bt at *
    have z0:=Zaa hbx' 0 _ rfl
    have z1:=Zaa hbx' 1 _ rfl
    have z2:=Zaa hbx' 2 _ rfl
    have z3:=Zaa hbx' 3 _ rfl
    have zl:=Zab hbx'
    have hn4:=(hext4.block _ nl).trans HF.out.box
    have hr4:=(hext4.block _ rl).trans HF.out.res
    have hf4:=(hext4.block _ fl).trans HF.out.flt
    have n0:=Zaa hn4 0 _ rfl
    have n1:=Zaa hn4 1 _ rfl
    have n2:=Zaa hn4 2 _ rfl
    have n3:=Zaa hn4 3 _ rfl
    have nf:=fun i=>Zad hn4 i
    have nl4:=Zab hn4
    have r0:=Zaa hr4 0 _ rfl
    have r1:=Zaa hr4 1 _ rfl
    have r2:=Zaa hr4 2 _ rfl
    have r3:=Zaa hr4 3 _ rfl
    have rf:=fun i=>Zad hr4 i
    have rl4:=Zab hr4
    have f0:=Zaa hf4 0 _ rfl
    have f1:=Zaa hf4 1 _ rfl
    have ff:=fun i=>Zad hf4 i
    have fl4:=Zab hf4
    have hEw4:Ext w w4:=HF.out.ext.trans (hext4.mono hsr)
    have Hn4:=Zac hn4
    have Hr4:=Zac hr4
    have Hf4:=Zac hf4
    have HEw4:=Zac hEw4
    have Hqq:=Zac hqq
    clear hbx hbx' hn4 hr4 hf4 hext4 hqq hbox k0 hEw4 HI l0 l1 l2
    simp only [paAll,pa,Kd.val,if_true,Act.put,Zgw]
    rw [hbe]
    by_cases hq1:qq=1
    ·subst hq1
     obtain ⟨ch,q12,h12,hout,huu,hg2,t1,t2,t3⟩:∃ ch qq,(qq=1∨qq=2)∧Out n c k qq ch∧uu=ch.vars∧g2=ch.goals.length∧TermsIn w4 (.slice g1 g2 g3) (ch.goals.map (·.1))∧TermsIn w4 (.slice v1 v2 v3) ch.vals∧TermsIn w4 (.slice q1 q2 q3) (ch.done.map (·.1)):=by
      rcases Hqq.out with ⟨h,_⟩ | ⟨h,_⟩ | ⟨_,ch,q12,h1,h2,h3,h4,⟨a1,h5,_⟩,⟨a2,h6,_⟩,⟨a3,h7,_⟩⟩
      ·omega
      ·omega
      ·exact ⟨ch,q12,h1,h2,h3,h4,⟨a1,h5⟩,⟨a2,h6⟩,⟨a3,h7⟩⟩
     obtain ⟨hq,hch⟩:=Zga HF.out.ok HF.out.same Hco.out hout
     obtain ⟨hok,hsame⟩:=hch h12
     have hnm:=Yek hout h12 HF.out.nm Hcm.out
     have hfw:=Zwf hout h12 HF.out.few Hcw.out
     have hmg:m.goals≠[]:=by
      obtain ⟨g,gs,hg,_⟩:=hout
      have:=HF.out.same.gl
      intro e
      rw [hg,e] at this
      simp at this
     have hfo:Zap cs (topN a) ks 0=Zap cs (tryN m c k).1 (ks.drop (j+1)) (j+1):=by
      rw [HF.out.fol,Hdk.out]
      exact Zlb Hc.out hmg (by rw [← hq]; exact h12)
     subst huu
     have hK:Kept (fun b=>b=w1.heap.size) w4 ((((w4.setCell ⟨w1.heap.size,0,none⟩ (.slice g1 g2 g3)).setCell ⟨w1.heap.size,1,none⟩ (.slice v1 v2 v3)).setCell ⟨w1.heap.size,2,none⟩ (.slice q1 q2 q3)).setCell ⟨w1.heap.size,3,none⟩ (.int .i64 ch.vars)):=((((Qx (only w1.heap.size) w4).put 0 _).put 1 _).put 2 _).put 3 _
     have hF2:FolAt w w1.heap.size cs a ks (j+1) ch (tryN m c k).1 (.slice g1 g2 g3) (.slice v1 v2 v3) (.slice q1 q2 q3) ((((w4.setCell ⟨w1.heap.size,0,none⟩ (.slice g1 g2 g3)).setCell ⟨w1.heap.size,1,none⟩ (.slice v1 v2 v3)).setCell ⟨w1.heap.size,2,none⟩ (.slice q1 q2 q3)).setCell ⟨w1.heap.size,3,none⟩ (.int .i64 ch.vars)) :=
      ⟨HEw4.out.trans (hK.below HEw4.out.size (fun j hj=>by omega)),(hK.block _ rl4 (by omega)).trans Hr4.out,(hK.block _ fl4 (by omega)).trans Hf4.out,Zaf (Zaf (Zaf (Zaf Hn4.out 0 _) 1 _) 2 _) 3 _,⟨t1.box Hn4.out (by decide) (by decide) hK,t2.box Hn4.out (by decide) (by decide) hK,t3.box Hn4.out (by decide) (by decide) hK⟩,hok,hnm,hfw,hsame,hfo⟩
     have HF2:=Zac hF2
     clear hF2 hK hfo hmg hok hnm hfw hsame hch hq hout t1 t2 t3 hg2 h12
     go_wp2
     go_roundg (ks.length - j)
     case measure=>omega
     case rel=>exact ⟨j+1,ch,_,_,_,_,by go_num,by omega,by omega,HF2.out⟩
    ·have hb1:((qq:Int) != 1)=true:=by rw [bne_iff_ne]; omega
     have Hf:Hid ((Zap cs m (ks.drop j) j).2=(7,j)):=by
      show _=_
      rw [Hdk.out]
      rcases Hqq.out with ⟨_,h⟩ | ⟨_,ch,h⟩ | ⟨h,_⟩
      ·rcases h with h | h
       ·refine Zeo (Or.inl ?_)
        have:=HF.out.same.gl
        rw [h] at this
        exact List.eq_nil_of_length_eq_zero (by simpa using this.symm)
       ·refine Zhs Hc.out ?_
        have:=(Zga HF.out.ok HF.out.same Hco.out h).1
        omega
      ·refine Zhs Hc.out ?_
       have:=(Zga HF.out.ok HF.out.same Hco.out h).1
       omega
      ·exact absurd h hq1
     clear hq1
     go_wp2
     refine bodyPost_ret (v := .tuple #[.agg #[.slice none 0 0,.slice none 0 0,.slice none 0 0,.int .i64 0],.agg #[.int .i64 7,.int .i64 j]]) (by simp [results,Tryz.results68,go_sem,r0,r1,r2,r3,rf,rl4,f0,f1,ff,fl4]) rfl ?_
     exact Herr.out j w4 _ _ _ _ _ _ HEw4.out Hf.out
   ·have hkc3:(cs.length:Int)≤(k:Int):=by omega
    have Hf:Hid ((Zap cs m (ks.drop j) j).2=(7,j)):=by show _=_; rw [Hdk.out]; exact Zeo (Or.inr (by omega))
    go_wp2
    refine bodyPost_ret (v := .tuple #[.agg #[.slice none 0 0,.slice none 0 0,.slice none 0 0,.int .i64 0],.agg #[.int .i64 7,.int .i64 j]]) (by simp [results,Tryz.results68,go_sem,r0,r1,r2,r3,rf,rl,f0,f1,ff,fl]) rfl ?_
    exact Herr.out j wr _ _ _ _ _ _ HF.out.ext Hf.out
  ·have hej:j=ks.length:=by omega
   subst hej
   have hdr:ks.drop ks.length=[]:=List.drop_eq_nil_of_le (Qe _)
   have hgl:=HF.out.same.gl
   by_cases hg0:n.goals=[]
   ·have hm0:m.goals=[]:=by rw [hg0] at hgl; exact List.eq_nil_of_length_eq_zero (by simpa using hgl.symm)
    have hfo:Zap cs (topN a) ks 0=(m,0,0):=by
     rw [HF.out.fol,hdr]
     unfold Zap
     rw [if_pos hm0]
    have hz:¬ (0:Int)<((n.goals.length:Nat):Int):=by rw [hg0]; simp
    have hE:∀ x0 x1 x2 x3 z0 z1,Ext w ((((((wr.setCell ⟨w.heap.size+1,0,none⟩ x0).setCell ⟨w.heap.size+1,1,none⟩ x1).setCell ⟨w.heap.size+1,2,none⟩ x2).setCell ⟨w.heap.size+1,3,none⟩ x3).setCell ⟨w.heap.size+2,0,none⟩ z0).setCell ⟨w.heap.size+2,1,none⟩ z1):=fun x0 x1 x2 x3 z0 z1 =>
     (((((HF.out.ext.setCell (p:=⟨w.heap.size+1,0,none⟩) (by simp) _).setCell (p:=⟨w.heap.size+1,1,none⟩) (by simp) _).setCell (p:=⟨w.heap.size+1,2,none⟩) (by simp) _).setCell (p:=⟨w.heap.size+1,3,none⟩) (by simp) _).setCell (p:=⟨w.heap.size+2,0,none⟩) (by simp) _).setCell (p:=⟨w.heap.size+2,1,none⟩) (by simp) _
    have hK1:∀ x0 x1 x2 x3,Kept (fun b=>b=w.heap.size+1) wr ((((wr.setCell ⟨w.heap.size+1,0,none⟩ x0).setCell ⟨w.heap.size+1,1,none⟩ x1).setCell ⟨w.heap.size+1,2,none⟩ x2).setCell ⟨w.heap.size+1,3,none⟩ x3):=fun x0 x1 x2 x3=>((((Qx (only (w.heap.size+1)) wr).put 0 _).put 1 _).put 2 _).put 3 _
    have hK2:∀ (y:World) z0 z1,Kept (fun b=>b=w.heap.size+2) y ((y.setCell ⟨w.heap.size+2,0,none⟩ z0).setCell ⟨w.heap.size+2,1,none⟩ z1):=fun y z0 z1=>((Qx (only (w.heap.size+2)) y).put 0 _).put 1 _
    have hT:∀ x0 x1 x2 x3 z0 z1 {v:Value} {ls:List (List Sym)},TermsIn wr v ls→TermsIn ((((((wr.setCell ⟨w.heap.size+1,0,none⟩ x0).setCell ⟨w.heap.size+1,1,none⟩ x1).setCell ⟨w.heap.size+1,2,none⟩ x2).setCell ⟨w.heap.size+1,3,none⟩ x3).setCell ⟨w.heap.size+2,0,none⟩ z0).setCell ⟨w.heap.size+2,1,none⟩ z1) v ls:=fun x0 x1 x2 x3 z0 z1 {v ls} h =>
     (h.box HF.out.res (by decide) (by decide) (hK1 x0 x1 x2 x3)).box (((hK1 x0 x1 x2 x3).block _ fl (by simp)).trans HF.out.flt) (by decide) (by decide) (hK2 _ z0 z1)
    have hout:∀ x0 x1 x2 x3 z0 z1,Zix cs a ks w (.returned (.tuple #[.agg #[.slice ga n.goals.length gcap,.slice va n.vals.length vcap,.slice ra n.done.length rcap,.int .i64 n.vars],.agg #[.int .i64 0,.int .i64 0]])) ((((((wr.setCell ⟨w.heap.size+1,0,none⟩ x0).setCell ⟨w.heap.size+1,1,none⟩ x1).setCell ⟨w.heap.size+1,2,none⟩ x2).setCell ⟨w.heap.size+1,3,none⟩ x3).setCell ⟨w.heap.size+2,0,none⟩ z0).setCell ⟨w.heap.size+2,1,none⟩ z1):=fun x0 x1 x2 x3 z0 z1=>by
     refine ⟨hE _ _ _ _ _ _,Or.inr ?_⟩
     rw [hfo]
     exact ⟨rfl,ga,n.goals.length,gcap,va,n.vals.length,vcap,ra,n.done.length,rcap,n.vars,n,rfl,⟨hT _ _ _ _ _ _ HF.out.node.goals,hT _ _ _ _ _ _ HF.out.node.vals,hT _ _ _ _ _ _ HF.out.node.done⟩,HF.out.ok,HF.out.nm,HF.out.few,HF.out.same⟩
    have Hout:=Zac hout
    clear hout hT hE hK1 hK2 hfo hm0 hg0 hgl hdr
    go_wp2
    refine bodyPost_ret (v := .tuple #[.agg #[.slice ga n.goals.length gcap,.slice va n.vals.length vcap,.slice ra n.done.length rcap,.int .i64 n.vars],.agg #[.int .i64 0,.int .i64 0]]) (by simp [results,Tryz.results68,go_sem,r0,r1,r2,r3,rf,rl,f0,f1,ff,fl]) rfl ?_
    exact Hout.out _ _ _ _ _ _
   ·have hm0:m.goals≠[]:=fun e=>by rw [e] at hgl; exact hg0 (List.eq_nil_of_length_eq_zero (by simpa using hgl))
    have Hf:Hid ((Zap cs m (ks.drop ks.length) ks.length).2=(7,ks.length)):=by
     show _=_
     rw [hdr]
     unfold Zap
     rw [if_neg hm0]
    have hz:(0:Int)<((n.goals.length:Nat):Int):=by
     have:0<n.goals.length:=List.length_pos_iff.2 hg0
     omega
    clear hm0 hg0 hgl hdr
    go_wp2
    refine bodyPost_ret (v := .tuple #[.agg #[.slice none 0 0,.slice none 0 0,.slice none 0 0,.int .i64 0],.agg #[.int .i64 7,.int .i64 ks.length]]) (by simp [results,Tryz.results68,go_sem,r0,r1,r2,r3,rf,rl,f0,f1,ff,fl]) rfl ?_
    exact Herr.out ks.length wr _ _ _ _ _ _ HF.out.ext Hf.out
theorem Ybj {n:ND} {c:Cls} {k:Nat} (h:(tryN n c k).2=1∨(tryN n c k).2=2):∃ d ds,n.goals.map (·.2)=d::ds∧(tryN n c k).1.goals.map (·.2)=List.replicate c.body.length (d+1)++ds∧(tryN n c k).1.done.map (·.2)=n.done.map (·.2)++[d]:=by
 by_cases hex:∃ r:ND × Nat,∃ m,NOk m∧Same m n∧Out m c k r.2 r.1
 ·have e:tryN n c k=Classical.choose hex:=by unfold tryN; rw [dif_pos hex]
  obtain ⟨m,_,hS,g,gs,hg,ho⟩:=Classical.choose_spec hex
  rw [e] at h ⊢
  rcases ho with ⟨h0,_⟩ | ⟨h0,_⟩ | ⟨σ,_,_,_,h4⟩
  ·omega
  ·omega
  ·rw [h4]
   refine ⟨g.2,gs.map (·.2),?_,?_,?_⟩
   ·rw [← hS.gd,hg]; rfl
   ·simp only [Zar]
    rw [Zmc,Qr,List.map_map]
    congr 1
    generalize c.body=b
    induction b with
    | nil=>rfl
    | cons x b ih=>rw [List.map_cons,ih,Qf,List.replicate_succ]; rfl
   ·simp only [Zar]
    rw [Zmc,Qr,hS.dd]
    rfl
 ·have e:tryN n c k=(⟨[],[],[],[],0⟩,0):=by unfold tryN; rw [dif_neg hex]
  rw [e] at h
  simp at h
theorem Ygb {cs:List Cls} {m:ND} {k i:Nat} {ks:List Nat} (h:(Zap cs m (k::ks) i).2=(0,0)):∃ c,cs[k]?=some c∧m.goals≠[]∧((tryN m c k).2=1∨(tryN m c k).2=2)∧Zap cs m (k::ks) i=Zap cs (tryN m c k).1 ks (i+1):=by
 cases hc:cs[k]? with
 | none =>
  have:=Zeo (cs:=cs) (n:=m) (k:=k) (i:=i) (ks:=ks) (Or.inr (List.getElem?_eq_none_iff.1 hc))
  rw [this] at h; simp at h
 | some c =>
  by_cases hg:m.goals=[]
  ·have:=Zeo (cs:=cs) (n:=m) (k:=k) (i:=i) (ks:=ks) (Or.inl hg)
   rw [this] at h; simp at h
  ·by_cases hq:(tryN m c k).2=1∨(tryN m c k).2=2
   ·exact ⟨c,rfl,hg,hq,Zlb hc hg hq⟩
   ·have:=Zhs (i:=i) (ks:=ks) hc hq
    rw [this] at h; simp at h
structure DepAt (w:World) (ds ls:List Nat) (dv lv:Value) (wr:World):Prop where
 ext:Ext w wr
 dep:wr.ownsRow w.heap.size 3 1 dv ds.length (ints ds)
 lef:wr.ownsRow w.heap.size 3 1 lv ls.length (ints ls)
 off:∀ j,dv.ownBlock=some j→¬ lv.ownBlock=some j
theorem DepAt.depApp {w w1 w2:World} {ds ls:List Nat} {dv lv dv2:Value} {d:Nat} (h:DepAt w ds ls dv lv w1) (hap:Appended w1 w.heap.size 3 1 dv (ds.length+1) (ints ds++[.int .i64 d]) dv2 w2):DepAt w (ds++[d]) ls dv2 lv w2:=by
 obtain ⟨h1,h2,h3,h4⟩:=h
 refine ⟨h1.trans (hap.kept.below h1.size (fun j hj=>(h2.lt j hj).1)),by have:=hap.owns; simpa [ints] using this,hap.kept.owns h3 (fun j hj hS=>h4 j hS hj),fun j hj hl => ?_⟩
 rcases hap.where_ with e | ⟨g,e,hg⟩
 ·rw [e] at hj; exact h4 j hj hl
 ·rw [e] at hj
  simp only [Qo] at hj
  have:=(h3.lt j hl).2
  omega
theorem DepAt.lefApp {w w1 w2:World} {ds ls:List Nat} {dv lv lv2:Value} {d:Nat} (h:DepAt w ds ls dv lv w1) (hap:Appended w1 w.heap.size 3 1 lv (ls.length+1) (ints ls++[.int .i64 d]) lv2 w2):DepAt w ds (ls++[d]) dv lv2 w2:=by
 obtain ⟨h1,h2,h3,h4⟩:=h
 refine ⟨h1.trans (hap.kept.below h1.size (fun j hj=>(h3.lt j hj).1)),hap.kept.owns h2 (fun j hj hS=>h4 j hj hS),by have:=hap.owns; simpa [ints] using this,fun j hj hl => ?_⟩
 rcases hap.where_ with e | ⟨g,e,hg⟩
 ·rw [e] at hl; exact h4 j hj hl
 ·rw [e] at hl
  simp only [Qo] at hl
  have:=(h2.lt j hj).2
  omega
theorem DepAt.cut {w wr:World} {ds ls:List Nat} {dv:Value} {d g cap:Nat} (h:DepAt w ds (ls++[d]) dv (.slice (some ⟨g,0,none⟩) (ls.length+1) cap) wr):DepAt w ds ls dv (.slice (some ⟨g,0,none⟩) ls.length cap) wr:=by
 obtain ⟨h1,h2,h3,h4⟩:=h
 rw [Qg,Qf,Jt] at h3
 have:=Zqb h3
 refine ⟨h1,h2,?_,h4⟩
 have e:(ints (ls++[d])).take ls.length=ints ls:=by
  unfold ints
  rw [Qr,List.take_append_of_le_length (by simp),List.take_of_length_le (by simp)]
 rw [e] at this
 exact this
def Yld (ds:List Nat) (w:World) (e:Ending) (w':World):Prop:=Ext w w'∧∃ x c,e = .returned (.slice x ds.length c)∧w'.ownsRow 0 3 1 (.slice x ds.length c) ds.length (ints ds)
theorem Zue (w:World) (cv hv bv nv kv:Value) (cs:List Cls) (xs:List (List Value)) (a:List (List Sym) × Names) (ks:List Nat) (hP:ProgIn w cv cs xs) (hh:∃ a n x,hv = .slice a n x) (hb:TermsIn w bv a.1) (hns:w.ownsRow 0 9 1 nv a.2.length (strs a.2)) (hk:w.ownsRow 0 3 1 kv ks.length (ints ks))
  (hcs:∀ c ∈ cs,COk c) (hcl:cs.length≤24) (hal:a.1.length≤6) (hkl:ks.length≤400) (hk9:∀ k ∈ ks,k≤99) (hf:(Zap cs (topN a) ks 0).2=(0,0)) :
  Calls Tryz.prog 69 #[cv,.agg #[hv,bv,nv],kv] w (Yld ((Zap cs (topN a) ks 0).1.done.map (·.2)) w):=by
 obtain ⟨h1,h2,h3,rfl⟩:=hh
 obtain ⟨ba,bcap,rfl⟩:=hb.shape
 obtain ⟨na,ncap,rfl⟩:=Zae hns
 obtain ⟨ka,kcap,rfl⟩:=Zae hk
 obtain ⟨la,lcap,rfl⟩:=Zae hP.owns
 have HP:=Zac hP
 have Hk:=Zac hk
 have Hcs:=Zac hcs
 have Hk9:=Zac hk9
 have Hf:=Zac hf
 clear hP hb hns hk hcs hk9 hf
 go_enter Tryz.func69,Tryz.ntmps69
 go_wp2
 go_loopg [8,16] (a.1.length+1) (fun gk lv iv wr=>∃ (k:Nat),iv = .int .i64 k∧k≤a.1.length∧a.1.length - k<gk∧DepAt w [] (List.replicate k 0) (.slice none 0 0) lv wr)
 case atStart=>exact ⟨0,by go_num,Qm _,by omega,(Ext.of (by repeat' (first | with_reducible(first|exact Qx _ _|apply Kept.drew|apply Kept.drewN|apply Qz|refine Qy ?_ ?_ _)|exact fun h=>absurd h (by simp <;> omega)))),World.ownsRow_nil _ _ _ _,World.ownsRow_nil _ _ _ _,fun j hj=>by simp [Value.ownBlock] at hj⟩
 case round =>
  obtain ⟨k,rfl,hk,hgk,hD⟩:=hrel
  have hrow:=hD.lef
  rw [List.length_replicate] at hrow
  obtain ⟨sa,scap,rfl⟩:=Zae hrow
  have hsr:=hD.ext.size
  have HD:=Zac hD
  have Hrow:=Zac hrow
  clear hD hrow
  by_cases hlt:k<a.1.length
  ·go_wp2_with (at_builtin; go_loud (refine Zal wr rfl (.tmp 18) (.tmp 19) 25 rfl w.heap.size 3 Tryz.infoInt Tryz.underlying25 rfl (by decide) (.slice sa k scap) k (ints (List.replicate k 0)) rfl Hrow.out #[.int .i64 0] (N:=wr.heap.size) rfl (by simp) rfl (Zhn _) ?_ ?_ ?_))
   ·omega
   ·omega
   intro v2 w2 hap
   obtain ⟨a2,c2,rfl⟩:=Zae hap.owns
   have hD2:=HD.out.lefApp (d:=0) (w2:=w2) (lv2 := .slice a2 (k+1) c2) (by rw [List.length_replicate]; exact hap)
   rw [← List.replicate_succ'] at hD2
   have HD2:=Zac hD2
   clear hap hD2
   go_wp2
   go_roundg (a.1.length - k)
   case measure=>omega
   case rel=>exact ⟨k+1,by go_num,by omega,by omega,HD2.out⟩
  ·have hek:k=a.1.length:=by omega
   subst hek
   obtain ⟨wo,hwo⟩:∃ x,x=wr:=⟨_,rfl⟩
   subst hwo
   have HD0:Hid (DepAt w ((topN a).done.map (·.2)) ((topN a).goals.map (·.2)).reverse (.slice none 0 0) (.slice sa a.1.length scap) wo):=by
    have e1:(topN a).done.map (·.2)=[]:=rfl
    have e2:((topN a).goals.map (·.2)).reverse=List.replicate a.1.length 0:=by
     have:(topN a).goals.map (·.2)=List.replicate a.1.length 0:=by
      unfold topN
      simp only [List.map_map]
      generalize a.1=l
      induction l with
      | nil=>rfl
      | cons x l ih=>rw [List.map_cons,ih,Qf,List.replicate_succ]; rfl
     rw [this,List.reverse_replicate]
    rw [e1,e2]
    exact HD.out
   have hb0:Hid (∀ x ∈ (topN a).goals.map (·.2),x≤0):=fun x hx=>by
    unfold topN at hx
    simp at hx
    omega
   clear HD Hrow
   go_wp2
   go_loopg [7,8,24] (ks.length+1) (fun gk dv lv iv wr=>∃ (i:Nat) (m:ND),iv = .int .i64 i∧i≤ks.length∧ks.length - i<gk∧Zap cs (topN a) ks 0=Zap cs m (ks.drop i) i∧(∀ x ∈ m.goals.map (·.2),x≤i)∧m.goals.length≤6+6 * i∧m.done.length=i∧DepAt w (m.done.map (·.2)) (m.goals.map (·.2)).reverse dv lv wr)
   case atStart=>exact ⟨0,topN a,by go_num,Qm _,by omega,by simp,hb0.out,by unfold topN; simp; omega,by unfold topN; rfl,HD0.out⟩
   case round =>
    obtain ⟨i,m,rfl,hi,hgi,hfo,hbd,hgl,hdl,hD⟩:=hrel
    have hdn:=hD.dep
    have hln:=hD.lef
    rw [Ql,hdl] at hdn
    rw [List.length_reverse,Ql] at hln
    obtain ⟨da,dcap,rfl⟩:=Zae hdn
    obtain ⟨sa,scap,rfl⟩:=Zae hln
    have hsr:=hD.ext.size
    have Hfo:=Zac hfo
    have Hbd:=Zac hbd
    have HD:=Zac hD
    have Hdn:=Zac hdn
    have Hln:=Zac hln
    clear hfo hbd hD hdn hln
    by_cases hlt:i<ks.length
    ·obtain ⟨k,hk⟩:∃ k,ks[i]?=some k:=⟨_,Qb hlt⟩
     have hdk:ks.drop i=k::ks.drop (i+1):=by rw [List.drop_eq_getElem_cons hlt,(Qa.1 hk).2]
     have hk99:=Hk9.out k (Qh hk)
     have hfz:=Hf.out
     rw [Hfo.out,hdk] at hfz
     obtain ⟨c,hc,hmg,hq,hgo⟩:=Ygb hfz
     obtain ⟨d,ds,hg1,hg2,hd1⟩:=Ybj hq
     have hkc2:=(Qa.1 hc).1
     have hfo2:Zap cs (topN a) ks 0=Zap cs (tryN m c k).1 (ks.drop (i+1)) (i+1):=by rw [Hfo.out,hdk,hgo]
     have hdi:d≤i:=Hbd.out d (by rw [hg1]; simp)
     have hbl:=(Hcs.out c (Qh hc)).bn
     have hL:m.goals.length=ds.length+1:=by have:=congrArg List.length hg1; simpa using this
     have hbd2:∀ x ∈ (tryN m c k).1.goals.map (·.2),x≤i+1:=fun x hx=>by
      rw [hg2] at hx
      rcases Qk.1 hx with hx | hx
      ·have:=List.eq_of_mem_replicate hx; omega
      ·have:=Hbd.out x (by rw [hg1]; simp [hx]); omega
     have hgl2:(tryN m c k).1.goals.length≤6+6 * (i+1):=by
      have:=congrArg List.length hg2
      simp at this
      omega
     have hdl2:(tryN m c k).1.done.length=i+1:=by
      have:=congrArg List.length hd1
      simp at this
      omega
     have hDr:=HD.out
     rw [hg1,List.reverse_cons] at hDr
     have hlr:=Hln.out
     rw [hg1,List.reverse_cons,hL] at hlr
     have hdr:=Hdn.out
     obtain ⟨dl,hdle⟩:∃ l,l=m.done.map (·.2):=⟨_,rfl⟩
     rw [← hdle] at hdr hDr hd1
     have hdll:dl.length=i:=by rw [hdle,Ql]; exact hdl
     obtain ⟨rs,hrs⟩:∃ l,l=ds.reverse:=⟨_,rfl⟩
     have hrl:ds.length=rs.length:=by rw [hrs]; simp
     rw [← hrs] at hlr hDr
     rw [hrl] at hlr hL
     rw [hL] at hDr ⊢
     obtain ⟨kb,kcap',kcur,hke,hBk,hkb,hkc⟩:=Zao Hk.out (by omega)
     simp only [Value.slice.injEq] at hke
     obtain ⟨rfl,_,rfl⟩:=hke
     have hkbw:=Zab hkb
     have k0:wr.cell? ⟨kb,i,none⟩=some (.int .i64 k):=(HD.out.ext.cell (p:=⟨kb,i,none⟩) hkbw).trans (Zag Hk.out i _ (by simp only [ints,Qj,hk,Option.map_some]))
     have hkbl:kb<wr.heap.size:=by omega
     obtain ⟨lb,lcap',lcur,hle,_,hlb,_⟩:=Zao HP.out.owns (by omega)
     simp only [Value.slice.injEq] at hle
     obtain ⟨rfl,_,rfl⟩:=hle
     have hlbw:=Zab hlb
     obtain ⟨cv0,cv1,cv2,e0,e1,e2,hcl2⟩:=HP.out.cell hc
     obtain ⟨b2,b3,rfl⟩:=hcl2.body.shape
     obtain ⟨sg,scap',scur,hse,_,hsb,_⟩:=Zao hlr (by omega)
     simp only [Value.slice.injEq] at hse
     obtain ⟨rfl,_,rfl⟩:=hse
     have s0:wr.cell? ⟨sg,rs.length,none⟩=some (.int .i64 d):=Zag hlr _ _ (by simp [ints])
     have hsgl:=Zab hsb
     have HDr:=Zac hDr
     have Hdr:Hid (wr.ownsRow w.heap.size 3 1 (.slice da i dcap) i (ints dl)):=hdr
     have Hfo2:=Zac hfo2
     have Hbd2:=Zac hbd2
     have Hg2:=Zac hg2
     have Hd1:=Zac hd1
     have He1:=Zac e1
     have Hrs:=Zac hrs
     have Hdll:=Zac hdll
     have hn1:¬ ((rs.length:Int)<0):=by omega
     have hn2:¬ ((k:Int)<0):=by omega
     have hn3:¬ ((cs.length:Int)≤(k:Int)):=by omega
     clear hk hdk hfz hc hmg hq hgo hg1 hg2 hd1 hfo2 hbd2 hDr hlr hdr hdle hrs hkb hlb e0 e1 e2 hcl2 hsb hdll hrl
     go_wp2_with (at_builtin; go_loud (refine Zal wr rfl (.tmp 47) (.tmp 49) 25 rfl w.heap.size 3 Tryz.infoInt Tryz.underlying25 rfl (by decide) (.slice da i dcap) i (ints dl) rfl Hdr.out #[.int .i64 d] (N:=wr.heap.size) rfl (by simp) rfl (Zhn _) ?_ ?_ ?_))
     ·omega
     intro v2 w2 hap
     obtain ⟨a2,c2,rfl⟩:=Zae hap.owns
     have hD2:=(HDr.out.depApp (d:=d) (w2:=w2) (dv2 := .slice a2 (i+1) c2) (by rw [Hdll.out]; exact hap)).cut
     have hz2:=hap.kept.size
     have hlbl:lb<w2.heap.size:=by omega
     have l1:w2.cell? ⟨lb,k * 3+1,none⟩=some (.slice b2 c.body.length b3):=(hD2.ext.cell (p:=⟨lb,k * 3+1,none⟩) hlbw).trans He1.out
     have hz0:=hD2.ext.size
     have HD2:=Zac hD2
     have hsgl2:sg<w2.heap.size:=by omega
     have hrcap:rs.length≤scap:=by omega
     clear hap hD2 k0 s0
     obtain ⟨wp,hwp⟩:∃ x,x=w2:=⟨_,rfl⟩
     subst hwp
     go_wp2
     go_loopg [8,60] (c.body.length+1) (fun gk lv iv wr=>∃ (j:Nat),iv = .int .i64 j∧j≤c.body.length∧c.body.length - j<gk∧DepAt w (dl++[d]) (rs++List.replicate j (d+1)) (.slice a2 (i+1) c2) lv wr)
     case atStart=>exact ⟨0,by go_num,Qm _,by omega,by simpa using HD2.out⟩
     case round =>
      obtain ⟨j,rfl,hj,hgj,hD3⟩:=hrel
      have hl3:=hD3.lef
      rw [Qg,List.length_replicate] at hl3
      obtain ⟨ta,tcap,rfl⟩:=Zae hl3
      have hs3:=hD3.ext.size
      have HD3:=Zac hD3
      have Hl3:=Zac hl3
      clear hD3 hl3
      by_cases hjl:j<c.body.length
      ·go_wp2_with (at_builtin; go_loud (refine Zal wr rfl (.tmp 62) (.tmp 65) 25 rfl w.heap.size 3 Tryz.infoInt Tryz.underlying25 rfl (by decide) (.slice ta (rs.length+j) tcap) (rs.length+j) (ints (rs++List.replicate j (d+1))) rfl Hl3.out #[.int .i64 ((d:Int)+1)] (N:=wr.heap.size) rfl (by simp) rfl (Zhn _) ?_ ?_ ?_))
       ·omega
       ·omega
       intro v4 w4 hap
       obtain ⟨a4,c4,rfl⟩:=Zae hap.owns
       have hD4:=HD3.out.lefApp (d:=d+1) (w2:=w4) (lv2 := .slice a4 (rs.length+j+1) c4) (by rw [Qg,List.length_replicate]; exact hap)
       rw [Qi,← List.replicate_succ'] at hD4
       have HD4:=Zac hD4
       clear hap hD4
       go_wp2
       go_roundg (c.body.length - j)
       case measure=>omega
       case rel=>exact ⟨j+1,by go_num,by omega,by omega,HD4.out⟩
      ·have hej:j=c.body.length:=by omega
       subst hej
       go_wp2
       go_roundg (ks.length - i)
       case measure=>omega
       case rel =>
        refine ⟨i+1,(tryN m c k).1,by go_num,by omega,by omega,Hfo2.out,Hbd2.out,hgl2,hdl2,?_⟩
        rw [Hd1.out,Hg2.out,List.reverse_append,List.reverse_replicate,← Hrs.out]
        exact HD3.out
    ·have hei:i=ks.length:=by omega
     subst hei
     have hm:(Zap cs (topN a) ks 0).1=m:=by
      have h1:=Hf.out
      have e:Zap cs m [] ks.length=if m.goals=[] then (m,0,0) else (m,7,ks.length):=by unfold Zap; rfl
      rw [Hfo.out,List.drop_eq_nil_of_le (Qe _),e] at h1
      rw [Hfo.out,List.drop_eq_nil_of_le (Qe _),e]
      by_cases hg:m.goals=[]
      ·rw [if_pos hg]
      ·rw [if_neg hg] at h1; simp at h1
     have Hm:=Zac hm
     clear hm
     go_wp2
     go_ret
     rw [Hm.out]
     refine ⟨HD.out.ext,da,dcap,by rw [Ql,hdl]; rfl,?_⟩
     rw [Ql,hdl]
     exact Zbe Hdn.out (Qm _)
theorem Ynb:∀ {met:List Nat} {n k:Nat},(∀ i,i<k→met[i]?≠some n)→met[k]?=some n→met.idxOf n=k:=by
 intro met
 induction met with
 | nil=>intro n k _ h; simp at h
 | cons x met ih =>
  intro n k h1 h2
  rw [List.idxOf_cons]
  cases k with
  | zero=>simp at h2; subst h2; simp
  | succ k =>
   have hx:x≠n:=fun e=>h1 0 (by omega) (by simp [e])
   have:(x == n)=false:=by rw [Qu]; exact hx
   rw [this]
   simp only [cond_false]
   rw [ih (n:=n) (k:=k) (fun i hi=>by have:=h1 (i+1) (by omega); simpa using this) (by simpa using h2)]
theorem Yjp:∀ {met:List Nat} {n:Nat},(∀ i,i<met.length→met[i]?≠some n)→met.idxOf n=met.length:=by
 intro met
 induction met with
 | nil=>intro n _; rfl
 | cons x met ih =>
  intro n h1
  rw [List.idxOf_cons]
  have hx:x≠n:=fun e=>h1 0 (by simp) (by simp [e])
  have:(x == n)=false:=by rw [Qu]; exact hx
  rw [this]
  simp only [cond_false,Qf]
  rw [ih (n:=n) (fun i hi=>by have:=h1 (i+1) (by simp; omega); simpa using this)]
theorem Zwj (w:World) (n:Nat) (lv:Value) (met:List Nat) (h:w.ownsRow 0 3 1 lv met.length (ints met)) (hl:met.length≤10000) (hn:n≤200000) :
  Calls Tryz.prog 134 #[.int .i64 n,lv] w fun e w'=>e = .returned (.int .i64 (met.idxOf n))∧w'=w:=by
 obtain ⟨la,lcap,rfl⟩:=Zae h
 have H:=Zac h
 clear h
 go_enter Tryz.func134,Tryz.ntmps134
 go_wp2
 go_loopg [5] (met.length+1) (fun gk pv wr=>∃ (k:Nat),pv = .int .i64 k∧k≤met.length∧met.length - k<gk∧wr=w∧∀ i,i<k→met[i]?≠some n)
 case atStart=>exact ⟨0,by go_num,Qm _,by omega,rfl,fun i hi=>by omega⟩
 case round =>
  obtain ⟨k,rfl,hk,hgk,rfl,hbef⟩:=hrel
  have Hbef:=Zac hbef
  clear hbef
  by_cases hlt:k<met.length
  ·have hlt':(k:Int)<(met.length:Int):=by omega
   obtain ⟨x,hx⟩:∃ x,met[k]?=some x:=⟨_,Qb hlt⟩
   obtain ⟨g,cap',cur,he,_,hgb,_⟩:=Zao H.out (by omega)
   simp only [Value.slice.injEq] at he
   obtain ⟨rfl,_,rfl⟩:=he
   have x0:wr.cell? ⟨g,k,none⟩=some (.int .i64 x):=Zag H.out k _ (by simp only [ints,Qj,hx,Option.map_some])
   have hgl:=Zab hgb
   have Hx:=Zac hx
   clear hx hgb
   by_cases hxn:x=n
   ·subst hxn
    have Hi:Hid (met.idxOf x=k):=Ynb Hbef.out Hx.out
    go_wp2
    go_ret
    exact ⟨by rw [Hi.out]; simp,rfl⟩
   ·have hb:((x:Int) != (n:Int))=true:=by rw [bne_iff_ne]; omega
    go_wp2
    go_roundg (met.length - k)
    case measure=>omega
    case rel =>
     refine ⟨k+1,by go_num,by omega,by omega,rfl,fun i hi => ?_⟩
     by_cases e:i=k
     ·subst e
      rw [Hx.out]
      simpa using hxn
     ·exact Hbef.out i (by omega)
  ·have hek:k=met.length:=by omega
   subst hek
   have Hi:Hid (met.idxOf n=met.length):=Yjp Hbef.out
   have hlt':¬ ((met.length:Int)<(met.length:Int)):=by omega
   go_wp2
   go_ret
   exact ⟨by rw [Hi.out]; simp,rfl⟩
theorem TermsAt.other {w w':World} {B B2 n s:Nat} {e:TypeId} {v vv:Value} {ls:List (List Sym)} {vs ys:List Value} (h:TermsAt w B v ls vs) (hv:w.ownsRow B2 e s vv n ys) (he1:105≠e) (he2:133≠e) (hk:Kept (Zbn vv) w w'):TermsAt w' B v ls vs :=
 ⟨hk.owns h.owns (fun j hj hS=>by
  obtain ⟨cur,hc⟩:=Zbx hv j hS
  exact Zah h.owns he1 hc hj),fun i l hi=>by
  obtain ⟨x,h1,h2⟩:=h.all i l hi
  refine ⟨x,h1,hk.owns h2 (fun j hj hS => ?_)⟩
  obtain ⟨cur,hc⟩:=Zbx hv j hS
  exact Zah h2 he2 hc hj⟩
structure OrdB (w:World) (Bc:Nat) (rl:List (List Sym)) (rv:Value) (xs:List Value) (met:List Nat) (mv:Value) (ch:List Sym) (cv:Value) (wr:World):Prop where
 ext:Ext w wr
 row:TermsAt wr w.heap.size rv rl xs
 low:∀ x ∈ xs,∀ j,x.ownBlock=some j→j<Bc
 met:wr.ownsRow w.heap.size 3 1 mv met.length (ints met)
 b1:w.heap.size≤Bc
 b2:Bc≤wr.heap.size
 chg:wr.ownsRow Bc 133 3 cv ch.length (Zaj ch)
theorem OrdB.on {w wr w1:World} {Bc:Nat} {rl:List (List Sym)} {rv mv cv:Value} {xs:List Value} {met:List Nat} {ch:List Sym} (h:OrdB w Bc rl rv xs met mv ch cv wr) (e:Ext wr w1):OrdB w Bc rl rv xs met mv ch cv w1:=by
 obtain ⟨h1,h2,h3,h4,h5,h6,h7⟩:=h
 exact ⟨h1.trans (e.mono h1.size),h2.ext e,h3,Zai h4 (fun j hj=>e.block j (h4.lt j hj).2),h5,Qq h6 e.size,Zai h7 (fun j hj=>e.block j (h7.lt j hj).2)⟩
theorem OrdB.metApp {w w1 w2:World} {Bc n:Nat} {rl:List (List Sym)} {rv mv mv2 cv:Value} {xs:List Value} {met:List Nat} {ch:List Sym} (h:OrdB w Bc rl rv xs met mv ch cv w1) (hap:Appended w1 w.heap.size 3 1 mv (met.length+1) (ints met++[.int .i64 n]) mv2 w2):OrdB w Bc rl rv xs (met++[n]) mv2 ch cv w2:=by
 obtain ⟨h1,h2,h3,h4,h5,h6,h7⟩:=h
 have hsz:=hap.kept.size
 refine ⟨h1.trans (hap.kept.below h1.size (fun j hj=>(h4.lt j hj).1)),h2.other h4 (by decide) (by decide) hap.kept,h3,?_,h5,by omega,hap.kept.owns h7 (fun j hj hS => ?_)⟩
 ·have:=hap.owns
  simpa [ints] using this
 ·obtain ⟨cur,hc⟩:=Zbx h4 j hS
  exact Zah h7 (by decide) hc hj
theorem OrdB.chApp {w w1 w2:World} {Bc:Nat} {rl:List (List Sym)} {rv mv cv cv2:Value} {xs:List Value} {met:List Nat} {ch:List Sym} {s:Sym} (h:OrdB w Bc rl rv xs met mv ch cv w1) (hap:Appended w1 Bc 133 3 cv (ch.length+1) (Zaj ch++Zbw s) cv2 w2):OrdB w Bc rl rv xs met mv (ch++[s]) cv2 w2:=by
 obtain ⟨h1,h2,h3,h4,h5,h6,h7⟩:=h
 have hsz:=hap.kept.size
 refine ⟨h1.trans (hap.kept.below h1.size (fun j hj=>Qq h5 (h7.lt j hj).1)),⟨hap.kept.owns h2.owns (fun j hj hS => ?_),fun i l hi => ?_⟩,h3,hap.kept.owns h4 (fun j hj hS => ?_),h5,by omega,?_⟩
 ·obtain ⟨cur,hc⟩:=Zbx h7 j hS
  exact Zah h2.owns (by decide) hc hj
 ·obtain ⟨x,e1,e2⟩:=h2.all i l hi
  refine ⟨x,e1,hap.kept.owns e2 (fun j hj hS => ?_)⟩
  have:=h3 x (Qh e1) j hj
  have:=(h7.lt j hS).1
  omega
 ·obtain ⟨cur,hc⟩:=Zbx h7 j hS
  exact Zah h4 (by decide) hc hj
 ·have:=hap.owns
  rw [Zdh,Qg]
  simpa [Zaj] using this
theorem OrdB.box {w w1 w2:World} {Bc M:Nat} {cs:Array Value} {fr:Nat × Nat} {rl:List (List Sym)} {rv mv cv:Value} {xs:List Value} {met:List Nat} {ch:List Sym} (h:OrdB w Bc rl rv xs met mv ch cv w1) (hM:w1.heap[M]?=some (.cells cs 133 fr)) (hB:Bc≤M) (hc:∀ j,cv.ownBlock=some j→j≠M) (hk:Kept (fun k=>k=M) w1 w2):OrdB w Bc rl rv xs met mv ch cv w2:=by
 obtain ⟨h1,h2,h3,h4,h5,h6,h7⟩:=h
 have hsz:=hk.size
 refine ⟨h1.trans (hk.below h1.size (fun j hj=>by omega)),⟨Zcu h2.owns hM (by decide) hk,fun i l hi => ?_⟩,h3,Zcu h4 hM (by decide) hk,h5,by omega,hk.owns h7 (fun j hj hS=>hc j hj hS)⟩
 obtain ⟨x,e1,e2⟩:=h2.all i l hi
 refine ⟨x,e1,hk.owns e2 (fun j hj hS => ?_)⟩
 have:=h3 x (Qh e1) j hj
 have hS:j=M:=hS
 omega
theorem TermsAt.words {w:World} {B:Nat} {v:Value} {ls:List (List Sym)} {vs:List Value} (h:TermsAt w B v ls vs):∀ x ∈ vs,∀ j,x.ownBlock=some j→j<w.heap.size:=fun x hx j hj=>by
 have hlen:vs.length=ls.length:=by have:=h.owns.1; omega
 obtain ⟨i,hi⟩:=List.mem_iff_getElem?.1 hx
 have hil:=(Qa.1 hi).1
 obtain ⟨y,h3,h4⟩:=h.all i _ (Qb (by omega))
 rw [hi] at h3
 simp only [Qo] at h3
 subst h3
 exact (h4.lt j hj).2
theorem Yjq (n:Nat) (met:List Nat):(meet n met).length≤met.length+1:=by unfold meet; split <;> simp
theorem Zpv:∀ (l:List Sym) (met:List Nat),(Zas l met).2.length≤met.length+l.length:=by
 intro l
 induction l with
 | nil=>intro met; simp [Zas]
 | cons s l ih =>
  intro met
  simp only [Zas]
  split
  ·have:=ih (meet s.num met); have:=Yjq s.num met; simp; omega
  ·have:=ih met; simp; omega
theorem Zpw:∀ (ts:List (List Sym)) (met:List Nat),(Zay ts met).2.length≤met.length+ts.flatten.length:=by
 intro ts
 induction ts with
 | nil=>intro met; simp [Zay]
 | cons t ts ih =>
  intro met
  simp only [Zay,List.flatten_cons,Qg]
  have:=ih (Zas t met).2
  have:=Zpv t met
  omega
def Yol (ts:List (List Sym)) (w:World) (e:Ending) (w':World):Prop:=Ext w w'∧∃ x c,e = .returned (.slice x ts.length c)∧TermsIn w' (.slice x ts.length c) (Zay ts []).1
theorem Zwk (w:World) (tv:Value) (ts:List (List Sym)) (h:TermsIn w tv ts) (hl:ts.length≤1000) (hf:ts.flatten.length≤8000) (hok:∀ t ∈ ts,TmOk t) :
  Calls Tryz.prog 99 #[tv] w (Yol ts w):=by
 obtain ⟨us,h⟩:=h
 obtain ⟨ta,tcap,rfl⟩:=Zae h.owns
 have H:=Zac h
 have Hok:=Zac hok
 have Hf:=Zac hf
 clear h hok hf
 go_enter Tryz.func99,Tryz.ntmps99
 go_wp2
 go_loopg [3,4,13] (ts.length+1) (fun gk rv mv iv wr=>∃ (k:Nat) (xs:List Value),iv = .int .i64 k∧k≤ts.length∧ts.length - k<gk∧OrdB w wr.heap.size (Zay (ts.take k) []).1 rv xs (Zay (ts.take k) []).2 mv [] (.slice none 0 0) wr)
 case atStart=>exact ⟨0,[],by go_num,Qm _,by omega,Below.refl _ _,TermsAt.nil _ _,by simp,World.ownsRow_nil _ _ _ _,Qe _,Qe _,World.ownsRow_nil _ _ _ _⟩
 case round =>
  obtain ⟨k,xs,rfl,hk,hgk,hA⟩:=hrel
  have hmet:(Zay (ts.take k) []).2.length≤8000:=by
   have h1:=Zpw (ts.take k) []
   have h2:=Hf.out
   have h3:(ts.take k).flatten.length≤ts.flatten.length:=by
    conv=>rhs; rw [← List.take_append_drop k ts,List.flatten_append,Qg]
    omega
   simp at h1
   simp at h2 h3
   omega
  have hlk:(Zay (ts.take k) []).1.length=k:=by rw [Zft]; simp; omega
  obtain ⟨rl,hrl⟩:∃ r,r=(Zay (ts.take k) []).1:=⟨_,rfl⟩
  obtain ⟨met,hme⟩:∃ r,r=(Zay (ts.take k) []).2:=⟨_,rfl⟩
  rw [← hrl,← hme] at hA
  rw [← hme] at hmet
  rw [← hrl] at hlk
  have hrow:=hA.row.owns
  rw [hlk] at hrow
  obtain ⟨ra,rcap,rfl⟩:=Zae hrow
  obtain ⟨ma,mcap,rfl⟩:=Zae hA.met
  have hsr:=hA.ext.size
  have HA:=Zac hA
  have Hrl:=Zac hrl
  have Hme:=Zac hme
  have Hlk:=Zac hlk
  clear hA hrow hrl hme hlk
  by_cases hlt:k<ts.length
  ·obtain ⟨t,ht⟩:∃ t,ts[k]?=some t:=⟨_,Qb hlt⟩
   obtain ⟨x,hx,hxo⟩:=H.out.all _ t ht
   obtain ⟨xa,xcap,rfl⟩:=Zae hxo
   obtain ⟨g,cap',cur,he,_,hgb,_⟩:=Zao H.out.owns (by omega)
   simp only [Value.slice.injEq] at he
   obtain ⟨rfl,_,rfl⟩:=he
   have hgw:=Zab hgb
   have hgr:g<wr.heap.size:=by omega
   have x0:wr.cell? ⟨g,k,none⟩=some (.slice xa t.length xcap):=(HA.out.ext.cell (p:=⟨g,k,none⟩) hgw).trans (Zag H.out.owns _ _ hx)
   obtain ⟨o1,o2,o3⟩:=Hok.out t (Qh ht)
   have Hxo:Hid (WordAt w (.slice xa t.length xcap) t):=hxo
   have Ht:=Zac ht
   have Ho3:=Zac o3
   have Hta:Hid (∀ (i:Nat) s,t[i]?=some s→s.name=[]→s.args=0):=fun i s hs=>by obtain ⟨j,hj⟩:=o1; exact (Zjq hj hs).1
   have hm8:met.length+t.length≤9000:=by omega
   obtain ⟨wo,hwo⟩:∃ x,x=wr:=⟨_,rfl⟩
   subst hwo
   clear ht hx hxo hgb o1 o3
   go_wp2
   go_loopg [4,7,19] (t.length+1) (fun gk mv cv iv wr=>∃ (i:Nat),iv = .int .i64 i∧i≤t.length∧t.length - i<gk∧OrdB w wo.heap.size rl (.slice ra k rcap) xs (Zas (t.take i) met).2 mv (Zas (t.take i) met).1 cv wr)
   case atStart=>exact ⟨0,by go_num,Qm _,by omega,HA.out⟩
   case round =>
    obtain ⟨i,rfl,hi,hgi,hB⟩:=hrel
    have hmi:(Zas (t.take i) met).2.length≤9000:=by
     have:=Zpv (t.take i) met
     simp at this
     omega
    have hci:(Zas (t.take i) met).1.length=i:=by rw [Zkb]; simp; omega
    obtain ⟨ch,hch⟩:∃ r,r=(Zas (t.take i) met).1:=⟨_,rfl⟩
    obtain ⟨mt,hmt⟩:∃ r,r=(Zas (t.take i) met).2:=⟨_,rfl⟩
    rw [← hch,← hmt] at hB
    rw [← hmt] at hmi
    rw [← hch] at hci
    have hcg:=hB.chg
    rw [hci] at hcg
    obtain ⟨ca,ccap,rfl⟩:=Zae hcg
    obtain ⟨na,ncap,rfl⟩:=Zae hB.met
    have hsi:=hB.ext.size
    have hb2:=hB.b2
    have HB:=Zac hB
    have Hch:=Zac hch
    have Hmt:=Zac hmt
    have Hci:=Zac hci
    clear hB hcg hch hmt hci x0
    by_cases hit:i<t.length
    ·obtain ⟨s,hs⟩:∃ s,t[i]?=some s:=⟨_,Qb hit⟩
     obtain ⟨g2,cap2,cur2,he2,_,hgb2,_⟩:=Zao Hxo.out (by omega)
     simp only [Value.slice.injEq] at he2
     obtain ⟨rfl,_,rfl⟩:=he2
     have ho:=Zai Hxo.out (fun j hj=>HB.out.ext.block j (Hxo.out.lt j hj).2)
     have hgw2:=Zab hgb2
     have hgr2:g2<wr.heap.size:=by omega
     have e0:wr.cell? ⟨g2,i * 3,none⟩=some (.string ⟨s.name.toArray⟩):=Zag ho _ _ (by have:=Zba t i s hs 0 (by omega); rw [Nat.add_zero] at this; rw [this]; rfl)
     have e1:wr.cell? ⟨g2,i * 3+1,none⟩=some (.int .i64 s.num):=Zag ho _ _ (by rw [Zba t i s hs 1 (by omega)]; rfl)
     have e2:wr.cell? ⟨g2,i * 3+2,none⟩=some (.int .i64 s.args):=Zag ho _ _ (by rw [Zba t i s hs 2 (by omega)]; rfl)
     have hsn:=Ho3.out s (Qh hs)
     have hnx:Zas (t.take (i+1)) met=(if s.name=[] then (ch++[⟨[],mt.idxOf s.num,s.args⟩],meet s.num mt) else (ch++[s],mt)):=by
      rw [List.take_add_one,hs]
      simp only [Option.toList]
      rw [Zka,← Hch.out,← Hmt.out]
      simp only [Zas]
      split <;> rfl
     have Hnx:=Zac hnx
     clear hs ho hgb2 hnx
     cases hnm:s.name with
     | cons y ys =>
      rw [hnm] at e0
      have Hnx2:Hid (Zas (t.take (i+1)) met=(ch++[s],mt)):=by show _=_; rw [Hnx.out,if_neg (by rw [hnm]; simp)]
      have Hs2:Hid (s=⟨y::ys,s.num,s.args⟩):=by show _=_; rw [← hnm]
      have hE:Ext wr (wr.alloc (.cells #[.string ⟨(y::ys).toArray⟩,.int .i64 s.num,.int .i64 s.args] 133)):=(Ext.of (by repeat' (first | with_reducible(first|exact Qx _ _|apply Kept.drew|apply Kept.drewN|apply Qz|refine Qy ?_ ?_ _)|exact fun h=>absurd h (by simp <;> omega))))
      have HB1:=Zac (HB.out.on hE)
      have Hrow:Hid ((wr.alloc (.cells #[.string ⟨(y::ys).toArray⟩,.int .i64 s.num,.int .i64 s.args] 133)).ownsRow wo.heap.size 133 3 (.slice ca i ccap) i (Zaj ch)):=by have:=HB1.out.chg; rw [Hci.out] at this; exact this
      clear hnm hE
      go_wp2_with (at_builtin; go_loud (refine Zal (wr.alloc (.cells #[.string ⟨(y::ys).toArray⟩,.int .i64 s.num,.int .i64 s.args] 133)) rfl (.tmp 41) (.tmp 43) 105 rfl wo.heap.size 133 Tryz.infoSym Tryz.underlying105 rfl (by decide) (.slice ca i ccap) i (Zaj ch) rfl Hrow.out #[.string ⟨(y::ys).toArray⟩,.int .i64 s.num,.int .i64 s.args] (N:=wr.heap.size+1) rfl (by simp) rfl (Zho _ _ _) ?_ ?_ ?_))
      ·omega
      ·simp; omega
      intro v2 w2 hap
      obtain ⟨a2,c2,rfl⟩:=Zae hap.owns
      have hB2:=HB1.out.chApp (s:=s) (cv2 := .slice a2 (i+1) c2) (w2:=w2) (by rw [Hci.out,Hs2.out]; simpa [Zbw] using hap)
      have HB2:=Zac hB2
      clear hap hB2
      go_wp2
      go_roundg (t.length - i)
      case measure=>omega
      case rel=>exact ⟨i+1,by go_num,by omega,by omega,by rw [Hnx2.out]; exact HB2.out⟩
     | nil =>
      rw [hnm] at e0
      obtain ⟨P,hP⟩:∃ p,p=mt.idxOf s.num:=⟨_,rfl⟩
      have hPl:P≤mt.length:=by rw [hP]; exact List.idxOf_le_length
      have hE:∀ o,Ext wr (wr.alloc o):=fun o=>(Ext.of (by repeat' (first | with_reducible(first|exact Qx _ _|apply Kept.drew|apply Kept.drewN|apply Qz|refine Qy ?_ ?_ _)|exact fun h=>absurd h (by simp <;> omega))))
      have HPl:=Zac (Zwj (wr.alloc (.cells #[.string ⟨#[]⟩,.int .i64 s.num,.int .i64 s.args] 133)) s.num (.slice na mt.length ncap) mt (Zbe (HB.out.on (hE _)).met (Qm _)) (by omega) hsn)
      rw [← hP] at HPl
      have Hnx2:Hid (Zas (t.take (i+1)) met=(ch++[⟨[],P,s.args⟩],meet s.num mt)):=by show _=_; rw [Hnx.out,if_pos hnm,← hP]
      have Hmeet:Hid (meet s.num mt=if P=mt.length then mt++[s.num] else mt):=by show _=_; unfold meet; rw [← hP]
      have HE:=Zac hE
      have HBm:=Zac (HB.out.on (hE (.cells #[.string ⟨#[]⟩,.int .i64 s.num,.int .i64 s.args] 133)))
      clear hnm hE hP
      go_wp2_with fail
      refine HPl.out.mono ?_
      rintro e w1 ⟨rfl,rfl⟩
      by_cases hnew:P=mt.length
      ·subst hnew
       have hz:((mt.length:Int) == (mt.length:Int))=true:=by simp
       have Hmrow:Hid ((wr.alloc (.cells #[.string ⟨#[]⟩,.int .i64 s.num,.int .i64 s.args] 133)).ownsRow w.heap.size 3 1 (.slice na mt.length ncap) mt.length (ints mt)):=HBm.out.met
       go_wp2_with (at_builtin; go_loud (refine Zal (wr.alloc (.cells #[.string ⟨#[]⟩,.int .i64 s.num,.int .i64 s.args] 133)) rfl (.tmp 34) (.tmp 37) 25 rfl w.heap.size 3 Tryz.infoInt Tryz.underlying25 rfl (by decide) (.slice na mt.length ncap) mt.length (ints mt) rfl Hmrow.out #[.int .i64 s.num] (N:=wr.heap.size+1) rfl (by simp) rfl (Zhn _) ?_ ?_ ?_))
       ·omega
       ·simp; omega
       intro v2 w2 hap
       obtain ⟨a2,c2,rfl⟩:=Zae hap.owns
       have hB2:=HBm.out.metApp (n:=s.num) hap
       have hbx:w2.heap[wr.heap.size]?=some (.cells #[.string ⟨#[]⟩,.int .i64 s.num,.int .i64 s.args] 133 (0,0)):=(hap.kept.block _ (by simp) (Zah Hmrow.out (by decide) (heap_alloc_new wr _))).trans (heap_alloc_new wr _)
       have hK:Kept (fun k=>k=wr.heap.size) w2 (w2.setCell ⟨wr.heap.size,1,none⟩ (.int .i64 mt.length)):=(Qx (only wr.heap.size) w2).put 1 _
       have hB3:=hB2.box hbx hb2 (fun j hj=>by have:=(HB.out.chg.lt j hj).2; omega) hK
       have y0:=Zaa hbx 0 _ rfl
       have y1:=Zaa hbx 1 _ rfl
       have y2:=Zaa hbx 2 _ rfl
       have yf:=fun i=>Zad hbx i
       have yl:=Zab hbx
       have hsz2:=hap.kept.size
       simp at hsz2
       have HB3:=Zac hB3
       have Hrow:Hid ((w2.setCell ⟨wr.heap.size,1,none⟩ (.int .i64 mt.length)).ownsRow wo.heap.size 133 3 (.slice ca i ccap) i (Zaj ch)):=by have:=hB3.chg; rw [Hci.out] at this; exact this
       have Hme2:Hid (meet s.num mt=mt++[s.num]):=by show _=_; rw [Hmeet.out]; simp
       clear hap hB2 hbx hK hB3 e0 e1 e2
       go_wp2_with (at_builtin; go_loud (refine Zal (w2.setCell ⟨wr.heap.size,1,none⟩ (.int .i64 mt.length)) rfl (.tmp 41) (.tmp 43) 105 rfl wo.heap.size 133 Tryz.infoSym Tryz.underlying105 rfl (by decide) (.slice ca i ccap) i (Zaj ch) rfl Hrow.out #[.string ⟨#[]⟩,.int .i64 mt.length,.int .i64 s.args] (N:=w2.heap.size) rfl (by simp) rfl (Zho _ _ _) ?_ ?_ ?_))
       ·omega
       ·simp; omega
       intro v4 w4 hap
       obtain ⟨a4,c4,rfl⟩:=Zae hap.owns
       have hB4:=HB3.out.chApp (s:=⟨[],mt.length,s.args⟩) (cv2 := .slice a4 (i+1) c4) (w2:=w4) (by rw [Hci.out]; simpa [Zbw] using hap)
       have HB4:=Zac hB4
       clear hap hB4
       go_wp2
       go_roundg (t.length - i)
       case measure=>omega
       case rel=>exact ⟨i+1,by go_num,by omega,by omega,by rw [Hnx2.out,Hme2.out]; exact HB4.out⟩
      ·have hz:((P:Int) == (mt.length:Int))=false:=by rw [Qu]; omega
       have Hme2:Hid (meet s.num mt=mt):=by show _=_; rw [Hmeet.out,if_neg hnew]
       have HB3:=Zac (HB.out.on (HE.out (.cells #[.string ⟨#[]⟩,.int .i64 P,.int .i64 s.args] 133)))
       have Hrow:Hid ((wr.alloc (.cells #[.string ⟨#[]⟩,.int .i64 P,.int .i64 s.args] 133)).ownsRow wo.heap.size 133 3 (.slice ca i ccap) i (Zaj ch)):=by have:=HB3.out.chg; rw [Hci.out] at this; exact this
       clear hnew
       go_wp2_with (at_builtin; go_loud (refine Zal (wr.alloc (.cells #[.string ⟨#[]⟩,.int .i64 P,.int .i64 s.args] 133)) rfl (.tmp 41) (.tmp 43) 105 rfl wo.heap.size 133 Tryz.infoSym Tryz.underlying105 rfl (by decide) (.slice ca i ccap) i (Zaj ch) rfl Hrow.out #[.string ⟨#[]⟩,.int .i64 P,.int .i64 s.args] (N:=wr.heap.size+1) rfl (by simp) rfl (Zho _ _ _) ?_ ?_ ?_))
       ·omega
       ·simp; omega
       intro v4 w4 hap
       obtain ⟨a4,c4,rfl⟩:=Zae hap.owns
       have hB4:=HB3.out.chApp (s:=⟨[],P,s.args⟩) (cv2 := .slice a4 (i+1) c4) (w2:=w4) (by rw [Hci.out]; simpa [Zbw] using hap)
       have HB4:=Zac hB4
       clear hap hB4
       go_wp2
       go_roundg (t.length - i)
       case measure=>omega
       case rel=>exact ⟨i+1,by go_num,by omega,by omega,by rw [Hnx2.out,Hme2.out]; exact HB4.out⟩
    ·have hei:i=t.length:=by omega
     subst hei
     have Hrow:Hid (wr.ownsRow w.heap.size 105 1 (.slice ra k rcap) k xs):=by have:=HB.out.row.owns; rw [Hlk.out] at this; exact this
     go_wp2_with (at_builtin; go_loud (refine Zal wr rfl (.tmp 46) (.tmp 48) 85 rfl w.heap.size 105 Tryz.infoSyms Tryz.underlying85 rfl (by decide) (.slice ra k rcap) k xs rfl Hrow.out #[.slice ca t.length ccap] (N:=wr.heap.size) rfl (by simp) rfl (Zec _ _ _) ?_ ?_ ?_))
     ·omega
     ·omega
     intro v2 w2 hap
     obtain ⟨a2,c2,rfl⟩:=Zae hap.owns
     have hfin:OrdB w w2.heap.size (Zay (ts.take (k+1)) []).1 (.slice a2 (k+1) c2) (xs++[.slice ca t.length ccap]) (Zay (ts.take (k+1)) []).2 (.slice na mt.length ncap) [] (.slice none 0 0) w2:=by
      have hch:=Hch.out
      have hmt:=Hmt.out
      rw [List.take_length] at hch hmt
      have hnx:Zay (ts.take (k+1)) []=(rl++[ch],mt):=by
       rw [List.take_add_one,Ht.out]
       simp only [Option.toList]
       rw [Zqr,← Hrl.out,← Hme.out]
       simp only [Zay]
       rw [hch,hmt]
      rw [hnx]
      obtain ⟨q1,q2,q3,q4,q5,q6,q7⟩:=HB.out
      have hsz:=hap.kept.size
      have hx:WordAt wr (.slice ca t.length ccap) ch:=Zbe q7 (Qm _)
      have ht:TermsAt w2 w.heap.size (.slice a2 (k+1) c2) (rl++[ch]) (xs++[.slice ca t.length ccap]):=q2.snoc (by rw [Hlk.out]; exact hap) hx
      refine ⟨q1.trans (hap.kept.below q1.size (fun j hj=>(Hrow.out.lt j hj).1)),ht,ht.words,hap.kept.owns q4 (fun j hj hS => ?_),by omega,Qe _,World.ownsRow_nil _ _ _ _⟩
      obtain ⟨cur,hc⟩:=Zbx Hrow.out j hS
      exact Zah q4 (by decide) hc hj
     have Hfin:=Zac hfin
     clear hap hfin
     go_wp2
     go_roundg (ts.length - k)
     case measure=>omega
     case rel=>exact ⟨k+1,_,by go_num,by omega,by omega,Hfin.out⟩
  ·have hek:k=ts.length:=by omega
   subst hek
   go_wp2
   go_ret
   have hr:=Hrl.out
   rw [List.take_length] at hr
   obtain ⟨q1,q2,_⟩:=HA.out
   rw [hr] at q2
   exact ⟨q1,ra,rcap,rfl,q2.inn⟩
end Go.Proofs.YtlmjilpjmgjjcaaGreatDoor
