/-
  PROVED HERE: what a number that can be read as data is (the conditions stand in each statement).
-/
import Derived.Test.YtlmjilpjmgjjcabGreatDoorT11
import Derived.BigQuiet
import Derived.Deep.CutRange
import Derived.Test.YtlmjilpjmgjjcabGreatDoorRows
import Derived.Test.YtlmjilpjmgjjcabGreatDoorCards
import Derived.Test.YtlmjilpjmgjjcabGreatDoorTie
import Derived.ProofKit
import Derived.LaidMore
import Derived.OpenShut
import Derived.Stop.Joined
import Derived.SevenTiedAt
import Derived.Deep.Slices
import Derived.Carry
set_option linter.unusedSimpArgs false
set_option linter.unusedVariables false
set_option maxRecDepth 10000
set_option maxHeartbeats 4000000
namespace Go.Proofs.YtlmjilpjmgjjcabGreatDoor
open Go.RowKit
def Yfo (w0 w:World) (b:Nat) (cv nv:Value) (s:ByteArray) (M:HM) (e:Ending) (w':World):Prop:=FrT w w'∧e = .returned (.bool M.ok)∧HoIn w0 w' b cv nv s M.at' M.way M.ans
theorem HoIn.grow {w0 w w':World} {b:Nat} {cv nv:Value} {s:ByteArray} {p:Nat} {way:List (ND × Nat)} {A:List (List UInt8)} (h:HoIn w0 w b cv nv s p way A) (e:Ext w w'):HoIn w0 w' b cv nv s p way A:=by
 obtain ⟨wa,wc,aa,ac,h⟩:=h
 exact ⟨wa,wc,aa,ac,h.grow e⟩
theorem CHo.answer {w0 w w1:World} {b:Nat} {cv nv:Value} {s:ByteArray} {p:Nat} {way:List (ND × Nat)} {A:List (List UInt8)} {wa:Option Addr} {wc:Nat} {aa aa':Option Addr} {ac ac':Nat} {Y:List UInt8} (h:CHo w0 w b cv nv s p way A wa wc aa ac)
  (ha:Appended w w0.heap.size 9 1 (.slice aa A.length ac) (A.length+1) (strs A++[.string ⟨Y.toArray⟩]) (.slice aa' (A.length+1) ac') w1) :
  w1.heap[b]?=w.heap[b]?∧CHo w0 (w1.setCell ⟨b,5,none⟩ (.slice aa' (A.length+1) ac')) b cv nv s p way (A++[Y]) wa wc aa' ac'∧FrT w (w1.setCell ⟨b,5,none⟩ (.slice aa' (A.length+1) ac')):=by
 obtain ⟨ys,h2⟩:=h.row
 have hn:=Zfp h.ans h.box (by decide)
 have hb1:w1.heap[b]?=w.heap[b]?:=ha.kept.block b (Zab h.box) (fun e=>hn b e rfl)
 have hF1:FrT w w1:=FrT.of_kept ha.kept (fun k e=>by
  rcases h.ans.2 with ⟨e',_⟩ | ⟨g,cap,cur,e',_,hg,_⟩
  ·rw [e'] at e; simp [Zbl,Value.ownBlock] at e
  ·rw [e'] at e
   simp [Zbl,Value.ownBlock] at e
   subst e
   exact ⟨_,_,_,hg,by simp [HoTy]⟩)
 have hrow1:RowH w0.heap.size w1 (.slice wa way.length wc) way.reverse ys:=h2.keep hF1 (fun k hj=>ha.kept.block k (h2.owns.lt k hj).2 (fun e=>by
  rcases h.ans.2 with ⟨e',_⟩ | ⟨g,cap,cur,e',_,hg,_⟩
  ·rw [e'] at e; simp [Zbl,Value.ownBlock] at e
  ·rw [e'] at e
   simp [Zbl,Value.ownBlock] at e
   subst e
   exact Zfp h2.owns hg (by decide) _ hj rfl))
 have hE1:Ext w0 w1:=h.ext.trans (ha.kept.below h.ext.size (fun k e=>(h.ans.lt k e).1))
 have hbx1:=hb1.trans h.box
 have hK:Kept (only b) w1 (w1.setCell ⟨b,5,none⟩ (.slice aa' (A.length+1) ac')):=(Qx _ _).put 5 _
 have hF2:FrT w1 (w1.setCell ⟨b,5,none⟩ (.slice aa' (A.length+1) ac')):=FrT.of_kept hK (fun k e=>by
  have e:k=b:=e
  subst e
  exact ⟨_,_,_,hbx1,by simp [HoTy]⟩)
 have hl:(A++[Y]).length=A.length+1:=by simp
 have hs:strs (A++[Y])=strs A++[.string ⟨Y.toArray⟩]:=by simp [strs]
 refine ⟨hb1,⟨Zea hE1 hK h.low,h.low,by rw [hl]; exact Zaf hbx1 5 _,⟨ys,hrow1.keep hF2 (fun k hj=>hK.block k (hrow1.owns.lt k hj).2 (Zfp hrow1.owns hbx1 (by decide) k hj))⟩,?_⟩,hF1.trans hF2⟩
 rw [hl,hs]
 exact Zah ha.owns (fun k hj=>hK.block k (ha.owns.lt k hj).2 (Zfp ha.owns hbx1 (by decide) k hj))
theorem Zwb (w0 w:World) (b:Nat) (cv nv:Value) (s:ByteArray) (p:Nat) (way:List (ND × Nat)) (A:List (List UInt8)) (names:Names) (gv vv rv uv:Value) (n:ND) (h:HoIn w0 w b cv nv s p way A) (hn:CNode w gv vv rv uv n) (hg:n.goals=[]) (hnv:w0.ownsRow 0 9 1 nv names.length (strs names)) (hvl:n.vals.length=names.length) (hs6:names.length≤60) (hns:∀ x ∈ names,x.length≤8) (hs:s.size≤20000) (hp:p≤s.size) (hA:A.length≤20000) :
  Calls Tryz.prog 49 #[.pointer (some ⟨b,0,none⟩),.agg #[gv,vv,rv,uv]] w (Yfo w0 w b cv nv s (Zcc names s.data.toList n p way A)):=by
 obtain ⟨ga,gc,va',vl',vc',ra,rl,rc,u,rfl,rfl,rfl,rfl,hu4⟩:=hn.shape
 obtain ⟨W,hW⟩:∃ W,W=w.alloc (.cells #[.slice ga n.goals.length gc,.slice va' vl' vc',.slice ra rl rc,.int .i64 u] 65):=⟨_,rfl⟩
 have hEW:Ext w W:=by rw [hW]; exact (Ext.of (by repeat' (first | with_reducible(first|exact Qx _ _|apply Kept.drew|apply Kept.drewN|apply Qz|refine Qy ?_ ?_ _)|exact fun h=>absurd h (by simp <;> omega))))
 have hbW:W.heap[w.heap.size]?=some (.cells #[.slice ga n.goals.length gc,.slice va' vl' vc',.slice ra rl rc,.int .i64 u] 65 (0,0)):=by rw [hW]; exact heap_alloc_new w _
 have HP:=Zac (Zra w0 W b cv nv s p way A 33 (by decide) (h.grow hEW) hs hp)
 have hm:Zcc names s.data.toList n p way A=if s.data.toList[p]?=some 33 then ⟨true,p+1,way,A++[Zbu names n]⟩ else ⟨false,p,way,A⟩:=by unfold Zcc; rw [if_pos hg]
 obtain ⟨Y,hY⟩:∃ Y,Y=Zbu names n:=⟨_,rfl⟩
 rw [← hY] at hm
 obtain ⟨M,hM⟩:∃ M,M=Zcc names s.data.toList n p way A:=⟨_,rfl⟩
 rw [← hM] at hm ⊢
 have Hm:=Zac hm
 have hbl:b<w.heap.size:=by
  obtain ⟨_,_,_,_,h⟩:=h
  exact Zab h.box
 have Hn:=Zac hn
 have HEW:=Zac hEW
 have HbW:=Zac hbW
 simp only [show ((33:UInt8).toNat:Int)=33 from rfl] at HP
 rw [hg,Jt] at hW HbW ⊢
 have HW:=Zac hW
 have Hnv:=Zac hnv
 obtain ⟨na,nc,rfl⟩:=Zad hnv
 clear h hn hm hEW hbW hW hg hnv hM
 go_enter Tryz.func49,Tryz.ntmps49
 go_wp2_with fail
 rw [← HW.out]
 refine HP.out.mono ?_
 rintro e w1 ⟨hF1,⟨hc,rfl,h1⟩ | ⟨hc,rfl,h1⟩⟩
 ·obtain ⟨wa1,wc1,aa1,ac1,h1⟩:=h1
  obtain ⟨b0,b1,b2,b3,b4,b5,bf⟩:=box6 h1.box
  have hx1:=hF1 _ _ _ _ HbW.out (by simp [HoTy])
  have v1:=Zaa hx1 1 _ rfl
  have hbl1:=Zab h1.box
  obtain ⟨n1,hN,hU,hOk,hNm,hFw,hS⟩:=(Hn.out.ext HEW.out).fr hF1
  have hnl:n1.vals.length=names.length:=by rw [hS.vl,hvl]
  have hans:Zbu names n1=Zbu names n:=by unfold Zbu; rw [hS.valsC hOk]
  have hnv1:=Zah Hnv.out (fun j hj=>h1.ext.block j (Hnv.out.lt j hj).2)
  have HA:Hid (Calls Tryz.prog 39 #[.slice na names.length nc,.slice va' vl' vc'] w1.drew fun e w'=>Ext w1.drew w'∧e = .returned (.string ⟨(Zbu names n).toArray⟩)):=by
   have hE:Ext w1 w1.drew:=⟨rfl,rfl,rfl,Qe _,fun _ _=>rfl⟩
   rw [← hans]
   exact Zgu _ _ _ names n1.vals (Zah hnv1 (fun j hj=>hE.block j (hnv1.lt j hj).2)) (hN.vals.ext hE) (Zvo hOk hNm (by omega)) hnl.symm (Zll hOk hNm (by omega) hs6 hns)
  rw [← hY] at HA
  have Hm1:Hid (M=⟨true,p+1,way,A++[Y]⟩):=by show _=_; rw [Hm.out,if_pos hc]
  have H1:=Zac h1
  have HF1:=Zac ((FrT.of_ext HEW.out).trans hF1)
  clear h1 hF1 hx1 hN hU hOk hNm hFw hS hnl hans hnv1 hY HP hns
  go_wp2_with fail
  refine Zgg (by kernel_rfl) [.rd 0 1 (fun _ => .pointer (some ⟨b,0,none⟩)),.rd 0 1 (fun _ => .pointer (some ⟨b,0,none⟩)),.rd 0 1 (fun _ => .pointer (some ⟨b,1,none⟩)),.rd 0 0 (fun _ => .slice na names.length nc),.rd 0 1 (fun _ => .pointer (some ⟨w.heap.size,1,none⟩)),.rd 0 0 (fun _ => .slice va' vl' vc'),.st 0,.rd 1 1 (fun _ => .string ⟨Y.toArray⟩)] 1 7 (by kernel_rfl) (OnePh w1.drew (.string ⟨Y.toArray⟩)) rfl ?_ ?_
  ·refine ⟨⟨trivial,fun vs y _ hl hS => ?_⟩,⟨trivial,fun vs y _ hl hS => ?_⟩,⟨trivial,fun vs y _ hl hS => ?_⟩,⟨trivial,fun vs y _ hl hS => ?_⟩,⟨trivial,fun vs y _ hl hS => ?_⟩,⟨trivial,fun vs y _ hl hS => ?_⟩,⟨trivial,fun vs y hl hS => ?_⟩,⟨trivial,fun vs y hl0 hl hS => ?_⟩,trivial⟩
   ·simp [phAll,phA,pa,Ph.kd,Ph.val,Kd.val,go_sem]
   ·simp [phAll,phA,pa,Ph.kd,Ph.val,Kd.val,go_sem]
   ·simp [phAll,phA,pa,Ph.kd,Ph.val,Kd.val,go_sem]
   ·obtain rfl:=hS.at hl
    simp [phAll,phA,pa,Ph.kd,Ph.val,Kd.val,go_sem,b1]
   ·simp [phAll,phA,pa,Ph.kd,Ph.val,Kd.val,go_sem]
   ·obtain rfl:=hS.at hl
    simp [phAll,phA,pa,Ph.kd,Ph.val,Kd.val,go_sem,v1]
   ·obtain rfl:=List.length_eq_zero_iff.1 hl
    obtain rfl:y=w1.drew:=hS
    refine .call 39 #[.slice na names.length nc,.slice va' vl' vc'] _ (by simp [phAll,phA,pa,Ph.kd,Ph.val,Kd.val,go_sem]) (HA.out.mono ?_)
    rintro e u ⟨hE,rfl⟩
    exact ⟨_,rfl,rfl,hE⟩
   ·obtain ⟨v,rfl⟩:=List.length_eq_one_iff.1 (show vs.length=1 by omega)
    obtain ⟨rfl,_⟩:=hS
    simp [phAll,phA,pa,Ph.kd,Ph.val,Kd.val,go_sem]
  rintro vs y hl hS
  obtain ⟨v,rfl⟩:=List.length_eq_one_iff.1 hl
  obtain ⟨hv,hy⟩:=hS
  have hy2:=hy.undrew
  have h2:=H1.out.grow hy2
  have HF2:=Zac (HF1.out.trans (FrT.of_ext hy2))
  clear b0 b1 b2 b3 b4 b5 bf v1
  obtain ⟨b0,b1,b2,b3,b4,b5,bf⟩:=box6 h2.box
  have hbl2:=Zab h2.box
  have H2:=Zac h2
  simp only [phAll,phA,paAll,pa,Ph.kd,Ph.val,Kd.val,List.map_cons,List.map_nil,if_true,Act.put,List.setIfInBounds_toArray,List.set_cons_succ,List.set_cons_zero]
  clear hv hy hy2 h2
  go_wp2_with (at_builtin; go_loud (refine Zam y rfl (.tmp 24) (.tmp 26) 35 rfl w0.heap.size 9 Tryz.infoStr Tryz.underlying35 rfl (by decide) (.slice aa1 A.length ac1) A.length (strs A) rfl H2.out.ans #[.string ⟨Y.toArray⟩] rfl (by omega) rfl (by simp [Value.oneCell']) ?_ ?_ ?_))
  ·omega
  ·have:=H2.out.ext.size
   omega
  intro v' w2 hap
  obtain ⟨ga2,gc2,rfl⟩:=Zad hap.owns
  obtain ⟨hb2,hC2,hF3⟩:=H2.out.answer hap
  have hbx2:=hb2.trans H2.out.box
  have c5:=Zaa hbx2 5 _ rfl
  have cf:=fun i=>Zae hbx2 i
  have HC2:=Zac hC2
  have HF3:=Zac hF3
  have hbl3:=Zab hbx2
  clear hap hb2 hC2 hF3 hbx2 b0 b1 b2 b3 b4 b5 bf
  go_wp2
  go_ret
  rw [Hm1.out]
  exact ⟨HF2.out.trans HF3.out,rfl,_,_,_,_,HC2.out⟩
 ·have H1:=Zac h1
  have HF1:=Zac ((FrT.of_ext HEW.out).trans hF1)
  have Hm1:Hid (M=⟨false,p,way,A⟩):=by show _=_; rw [Hm.out,if_neg hc]
  clear h1 hF1 hc HP
  go_wp2
  go_ret
  rw [Hm1.out]
  exact ⟨HF1.out,rfl,H1.out⟩
theorem Tryz.infoLevelT:(Tryz.prog.info? 126).map (fun i=>(i.zero,i.size,i.bytes))=some (some (.agg #[.slice none 0 0,.slice none 0 0,.slice none 0 0,.int .i64 0,.int .i64 0]),5,88):=by kernel_rfl
theorem RowH.step {B:Nat} {w w':World} {cv cv':Value} {ds:List (ND × Nat)} {xs:List Value} {x0 x1 x2 x3:Value} {n:ND} {k:Nat} (h:RowH B w cv ds xs) (hn:CNode w x0 x1 x2 x3 n) (hF:FrT w w') (ho:w'.ownsRow B 126 5 cv' (ds.length+1) (xs++[x0,x1,x2,x3,.int .i64 k])) :
  RowH B w' cv' (ds++[(n,k)]) (xs++[x0,x1,x2,x3,.int .i64 k]):=by
 have hxl:=h.owns.1
 refine ⟨by simpa using ho,fun i d hd => ?_⟩
 rcases Nat.lt_or_ge i ds.length with hi | hi
 ·rw [Qc hi] at hd
  obtain ⟨p0,p1,p2,p3,y0,y1,y2,y3,y4,g⟩:=h.all i d hd
  exact ⟨p0,p1,p2,p3,by rw [Qc (by omega)]; exact y0,by rw [Qc (by omega)]; exact y1,by rw [Qc (by omega)]; exact y2,by rw [Qc (by omega)]; exact y3,by rw [Qc (by omega)]; exact y4,g.fr hF⟩
 ·have e:i=ds.length:=by
   have:=(Qa.1 hd).1
   simp at this; omega
  subst e
  rw [Qd (Qe _)] at hd
  simp at hd
  subst hd
  exact ⟨x0,x1,x2,x3,by rw [Qd (by omega)]; simp [hxl],by rw [Qd (by omega),show ds.length * 5+1 - xs.length=1 by omega]; rfl,by rw [Qd (by omega),show ds.length * 5+2 - xs.length=2 by omega]; rfl,by rw [Qd (by omega),show ds.length * 5+3 - xs.length=3 by omega]; rfl,by rw [Qd (by omega),show ds.length * 5+4 - xs.length=4 by omega]; rfl,hn.fr hF⟩
theorem CHo.push {w0 w w1:World} {b:Nat} {cv nv:Value} {s:ByteArray} {p:Nat} {way:List (ND × Nat)} {A:List (List UInt8)} {wa wa':Option Addr} {wc wc':Nat} {aa:Option Addr} {ac:Nat} {n:ND} {x0 x1 x2 x3:Value} {ys:List Value} (h:CHo w0 w b cv nv s p way A wa wc aa ac) (h2:RowH w0.heap.size w (.slice wa way.length wc) way.reverse ys) (hn:CNode w x0 x1 x2 x3 n)
  (ha:Appended w w0.heap.size 126 5 (.slice wa way.length wc) (way.length+1) (ys++[x0,x1,x2,x3,.int .i64 0]) (.slice wa' (way.length+1) wc') w1) :
  w1.heap[b]?=w.heap[b]?∧CHo w0 (w1.setCell ⟨b,4,none⟩ (.slice wa' (way.length+1) wc')) b cv nv s p ((n,0)::way) A wa' wc' aa ac∧FrT w (w1.setCell ⟨b,4,none⟩ (.slice wa' (way.length+1) wc')):=by
 have hn':=Zfp h2.owns h.box (by decide)
 have hb1:w1.heap[b]?=w.heap[b]?:=ha.kept.block b (Zab h.box) (fun e=>hn' b e rfl)
 have hF1:FrT w w1:=FrT.of_kept ha.kept (fun k e=>by
  rcases h2.owns.2 with ⟨e',_⟩ | ⟨g,cap,cur,e',_,hg,_⟩
  ·rw [e'] at e; simp [Zbl,Value.ownBlock] at e
  ·rw [e'] at e
   simp [Zbl,Value.ownBlock] at e
   subst e
   exact ⟨_,_,_,hg,by simp [HoTy]⟩)
 have hrow1:=h2.step (k:=0) hn hF1 (by rw [List.length_reverse]; exact ha.owns)
 have hans1:w1.ownsRow w0.heap.size 9 1 (.slice aa A.length ac) A.length (strs A):=Zah h.ans (fun k hj=>ha.kept.block k (h.ans.lt k hj).2 (fun e=>by
  rcases h2.owns.2 with ⟨e',_⟩ | ⟨g,cap,cur,e',_,hg,_⟩
  ·rw [e'] at e; simp [Zbl,Value.ownBlock] at e
  ·rw [e'] at e
   simp [Zbl,Value.ownBlock] at e
   subst e
   exact Zfp h.ans hg (by decide) _ hj rfl))
 have hE1:Ext w0 w1:=h.ext.trans (ha.kept.below h.ext.size (fun k e=>(h2.owns.lt k e).1))
 have hbx1:=hb1.trans h.box
 have hK:Kept (only b) w1 (w1.setCell ⟨b,4,none⟩ (.slice wa' (way.length+1) wc')):=(Qx _ _).put 4 _
 have hF2:FrT w1 (w1.setCell ⟨b,4,none⟩ (.slice wa' (way.length+1) wc')):=FrT.of_kept hK (fun k e=>by
  have e:k=b:=e
  subst e
  exact ⟨_,_,_,hbx1,by simp [HoTy]⟩)
 exact ⟨hb1,⟨Zea hE1 hK h.low,h.low,Zaf hbx1 4 _,⟨_,by rw [List.reverse_cons]; exact hrow1.keep hF2 (fun k hj=>hK.block k (hrow1.owns.lt k hj).2 (Zfp hrow1.owns hbx1 (by decide) k hj))⟩,Zah hans1 (fun k hj=>hK.block k (hans1.lt k hj).2 (Zfp hans1 hbx1 (by decide) k hj))⟩,hF1.trans hF2⟩
theorem Zwc (w0 w:World) (b:Nat) (cv nv:Value) (s:ByteArray) (p:Nat) (way:List (ND × Nat)) (A:List (List UInt8)) (names:Names) (gv vv rv uv:Value) (n:ND) (h:HoIn w0 w b cv nv s p way A) (hn:CNode w gv vv rv uv n) (hg:n.goals≠[]) (hs:s.size≤20000) (hp:p≤s.size) (hwl:way.length≤20000) :
  Calls Tryz.prog 49 #[.pointer (some ⟨b,0,none⟩),.agg #[gv,vv,rv,uv]] w (Yfo w0 w b cv nv s (Zcc names s.data.toList n p way A)):=by
 obtain ⟨ga,gc,va',vl',vc',ra,rl,rc,u,rfl,rfl,rfl,rfl,hu4⟩:=hn.shape
 have hgl:0<n.goals.length:=List.length_pos_iff.2 hg
 obtain ⟨z,hz⟩:∃ z,z=n.goals.length:=⟨_,rfl⟩
 rw [← hz] at hgl hn ⊢
 obtain ⟨W,hW⟩:∃ W,W=w.alloc (.cells #[.slice ga z gc,.slice va' vl' vc',.slice ra rl rc,.int .i64 u] 65):=⟨_,rfl⟩
 have hEW:Ext w W:=by rw [hW]; exact (Ext.of (by repeat' (first | with_reducible(first|exact Qx _ _|apply Kept.drew|apply Kept.drewN|apply Qz|refine Qy ?_ ?_ _)|exact fun h=>absurd h (by simp <;> omega))))
 have hbW:W.heap[w.heap.size]?=some (.cells #[.slice ga z gc,.slice va' vl' vc',.slice ra rl rc,.int .i64 u] 65 (0,0)):=by rw [hW]; exact heap_alloc_new w _
 have HP:=Zac (Zra w0 W b cv nv s p way A 40 (by decide) (h.grow hEW) hs hp)
 have hm:Zcc names s.data.toList n p way A=if s.data.toList[p]?=some 40 then ⟨true,p+1,(n,0)::way,A⟩ else ⟨false,p,way,A⟩:=by unfold Zcc; rw [if_neg hg]
 obtain ⟨M,hM⟩:∃ M,M=Zcc names s.data.toList n p way A:=⟨_,rfl⟩
 rw [← hM] at hm ⊢
 have Hm:=Zac hm
 have hbl:b<w.heap.size:=by
  obtain ⟨_,_,_,_,h⟩:=h
  exact Zab h.box
 have Hn:=Zac hn
 have HEW:=Zac hEW
 have HbW:=Zac hbW
 simp only [show ((40:UInt8).toNat:Int)=40 from rfl] at HP
 have HW:=Zac hW
 have hzi:(0:Int)<(z:Int):=by omega
 have hzb:((z:Int) == 0)=false:=by rw [Qu]; omega
 clear h hn hm hEW hbW hW hg hM hz
 go_enter Tryz.func49,Tryz.ntmps49
 go_wp2_with fail
 rw [← HW.out]
 refine HP.out.mono ?_
 rintro e w1 ⟨hF1,⟨hc,rfl,h1⟩ | ⟨hc,rfl,h1⟩⟩
 ·obtain ⟨wa1,wc1,aa1,ac1,h1⟩:=h1
  have hx1:=hF1 _ _ _ _ HbW.out (by simp [HoTy])
  have hbx1:=h1.box
  obtain ⟨L,hL⟩:∃ L,L=way.length:=⟨_,rfl⟩
  rw [← hL] at hbx1 hwl
  obtain ⟨b0,b1,b2,b3,b4,b5,bf⟩:=box6 hbx1
  have k0:=Zaa hx1 0 _ rfl
  have k1:=Zaa hx1 1 _ rfl
  have k2:=Zaa hx1 2 _ rfl
  have k3:=Zaa hx1 3 _ rfl
  have hbl1:=Zab h1.box
  have hxl1:=Zab hx1
  obtain ⟨ys,hrow⟩:=h1.row
  have hCn:=(Hn.out.ext HEW.out).fr hF1
  have hEd:Ext w1 (w1.drewN 1):=Ext.of ((Qx _ w1).drewN _)
  have hod:(w1.drewN 1).ownsRow w0.heap.size 126 5 (.slice wa1 L wc1) L ys:=by
   have:=(hrow.keep (FrT.of_ext hEd) (fun k hk=>hEd.block k (hrow.owns.lt k hk).2)).owns
   rw [List.length_reverse,← hL] at this
   exact this
  have h0s:=h1.ext.size
  have Hfin:Hid (∀ w2 wa2 wc2,Appended (w1.drewN 1) w0.heap.size 126 5 (.slice wa1 L wc1) (L+1) (ys++[.slice ga z gc,.slice va' vl' vc',.slice ra rl rc,.int .i64 u,.int .i64 0]) (.slice wa2 (L+1) wc2) w2→w2.heap[b]?=w1.heap[b]?∧Yfo w0 w b cv nv s M (.returned (.bool true)) (w2.setCell ⟨b,4,none⟩ (.slice wa2 (L+1) wc2))):=fun w2 wa2 wc2 hap=>by
   have hd:=h1.grow hEd
   rw [hL] at hap ⊢
   obtain ⟨g1,g2,g3⟩:=hd.push (hrow.keep (FrT.of_ext hEd) (fun k hk=>hEd.block k (hrow.owns.lt k hk).2)) (hCn.ext hEd) hap
   refine ⟨g1,?_⟩
   rw [Hm.out,if_pos hc]
   exact ⟨(((FrT.of_ext HEW.out).trans hF1).trans (FrT.of_ext hEd)).trans g3,rfl,_,_,_,_,g2⟩
  have Hod:=Zac hod
  have Hbx1:=Zac hbx1
  clear h1 hF1 hx1 hbx1 hrow hCn hEd hod HP hL
  go_wp2_with fail
  go_region_law (refine Zcs (w1.drewN 1) rfl (.tmp 37) (.tmp 40) 86 rfl w0.heap.size 126 Tryz.infoLevelT Tryz.underlying86 rfl (by decide) (.slice wa1 L wc1) L ys rfl Hod.out #[.slice ga z gc,.slice va' vl' vc',.slice ra rl rc,.int .i64 u,.int .i64 0] rfl (by show _=w1.heap.size; omega) rfl Ztn (by omega) (by show _≤w1.heap.size; omega) rfl ?_; intro v' w2 hap; obtain ⟨wa2,wc2,rfl⟩:=Zad hap.owns; obtain ⟨hb2,hfin⟩:=Hfin.out _ _ _ hap; have hb3:=hb2.trans Hbx1.out; have d2:=Zaa hb3 4 _ rfl; have df:=fun i=>Zae hb3 i; have H2:=Zac hfin; clear hap hb2 hb3 hfin)
  all_goals
   go_wp2
   go_ret
   exact H2.out
 ·have H1:=Zac h1
  have HF1:=Zac ((FrT.of_ext HEW.out).trans hF1)
  have Hm1:Hid (M=⟨false,p,way,A⟩):=by show _=_; rw [Hm.out,if_neg hc]
  clear h1 hF1 hc HP
  go_wp2
  go_ret
  rw [Hm1.out]
  exact ⟨HF1.out,rfl,H1.out⟩
theorem RowH.bump {B:Nat} {w:World} {wb cap:Nat} {ds:List (ND × Nat)} {n:ND} {k:Nat} {xs:List Value} (h:RowH B w (.slice (some ⟨wb,0,none⟩) (ds.length+1) cap) (ds++[(n,k)]) xs) (k':Nat) :
  RowH B (w.setCell ⟨wb,ds.length * 5+4,none⟩ (.int .i64 k')) (.slice (some ⟨wb,0,none⟩) (ds.length+1) cap) (ds++[(n,k')]) (xs.set (ds.length * 5+4) (.int .i64 k'))∧FrT w (w.setCell ⟨wb,ds.length * 5+4,none⟩ (.int .i64 k')):=by
 have ho:=h.owns
 have hxl:=ho.1
 rw [Qg,Qn] at ho hxl
 have hk:=Zid w wb (ds.length+1) cap (ds.length * 5+4) (.int .i64 k')
 have hF:FrT w (w.setCell ⟨wb,ds.length * 5+4,none⟩ (.int .i64 k')):=FrT.of_kept hk (fun j hj=>by
  rcases ho.2 with ⟨e,_⟩ | ⟨g,cap',cur,e,_,hg,_⟩
  ·simp at e
  ·simp at e
   obtain ⟨rfl,_⟩:=e
   simp [Zbl,Value.ownBlock] at hj
   subst hj
   exact ⟨_,_,_,hg,by simp [HoTy]⟩)
 refine ⟨⟨by rw [Qg,Qn]; exact Zjy ho _ _,fun i d hd => ?_⟩,hF⟩
 rcases Nat.lt_or_ge i ds.length with hi | hi
 ·rw [Qc hi] at hd
  obtain ⟨p0,p1,p2,p3,y0,y1,y2,y3,y4,g⟩:=h.all i d (by rw [Qc hi]; exact hd)
  exact ⟨p0,p1,p2,p3,by rw [List.getElem?_set_ne (by omega)]; exact y0,by rw [List.getElem?_set_ne (by omega)]; exact y1,by rw [List.getElem?_set_ne (by omega)]; exact y2,by rw [List.getElem?_set_ne (by omega)]; exact y3,by rw [List.getElem?_set_ne (by omega)]; exact y4,g.fr hF⟩
 ·have e:i=ds.length:=by
   have:=(Qa.1 hd).1
   simp at this; omega
  subst e
  rw [Qd (Qe _)] at hd
  simp at hd
  subst hd
  obtain ⟨p0,p1,p2,p3,y0,y1,y2,y3,y4,g⟩:=h.all ds.length (n,k) (by rw [Qd (Qe _)]; simp)
  exact ⟨p0,p1,p2,p3,by rw [List.getElem?_set_ne (by omega)]; exact y0,by rw [List.getElem?_set_ne (by omega)]; exact y1,by rw [List.getElem?_set_ne (by omega)]; exact y2,by rw [List.getElem?_set_ne (by omega)]; exact y3,by rw [List.getElem?_set_self (by omega)],g.fr hF⟩
theorem CHo.bump {w0 w:World} {b wb:Nat} {cv nv:Value} {s:ByteArray} {p:Nat} {n:ND} {k:Nat} {r:List (ND × Nat)} {A:List (List UInt8)} {wc:Nat} {aa:Option Addr} {ac:Nat} (h:CHo w0 w b cv nv s p ((n,k)::r) A (some ⟨wb,0,none⟩) wc aa ac) (k':Nat) :
  CHo w0 (w.setCell ⟨wb,r.length * 5+4,none⟩ (.int .i64 k')) b cv nv s p ((n,k')::r) A (some ⟨wb,0,none⟩) wc aa ac∧FrT w (w.setCell ⟨wb,r.length * 5+4,none⟩ (.int .i64 k')):=by
 obtain ⟨ys,hrow⟩:=h.row
 rw [Qf,List.reverse_cons] at hrow
 have hne:wb≠b:=Zfp hrow.owns h.box (by decide) wb rfl
 have hlow:w0.heap.size≤wb:=(hrow.owns.lt wb rfl).1
 obtain ⟨hR,hF⟩:=RowH.bump (ds:=r.reverse) (n:=n) (k:=k) (xs:=ys) (by rw [List.length_reverse]; exact hrow) k'
 rw [List.length_reverse] at hR hF
 have hk:Kept (only wb) w (w.setCell ⟨wb,r.length * 5+4,none⟩ (.int .i64 k')):=(Qx _ _).put _ _
 refine ⟨⟨Zea h.ext hk hlow,h.low,(hk.block b (Zab h.box) (fun e=>hne (by have e:b=wb:=e; exact e.symm))).trans h.box,⟨_,by rw [Qf,List.reverse_cons]; exact hR⟩,Zah h.ans (fun j hj=>hk.block j (h.ans.lt j hj).2 (fun e => ?_))⟩,hF⟩
 have e:j=wb:=e
 subst e
 rcases hrow.owns.2 with ⟨e',_⟩ | ⟨g,cap,cur,e',_,hg,_⟩
 ·simp at e'
 ·simp at e'
  obtain ⟨rfl,_⟩:=e'
  exact Zfp h.ans hg (by decide) _ hj rfl
theorem CHo.other {w0 w w':World} {b q:Nat} {cv nv:Value} {s:ByteArray} {p:Nat} {way:List (ND × Nat)} {A:List (List UInt8)} {wa:Option Addr} {wc:Nat} {aa:Option Addr} {ac:Nat} {cl:Array Value} (h:CHo w0 w b cv nv s p way A wa wc aa ac) (hk:Kept (only q) w w') (hq:w.heap[q]?=some (.cells cl 65 (0,0))) (hl:w0.heap.size≤q):CHo w0 w' b cv nv s p way A wa wc aa ac:=by
 obtain ⟨ys,hrow⟩:=h.row
 have hS:OffCode (only q) w:=fun k e=>by
  have e:k=q:=e
  subst e
  exact ⟨_,_,_,hq,by simp [Zcp]⟩
 refine ⟨Zea h.ext hk hl,h.low,(hk.block b (Zab h.box) (fun e => ?_)).trans h.box,⟨ys,Zah hrow.owns (fun k hj=>hk.block k (hrow.owns.lt k hj).2 (Zfp hrow.owns hq (by decide) k hj)),fun i d hd => ?_⟩,Zah h.ans (fun k hj=>hk.block k (h.ans.lt k hj).2 (Zfp h.ans hq (by decide) k hj))⟩
 ·have e:b=q:=e
  subst e
  rw [h.box] at hq
  simp at hq
 ·obtain ⟨x0,x1,x2,x3,y0,y1,y2,y3,y4,g⟩:=hrow.all i d hd
  exact ⟨x0,x1,x2,x3,y0,y1,y2,y3,y4,g.keep hk hS⟩
theorem FrT.put {w w1 w2:World} {q:Nat} (h:FrT w w1) (hk:Kept (only q) w1 w2) (hq:w.heap.size≤q):FrT w w2:=fun k cl t fr e ht=>by
 have h1:=h k cl t fr e ht
 exact (hk.block k (Zab h1) (fun e'=>by have e':k=q:=e'; have:=Zab e; omega)).trans h1
theorem box4 {w:World} {b:Nat} {u0 u1 u2 u3:Value} {t:TypeId} (h:w.heap[b]?=some (.cells #[u0,u1,u2,u3] t (0,0))) :
  w.cell? ⟨b,0,none⟩=some u0∧w.cell? ⟨b,1,none⟩=some u1∧w.cell? ⟨b,2,none⟩=some u2∧w.cell? ⟨b,3,none⟩=some u3∧∀ i,w.frozen? ⟨b,i,none⟩=false :=
 ⟨Zaa h 0 _ rfl,Zaa h 1 _ rfl,Zaa h 2 _ rfl,Zaa h 3 _ rfl,fun i=>Zae h i⟩
def Zwd (w0 w:World) (b:Nat) (cv nv:Value) (s:ByteArray) (p:Nat) (n:ND) (r:List (ND × Nat)) (A:List (List UInt8)) (L:Nat) (N:Option (Nat × Cls)) (e:Ending) (w':World):Prop:=FrT w w' ∧
 ((N=none∧e = .returned (.tuple #[.int .i64 0,.agg #[.slice none 0 0,.slice none 0 0,.slice none 0 0,.int .i64 0],.int .i64 0])∧HoIn w0 w' b cv nv s p ((n,L)::r) A) ∨
 (∃ j c,N=some (j,c)∧∃ g1 g2 g3 v1 v2 v3 q1 q2 q3,∃ uu o:Nat,e = .returned (.tuple #[.int .i64 j,.agg #[.slice g1 g2 g3,.slice v1 v2 v3,.slice q1 q2 q3,.int .i64 uu],.int .i64 o])∧HoIn w0 w' b cv nv s p ((n,j+1)::r) A∧((o=2∧(tryN n c j).2=3)∨(o=1∧((tryN n c j).2=1∨(tryN n c j).2=2)∧CNode w' (.slice g1 g2 g3) (.slice v1 v2 v3) (.slice q1 q2 q3) (.int .i64 uu) (tryN n c j).1))))
theorem Yfp (w0 w:World) (b:Nat) (ca:Option Addr) (cc:Nat) (nv:Value) (s:ByteArray) (p:Nat) (n:ND) (k:Nat) (r:List (ND × Nat)) (A:List (List UInt8)) (cs:List Cls) (xs:List (List Value)) (h:HoIn w0 w b (.slice ca cs.length cc) nv s p ((n,k)::r) A) (hP:ProgIn w0 (.slice ca cs.length cc) cs xs) (hg:n.goals≠[]) (hk:k≤cs.length) (hrl:r.length≤20000) (hcs:∀ c ∈ cs,COk c∧CNm c) (hcf:∀ c ∈ cs,CFew c) (hcl:cs.length≤24) :
  Calls Tryz.prog 58 #[.pointer (some ⟨b,0,none⟩)] w (Zwd w0 w b (.slice ca cs.length cc) nv s p n r A cs.length (Zfn cs n (cs.length - k) k)):=by
 obtain ⟨N,hN⟩:∃ N,N=Zfn cs n (cs.length - k) k:=⟨_,rfl⟩
 rw [← hN]
 have hb4:∃ wa wc,w.cell? ⟨b,4,none⟩=some (.slice wa (r.length+1) wc)∧b<w.heap.size:=by
  obtain ⟨wa,wc,aa,ac,h⟩:=h
  exact ⟨wa,wc,Zaa h.box 4 _ rfl,Zab h.box⟩
 obtain ⟨wa,wc,b4,hbl⟩:=hb4
 have H:=Zac h
 have HP:=Zac hP
 have Hg:=Zac hg
 have Hcs:=Zac hcs
 have Hcf:=Zac hcf
 have HN:=Zac hN
 clear h hP hg hcs hcf hN
 go_enter Tryz.func58,Tryz.ntmps58
 go_wp2
 go_loopg [6] (cs.length+1) (fun gk tv wr=>∃ k':Nat,k'≤cs.length∧cs.length - k'<gk∧Zfn cs n (cs.length - k') k'=N∧HoIn w0 wr b (.slice ca cs.length cc) nv s p ((n,k')::r) A∧FrT w wr∧wr.heap[w.heap.size]?=some (.cells #[.slice none 0 0,.slice none 0 0,.slice none 0 0,.int .i64 0] 65 (0,0)))
 case atStart=>exact ⟨k,hk,by omega,HN.out.symm,H.out.grow (Ext.of (by repeat' (first | with_reducible(first|exact Qx _ _|apply Kept.drew|apply Kept.drewN|apply Qz|refine Qy ?_ ?_ _)|exact fun h=>absurd h (by simp <;> omega)))),FrT.of_ext (Ext.of (by repeat' (first | with_reducible(first|exact Qx _ _|apply Kept.drew|apply Kept.drewN|apply Qz|refine Qy ?_ ?_ _)|exact fun h=>absurd h (by simp <;> omega)))),heap_alloc_new w _⟩
 case round =>
  clear b4 hk
  obtain ⟨k,hk,hgk,hnx,⟨wa,wc,aa,ac,h⟩,hF,hres⟩:=hrel
  have hbx:=h.box
  simp only [Qf] at hbx
  obtain ⟨b0,b1,b2,b3,b4,b5,bf⟩:=box6 hbx
  obtain ⟨ys,hrow⟩:=h.row
  simp only [Qf,List.reverse_cons] at hrow
  have ho:=hrow.owns
  rw [Qg,List.length_reverse,Qn] at ho
  obtain ⟨wb,wcap,wcur,hwe,_,hwb,hwcap⟩:=Zao ho (by omega)
  simp only [Value.slice.injEq] at hwe
  obtain ⟨rfl,_,rfl⟩:=hwe
  obtain ⟨x0,x1,x2,x3,y0,y1,y2,y3,y4,hnode⟩:=hrow.all r.length (n,k) (by rw [Qd (by simp)]; simp)
  have c4:=Zai ho _ _ y4
  simp only at c4
  have hwf:=fun i=>Zae hwb i
  have hbl':=Zab hbx
  have hwbl:=Zab hwb
  have hrl':(0:Int)≤(r.length:Int):=by omega
  have hrlt:r.length<r.length+1:=by omega
  have hrlt':(r.length:Int)<(r.length:Int)+1:=by omega
  have Hres:=Zac hres
  have HF:=Zac hF
  have Hh:=Zac h
  have hz:=Zab hres
  have hlow:w0.heap.size≤w.heap.size:=by
   obtain ⟨_,_,_,_,h⟩:=H.out
   exact h.ext.size
  by_cases hlt:k<cs.length
  ·have hlt':(k:Int)<(cs.length:Int):=by omega
   clear hbx hrow ho hwb y0 y1 y2 y3 y4 hnode h hF hres
   go_wp2_with fail
   go_quiet (fail)
   go_wp2_with fail
   obtain ⟨W4,hW4⟩:∃ W4,W4=(wr.drewN nq).setCell ⟨wb,r.length * 5+4,none⟩ (.int .i64 ((k:Int)+1)):=⟨_,rfl⟩
   rw [← hW4]
   have hE0:Ext wr (wr.drewN nq):=Ext.of ((Qx _ wr).drewN _)
   obtain ⟨hC4,hF4⟩:=(Hh.out.grow hE0).bump (k+1)
   rw [show ((k+1:Nat):Int)=(k:Int)+1 by omega,← hW4] at hC4 hF4
   have hFw:FrT wr W4:=(FrT.of_ext hE0).trans hF4
   have hbx4:=hC4.box
   simp only [Qf] at hbx4
   clear b0 b1 b2 b3 b4 b5 bf c4 hwf
   obtain ⟨b0,b1,b2,b3,b4,b5,bf⟩:=box6 hbx4
   obtain ⟨ys4,hrow4⟩:=hC4.row
   simp only [Qf,List.reverse_cons] at hrow4
   have ho4:=hrow4.owns
   rw [Qg,List.length_reverse,Qn] at ho4
   obtain ⟨x0,x1,x2,x3,y0,y1,y2,y3,y4,hnode⟩:=hrow4.all r.length (n,k+1) (by rw [Qd (by simp)]; simp)
   obtain ⟨n1,hN1,rfl,hOk,hNm,hFe,hSm⟩:=hnode
   obtain ⟨ga,gcap,rfl⟩:=hN1.goals.shape
   obtain ⟨va',vcap',rfl⟩:=hN1.vals.shape
   obtain ⟨ra',rcap',rfl⟩:=hN1.done.shape
   simp only [Ql] at hN1 y0 y1 y2
   have c0:=Zai ho4 _ _ y0
   have c1:=Zai ho4 _ _ y1
   have c2:=Zai ho4 _ _ y2
   have c3:=Zai ho4 _ _ y3
   obtain ⟨c,hc⟩:∃ c,cs[k]?=some c:=⟨_,Qb hlt⟩
   have hP4:=HP.out.ext hC4.ext
   obtain ⟨lb,lcap,lcur,hle,_,hlb,_⟩:=Zao hP4.owns (by omega)
   simp only [Value.slice.injEq] at hle
   obtain ⟨rfl,_,rfl⟩:=hle
   obtain ⟨cv0,cv1,cv2,l0,l1,l2,hcl2⟩:=hP4.cell hc
   obtain ⟨d0,d1,rfl⟩:=Zad hcl2.head
   obtain ⟨d2,d3,rfl⟩:=hcl2.body.shape
   obtain ⟨d4,d5,rfl⟩:=Zad hcl2.names
   have hbl4:=Zab hbx4
   have hwbl4:wb<W4.heap.size:=World.block_lt_of_cell? W4 ⟨wb,r.length * 5,none⟩ c0
   have hlbl:lb<W4.heap.size:=World.block_lt_of_cell? W4 ⟨lb,k * 3,none⟩ l0
   obtain ⟨hco,hcm⟩:=Hcs.out c (Qh hc)
   have HIc:Hid (∀ Z u,Ext W4.drew u→(∀ k,Z k→W4.heap.size≤k∧k<u.heap.size)→Calls Tryz.prog 52 #[.agg #[.slice ga n1.goals.length gcap,.slice va' n1.vals.length vcap',.slice ra' n1.done.length rcap',.int .i64 n1.vars],.agg #[.slice d0 c.head.length d1,.slice d2 c.body.length d3,.slice d4 c.names.length d5]] u fun e u'=>∃ r,e = .returned r∧Ext u u'∧TryX n1 c k Z r u'):=fun Z u hu hZ=>by
    have hwu:Ext W4 u:=hu.undrew
    refine (Zqq u _ _ _ _ _ _ n1 c k hOk hco (hN1.ext hwu) (hcl2.ext hwu)).mono ?_
    intro e u' h
    exact h.toX (fun j hj=>(hZ j hj).2)
   have Hco:=Zac hco
   have HOk:=Zac hOk
   have HNm:=Zac hNm
   have HFe:=Zac hFe
   have HSm:=Zac hSm
   have Hcm:=Zac hcm
   have HCf:Hid (CFew c):=Hcf.out c (Qh hc)
   have HC4:=Zac hC4
   have HF4:=Zac (HF.out.trans hFw)
   have Hres4:=Zac (hFw _ _ _ _ Hres.out (by simp [HoTy]))
   have Hnx:Hid ((if (tryN n c k).2=0 then Zfn cs n (cs.length - (k+1)) (k+1) else some (k,c))=N):=by
    show _=_
    rw [← hnx,show cs.length - k=(cs.length - (k+1))+1 by omega,Zfn,hc]
   have hk2:k+1≤cs.length:=hlt
   clear hW4 hE0 hC4 hF4 hFw hbx4 hrow4 ho4 y0 y1 y2 y3 y4 hN1 hP4 hcl2 hlb hco hOk hNm hFe hSm hcm hnx hc
   refine Zga (by kernel_rfl) [.pur (.pointer (some ⟨b,0,none⟩)),.pur (.pointer (some ⟨b,0,none⟩)),.pur (.pointer (some ⟨b,4,none⟩)),.pur (.slice (some ⟨wb,0,none⟩) (r.length+1) wc),.pur (.int .i64 r.length),.pur (.pointer (some ⟨wb,r.length * 5,none⟩)),.pur (.pointer (some ⟨wb,r.length * 5,none⟩)),.pur (.agg #[.slice ga n1.goals.length gcap,.slice va' n1.vals.length vcap',.slice ra' n1.done.length rcap',.int .i64 n1.vars]),
    .pur (.pointer (some ⟨b,0,none⟩)),.pur (.pointer (some ⟨b,0,none⟩)),.pur (.pointer (some ⟨b,0,none⟩)),.pur (.slice (some ⟨lb,0,none⟩) cs.length cc),.pur (.int .i64 k),.pur (.pointer (some ⟨lb,k * 3,none⟩)),.pur (.agg #[.slice d0 c.head.length d1,.slice d2 c.body.length d3,.slice d4 c.names.length d5]),
    .cal,.post (fun v=>v),.post (Zdm 0),.post (Zdm 1),.alo 65 #[.slice none 0 0,.slice none 0 0,.slice none 0 0,.int .i64 0] 20 (fun v=>cellsOf (Zdm 0 v)),.sto 19,.post (Zdm 1)] 15 (by kernel_rfl) (TryX n1 c k) 52 _ TryX.stable HIc.out ?_ rfl (by decide) ?_
   ·refine ⟨fun vc β u hu => ?_,fun vc β u hu => ?_,fun vc β u hu => ?_,fun vc β u hu => ?_,fun vc β u hu => ?_,fun vc β u hu => ?_,fun vc β u hu => ?_,fun vc β u hu => ?_,fun vc β u hu => ?_,fun vc β u hu => ?_,fun vc β u hu => ?_,fun vc β u hu => ?_,fun vc β u hu => ?_,fun vc β u hu => ?_,fun vc β u hu => ?_,fun vc β u => ?_,?_,?_,?_,fun vc β u => ?_,?_,?_,trivial⟩
    all_goals try (simp [pa,Kd.val,go_sem,hu.up b0,hu.up b4,hu.up c0,hu.up c1,hu.up c2,hu.up c3,hu.up l0,hu.up l1,hu.up l2,hlt]; done)
    all_goals try (simp [pa,Kd.val,go_sem]; done)
    all_goals try (rintro vc β Z u ⟨g1,g2,g3,v1,v2,v3,q1,q2,q3,uu,qq,rfl,_⟩; simp [pa,Kd.val,go_sem,Zdm]; done)
    all_goals try (simp [pa,Kd.val,go_sem]; intro h; omega)
    rintro vc β Z u t z sx cl he ⟨g1,g2,g3,v1,v2,v3,q1,q2,q3,uu,qq,rfl,_⟩ hb
    simp at he
    obtain ⟨rfl,rfl,rfl,rfl⟩:=he
    have z0:=Zaa hb 0 _ rfl
    have z1:=Zaa hb 1 _ rfl
    have z2:=Zaa hb 2 _ rfl
    have z3:=Zaa hb 3 _ rfl
    have zf:=fun i=>Zae hb i
    refine ⟨_,?_,Zaf (Zaf (Zaf (Zaf hb 0 _) 1 _) 2 _) 3 _,((((Qx (only (β 19)) u).put 0 _).put 1 _).put 2 _).put 3 _⟩
    simp [pa,Kd.val,go_sem,z0,z1,z2,z3,zf,Zdm]
   rintro vc β w5 hext5 ⟨g1,g2,g3,v1,v2,v3,q1,q2,q3,uu,qq,rfl,hqq⟩ hbox _
   have hext5:=hext5.undrew
   obtain ⟨hb0,hbx⟩:=hbox 19 _ _ _ _ rfl
   have hbx':w5.heap[β 19]?=some (.cells #[.slice g1 g2 g3,.slice v1 v2 v3,.slice q1 q2 q3,.int .i64 uu] 65 (0,0)):=hbx
   generalize hbe:β 19=bt at *
   have HC5:=Zac (HC4.out.grow hext5)
   have HF5:=Zac (HF4.out.trans (FrT.of_ext hext5))
   have hres5:=(hext5.block _ (Zab Hres4.out)).trans Hres4.out
   have Hres5:=Zac hres5
   clear b0 b1 b2 b3 b4 b5 bf c0 c1 c2 c3 l0 l1 l2
   simp only [paAll,pa,Kd.val,if_true,Act.put,Zdm]
   rw [hbe]
   rcases hqq with ⟨rfl,hq⟩ | ⟨rfl,ch,hq⟩ | ⟨rfl,ch,q0,hq12,hq,rfl,rfl,hg',hv',hr'⟩
   ·have hq0:(tryN n c k).2=0:=by
     rcases hq with h | h
     ·exact absurd (List.eq_nil_of_length_eq_zero (by rw [← HSm.out.gl,h]; rfl)) Hg.out
     ·exact (Zhi HOk.out HSm.out Hco.out h).1.symm
    have Hn5:Hid (Zfn cs n (cs.length - (k+1)) (k+1)=N):=by show _=_; rw [← Hnx.out,if_pos hq0]
    clear hbx hbx' hbox hext5 hres5 hq hq0
    go_wp2
    go_roundg (cs.length - k)
    case measure=>omega
    case rel=>exact ⟨k+1,hk2,by omega,Hn5.out,⟨_,_,_,_,HC5.out⟩,HF5.out,Hres5.out⟩
   ·have hq3:(tryN n c k).2=3:=(Zhi HOk.out HSm.out Hco.out hq).1.symm
    have Hfin:Hid (∀ w6,Kept (only w.heap.size) w5 w6→Zwd w0 w b (.slice (some ⟨lb,0,none⟩) cs.length cc) nv s p n r A cs.length N (.returned (.tuple #[.int .i64 k,.agg #[.slice g1 g2 g3,.slice v1 v2 v3,.slice q1 q2 q3,.int .i64 uu],.int .i64 2])) w6):=fun w6 hK=>by
     refine ⟨HF5.out.put hK (Qe _),Or.inr ⟨k,c,?_,g1,g2,g3,v1,v2,v3,q1,q2,q3,uu,2,rfl,⟨_,_,_,_,HC5.out.other hK Hres5.out hlow⟩,Or.inl ⟨rfl,hq3⟩⟩⟩
     rw [← Hnx.out,if_neg (by omega)]
    obtain ⟨r0,r1,r2,r3,rf⟩:=box4 hres5
    obtain ⟨z0,z1,z2,z3,zf⟩:=box4 hbx'
    have hrl5:=Zab hres5
    have hbtl:=Zab hbx'
    clear hbx hbx' hbox hext5 hres5 hq hq3
    go_wp2_with fail
    go_region
    all_goals
     go_wp2
     refine bodyPost_ret (v := .tuple #[.int .i64 k,.agg #[.slice g1 g2 g3,.slice v1 v2 v3,.slice q1 q2 q3,.int .i64 uu],.int .i64 2]) (by simp [results,Tryz.results58,go_sem,r0,r1,r2,r3,rf]) rfl ?_
     exact Hfin.out _ (by repeat (first | exact Qx _ _ | apply Qz | apply Kept.put | apply Kept.drew))
   ·obtain ⟨e1,e2⟩:=Zhi HOk.out HSm.out Hco.out hq
    obtain ⟨hOk2,hSm2⟩:=e2 hq12
    have hk12:(tryN n c k).2=1∨(tryN n c k).2=2:=by rw [← e1]; exact hq12
    have hNm2:=Ydm hq hq12 HNm.out Hcm.out
    have hFw2:=Zvg hq hq12 HFe.out HCf.out
    obtain ⟨vs1,hg1,_⟩:=hg'
    obtain ⟨vs2,hv1,_⟩:=hv'
    obtain ⟨vs3,hr1,_⟩:=hr'
    have hCN:CNode w5 (.slice g1 ch.goals.length g3) (.slice v1 v2 v3) (.slice q1 q2 q3) (.int .i64 ch.vars) (tryN n c k).1:=⟨ch,⟨⟨vs1,hg1⟩,⟨vs2,hv1⟩,⟨vs3,hr1⟩⟩,rfl,hOk2,hNm2,hFw2,hSm2⟩
    have hS5:OffCode (only w.heap.size) w5:=fun j e=>by
     have e:j=w.heap.size:=e
     subst e
     exact ⟨_,_,_,Hres5.out,by simp [Zcp]⟩
    obtain ⟨G,hG⟩:∃ G,G=ch.goals.length:=⟨_,rfl⟩
    obtain ⟨uu,huu⟩:∃ uu,uu=ch.vars:=⟨_,rfl⟩
    rw [← hG,← huu] at hCN
    rw [← hG] at hbx'
    rw [← huu] at hbx'
    have Hfin:Hid (∀ w6,Kept (only w.heap.size) w5 w6→Zwd w0 w b (.slice (some ⟨lb,0,none⟩) cs.length cc) nv s p n r A cs.length N (.returned (.tuple #[.int .i64 k,.agg #[.slice g1 G g3,.slice v1 v2 v3,.slice q1 q2 q3,.int .i64 uu],.int .i64 1])) w6):=fun w6 hK=>by
     refine ⟨HF5.out.put hK (Qe _),Or.inr ⟨k,c,?_,g1,G,g3,v1,v2,v3,q1,q2,q3,uu,1,rfl,⟨_,_,_,_,HC5.out.other hK Hres5.out hlow⟩,Or.inr ⟨rfl,hk12,hCN.keep hK hS5⟩⟩⟩
     rw [← Hnx.out,if_neg (by omega)]
    obtain ⟨r0,r1,r2,r3,rf⟩:=box4 hres5
    obtain ⟨z0,z1,z2,z3,zf⟩:=box4 hbx'
    have hrl5:=Zab hres5
    have hbtl:=Zab hbx'
    rw [← hG,← huu]
    clear hbx hbx' hbox hext5 hres5 hq hq12 hk12 e1 e2 hOk2 hSm2 hNm2 hFw2 hg1 hv1 hr1 hCN hS5 hG huu
    go_wp2_with fail
    go_region
    all_goals
     go_wp2
     refine bodyPost_ret (v := .tuple #[.int .i64 k,.agg #[.slice g1 G g3,.slice v1 v2 v3,.slice q1 q2 q3,.int .i64 uu],.int .i64 1]) (by simp [results,Tryz.results58,go_sem,r0,r1,r2,r3,rf]) rfl ?_
     exact Hfin.out _ (by repeat (first | exact Qx _ _ | apply Qz | apply Kept.put | apply Kept.drew))
  ·have he:k=cs.length:=by omega
   have hlt':¬ (k:Int)<(cs.length:Int):=by omega
   obtain ⟨r0,r1,r2,r3,rf⟩:=box4 hres
   have Hn:Hid (N=none):=by show _=_; rw [← hnx,he,Nat.sub_self]; rfl
   clear hbx hrow ho hwb y0 y1 y2 y3 y4 hnode h hF hres
   go_wp2_with fail
   go_quiet (fail)
   go_wp2
   refine bodyPost_ret (v := .tuple #[.int .i64 0,.agg #[.slice none 0 0,.slice none 0 0,.slice none 0 0,.int .i64 0],.int .i64 0]) (by simp [results,Tryz.results58,go_sem,r0,r1,r2,r3,rf]) rfl ?_
   have hK:Kept (only w.heap.size) wr (((((wr.drewN nq).setCell ⟨w.heap.size,0,none⟩ (.slice none 0 0)).setCell ⟨w.heap.size,1,none⟩ (.slice none 0 0)).setCell ⟨w.heap.size,2,none⟩ (.slice none 0 0)).setCell ⟨w.heap.size,3,none⟩ (.int .i64 0)):=(((((Qx _ wr).drewN _).put 0 _).put 1 _).put 2 _).put 3 _
   exact ⟨HF.out.put hK (Qe _),Or.inl ⟨Hn.out,rfl,_,_,_,_,he ▸ Hh.out.other hK Hres.out hlow⟩⟩
theorem Zxu {cs:List Cls} {n:ND}:∀ {f k j:Nat} {c:Cls},Zfn cs n f k=some (j,c)→cs[j]?=some c∧j<k+f:=by
 intro f
 induction f with
 | zero=>intro k j c h; simp [Zfn] at h
 | succ f ih =>
  intro k j c h
  rw [Zfn] at h
  cases hc:cs[k]? with
  | none=>rw [hc] at h; simp at h
  | some d =>
   rw [hc] at h
   simp only at h
   split at h
   ·obtain ⟨h1,h2⟩:=ih h
    exact ⟨h1,by omega⟩
   ·simp at h
    obtain ⟨rfl,rfl⟩:=h
    exact ⟨hc,by omega⟩
structure HoP (w0:World) (ca:Option Addr) (cc:Nat) (nv:Value) (cs:List Cls) (names:Names):Prop where
 prog:∃ xs,ProgIn w0 (.slice ca cs.length cc) cs xs
 ok:∀ c ∈ cs,COk c∧CNm c
 cf:∀ c ∈ cs,CFew c
 cl:cs.length≤24
 row:w0.ownsRow 0 9 1 nv names.length (strs names)
 few:names.length≤60
 short:∀ x ∈ names,x.length≤8
theorem HoP.enter {w0 w:World} {b:Nat} {ca:Option Addr} {cc:Nat} {nv:Value} {s:ByteArray} {p:Nat} {way:List (ND × Nat)} {A:List (List UInt8)} {cs:List Cls} {names:Names} {gv vv rv uv:Value} {n:ND} (hq:HoP w0 ca cc nv cs names) (h:HoIn w0 w b (.slice ca cs.length cc) nv s p way A) (hn:CNode w gv vv rv uv n) (hvl:n.vals.length=names.length) (hs:s.size≤20000) (hp:p≤s.size) (hA:A.length≤20000) (hwl:way.length≤20000) :
  Calls Tryz.prog 49 #[.pointer (some ⟨b,0,none⟩),.agg #[gv,vv,rv,uv]] w (Yfo w0 w b (.slice ca cs.length cc) nv s (Zcc names s.data.toList n p way A)):=by
 by_cases hg:n.goals=[]
 ·exact Zwb w0 w b _ nv s p way A names gv vv rv uv n h hn hg hq.row hvl hq.few hq.short hs hp hA
 ·exact Zwc w0 w b _ nv s p way A names gv vv rv uv n h hn hg hs hp hwl
theorem Yig (w0 w:World) (b:Nat) (ca:Option Addr) (cc:Nat) (nv:Value) (s:ByteArray) (p:Nat) (n:ND) (k:Nat) (r:List (ND × Nat)) (A:List (List UInt8)) (cs:List Cls) (names:Names) (hq:HoP w0 ca cc nv cs names) (h:HoIn w0 w b (.slice ca cs.length cc) nv s p ((n,k)::r) A) (hg:n.goals≠[]) (hvl:n.vals.length=names.length) (hk:k≤cs.length) (hs:s.size≤20000) (hp:p≤s.size) (hA:A.length≤20000) (hrl:r.length+1≤20000) :
  Calls Tryz.prog 50 #[.pointer (some ⟨b,0,none⟩)] w (Yfo w0 w b (.slice ca cs.length cc) nv s (goM cs names s.data.toList n k p r A)):=by
 obtain ⟨xs,hP⟩:=hq.prog
 have HNx:=Zac (Yfp w0 w b ca cc nv s p n k r A cs xs h hP hg hk (by omega) hq.ok hq.cf hq.cl)
 obtain ⟨M,hM⟩:∃ M,M=goM cs names s.data.toList n k p r A:=⟨_,rfl⟩
 have hin:∀ j c,Zfn cs n (cs.length - k) k=some (j,c)→j<24:=fun j c h=>by
  have:=(Zxu h).2
  have:=hq.cl
  omega
 have hm:=hM
 unfold goM at hm
 rw [← hM]
 obtain ⟨N,hN⟩:∃ N,N=Zfn cs n (cs.length - k) k:=⟨_,rfl⟩
 rw [← hN] at hm hin HNx
 have Hm:=Zac hm
 have Hq:=Zac hq
 have Hin:=Zac hin
 clear h hg hq hP hM hm hN hin
 go_enter Tryz.func50,Tryz.ntmps50
 go_wp2_with fail
 refine HNx.out.mono ?_
 rintro e w1 ⟨hF1,⟨hN0,rfl,h1⟩ | ⟨j,c,hN1,g1,g2,g3,v1,v2,v3,q1,q2,q3,uu,o,rfl,h1,ho⟩⟩
 ·obtain ⟨W,hW⟩:∃ W,W=w1.alloc (.cells #[.slice none 0 0,.slice none 0 0,.slice none 0 0,.int .i64 0] 65):=⟨_,rfl⟩
  have hE:Ext w1 W:=by rw [hW]; exact (Ext.of (by repeat' (first | with_reducible(first|exact Qx _ _|apply Kept.drew|apply Kept.drewN|apply Qz|refine Qy ?_ ?_ _)|exact fun h=>absurd h (by simp <;> omega))))
  have HL:=Zac (Ybb w0 W b _ nv s p (n,cs.length) r A (h1.grow hE) hs hp (by omega))
  have Hm1:Hid (M=if s.data.toList[p]?=some 41 then ⟨true,p+1,r,A⟩ else ⟨false,p,(n,cs.length)::r,A⟩):=by show _=_; rw [Hm.out,hN0]
  have HF1:=Zac (hF1.trans (FrT.of_ext hE))
  have HW:=Zac hW
  clear h1 hF1 hE hW hN0 HNx Hm
  go_wp2_with fail
  rw [← HW.out]
  refine HL.out.mono ?_
  rintro e w2 ⟨hF2,⟨hc,rfl,h2⟩ | ⟨hc,rfl,h2⟩⟩
  ·have Hm2:Hid (M=⟨true,p+1,r,A⟩):=by show _=_; rw [Hm1.out,if_pos hc]
   have HF2:=Zac (HF1.out.trans hF2)
   have H2:=Zac h2
   clear hF2 h2 hc HL
   go_wp2
   go_ret
   rw [Hm2.out]
   exact ⟨HF2.out,rfl,H2.out⟩
  ·have Hm2:Hid (M=⟨false,p,(n,cs.length)::r,A⟩):=by show _=_; rw [Hm1.out,if_neg hc]
   have HF2:=Zac (HF1.out.trans hF2)
   have H2:=Zac h2
   clear hF2 h2 hc HL
   go_wp2
   go_ret
   rw [Hm2.out]
   exact ⟨HF2.out,rfl,H2.out⟩
 ·obtain ⟨W,hW⟩:∃ W,W=w1.alloc (.cells #[.slice g1 g2 g3,.slice v1 v2 v3,.slice q1 q2 q3,.int .i64 uu] 65):=⟨_,rfl⟩
  have hE:Ext w1 W:=by rw [hW]; exact (Ext.of (by repeat' (first | with_reducible(first|exact Qx _ _|apply Kept.drew|apply Kept.drewN|apply Qz|refine Qy ?_ ?_ _)|exact fun h=>absurd h (by simp <;> omega))))
  have hjl:=Hin.out j c hN1
  have HF1:=Zac (hF1.trans (FrT.of_ext hE))
  have H1:=Zac (h1.grow hE)
  have Hm1:=Hm.out
  rw [hN1] at Hm1
  simp only at Hm1
  rcases ho with ⟨rfl,h3⟩ | ⟨rfl,h12,hCN⟩
  ·have Hm2:Hid (M=⟨false,p,(n,j+1)::r,A⟩):=by show _=_; rw [Hm1,if_pos (Or.inl h3)]
   have HW:=Zac hW
   clear h1 hF1 hE hW hN1 HNx Hm Hm1 h3 Hin Hq
   go_wp2
   go_ret
   rw [← HW.out,Hm2.out]
   exact ⟨HF1.out,rfl,H1.out⟩
  ·obtain ⟨V,hV⟩:∃ V,V=(Zak (s.data.toList.drop p)).1:=⟨_,rfl⟩
   obtain ⟨Z,hZ⟩:∃ Z,Z=(Zak (s.data.toList.drop p)).2:=⟨_,rfl⟩
   have hnz:=Zds (s.data.toList.drop p)
   rw [List.length_drop,show s.data.toList.length=s.size by simp,← hV,← hZ] at hnz
   obtain ⟨hz1,hz2,hz3⟩:=hnz
   have HAt:=Zac (fun u=>Yet s p u (by omega) (by omega))
   rw [← hV,← hZ] at HAt
   rw [← hV,← hZ] at Hm1
   have hbW:W.heap[w1.heap.size]?=some (.cells #[.slice g1 g2 g3,.slice v1 v2 v3,.slice q1 q2 q3,.int .i64 uu] 65 (0,0)):=by rw [hW]; exact heap_alloc_new w1 _
   have HbW:=Zac hbW
   have HCN:=Zac (hCN.ext hE)
   have HW:=Zac hW
   have hvl2:(tryN n c j).1.vals.length=names.length:=by rw [Zkh h12]; exact hvl
   have hn3:(tryN n c j).2≠3:=by omega
   obtain ⟨wa,wc,aa,ac,hC⟩:=H1.out
   obtain ⟨b0,b1,b2,b3,b4,b5,bf⟩:=box6 hC.box
   have hbl:=Zab hC.box
   have hwW:=Zab hbW
   have HC:=Zac hC
   have HmA:=Zac Hm1
   clear h1 hF1 hE hW hN1 HNx Hm Hm1 Hin hV hZ hbW hCN hC h12
   go_wp2_with fail
   rw [← HW.out]
   go_quiet ((go_at_call 51; exact Calls.quiet_of_same (HAt.out _)))
   have hEq:Ext W (W.drewN nq):=Ext.of ((Qx _ W).drewN _)
   by_cases hz0:Z=0
   ·have Hm2:Hid (M=⟨false,p,(n,j+1)::r,A⟩):=by show _=_; rw [HmA.out,if_pos (Or.inr (Or.inl hz0))]
    have H2:=Zac (H1.out.grow hEq)
    have HF2:=Zac (HF1.out.trans (FrT.of_ext hEq))
    subst hz0
    clear hEq
    go_wp2
    go_ret
    rw [Hm2.out]
    exact ⟨HF2.out,rfl,H2.out⟩
   ·have hk1:(((p:Int)+(Z:Int)) == (p:Int))=false:=by rw [Qu]; omega
    by_cases hv:V=j
    ·subst hv
     have Hm2:Hid (M=Zcc names s.data.toList (tryN n c V).1 (p+Z) ((n,V+1)::r) A):=by show _=_; rw [HmA.out,if_neg (by rintro (h | h | h); exact hn3 h; exact hz0 h; exact h rfl)]
     have hk2:((V:Int) != (V:Int))=false:=by simp
     obtain ⟨w5,hw5⟩:∃ w5,w5=(W.drewN nq).setCell ⟨b,3,none⟩ (.int .i64 ((p:Int)+(Z:Int))):=⟨_,rfl⟩
     have hK5:Kept (only b) W w5:=by rw [hw5]; exact ((Qx _ _).drewN _).put 3 _
     obtain ⟨hC5,hF5⟩:=HC.out.upd (p':=p+Z) hK5 (by rw [hw5,show ((p+Z:Nat):Int)=(p:Int)+(Z:Int) by omega]; exact Zaf (w:=W.drewN nq) HC.out.box 3 _) HC.out.row
     have HEn:=Zac (Hq.out.enter (way:=(n,V+1)::r) (A:=A) (p:=p+Z) ⟨_,_,_,_,hC5⟩ (HCN.out.fr hF5) hvl2 hs (by omega) hA (by rw [Qf]; omega))
     have HF5:=Zac (HF1.out.trans hF5)
     have hb5:=hF5 _ _ _ _ HbW.out (by simp [HoTy])
     obtain ⟨z0,z1,z2,z3,zf⟩:=box4 hb5
     have hne:b≠w1.heap.size:=fun e=>by
      have h1:=HbW.out
      rw [← e,HC.out.box] at h1
      simp at h1
     have Hw5:=Zac hw5
     have hbl5:=Zab hb5
     obtain ⟨y0,y1,y2,y3,yf⟩:=box4 HbW.out
     clear hEq hK5 hC5 hF5 hb5 hw5 HAt HmA
     go_wp2_with fail
     rw [← Hw5.out]
     refine HEn.out.mono ?_
     rintro e w6 ⟨hF6,rfl,h6⟩
     have H6:=Zac h6
     have HF6:=Zac (HF5.out.trans hF6)
     rw [← Hm2.out] at H6
     have e1:(Zcc names s.data.toList (tryN n c V).1 (p+Z) ((n,V+1)::r) A)=M:=Hm2.out.symm
     rw [e1]
     clear h6 hF6 HEn Hm2 e1 b0 b1 b2 b3 b4 b5 bf z0 z1 z2 z3 zf y0 y1 y2 y3 yf
     go_wp2
     go_ret
     exact ⟨HF6.out,rfl,H6.out⟩
    ·have hk2:((V:Int) != (j:Int))=true:=by rw [bne_iff_ne]; omega
     have Hm2:Hid (M=⟨false,p,(n,j+1)::r,A⟩):=by show _=_; rw [HmA.out,if_pos (Or.inr (Or.inr hv))]
     have H2:=Zac (H1.out.grow hEq)
     have HF2:=Zac (HF1.out.trans (FrT.of_ext hEq))
     clear hEq hv
     go_wp2
     go_ret
     rw [Hm2.out]
     exact ⟨HF2.out,rfl,H2.out⟩
structure WayOk (cs:List Cls) (names:Names) (l:List UInt8) (M:HM):Prop where
 way:∀ y ∈ M.way,y.1.goals≠[]∧y.2≤cs.length∧y.1.vals.length=names.length
 le:M.at'≤l.length
 cnt:M.ans.length+M.way.length≤M.at'
theorem Ztu {cs:List Cls} {names:Names} {l:List UInt8} {n:ND} {p:Nat} {way:List (ND × Nat)} {A:List (List UInt8)} (h:WayOk cs names l ⟨true,p,way,A⟩) (hn:n.vals.length=names.length):WayOk cs names l (Zcc names l n p way A)∧((Zcc names l n p way A).ok=true→p<(Zcc names l n p way A).at'):=by
 obtain ⟨h1,h2,h3⟩:=h
 simp only at h1 h2 h3
 unfold Zcc
 split
 ·split
  ·rename_i hc
   have:=(Qa.1 hc).1
   exact ⟨⟨h1,this,by simp only [Qg,Qn]; omega⟩,fun _=>Nat.lt_succ_self _⟩
  ·exact ⟨⟨h1,h2,h3⟩,fun e=>by simp at e⟩
 ·rename_i hg
  split
  ·rename_i hc
   have:=(Qa.1 hc).1
   refine ⟨⟨fun y hy => ?_,this,by simp only [Qf]; omega⟩,fun _=>Nat.lt_succ_self _⟩
   rcases Qp.1 hy with rfl | hy
   ·exact ⟨hg,Qm _,hn⟩
   ·exact h1 y hy
  ·exact ⟨⟨h1,h2,h3⟩,fun e=>by simp at e⟩
theorem Ylr {cs:List Cls} {names:Names} {l:List UInt8} {n:ND} {k p:Nat} {r:List (ND × Nat)} {A:List (List UInt8)} (h:WayOk cs names l ⟨true,p,(n,k)::r,A⟩):WayOk cs names l (goM cs names l n k p r A)∧((goM cs names l n k p r A).ok=true→p<(goM cs names l n k p r A).at'):=by
 obtain ⟨h1,h2,h3⟩:=h
 simp only [Qf] at h1 h2 h3
 have hh:=h1 (n,k) (by simp)
 have hr:∀ y ∈ r,y.1.goals≠[]∧y.2≤cs.length∧y.1.vals.length=names.length:=fun y hy=>h1 y (by simp [hy])
 have hcons:∀ k',k'≤cs.length→∀ y ∈ (n,k')::r,y.1.goals≠[]∧y.2≤cs.length∧y.1.vals.length=names.length:=fun k' hk' y hy=>by
  rcases Qp.1 hy with rfl | hy
  ·exact ⟨hh.1,hk',hh.2.2⟩
  ·exact hr y hy
 unfold goM
 cases hN:Zfn cs n (cs.length - k) k with
 | none =>
  simp only
  split
  ·rename_i hc
   have:=(Qa.1 hc).1
   exact ⟨⟨hr,this,by simp only; omega⟩,fun _=>Nat.lt_succ_self _⟩
  ·exact ⟨⟨hcons _ (Qe _),h2,by simp only [Qf]; omega⟩,fun e=>by simp at e⟩
 | some jc =>
  obtain ⟨j,c⟩:=jc
  obtain ⟨hc,_⟩:=Zxu hN
  have hj:=(Qa.1 hc).1
  simp only
  split
  ·exact ⟨⟨hcons _ hj,h2,by simp only [Qf]; omega⟩,fun e=>by simp at e⟩
  ·rename_i hw
   have hs:=Zds (l.drop p)
   rw [List.length_drop] at hs
   have h12:(tryN n c j).2=1∨(tryN n c j).2=2:=by
    have h0:(tryN n c j).2≠0:=by
     have:∀ {f k:Nat},Zfn cs n f k=some (j,c)→(tryN n c j).2≠0:=by
      intro f
      induction f with
      | zero=>intro k h; simp [Zfn] at h
      | succ f ih =>
       intro k h
       rw [Zfn] at h
       cases hc:cs[k]? with
       | none=>rw [hc] at h; simp at h
       | some d =>
        rw [hc] at h
        simp only at h
        split at h
        ·exact ih h
        ·simp at h
         obtain ⟨rfl,rfl⟩:=h
         assumption
     exact this hN
    have h3:(tryN n c j).2≠3:=fun h=>hw (Or.inl h)
    have:=Zgd n c j
    omega
   have:=Ztu (cs:=cs) (names:=names) (l:=l) (n:=(tryN n c j).1) (p:=p+(Zak (l.drop p)).2) (way:=(n,j+1)::r) (A:=A) ⟨hcons _ hj,by simp only; omega,by simp only [Qf]; omega⟩ (by rw [Zkh h12]; exact hh.2.2)
   exact ⟨this.1,fun e=>by have:=this.2 e; omega⟩
def Zrb (w0 w:World) (R:HN) (e:Ending) (w':World):Prop:=FrT w w'∧Ext w0 w' ∧
 ((R.wrong=true∧e = .returned (.tuple #[.slice none 0 0,.agg #[.int .i64 7,.int .i64 R.at']]))∨(R.wrong=false∧∃ va vc,e = .returned (.tuple #[.slice va R.ans.length vc,.agg #[.int .i64 0,.int .i64 0]])∧w'.ownsRow w0.heap.size 9 1 (.slice va R.ans.length vc) R.ans.length (strs R.ans)))
theorem Znp (w0 w:World) (b:Nat) (ca:Option Addr) (cc:Nat) (nv:Value) (s:ByteArray) (cs:List Cls) (names:Names) (gv vv rv uv:Value) (n:ND) (R:HN) (hq:HoP w0 ca cc nv cs names) (h:HoIn w0 w b (.slice ca cs.length cc) nv s 0 [] []) (hn:CNode w gv vv rv uv n) (hvl:n.vals.length=names.length) (hs:s.size≤20000) (hR:Znb cs names s.data.toList (Zcc names s.data.toList n 0 [] []) R) :
  Calls Tryz.prog 35 #[.pointer (some ⟨b,0,none⟩),.agg #[gv,vv,rv,uv]] w (Zrb w0 w R):=by
 obtain ⟨ga,gc,va',vl',vc',ra,rl,rc,u,rfl,rfl,rfl,rfl,hu4⟩:=hn.shape
 obtain ⟨z,hz⟩:∃ z,z=n.goals.length:=⟨_,rfl⟩
 rw [← hz] at hn ⊢
 obtain ⟨W,hW⟩:∃ W,W=(w.alloc (.cells #[.slice ga z gc,.slice va' vl' vc',.slice ra rl rc,.int .i64 u] 65)).alloc (.cells #[.int .i64 0,.int .i64 0] 60):=⟨_,rfl⟩
 have hEW:Ext w W:=by rw [hW]; exact (Ext.of (by repeat' (first | with_reducible(first|exact Qx _ _|apply Kept.drew|apply Kept.drewN|apply Qz|refine Qy ?_ ?_ _)|exact fun h=>absurd h (by simp <;> omega))))
 have hbW:W.heap[w.heap.size+1]?=some (.cells #[.int .i64 0,.int .i64 0] 60 (0,0)):=by rw [hW]; exact Zdn (by simp) _
 have hsl:s.data.toList.length=s.size:=by simp
 have HEn:=Zac (hq.enter (h.grow hEW) (hn.ext hEW) hvl hs (Qm _) (by simp) (by simp))
 have hok:=Ztu (cs:=cs) (names:=names) (l:=s.data.toList) (n:=n) (p:=0) (way:=[]) (A:=[]) ⟨fun y hy=>by simp at hy,Qm _,by simp⟩ hvl
 have Hok:=Zac hok.1
 obtain ⟨M,hM⟩:∃ M,M=Zcc names s.data.toList n 0 [] []:=⟨_,rfl⟩
 rw [← hM] at HEn hR Hok
 have HR:=Zac hR
 have Hq:=Zac hq
 have HEW:=Zac hEW
 have HbW:=Zac hbW
 have HW:=Zac hW
 have Hsl:=Zac hsl
 have hlow:w0.heap.size≤w.heap.size:=by
  obtain ⟨_,_,_,_,h⟩:=h
  exact h.ext.size
 clear h hn hq hR hEW hbW hW hsl hok hM hz hvl
 go_enter Tryz.func35,Tryz.ntmps35
 go_wp2_with fail
 rw [← HW.out]
 refine HEn.out.mono ?_
 rintro e w1 ⟨hF1,rfl,h1⟩
 have H1:=Zac h1
 have HF1:=Zac hF1
 clear h1 hF1 HEn
 go_wp2
 go_loopg [6] (s.size+2) (fun gk hv wr=>∃ M:HM,hv = .bool M.ok∧Znb cs names s.data.toList M R∧WayOk cs names s.data.toList M∧(if M.ok then s.size - M.at'+1 else 0)<gk∧HoIn w0 wr b (.slice ca cs.length cc) nv s M.at' M.way M.ans∧FrT W wr)
 case atStart=>exact ⟨M,rfl,HR.out,Hok.out,by split <;> omega,H1.out,HF1.out⟩
 case round =>
  obtain ⟨⟨ok,p,way,A⟩,rfl,hG,hO,hgk,⟨wa,wc,aa,ac,hC⟩,hF⟩:=hrel
  simp only at hG hO hgk hC
  have hle:=hO.le
  have hcnt:=hO.cnt
  rw [Hsl.out] at hle
  simp only at hle hcnt
  have hbx:=hC.box
  obtain ⟨b0,b1,b2,b3,b4,b5,bf⟩:=box6 hbx
  have hbl:=Zab hbx
  have hf:=hF _ _ _ _ HbW.out (by simp [HoTy])
  obtain ⟨f0,f1,ff⟩:=box2 hf
  have hfl:=Zab hf
  have HC:=Zac hC
  have HF:=Zac hF
  have Hf:=Zac hf
  clear hC hF hf hbx
  cases ok with
  | false =>
   obtain ⟨hw,ha⟩:=hG.2 rfl
   simp only at ha
   have Hfin:Hid (∀ w2,Kept (only (w.heap.size+1)) wr w2→Zrb w0 w R (.returned (.tuple #[.slice none 0 0,.agg #[.int .i64 7,.int .i64 p]])) w2):=fun w2 hK=>by
    refine ⟨((FrT.of_ext HEW.out).trans HF.out).put hK (by omega),Zea HC.out.ext hK (by omega),Or.inl ⟨hw,by rw [ha]⟩⟩
   clear hG hO hgk hw ha
   go_wp2_with fail
   go_region
   all_goals
    go_wp2
    refine bodyPost_ret (v := .tuple #[.slice none 0 0,.agg #[.int .i64 7,.int .i64 p]]) (by simp [results,Tryz.results35,go_sem,f0,f1,ff]) rfl ?_
    exact Hfin.out _ (by repeat (first | exact Qx _ _ | apply Qz | apply Kept.put | apply Kept.drew))
  | true =>
   cases way with
   | nil =>
    have hr:=Zxa (hG.1 rfl)
    simp only at hr
    have Hfin:Hid (∀ w2,Kept (only (w.heap.size+1)) wr w2→Zrb w0 w R (.returned (.tuple #[.slice aa A.length ac,.agg #[.int .i64 0,.int .i64 0]])) w2):=fun w2 hK=>by
     refine ⟨((FrT.of_ext HEW.out).trans HF.out).put hK (by omega),Zea HC.out.ext hK (by omega),Or.inr ⟨by rw [hr],aa,ac,by rw [hr],?_⟩⟩
     rw [hr]
     exact Zah HC.out.ans (fun k hj=>hK.block k (HC.out.ans.lt k hj).2 (Zfp HC.out.ans Hf.out (by decide) k hj))
    clear hG hO hgk hr
    go_wp2
    refine bodyPost_ret (v := .tuple #[.slice aa A.length ac,.agg #[.int .i64 0,.int .i64 0]]) (by simp [results,Tryz.results35,go_sem,f0,f1,ff]) rfl ?_
    exact Hfin.out _ (by repeat (first | exact Qx _ _ | apply Qz | apply Kept.put | apply Kept.drew))
   | cons y r =>
    obtain ⟨n2,k2⟩:=y
    obtain ⟨hg1,hg2,hg3⟩:=hO.way (n2,k2) (by simp)
    have HGo:=Zac (Yig w0 wr b ca cc nv s p n2 k2 r A cs names Hq.out ⟨_,_,_,_,HC.out⟩ hg1 hg3 hg2 hs hle (by omega) (by simp only [Qf] at hcnt; omega))
    have HGm:=Zac (Zig (hG.1 rfl))
    obtain ⟨hO2,hlt2⟩:=Ylr hO
    obtain ⟨M2,hM2⟩:∃ M2,M2=goM cs names s.data.toList n2 k2 p r A:=⟨_,rfl⟩
    rw [← hM2] at HGo HGm hO2 hlt2
    have HO2:=Zac hO2
    have Hlt2:=Zac hlt2
    simp only [Qf] at b4 hcnt
    have hrl:(0:Int)<(r.length:Int)+1:=by omega
    have hgk2:s.size - p+1<gk:=by simpa using hgk
    clear hG hO hgk hg1 hg2 hg3 hO2 hlt2 hM2
    go_wp2_with fail
    refine HGo.out.mono ?_
    rintro e w2 ⟨hF2,rfl,h2⟩
    have H2:=Zac h2
    have HF2:=Zac (HF.out.trans hF2)
    clear h2 hF2 HGo b0 b1 b2 b3 b4 b5 bf f0 f1 ff
    go_wp2
    go_roundg (s.size - p+1)
    case measure=>omega
    case rel =>
     refine ⟨M2,rfl,HGm.out,HO2.out,?_,H2.out,HF2.out⟩
     split
     ·rename_i e
      have h1:=Hlt2.out e
      have h2:=HO2.out.le
      rw [Hsl.out] at h2
      omega
     ·omega
def Znq (p q t:ByteArray) (w:World) (e:Ending) (w':World):Prop:=Ext w w'∧∃ va vc,e = .returned (.tuple #[.slice va (allN p q t).1.length vc,.agg #[.int .i64 (allN p q t).2.1,.int .i64 (allN p q t).2.2]])∧w'.ownsRow w.heap.size 9 1 (.slice va (allN p q t).1.length vc) (allN p q t).1.length (strs (allN p q t).1)
theorem Znr {p q t:ByteArray} {w w':World} {er pl:Nat} (h:allN p q t=([],er,pl)) (hE:Ext w w'):Znq p q t w (.returned (.tuple #[.slice none 0 0,.agg #[.int .i64 er,.int .i64 pl]])) w':=by
 refine ⟨hE,none,0,?_,?_⟩
 ·rw [h]; rfl
 ·rw [h]; exact World.ownsRow_nil _ _ _ _
theorem Zwe (p q t:ByteArray) (w:World) (hp:p.size≤maxLen) (hq:q.size≤maxLen) (ht:t.size≤maxLen):Calls Tryz.prog 22 #[.string p,.string q,.string t] w (Znq p q t w):=by
 obtain ⟨W0,hW0⟩:∃ W0,W0=w.alloc (.cells #[.int .i64 0,.int .i64 0] 60):=⟨_,rfl⟩
 have HB:=Zac (Znf p q W0 hp hq)
 have hE0:Ext w W0:=by rw [hW0]; exact (Ext.of (by repeat' (first | with_reducible(first|exact Qx _ _|apply Kept.drew|apply Kept.drewN|apply Qz|refine Qy ?_ ?_ _)|exact fun h=>absurd h (by simp <;> omega))))
 have hb0:W0.heap[w.heap.size]?=some (.cells #[.int .i64 0,.int .i64 0] 60 (0,0)):=by rw [hW0]; exact heap_alloc_new w _
 have hs0:W0.heap.size=w.heap.size+1:=by rw [hW0]; simp
 have HW0:=Zac hW0
 have HE0:=Zac hE0
 have Hb0:=Zac hb0
 unfold maxLen at ht
 clear hp hq hW0 hE0 hb0
 go_enter Tryz.func22,Tryz.ntmps22
 go_wp2_with fail
 rw [← HW0.out]
 refine HB.out.mono ?_
 rintro e w1 ⟨hE1,hB⟩
 have hs1:=hE1.size
 have hb1:=(hE1.block _ (by omega)).trans Hb0.out
 obtain ⟨f0,f1,ff⟩:=box2 hb1
 have hfl:=Zab hb1
 have HE1:=Zac (HE0.out.trans (hE1.mono HE0.out.size))
 have Hb1:=Zac hb1
 clear hE1 hb1 HB
 have Hno:Hid (∀ w2 er pl,allN p q t=([],er,pl)→Kept (only w.heap.size) w1 w2→Znq p q t w (.returned (.tuple #[.slice none 0 0,.agg #[.int .i64 (er:Nat),.int .i64 (pl:Nat)]])) w2):=fun w2 er pl ha hK=>Znr ha (Zea HE1.out hK (Qe _))
 rcases hB with ⟨hno,rfl⟩ | ⟨⟨cs,hsome⟩,hno,rfl⟩ | ⟨cs,a,l1,lc,xs,h1,h2,h3,b1,bc,n1,nc,hsome,hask,rfl,hP,hT,hns⟩
 ·have Hh:Hid (allN p q t=([],4,0)):=by show _=_; simp [allN,hno]
  clear hno
  go_wp2
  refine bodyPost_ret (v := .tuple #[.slice none 0 0,.agg #[.int .i64 4,.int .i64 0]]) (by simp [results,Tryz.results22,go_sem,f0,f1,ff,hfl]) rfl ?_
  exact Hno.out _ 4 0 Hh.out (by repeat (first | exact Qx _ _ | apply Qz | apply Kept.put | apply Kept.drew))
 ·have Hh:Hid (allN p q t=([],5,0)):=by show _=_; simp [allN,hno,hsome]
  clear hno hsome
  go_wp2
  refine bodyPost_ret (v := .tuple #[.slice none 0 0,.agg #[.int .i64 5,.int .i64 0]]) (by simp [results,Tryz.results22,go_sem,f0,f1,ff,hfl]) rfl ?_
  exact Hno.out _ 5 0 Hh.out (by repeat (first | exact Qx _ _ | apply Qz | apply Kept.put | apply Kept.drew))
 ·by_cases ht2:20000<t.size
  ·have Hh:Hid (allN p q t=([],1,0)):=by show _=_; simp [allN,hsome,hask,ht2]
   have ht3:(20000:Int)<(t.size:Int):=by omega
   clear hP hT hns hsome hask ht2
   go_wp2
   refine bodyPost_ret (v := .tuple #[.slice none 0 0,.agg #[.int .i64 1,.int .i64 0]]) (by simp [results,Tryz.results22,go_sem,f0,f1,ff,hfl]) rfl ?_
   exact Hno.out _ 1 0 Hh.out (by repeat (first | exact Qx _ _ | apply Qz | apply Kept.put | apply Kept.drew))
  ·have ht3:¬ (20000:Int)<(t.size:Int):=by omega
   obtain ⟨W2,hW2⟩:∃ W2,W2=w1.alloc (.cells #[.slice h1 h2 h3,.slice b1 a.1.length bc,.slice n1 a.2.length nc] 74):=⟨_,rfl⟩
   have hE2:Ext w1 W2:=by rw [hW2]; exact (Ext.of (by repeat' (first | with_reducible(first|exact Qx _ _|apply Kept.drew|apply Kept.drewN|apply Qz|refine Qy ?_ ?_ _)|exact fun h=>absurd h (by simp <;> omega))))
   have hbW2:W2.heap[w1.heap.size]?=some (.cells #[.slice h1 h2 h3,.slice b1 a.1.length bc,.slice n1 a.2.length nc] 74 (0,0)):=by rw [hW2]; exact heap_alloc_new w1 _
   have hs2:W2.heap.size=w1.heap.size+1:=by rw [hW2]; simp
   have HCf:=Zac (Zqz t W2 (by omega))
   have HW2:=Zac hW2
   cases hsh:Zdi t.data.toList with
   | some pl =>
    have Hh:Hid (allN p q t=([],6,pl)):=by show _=_; simp [allN,hsome,hask,ht2,hsh]
    unfold Zvz at HCf
    rw [hsh] at HCf
    simp only at HCf
    have HE2:=Zac hE2
    have hb2:=(hE2.block _ hfl).trans Hb1.out
    have Hb2:=Zac hb2
    clear hP hT hns hsome hask ht2 hsh hE2 hbW2 hW2 hb2
    go_wp2_with fail
    rw [← HW2.out]
    refine HCf.out.mono ?_
    rintro e w3 ⟨hE3,rfl⟩
    have hs3:=hE3.size
    have hb3:=(hE3.block _ (by omega)).trans Hb2.out
    have HE3:=Zac (HE2.out.trans (hE3.mono HE2.out.size))
    clear hE3 HCf f0 f1 ff
    obtain ⟨f0,f1,ff⟩:=box2 hb3
    have Hfin:Hid (∀ w4,Kept (only w.heap.size) w3 w4→Znq p q t w (.returned (.tuple #[.slice none 0 0,.agg #[.int .i64 6,.int .i64 pl]])) w4):=fun w4 hK=>Znr Hh.out (Zea (HE1.out.trans (HE3.out.mono HE1.out.size)) hK (Qe _))
    have hfl3:=Zab hb3
    clear hb3
    go_wp2_with fail
    go_region
    all_goals
     go_wp2
     refine bodyPost_ret (v := .tuple #[.slice none 0 0,.agg #[.int .i64 6,.int .i64 pl]]) (by simp [results,Tryz.results22,go_sem,f0,f1,ff,hfl3]) rfl ?_
     exact Hfin.out _ (by repeat (first | exact Qx _ _ | apply Qz | apply Kept.put | apply Kept.drew))
   | none =>
    obtain ⟨R,hR⟩:∃ R,R=Zhp cs a t.data.toList:=⟨_,rfl⟩
    have hG:=Znc cs a hsh
    rw [← hR] at hG
    have Hh:Hid (allN p q t=if R.wrong=true then ([],7,R.at') else (R.ans,0,0)):=by show _=_; simp [allN,hsome,hask,ht2,hsh,hR]
    unfold Zvz at HCf
    rw [hsh] at HCf
    simp only at HCf
    obtain ⟨_,_,_,hcs,hcl⟩:=Zdr hsome
    obtain ⟨_,_,_,hOk,hNm,ha1,ha2,ha3,ha8⟩:=Zcy hask
    have ha6:=Zni hask
    have hFw:=Zvi hask
    have hHoP:HoP w1 l1 lc (.slice n1 a.2.length nc) cs a.2:=⟨⟨xs,hP⟩,hcs,Zqr hsome,hcl,hns,ha6,ha8⟩
    have HTop:Hid (∀ u,Ext w1 u→Calls Tryz.prog 26 #[.agg #[.slice h1 h2 h3,.slice b1 a.1.length bc,.slice n1 a.2.length nc]] u _):=fun u hu=>Zqp u (.slice h1 h2 h3) (.slice b1 a.1.length bc) (.slice n1 a.2.length nc) a.1 a.2 ⟨_,_,_,rfl⟩ (hT.ext hu) (Zah hns (fun j hj=>hu.block j (hns.lt j hj).2)) (by omega) (by omega) (Yit hOk ha3)
    have Hst:Hid (∀ u g1 gc v1 vc b,HoIn w1 u b (.slice l1 cs.length lc) (.slice n1 a.2.length nc) t 0 [] []→TermsIn u (.slice g1 a.1.length gc) a.1→TermsIn u (.slice v1 a.2.length vc) ((List.range a.2.length).map vr)→Calls Tryz.prog 35 #[.pointer (some ⟨b,0,none⟩),.agg #[.slice g1 a.1.length gc,.slice v1 a.2.length vc,.slice none 0 0,.int .i64 a.2.length]] u (Zrb w1 u R)):=fun u g1 gc v1 vc b hI hg hv=>by
     have hCN:CNode u (.slice g1 a.1.length gc) (.slice v1 a.2.length vc) (.slice none 0 0) (.int .i64 a.2.length) (topN a):=by
      refine ⟨topN a,⟨?_,hv,⟨[],TermsAt.nil _ _⟩⟩,rfl,hOk,hNm,hFw,Same.refl hOk⟩
      have:(topN a).goals.map (·.1)=a.1:=by unfold topN; rw [List.map_map]; exact (List.map_congr_left (fun _ _=>rfl)).trans (List.map_id _)
      rw [this]; exact hg
     exact Znp w1 u b l1 lc _ t cs a.2 _ _ _ _ (topN a) R hHoP hI hCN (by simp [topN]) (by omega) hG
    have HE2:=Zac hE2
    have Hb2:=Zac ((hE2.block _ hfl).trans Hb1.out)
    have HbW2:=Zac hbW2
    clear hP hT hns hsome hask ht2 hsh hE2 hbW2 hW2 hcs hOk hNm ha1 ha2 ha3 ha6 ha8 hFw hHoP hG hR
    go_wp2_with fail
    rw [← HW2.out]
    refine HCf.out.mono ?_
    rintro e w3 ⟨hE3,rfl⟩
    have hs3:=hE3.size
    have Hb3:=Zac ((hE3.block _ (by omega)).trans Hb2.out)
    have hc3:=(hE3.block _ (by omega)).trans HbW2.out
    have HE3:=Zac (HE2.out.trans (hE3.mono HE2.out.size))
    obtain ⟨W5,hW5⟩:∃ W5,W5=(w3.alloc (.cells #[.int .i64 0,.int .i64 0] 60)).alloc (.cells #[.slice l1 cs.length lc,.slice n1 a.2.length nc,.string t,.int .i64 0,.slice none 0 0,.slice none 0 0] 88):=⟨_,rfl⟩
    have hE5:Ext w3 W5:=by rw [hW5]; exact (Ext.of (by repeat' (first | with_reducible(first|exact Qx _ _|apply Kept.drew|apply Kept.drewN|apply Qz|refine Qy ?_ ?_ _)|exact fun h=>absurd h (by simp <;> omega))))
    have hb5:W5.heap[w3.heap.size+1]?=some (.cells #[.slice l1 cs.length lc,.slice n1 a.2.length nc,.string t,.int .i64 0,.slice none 0 0,.slice none 0 0] 88 (0,0)):=by rw [hW5]; exact heap_alloc2_new w3 _ _
    have hE15:Ext w1 W5:=HE3.out.trans (hE5.mono HE3.out.size)
    have HI5:Hid (HoIn w1 W5 (w3.heap.size+1) (.slice l1 cs.length lc) (.slice n1 a.2.length nc) t 0 [] []):=⟨none,0,none,0,hE15,by omega,hb5,⟨[],⟨World.ownsRow_nil _ _ _ _,fun i d h=>by simp at h⟩⟩,World.ownsRow_nil _ _ _ _⟩
    obtain ⟨c0,c1,c2,cf⟩:=box3' hc3
    have hcl3:=Zab hc3
    have HT5:=Zac (HTop.out W5 hE15)
    have Hb5:=Zac ((hE5.block _ (by omega)).trans Hb3.out)
    have HE15:=Zac hE15
    have HW5:=Zac hW5
    have hs5:=hE5.size
    clear hE3 HCf f0 f1 ff hc3 hE5 hb5 hE15 hW5 HTop
    go_wp2_with fail
    rw [← HW5.out]
    refine HT5.out.mono ?_
    rintro e w6 ⟨hE6,g1,gc,v1,vc,rfl,hg,hv⟩
    have hs6:=hE6.size
    obtain ⟨W7,hW7⟩:∃ W7,W7=w6.alloc (.cells #[.slice g1 a.1.length gc,.slice v1 a.2.length vc,.slice none 0 0,.int .i64 a.2.length] 65):=⟨_,rfl⟩
    have hE7:Ext w6 W7:=by rw [hW7]; exact (Ext.of (by repeat' (first | with_reducible(first|exact Qx _ _|apply Kept.drew|apply Kept.drewN|apply Qz|refine Qy ?_ ?_ _)|exact fun h=>absurd h (by simp <;> omega))))
    have hE57:Ext W5 W7:=hE6.trans (hE7.mono hE6.size)
    have H7:=Zac (Hst.out W7 g1 gc v1 vc (w3.heap.size+1) (HI5.out.grow hE57) (hg.ext hE7) (hv.ext hE7))
    have Hb7:=Zac ((hE57.block _ (Zab Hb5.out)).trans Hb5.out)
    have HW7:=Zac hW7
    clear hE6 hg hv hE7 hE57 hW7 Hst HT5 c0 c1 c2 cf
    go_wp2_with fail
    rw [← HW7.out]
    refine H7.out.mono ?_
    rintro e w8 ⟨hF8,hE8,hout⟩
    have hb8:=hF8 _ _ _ _ Hb7.out (by simp [HoTy])
    obtain ⟨f0,f1,ff⟩:=box2 hb8
    have hfl8:=Zab hb8
    have HEw:=Zac (HE1.out.trans (hE8.mono HE1.out.size))
    have Hb8:=Zac hb8
    clear hF8 hE8 hb8 H7
    rcases hout with ⟨hw,rfl⟩ | ⟨hw,va,vc',rfl,ho⟩
    ·have Hfin:Hid (∀ w9,Kept (only w.heap.size) w8 w9→Znq p q t w (.returned (.tuple #[.slice none 0 0,.agg #[.int .i64 7,.int .i64 R.at']])) w9):=fun w9 hK=>Znr (by rw [Hh.out,if_pos hw]) (Zea HEw.out hK (Qe _))
     clear hw
     go_wp2
     refine bodyPost_ret (v := .tuple #[.slice none 0 0,.agg #[.int .i64 7,.int .i64 R.at']]) (by simp [results,Tryz.results22,go_sem,f0,f1,ff,hfl8]) rfl ?_
     exact Hfin.out _ (by repeat (first | exact Qx _ _ | apply Qz | apply Kept.put | apply Kept.drew))
    ·have Hfin:Hid (∀ w9,Kept (only w.heap.size) w8 w9→Znq p q t w (.returned (.tuple #[.slice va R.ans.length vc',.agg #[.int .i64 0,.int .i64 0]])) w9):=fun w9 hK=>by
      have e:allN p q t=(R.ans,0,0):=by rw [Hh.out,if_neg (by rw [hw]; simp)]
      refine ⟨Zea HEw.out hK (Qe _),va,vc',by rw [e]; rfl,?_⟩
      rw [e]
      exact Zba (Zah ho (fun k hj=>hK.block k (ho.lt k hj).2 (Zfp ho Hb8.out (by decide) k hj))) HE1.out.size
     clear hw ho
     go_wp2
     refine bodyPost_ret (v := .tuple #[.slice va R.ans.length vc',.agg #[.int .i64 0,.int .i64 0]]) (by simp [results,Tryz.results22,go_sem,f0,f1,ff,hfl8]) rfl ?_
     exact Hfin.out _ (by repeat (first | exact Qx _ _ | apply Qz | apply Kept.put | apply Kept.drew))
theorem Yku (p q t:ByteArray):((allN p q t).2.1≠0→(allN p q t).1=[])∧((allN p q t).2.1=0→(allN p q t).2.2=0):=by
 unfold allN
 split
 ·exact ⟨fun _=>rfl,fun h=>by simp at h⟩
 ·split
  ·exact ⟨fun _=>rfl,fun h=>by simp at h⟩
  ·split
   ·exact ⟨fun _=>rfl,fun h=>by simp at h⟩
   ·split
    ·exact ⟨fun _=>rfl,fun h=>by simp at h⟩
    ·split
     ·exact ⟨fun _=>rfl,fun h=>by simp at h⟩
     ·exact ⟨fun h=>absurd rfl h,fun _=>rfl⟩
theorem Zxv (p q t:ByteArray) (w:World) (hp:p.size≤maxLen) (hq:q.size≤maxLen) (ht:t.size≤maxLen):Calls Tryz.prog 11 #[.string p,.string q,.string t] w (Zss p q t w):=by
 have HA:=Zac (Zwe p q t w hp hq ht)
 unfold Znq at HA
 obtain ⟨hX3,hX4⟩:=Yku p q t
 obtain ⟨X,hX⟩:∃ X,X=allN p q t:=⟨_,rfl⟩
 rw [← hX] at HA hX3 hX4
 have HX:=Zac hX
 clear hp hq ht hX
 obtain ⟨A,er,pl⟩:=X
 simp only at HA hX3 hX4
 go_enter Tryz.func11,Tryz.ntmps11
 go_wp2_with fail
 refine HA.out.mono ?_
 rintro e w1 ⟨hE1,va,vc,rfl,ho⟩
 have hs1:=hE1.size
 have HE1:=Zac hE1
 have Ho:=Zac ho
 clear hE1 ho HA
 by_cases he:er=0
 ·obtain rfl:=hX4 he
  subst he
  have Hfin:Hid (∀ o,Zss p q t w (.returned (.tuple #[.slice va A.length vc,.int .i64 0,.int .i64 0])) (w1.alloc o)):=fun o=>by
   have hEo:Ext w1 (w1.alloc o):=(Ext.of (by repeat' (first | with_reducible(first|exact Qx _ _|apply Kept.drew|apply Kept.drewN|apply Qz|refine Qy ?_ ?_ _)|exact fun h=>absurd h (by simp <;> omega))))
   refine ⟨HE1.out.trans (hEo.mono hs1),va,vc,by rw [← HX.out]; rfl,?_⟩
   rw [← HX.out]
   exact Zah Ho.out (fun k hk=>hEo.block k (Ho.out.lt k hk).2)
  clear hX3 hX4
  go_wp2
  go_ret3
  exact Hfin.out _
 ·have hb:((er:Int) != 0)=true:=by rw [bne_iff_ne]; omega
  obtain rfl:=hX3 he
  have Hfin:Hid (∀ w2,Ext w1 w2→Zss p q t w (.returned (.tuple #[.slice none 0 0,.int .i64 er,.int .i64 pl])) w2):=fun w2 hE2=>Ydq HX.out.symm (HE1.out.trans (hE2.mono hs1))
  clear hX3 hX4 he
  go_wp2_with fail
  go_quiet (fail)
  go_wp2
  go_ret3
  exact Hfin.out _ (Ext.of (by repeat' (first | with_reducible(first|exact Qx _ _|apply Kept.drew|apply Kept.drewN|apply Qz|refine Qy ?_ ?_ _)|exact fun h=>absurd h (by simp <;> omega))))
def Zck (t s:List UInt8) (j:Nat):Prop:=j+s.length≤t.length∧(t.drop j).take s.length=s
def Zwf (t s:List UInt8) (w:World) (e:Ending) (w':World):Prop:=((∃ i,Zck t s i∧(∀ j,j<i→¬ Zck t s j)∧e = .returned (.int .i64 (i:Nat)))∨((∀ j,¬ Zck t s j)∧e = .returned (.int .i64 (-1))))∧Ext w w'
theorem Zxw {t:List UInt8} {j n:Nat} (h:j+n≤t.length):(⟨t.toArray⟩:ByteArray).extract j (j+n)=⟨((t.drop j).take n).toArray⟩:=by
 rw [Lib.extract_eq]
 have e:j+n - j=n:=by omega
 first
  | (rw [e])
  | (congr 1; simp [e])
  | simp [e]
theorem Zxx (t s:List UInt8) (w:World) (ht:t.length≤20000) (hs:1≤s.length∧s.length≤10):Calls Tryz.prog 14 #[.string ⟨t.toArray⟩,.string ⟨s.toArray⟩] w (Zwf t s w):=by
 obtain ⟨T,hT⟩:∃ T:ByteArray,T=⟨t.toArray⟩:=⟨_,rfl⟩
 have hTz:T.size=t.length:=by rw [hT]; simp [ByteArray.size]
 have Hcut:Hid (∀ j,j+s.length≤t.length→T.extract j (j+s.length)=⟨((t.drop j).take s.length).toArray⟩):=fun j hj=>by rw [hT]; exact Zxw hj
 rw [← hT]
 have hsz:(⟨s.toArray⟩:ByteArray).size=s.length:=by simp [ByteArray.size]
 obtain ⟨sl,hsl⟩:∃ sl,sl=s.length:=⟨_,rfl⟩
 obtain ⟨tl,htl⟩:∃ tl,tl=t.length:=⟨_,rfl⟩
 rw [← hsl] at hs Hcut hsz
 rw [← htl] at ht Hcut hTz
 have Hsl:=Zac hsl
 have Htl:=Zac htl
 clear hT hsl htl
 go_enter Tryz.func14,Tryz.ntmps14
 go_wp2
 go_loopw [5] (fun i u=>∃ k:Nat,k≤tl+1∧i = .int .i64 k∧(∀ j,j<k→¬ Zck t s j)∧Ext w u) (fun i _=>tl+1 - (intOf i).toNat)
 case atStart=>exact ⟨0,by omega,rfl,fun j hj=>by omega,Below.refl _ _⟩
 case round =>
  obtain ⟨k,hk,rfl,hno,hEu⟩:=hrel
  have Hno:=Zac hno
  have HEu:=Zac hEu
  clear hno hEu
  by_cases hlt:k+sl≤tl
  ·have hcut:=Hcut.out k hlt
   obtain ⟨X,hX⟩:∃ X,X=(t.drop k).take sl:=⟨_,rfl⟩
   rw [← hX] at hcut
   by_cases he:X=s
   ·have Hst:Hid (Zck t s k):=⟨by rw [← Hsl.out,← Htl.out]; exact hlt,by rw [← Hsl.out,← hX]; exact he⟩
    subst he
    clear hX
    go_wp2
    go_ret
    exact ⟨Or.inl ⟨k,Hst.out,Hno.out,rfl⟩,HEu.out⟩
   ·have Hst:Hid (¬ Zck t s k):=fun h=>he (by rw [hX,Hsl.out]; exact h.2)
    have hb:(X == s)=false:=by simpa using he
    clear hX
    go_wp2
    go_roundw
    case rel =>
     refine ⟨k+1,by omega,by go_num,fun j hj => ?_,HEu.out⟩
     rcases (by omega:j<k∨j=k) with h | rfl
     ·exact Hno.out j h
     ·exact Hst.out
    case measure=>simp [intOf]; omega
  ·have hn:¬ ((k:Int)+(sl:Int)≤(tl:Int)):=by omega
   have hn2:decide ((k:Int)+(sl:Int)≤(tl:Int))=false:=by simpa using hn
   have Hall:Hid (∀ j,¬ Zck t s j):=fun j h=>by
    have h1:=h.1
    rw [← Hsl.out,← Htl.out] at h1
    exact Hno.out j (by omega) h
   go_wp2
   go_ret
   exact ⟨Or.inr ⟨Hall.out,rfl⟩,HEu.out⟩
theorem Zrc {k:Nat} (hk:k<100):(46:UInt8) ∉ Lib.decDigits k:=by
 intro h
 rcases Nat.lt_or_ge k 10 with h1 | h1
 ·rw [Zes k h1,List.mem_singleton] at h
  have:=(Zcu k h1).1
  rw [← h] at this
  exact absurd this (by decide)
 ·rw [Zqg k hk h1] at h
  simp only [Qp,List.not_mem_nil,or_false] at h
  rcases h with h | h
  ·have:=(Zcu (k / 10) (by omega)).1
   rw [← h] at this
   exact absurd this (by decide)
  ·have:=(Zcu (k % 10) (by omega)).1
   rw [← h] at this
   exact absurd this (by decide)
theorem Ybc:∀ (ks:List Nat),(∀ j ∈ ks,j<100)→(Zax [46] ks).count 46=ks.length:=by
 intro ks
 induction ks with
 | nil=>intro _; rfl
 | cons k ks ih =>
  intro h
  simp only [Zax,List.count_append,List.count_eq_zero.2 (Zrc (h k (by simp))),ih (fun j hj=>h j (by simp [hj])),Qf]
  simp
  omega
theorem Zns {ks:List Nat} (h0:ks≠[]) (h:∀ j ∈ ks,j<100):1+(Zax [] ks).count 46=ks.length:=by
 cases ks with
 | nil=>exact absurd rfl h0
 | cons k ks =>
  simp only [Zax,List.nil_append,List.count_append,List.count_eq_zero.2 (Zrc (h k (by simp))),Ybc ks (fun j hj=>h j (by simp [hj])),Qf]
  omega
def LastD (l:List UInt8) (L:Nat):Prop:=((46:UInt8) ∉ l∧L=0)∨∃ u v,l=u++46::v∧(46:UInt8) ∉ v∧L=u.length
theorem LastD.next {l:List UInt8} {L:Nat} {c:UInt8} (h:LastD l L):LastD (l++[c]) (if c=46 then l.length else L):=by
 by_cases hc:c=46
 ·rw [if_pos hc]
  exact Or.inr ⟨l,[],by rw [hc],by simp,rfl⟩
 ·rw [if_neg hc]
  rcases h with ⟨h1,h2⟩ | ⟨u,v,h1,h2,h3⟩
  ·exact Or.inl ⟨by simp [h1,Ne.symm hc],h2⟩
  ·exact Or.inr ⟨u,v++[c],by rw [h1]; simp,by simp [h2,Ne.symm hc],h3⟩
theorem Ybd {ks:List Nat} {j:Nat} {L:Nat} (hj:j<100) (h0:ks≠[]) (h:LastD (Zax [] (ks++[j])) L):L=(Zax [] ks).length:=by
 rw [Znn [] j ks h0] at h
 have hn:=Zrc hj
 rcases h with ⟨h1,_⟩ | ⟨u,v,h1,h2,h3⟩
 ·exact absurd (by simp) h1
 ·rw [h3]
  rcases List.append_eq_append_iff.1 h1 with ⟨c,e1,e2⟩ | ⟨c,e1,e2⟩
  ·cases c with
   | nil=>rw [e1]; simp
   | cons x c =>
    simp only [List.cons_append,List.cons.injEq] at e2
    exact absurd (by rw [e2.2]; simp) hn
  ·cases c with
   | nil=>rw [e1]; simp
   | cons x c =>
    simp only [List.cons_append,List.cons.injEq] at e2
    exact absurd (by rw [e2.2]; simp) h2
theorem Ybe (SP SQ:ByteArray) (cs:List Cls) (a:List (List Sym) × Names) (n:ND) (w:World) (hp:Zcl SP=some cs) (hq:Zdx SQ=some a) (hcl:cs.length≤24) (h:Reach cs (topN a) n.used n) (hg:n.goals=[]) (h0:n.used≠[]) (hl:n.used.length≤100) (hk:∀ k ∈ n.used,k<cs.length) :
  Calls Tryz.prog 15 #[.string SP,.string SQ,.string ⟨(Zbp n).toArray⟩] w fun e w'=>e = .returned (.bool true)∧Ext w w':=by
 obtain ⟨m1,m2,m3,m4⟩:=Ztp hp hq hcl h hg h0 hl hk
 have h100:∀ j ∈ n.used,j<100:=fun j hj=>by have:=hk j hj; omega
 have hwl:=Zjn n.used h100
 obtain ⟨W,hW⟩:∃ W:ByteArray,W=⟨(Zbp n).toArray⟩:=⟨_,rfl⟩
 have hWd:W.data.toList=Zbp n:=by rw [hW]
 have hWs:W.size=(Zbp n).length:=by rw [hW]; simp [ByteArray.size]
 have hW3:W.size≤300:=by rw [hWs]; unfold Zbp; omega
 have sP:SP.size≤800:=(Zdr hp).1
 have sQ:SQ.size≤120:=(Zcy hq).1
 obtain ⟨N,hN⟩:∃ N,N=n.used.length:=⟨_,rfl⟩
 have hN1:1≤N∧N≤100:=by
  refine ⟨?_,by omega⟩
  have:n.used.length≠0:=fun e=>h0 (List.eq_nil_of_length_eq_zero e)
  omega
 have HY:∀ (x:ByteArray) (er pl:Nat),(yesN SP SQ x).2=(er,pl)→x.size≤800→Hid (∀ u,Calls Tryz.prog 18 #[.string SP,.string SQ,.string x] u fun e w'=>(∃ X,e = .returned (.tuple #[.string X,.int .i64 (er:Nat),.int .i64 (pl:Nat)]))∧Ext u w'):=fun x er pl hx hxs u=>by
  refine (Yhp SP SQ x u (by simp only [maxLen]; omega) (by simp only [maxLen]; omega) (by simp only [maxLen]; omega)).mono ?_
  rintro e w' ⟨rfl,hE⟩
  rw [hx]
  exact ⟨⟨_,rfl⟩,hE⟩
 have c1:W++⟨#[46,48]⟩=⟨(Zbp n++[46,48]).toArray⟩:=by rw [hW]; exact Zbd _ [46,48]
 have c2:W++⟨#[46]⟩=⟨(Zbp n++[46]).toArray⟩:=by rw [hW]; exact Zbd _ [46]
 rw [← c1,← hN] at m1
 rw [← c2,← hWs] at m2
 have H1:=HY _ _ _ m1 (by rw [c1]; simp [ByteArray.size]; omega)
 have H2:=HY _ _ _ m2 (by rw [c2]; simp [ByteArray.size]; omega)
 have Hcnt:Hid (1+W.data.toList.count 46=N):=by show _=_; rw [hWd,hN]; exact Zns h0 h100
 have Hlast:Hid (∀ L,LastD W.data.toList L→(N=1→L=0∧∀ u,Calls Tryz.prog 18 #[.string SP,.string SQ,.string ByteArray.empty] u fun e w'=>(∃ X,e = .returned (.tuple #[.string X,.int .i64 6,.int .i64 0]))∧Ext u w')∧(1<N→L≤W.size∧∀ u,Calls Tryz.prog 18 #[.string SP,.string SQ,.string (W.extract 0 L)] u fun e w'=>(∃ X,e = .returned (.tuple #[.string X,.int .i64 7,.int .i64 ((N - 1:Nat):Int)]))∧Ext u w')):=fun L hL=>by
  rw [hWd] at hL
  refine ⟨fun h1 => ?_,fun h1 => ?_⟩
  ·have hL0:L=0:=by
    rcases hL with ⟨_,e⟩ | ⟨u,v,e,_⟩
    ·exact e
    ·exfalso
     have hc:=Zns h0 h100
     have:(Zbp n).count 46=0:=by unfold Zbp; omega
     exact List.count_eq_zero.1 this (by rw [e]; simp)
   subst hL0
   refine ⟨rfl,?_⟩
   have e0:(⟨#[]⟩:ByteArray)=ByteArray.empty:=rfl
   have m3':=m3 (by omega)
   rw [e0] at m3'
   exact (HY ByteArray.empty 6 0 m3' (by simp)).out
  ·obtain ⟨ks,j,hkj⟩:∃ ks j,n.used=ks++[j]:=⟨n.used.dropLast,n.used.getLast h0,(List.dropLast_concat_getLast h0).symm⟩
   have hks:ks≠[]:=fun e=>by rw [hkj,e] at hN; simp at hN; omega
   have hLe:L=(Zax [] ks).length:=by
    unfold Zbp at hL
    rw [hkj] at hL
    exact Ybd (h100 j (by rw [hkj]; simp)) hks hL
   have hz:W.data.toList=[]++(Zax [] ks++(46::Lib.decDigits j)):=by
    rw [hWd]
    unfold Zbp
    rw [hkj,Znn [] j ks hks]
    rfl
   have hcut:=Yjs (S:=W) hz
   simp only [Jt,Nat.zero_add] at hcut
   have hsz:W.size=(Zax [] ks).length+(1+(Lib.decDigits j).length):=by
    have:=congrArg List.length hz
    simp at this
    omega
   rw [hLe,hcut]
   refine ⟨by omega,?_⟩
   have m4':=m4 (by omega)
   rw [hkj,List.dropLast_concat,← hkj,← hN] at m4'
   have:=(HY _ _ _ m4' (by simp only [ByteArray.size,List.size_toArray]; omega)).out
   exact this
 rw [← hW]
 clear m1 m2 m3 m4 hWd hWs hW c1 c2 h100 hwl h hg h0 hl hk hN HY hp hq
 go_enter Tryz.func15,Tryz.ntmps15
 go_wp2
 go_loopw [7,8,9] (fun nv lv iv u=>∃ (k c L:Nat),k≤W.size∧c=1+(W.data.toList.take k).count 46∧c≤1+k∧LastD (W.data.toList.take k) L∧L≤W.size∧nv = .int .i64 c∧lv = .int .i64 L∧iv = .int .i64 k∧Ext w u) (fun _ _ iv _=>W.size - (intOf iv).toNat)
 case atStart=>exact ⟨0,1,0,by omega,by simp,by omega,Or.inl ⟨by simp,rfl⟩,by omega,rfl,rfl,rfl,Below.refl _ _⟩
 case round =>
  obtain ⟨k,c,L,hk,hc,hck,hL,hLW,rfl,rfl,rfl,hEu⟩:=hrel
  have Hc:=Zac hc
  have HL:=Zac hL
  have HEu:=Zac hEu
  clear hc hL hEu
  by_cases hlt:k<W.size
  ·obtain ⟨z,hz⟩:∃ z,W[k]=z:=⟨_,rfl⟩
   have htk:W.data.toList.take (k+1)=W.data.toList.take k++[z]:=by
    have hll:k<W.data.toList.length:=by simpa using hlt
    rw [List.take_add_one,Qb hll,← hz]
    rfl
   have hlen:(W.data.toList.take k).length=k:=by simp; omega
   have Ht:=Zac htk
   have Hn:=Zac (HL.out.next (c:=z))
   have Hlen:=Zac hlen
   clear htk hlen
   by_cases h46:z=46
   ·subst h46
    go_wp2
    go_roundw
    case rel =>
     refine ⟨k+1,c+1,k,by omega,?_,by omega,?_,by omega,by go_num,rfl,by go_num,HEu.out⟩
     ·rw [Ht.out,List.count_append,Hc.out]
      simp
      omega
     ·have:=Hn.out
      rw [if_pos rfl,Hlen.out,← Ht.out] at this
      exact this
    case measure=>simp [intOf]; omega
   ·have h46':((z.toNat:Int) == 46)=false:=by
     rw [Qu]
     intro e
     apply h46
     apply UInt8.toNat_inj.1
     have:z.toNat=46:=by omega
     rw [this]
     rfl
    go_wp2
    go_roundw
    case rel =>
     refine ⟨k+1,c,L,by omega,?_,by omega,?_,hLW,rfl,rfl,by go_num,HEu.out⟩
     ·rw [Ht.out,List.count_append,Hc.out]
      have:([z]:List UInt8).count 46=0:=by simp [List.count_cons,h46]
      omega
     ·have:=Hn.out
      rw [if_neg h46,← Ht.out] at this
      exact this
    case measure=>simp [intOf]; omega
  ·obtain rfl:k=W.size:=by omega
   have hcN:c=N:=by rw [Hc.out,List.take_of_length_le (by simp)]; exact Hcnt.out
   subst hcN
   have hLL:LastD W.data.toList L:=by have:=HL.out; rw [List.take_of_length_le (by simp)] at this; exact this
   obtain ⟨l1,l2⟩:=Hlast.out L hLL
   clear Hc HL hLL
   have Hl1:=Zac l1
   have Hl2:=Zac l2
   clear l1 l2
   go_wp2_with fail
   refine (H1.out _).mono ?_
   rintro e u1 ⟨⟨X1,rfl⟩,hF1⟩
   have HF1:Hid (Ext w u1):=HEu.out.trans (hF1.mono HEu.out.size)
   clear hF1
   go_wp2_with fail
   refine (H2.out _).mono ?_
   rintro e u2 ⟨⟨X2,rfl⟩,hF2⟩
   have HF2:Hid (Ext w u2):=HF1.out.trans (hF2.mono HF1.out.size)
   clear hF2
   by_cases hc1:c=1
   ·obtain ⟨hL0,hY⟩:=Hl1.out hc1
    have HY:=Zac hY
    subst hL0 hc1
    clear hY
    go_wp2_with fail
    refine (HY.out _).mono ?_
    rintro e u3 ⟨⟨X3,rfl⟩,hF3⟩
    have HF3:Hid (Ext w u3):=HF2.out.trans (hF3.mono HF2.out.size)
    clear hF3
    go_wp2
    go_ret
    exact ⟨rfl,HF3.out⟩
   ·obtain ⟨hLs,hY⟩:=Hl2.out (by omega)
    have HY:=Zac hY
    have hc1':((c:Int) == 1)=false:=by rw [Qu]; omega
    have hcm:((c - 1:Nat):Int)=(c:Int) - 1:=by omega
    rw [hcm] at HY
    clear hY hcm
    go_wp2_with fail
    refine (HY.out _).mono ?_
    rintro e u3 ⟨⟨X3,rfl⟩,hF3⟩
    have HF3:Hid (Ext w u3):=HF2.out.trans (hF3.mono HF2.out.size)
    clear hF3
    go_wp2
    go_ret
    exact ⟨rfl,HF3.out⟩
theorem Ybf {cs:List Cls} {a:List (List Sym) × Names} {tries size:Nat}:∀ {f:Nat} {m:SN} {t:Tr},m.status=t.status→(aftN cs a tries size f m t).1.status=(aftN cs a tries size f m t).2.status:=by
 have ha:∀ (t:Tr) (r:SN × Nat),(addN a t r).status=r.1.status:=fun t r=>by unfold addN; split <;> rfl
 intro f
 induction f with
 | zero=>intro m t h; exact h
 | succ f ih =>
  intro m t h
  rw [aftN]
  split
  ·split
   ·exact (ha _ _).symm
   ·exact ih (ha _ _).symm
  ·exact h
theorem Yfq {cs:List Cls} {a:List (List Sym) × Names} {tries size:Nat} (hcl:cs.length≤24) (hs:0<size):∀ {f:Nat} {m:SN} {t:Tr},InvN cs a m→(m.status=0∨m.status=1)→t.ans.length≤t.tries→t.wts.length≤t.tries→t.tries≤tries→(aftN cs a tries size f m t).2.ans.length≤tries∧(aftN cs a tries size f m t).2.wts.length≤tries∧(aftN cs a tries size f m t).2.tries≤tries:=by
 intro f
 induction f with
 | zero=>intro m t _ _ h1 h2 h3; exact ⟨Qq h1 h3,Qq h2 h3,h3⟩
 | succ f ih =>
  intro m t hI hm h1 h2 h3
  rw [aftN]
  split
  ·rename_i hlt
   obtain ⟨N,hN⟩:∃ N,N=Zee size (tries - t.tries):=⟨_,rfl⟩
   have hN0:1≤N∧N≤tries - t.tries:=by rw [hN]; unfold Zee; split <;> omega
   rw [← hN]
   have hle:=Zqf (cs:=cs) (n:=N) (s:=m)
   have hsm:=Zld (cs:=cs) (n:=N) (s:=m) (by omega) (by omega)
   have hst:=(hI.step hcl (n:=N)).st
   have hadd:(addN a t (Zch cs N m)).ans.length≤(addN a t (Zch cs N m)).tries∧(addN a t (Zch cs N m)).wts.length≤(addN a t (Zch cs N m)).tries∧(addN a t (Zch cs N m)).tries≤tries:=by
    rw [Zhc]
    unfold addN
    split
    ·rename_i h0
     have:=hsm (Or.inr h0)
     simp only [Qg,Qn]
     omega
    ·simp only
     omega
   split
   ·simp only
    omega
   ·rename_i h23
    exact ih (hI.step hcl) (by omega) hadd.1 hadd.2.1 hadd.2.2
  ·exact ⟨Qq h1 h3,Qq h2 h3,h3⟩
theorem RulesIn.keepB {w w':World} {b:Nat} {v:Value} {R:List (At3 × List At3)} {xs:List Value} (h:RulesIn w v R xs) {B:Nat} {ra:Option Addr} {rl rc:Nat} (hb:RawIn w B b ra rl rc) (hk:Kept (only b) w w'):RulesIn w' v R xs:=by
 obtain ⟨q,hb⟩:=hb
 have hbx:=hb.box
 refine ⟨Zah h.owns (fun k e=>hk.block k (h.owns.lt k e).2 (fun e2 => ?_)),fun k x hx => ?_⟩
 ·have e2:k=b:=e2
  obtain ⟨c1,k1⟩:=Zbk h.owns k e
  rw [e2,hbx] at k1
  simp at k1
 ·obtain ⟨a,c,y0,y1,y2,y3,y4,y5⟩:=h.all k x hx
  refine ⟨a,c,y0,y1,y2,y3,⟨Zah y4.owns (fun k e=>hk.block k (y4.owns.lt k e).2 (fun e2 => ?_)),y4.ok⟩,y5⟩
  have e2:k=b:=e2
  obtain ⟨c1,k1⟩:=Zbk y4.owns k e
  rw [e2,hbx] at k1
  simp at k1
def Ybg (SP SQ:ByteArray) (x:ByteArray) (er pl:Nat):Prop:=∀ u,Calls Tryz.prog 11 #[.string SP,.string SQ,.string x] u fun e w'=>(∃ va ln vc,e = .returned (.tuple #[.slice va ln vc,.int .i64 (er:Nat),.int .i64 (pl:Nat)]))∧Ext u w'
theorem Zxy {SP SQ:ByteArray} (sP:SP.size≤800) (sQ:SQ.size≤120) {x:List UInt8} {er pl:Nat} (h:(allN SP SQ ⟨x.toArray⟩).2=(er,pl)) (hx:x.length≤20000):Ybg SP SQ ⟨x.toArray⟩ er pl:=fun u=>by
 refine (Zxv SP SQ ⟨x.toArray⟩ u (by simp only [maxLen]; omega) (by simp only [maxLen]; omega) (by simp only [maxLen,ByteArray.size,List.size_toArray]; omega)).mono ?_
 rintro e w' ⟨hE,va,vc,rfl,_⟩
 rw [h]
 exact ⟨⟨va,_,vc,rfl⟩,hE⟩
def AllR (er pl:Nat) (X:Nat→Prop) (v:Value) (u:World):Prop:=∃ va ln vc,v = .tuple #[.slice va ln vc,.int .i64 (er:Nat),.int .i64 (pl:Nat)]
theorem AllR.stable (er pl:Nat):∀ X X' v u u',AllR er pl X v u→(∀ k,k<u.heap.size→¬ X k→u'.heap[k]?=u.heap[k]?)→u.heap.size≤u'.heap.size→(∀ k,k<u.heap.size→X' k→X k)→AllR er pl X' v u':=fun _ _ _ _ _ h _ _ _=>h
structure TurnF (SP SQ:ByteArray) (cs:List Cls) (a:List (List Sym) × Names) (R:SN × Tr):Prop where
 hp:Zcl SP=some cs
 hq:Zdx SQ=some a
 len:cs.length≤7
 two:R.1.status=2∧R.2.status=2
 small:R.2.ans.length≤3001∧R.2.wts.length≤3001
 tree:1≤R.1.tree.length∧R.1.tree.length≤4000
 all:allN SP SQ ⟨R.1.tree.toArray⟩=(R.2.ans,0,0)
 cut:∀ n,n<R.1.tree.length→(allN SP SQ ⟨(R.1.tree.take n).toArray⟩).2=(6,n)
 more:(allN SP SQ ⟨(R.1.tree++[33]).toArray⟩).2=(6,R.1.tree.length)
 leaf:∀ i,Zck R.1.tree [33] i→(∀ j,j<i→¬ Zck R.1.tree [33] j)→(allN SP SQ ⟨(R.1.tree.take i++([40,41]++R.1.tree.drop (i+1))).toArray⟩).2=(7,i)
 dead:∀ i,Zck R.1.tree [40,41] i→(∀ j,j<i→¬ Zck R.1.tree [40,41] j)→(allN SP SQ ⟨(R.1.tree.take i++([33]++R.1.tree.drop (i+2))).toArray⟩).2=(7,i)
 each:∀ (i:Nat) (W:List UInt8),R.2.wts[i]?=some W→∃ n,Reach cs (topN a) n.used n∧n.goals=[]∧n.used≠[]∧n.used.length≤100∧(∀ k ∈ n.used,k<cs.length)∧W=Zbp n
theorem Zix {t:List UInt8} {c:UInt8} {i:Nat}:Zck t [c] i↔t[i]?=some c:=by
 constructor
 ·rintro ⟨h1,h2⟩
  have h2:(t.drop i).take 1=[c]:=h2
  have h3:=congrArg (fun l=>l[0]?) h2
  simpa [List.getElem?_take,List.getElem?_drop] using h3
 ·intro h
  obtain ⟨hi,he⟩:=Qa.1 h
  refine ⟨by show i+1≤t.length; omega,?_⟩
  show (t.drop i).take 1=[c]
  rw [List.drop_eq_getElem_cons hi,he]
  rfl
theorem Ziy {t:List UInt8} {c d:UInt8} {i:Nat}:Zck t [c,d] i↔t[i]?=some c∧t[i+1]?=some d:=by
 constructor
 ·rintro ⟨h1,h2⟩
  have h2:(t.drop i).take 2=[c,d]:=h2
  have h3:=congrArg (fun l=>l[0]?) h2
  have h4:=congrArg (fun l=>l[1]?) h2
  exact ⟨by simpa [List.getElem?_take,List.getElem?_drop] using h3,by simpa [List.getElem?_take,List.getElem?_drop] using h4⟩
 ·rintro ⟨h1,h2⟩
  obtain ⟨hi,he⟩:=Qa.1 h1
  obtain ⟨hj,hf⟩:=Qa.1 h2
  refine ⟨by show i+2≤t.length; omega,?_⟩
  show (t.drop i).take 2=[c,d]
  rw [List.drop_eq_getElem_cons hi,List.drop_eq_getElem_cons hj,he,hf]
  rfl
theorem Ybh (Ls:List ((At3 × List At3) × Nat)) (h:∀ y ∈ Ls,RlLay y.1 y.2) (h7:Ls.length≤7) (hf:∀ a,cntF (Ls.map (·.2)) a 0≤layM a) (x:At3) (hx:AtOk x) :
  ∃ cs a,TurnF ⟨(Zec (Ls.map (fun y=>rlG y.1))).toArray⟩ ⟨((atG x).text++[46]).toArray⟩ cs a (aftN cs a 3001 3000 3002 (newN cs a) ⟨[],[],0,0⟩):=by
 obtain ⟨cs,a,hp,hq,hl,hT,h2,hw,htl⟩:=Ztr Ls h h7 hf x hx
 obtain ⟨_,_,_,_,_,_,hane,_,_⟩:=Zcy hq
 have hst:=Ybf (cs:=cs) (a:=a) (tries:=3001) (size:=3000) (f:=3002) (m:=newN cs a) (t:=⟨[],[],0,0⟩) (Zht cs hane)
 obtain ⟨m1,m2,_⟩:=Yfq (cs:=cs) (a:=a) (tries:=3001) (size:=3000) (f:=3002) (m:=newN cs a) (t:=⟨[],[],0,0⟩) (by omega) (by omega) (InvN.new cs hane) (Or.inl (Zht cs hane)) (by simp) (by simp) (by simp)
 refine ⟨cs,a,?_⟩
 generalize aftN cs a 3001 3000 3002 (newN cs a) ⟨[],[],0,0⟩=R at hT h2 hw htl hst m1 m2
 have hA:=hT.tree (by omega)
 rw [hw] at hA
 have hA:TreeA cs a.2 (topN a) R.1.tree R.2.ans:=hA
 have hF:=Zqt (by omega) hA
 obtain ⟨c,r,hc,_⟩:=Zil hF
 have ht1:1≤R.1.tree.length:=by rw [hc]; simp
 refine ⟨hp,hq,hl,⟨h2,by omega⟩,⟨m1,m2⟩,⟨ht1,htl⟩,Ygw hp hq (by omega) hA (by omega),fun n hn=>Zxs hp hq (Yfi hF hn) (by simp; omega),Zxs hp hq (Yaw hF 33) (by simp; omega),fun i hi hno => ?_,fun i hi hno => ?_,fun i W hW => ?_⟩
 ·rcases Yax (by omega) hA with hn | ⟨u,v,h1,h3⟩
  ·exact absurd (Qh (Zix.1 hi)) hn
  ·have e:=h3.at'
   have hiu:i=u.length:=by
    have hu:Zck R.1.tree [33] u.length:=Zix.2 (by rw [e]; simp)
    rcases Nat.lt_trichotomy i u.length with hlt | heq | hgt
    ·have:=Zix.1 hi
     rw [e,Qc hlt] at this
     exact absurd (Qh this) h1
    ·exact heq
    ·exact absurd hu (hno _ hgt)
   subst hiu
   have:=Ztq hp hq h3 (by have:=congrArg List.length e; simp at this ⊢; omega)
   have e1:R.1.tree.take u.length++([40,41]++R.1.tree.drop (u.length+1))=u++([40,41]++v):=by rw [e]; simp
   rw [e1]
   exact this
 ·rcases Yaz (by omega) hA with hn | ⟨u,v,h1,h3⟩
  ·exact absurd (Ziy.1 hi) (hn i)
  ·have e:=h3.at'
   have hiu:i=u.length:=by
    have hu:Zck R.1.tree [40,41] u.length:=Ziy.2 ⟨by rw [e]; simp,by rw [e,Qd (by omega)]; simp⟩
    rcases Nat.lt_trichotomy i u.length with hlt | heq | hgt
    ·exact absurd (Ziy.1 hi) (h1 i hlt)
    ·exact heq
    ·exact absurd hu (hno _ hgt)
   subst hiu
   have:=Ztq hp hq h3 (by have:=congrArg List.length e; simp at this ⊢; omega)
   have e1:R.1.tree.take u.length++([33]++R.1.tree.drop (u.length+2))=u++([33]++v):=by rw [e]; simp
   rw [e1]
   exact this
 ·have hi:=(Qa.1 hW).1
  obtain ⟨A,hAi⟩:∃ A,R.2.ans[i]?=some A:=⟨_,Qb (by rw [hT.len]; exact hi)⟩
  obtain ⟨n,k1,k2,k3,k4,k5,_,k7⟩:=hT.each i A W hAi hW
  exact ⟨n,k1,k2,k3,k4,k5,k7⟩
theorem Zxz (d c:Nat) (h:d≤100000) (hc:c≤100):IntKind.i64.wrap ((d:Int)+c)=(d:Int)+c:=by
 have e:IntKind.i64.bits=64:=rfl
 rw [IntKind.wrap]
 simp [e]
 omega
theorem Ztv {tr:List UInt8} {TR:ByteArray} (hTR:TR=⟨tr.toArray⟩) (m:List UInt8) {i n:Nat} (h:i+n≤tr.length):TR.extract 0 i++⟨m.toArray⟩++TR.extract (i+n) TR.size=⟨(tr.take i++(m++tr.drop (i+n))).toArray⟩:=by
 have hz:TR.size=tr.length:=by rw [hTR]; simp [ByteArray.size]
 have e1:TR.extract 0 i=⟨(tr.take i).toArray⟩:=by
  have:=Zxw (t:=tr) (j:=0) (n:=i) (by omega)
  rw [hTR]
  simpa using this
 have e2:TR.extract (i+n) TR.size=⟨(tr.drop (i+n)).toArray⟩:=by
  have:=Zxw (t:=tr) (j:=i+n) (n:=tr.length - (i+n)) (by omega)
  rw [show i+n+(tr.length - (i+n))=tr.length by omega,List.take_of_length_le (by simp)] at this
  rw [hz,hTR]
  exact this
 rw [e1,e2,Zbd,Zbd,Qi]
set_option maxHeartbeats 8000000 in
theorem Zwg (w:World) (ra:Option Addr) (rl rc:Nat) (cut:Int) (hlen:rl≤9223372036854775807) (hraw:∀ i,i<rl→∃ (k off:Nat) (c:Int),ra=some ⟨k,off,none⟩∧k<w.heap.size∧w.cell? ⟨k,off+i,none⟩=some (.int .i64 c) ∧ -9223372036854775808≤c∧c<9223372036854775808) (hcut : -9223372036854775808≤cut∧cut<9223372036854775808) :
  Calls Tryz.prog 3 #[.slice ra rl rc,.int .i64 cut] w fun e w'=>e = .returned (.bool true)∧Ext w w':=by
 have hE0:Ext w (w.alloc (.cells #[.slice ra rl rc,.int .i64 0] 25)):=(Ext.of (by repeat' (first | with_reducible(first|exact Qx _ _|apply Kept.drew|apply Kept.drewN|apply Qz|refine Qy ?_ ?_ _)|exact fun h=>absurd h (by simp <;> omega))))
 have HR:Hid (RawIn (w.alloc (.cells #[.slice ra rl rc,.int .i64 0] 25)) w.heap.size w.heap.size ra rl rc):=⟨0,Qe _,heap_alloc_new w _,Qm _,hlen,fun i hi=>by
  obtain ⟨k,off,c,h1,h2,h3,h4⟩:=hraw i hi
  exact ⟨k,off,c,h1,h2,(hE0.cell (p:=⟨k,off+i,none⟩) h2).trans h3,h4⟩⟩
 have HL:=Zac (Zvx _ w.heap.size w.heap.size ra rl rc HR.out)
 have HE0:=Zac hE0
 have Hcut:=Zac hcut
 clear hraw hE0 hlen hcut
 go_enter Tryz.func3,Tryz.ntmps3
 go_wp2_with fail
 refine HL.out.mono ?_
 rintro e w1 ⟨la,lc,Ls,xs,h7,hly,hcn,rfl,hru,hK1,hR1⟩
 have HT:=Zac (Zeh w1 w.heap.size w.heap.size ra rl rc hR1 3 ⟨by omega,by omega⟩)
 have HE1:Hid (Ext w w1):=HE0.out.trans (hK1.below (by simp) (fun k e=>by have e:k=w.heap.size:=e; omega))
 have Hru:Hid (∀ u,Kept (only w.heap.size) w1 u→RulesIn u (.slice la Ls.length lc) (Ls.map (·.1)) xs):=fun u hu=>hru.keepB hR1 hu
 have Hly:=Zac hly
 have Hcn:=Zac hcn
 clear hK1 hR1 HL HR hly hcn hru HE0
 go_wp2_with fail
 refine HT.out.mono ?_
 rintro e w2 ⟨k,hk,rfl,hK2,hR2⟩
 have HA:=Zac (Zgb w2 w.heap.size w.heap.size ra rl rc hR2 k hk)
 have HK2:=Zac hK2
 have HE2:Hid (Ext w w2):=HE1.out.trans (hK2.below HE1.out.size (fun k e=>by have e:k=w.heap.size:=e; omega))
 clear hK2 hR2 HT
 go_wp2_with fail
 refine HA.out.mono ?_
 rintro e w3 ⟨x,hx,hxp,rfl,hK3,hR3⟩
 obtain ⟨cs,a,hTF⟩:=Ybh Ls Hly.out h7 Hcn.out x hx
 have hE3:Ext w3 (w3.alloc (.cells #[.int .i64 x.1,.int .i64 x.2.1,.int .i64 x.2.2] 30)):=(Ext.of (by repeat' (first | with_reducible(first|exact Qx _ _|apply Kept.drew|apply Kept.drewN|apply Qz|refine Qy ?_ ?_ _)|exact fun h=>absurd h (by simp <;> omega))))
 have hru3:=(Hru.out w3 (HK2.out.trans hK3)).ext hE3
 have HE3:Hid (Ext w (w3.alloc (.cells #[.int .i64 x.1,.int .i64 x.2.1,.int .i64 x.2.2] 30))):=(HE2.out.trans (hK3.below HE2.out.size (fun k e=>by have e:k=w.heap.size:=e; omega))).trans (hE3.mono (Qq HE2.out.size hK3.size))
 have hlm:(Ls.map (·.1)).length=Ls.length:=by simp
 have hRt:=Zqb (w3.alloc (.cells #[.int .i64 x.1,.int .i64 x.2.1,.int .i64 x.2.2] 30)) la lc (Ls.map (·.1)) xs (by rw [hlm]; exact hru3) (by rw [hlm]; omega)
 rw [hlm,show (Ls.map (·.1)).map rlG=Ls.map (fun y=>rlG y.1) by rw [List.map_map]; rfl] at hRt
 obtain ⟨SP,hSP⟩:∃ SP:ByteArray,SP=⟨(Zec (Ls.map (fun y=>rlG y.1))).toArray⟩:=⟨_,rfl⟩
 obtain ⟨SQ,hSQ⟩:∃ SQ:ByteArray,SQ=⟨((atG x).text++[46]).toArray⟩:=⟨_,rfl⟩
 rw [← hSP] at hRt hTF
 rw [← hSQ] at hTF
 have HRt:=Zac hRt
 have HLt:Hid (∀ u:World,Calls Tryz.prog 9 #[.slice (some ⟨u.heap.size,0,none⟩) 1 1] (u.alloc (.cells #[.int .i64 x.1,.int .i64 x.2.1,.int .i64 x.2.2] 30)) fun e w'=>e = .returned (.string SQ)∧Ext (u.alloc (.cells #[.int .i64 x.1,.int .i64 x.2.1,.int .i64 x.2.2] 30)) w'):=fun u=>by
  have hrow:=World.ownsRow_lit (base:=0) (e:=30) (size:=3) u #[.int .i64 x.1,.int .i64 x.2.1,.int .i64 x.2.2] 1 (Qm _) (by simp [maxLen]) rfl
  have:=Zlt _ (some ⟨u.heap.size,0,none⟩) 1 [x] ⟨by simpa [atC] using hrow,fun y hy=>by simp at hy; subst hy; exact hx⟩ (by simp)
  rw [hSQ]
  exact this
 have sP:SP.size≤800:=(Zdr hTF.hp).1
 have sQ:SQ.size≤120:=(Zcy hTF.hq).1
 have hEn:=fun u=>Yff SP SQ u cs a (by simp only [maxLen]; omega) (by simp only [maxLen]; omega) hTF.hp hTF.hq
 obtain ⟨R,hR⟩:∃ R,R=aftN cs a 3001 3000 3002 (newN cs a) ⟨[],[],0,0⟩:=⟨_,rfl⟩
 rw [← hR] at hTF hEn
 obtain ⟨R1,T⟩:=R
 obtain ⟨t1,t2⟩:=hTF.two
 simp only at t1 t2
 have hQt:(Zdb a R1.status R1.found R1.tree).2.2=R1.tree:=by unfold Zdb; rw [if_neg (by omega),if_pos t1]
 unfold Yfe at hEn
 simp only [hQt] at hEn
 obtain ⟨tr,htr⟩:∃ tr,tr=R1.tree:=⟨_,rfl⟩
 obtain ⟨TR,hTR⟩:∃ TR:ByteArray,TR=⟨tr.toArray⟩:=⟨_,rfl⟩
 have hTRs:TR.size=tr.length:=by rw [hTR]; simp [ByteArray.size]
 rw [← htr,← hTR] at hEn
 have HEn:=Zac hEn
 obtain ⟨q1,q2⟩:=hTF.tree
 have hsm:=hTF.small
 simp only at hsm
 have qall:=hTF.all
 have qcut:=hTF.cut
 have qmore:=hTF.more
 have qleaf:=hTF.leaf
 have qdead:=hTF.dead
 have qeach:=hTF.each
 simp only at q1 q2 qall qcut qmore qleaf qdead qeach
 rw [← htr] at q1 q2 qall qcut qmore qleaf qdead
 have HAl:Hid (∀ u,Calls Tryz.prog 11 #[.string SP,.string SQ,.string TR] u fun e w'=>Ext u w'∧∃ va vc,e = .returned (.tuple #[.slice va T.ans.length vc,.int .i64 0,.int .i64 0])∧w'.ownsRow u.heap.size 9 1 (.slice va T.ans.length vc) T.ans.length (strs T.ans)):=fun u=>by
  have:=Zxv SP SQ TR u (by simp only [maxLen]; omega) (by simp only [maxLen]; omega) (by simp only [maxLen]; omega)
  unfold Zss at this
  rw [hTR,qall,← hTR] at this
  exact this
 have HCt:Hid (∀ n,n<tr.length→Ybg SP SQ (TR.extract 0 n) 6 n):=fun n hn=>by
  have e:TR.extract 0 n=⟨(tr.take n).toArray⟩:=by
   have:=Zxw (t:=tr) (j:=0) (n:=n) (by omega)
   rw [hTR]
   simpa using this
  rw [e]
  exact Zxy sP sQ (qcut n hn) (by simp; omega)
 have HMo:Hid (Ybg SP SQ (TR++⟨#[33]⟩) 6 TR.size):=by
  have e:TR++⟨#[33]⟩=⟨(tr++[33]).toArray⟩:=by rw [hTR]; exact Zbd _ [33]
  rw [e,hTRs]
  exact Zxy sP sQ qmore (by simp; omega)
 have HF1:Hid (∀ u,Calls Tryz.prog 14 #[.string TR,.string ⟨#[33]⟩] u (Zwf tr [33] u)):=fun u=>by rw [hTR]; exact Zxx tr [33] u (by omega) ⟨by simp,by simp⟩
 have HF2:Hid (∀ u,Calls Tryz.prog 14 #[.string TR,.string ⟨#[40,41]⟩] u (Zwf tr [40,41] u)):=fun u=>by rw [hTR]; exact Zxx tr [40,41] u (by omega) ⟨by simp,by simp⟩
 have Hlf:=Zac qleaf
 have Hdd:=Zac qdead
 have Hmis:Hid (∀ (i:Nat) (W:List UInt8),T.wts[i]?=some W→∀ u,Calls Tryz.prog 15 #[.string SP,.string SQ,.string ⟨W.toArray⟩] u fun e w'=>e = .returned (.bool true)∧Ext u w'):=fun i W hW u=>by
  obtain ⟨n,k1,k2,k3,k4,k5,rfl⟩:=qeach i W hW
  exact Ybe SP SQ cs a n u hTF.hp hTF.hq (by have:=hTF.len; omega) k1 k2 k3 k4 k5
 have HTR:=Zac hTR
 have HTRs:=Zac hTRs
 have hTz:1≤TR.size∧TR.size≤4000:=by omega
 have ht2a:((T.status:Int) == 2)=true:=by rw [beq_iff_eq]; omega
 have ht2b:((T.status:Int) != 2)=false:=by simp [bne,ht2a]
 have hE3s:=HE3.out.size
 obtain ⟨NL,hNL⟩:∃ NL,NL=Ls.length:=⟨_,rfl⟩
 rw [← hNL] at HRt ⊢
 clear hxp hK3 hR3 HA HK2 hru3 hlm hRt hSP hSQ hTF hR hQt htr hTR hTRs hEn q1 q2 qall qcut qmore qleaf qdead qeach t1 t2 Hru hE3 hx HE1 HE2 Hly Hcn h7 hNL
 go_wp2_with fail
 refine HRt.out.mono ?_
 rintro e w4 ⟨rfl,hE4⟩
 have hbx4:w4.heap[w3.heap.size]?=some (.cells #[.int .i64 x.1,.int .i64 x.2.1,.int .i64 x.2.2] 30 (0,0)):=(hE4.block _ (by simp)).trans (heap_alloc_new w3 _)
 have p0:=Zaa hbx4 0 _ rfl
 have p1:=Zaa hbx4 1 _ rfl
 have p2:=Zaa hbx4 2 _ rfl
 have pl:=Zab hbx4
 have HE4:Hid (Ext w w4):=HE3.out.trans (hE4.mono HE3.out.size)
 clear hE4 hbx4 HRt
 go_wp2_with fail
 refine (HLt.out w4).mono ?_
 rintro e w5 ⟨rfl,hE5⟩
 have HE5:Hid (Ext w w5):=(HE4.out.trans (((Ext.of (by repeat' (first | with_reducible(first|exact Qx _ _|apply Kept.drew|apply Kept.drewN|apply Qz|refine Qy ?_ ?_ _)|exact fun h=>absurd h (by simp <;> omega)))):Ext w4 (w4.alloc (.cells #[.int .i64 x.1,.int .i64 x.2.1,.int .i64 x.2.2] 30))).mono HE4.out.size)).trans (hE5.mono (by have:=HE4.out.size; simp; omega))
 clear hE5 p0 p1 p2 pl HLt
 go_wp2_with fail
 refine (HEn.out _).mono ?_
 rintro e w6 ⟨hE6,aa,ac,wa,wc,rfl,ha6,hw6⟩
 obtain ⟨V,hV⟩:∃ V,V=w6.alloc (.cells #[.slice aa T.ans.length ac,.slice wa T.wts.length wc,.int .i64 T.tries,.int .i64 T.status,.string TR] 37):=⟨_,rfl⟩
 have hEV:Ext w6 V:=by rw [hV]; exact (Ext.of (by repeat' (first | with_reducible(first|exact Qx _ _|apply Kept.drew|apply Kept.drewN|apply Qz|refine Qy ?_ ?_ _)|exact fun h=>absurd h (by simp <;> omega))))
 have hbV:V.heap[w6.heap.size]?=some (.cells #[.slice aa T.ans.length ac,.slice wa T.wts.length wc,.int .i64 T.tries,.int .i64 T.status,.string TR] 37 (0,0)):=by rw [hV]; exact heap_alloc_new w6 _
 have HT:Hid (∀ u,Ext V u→u.heap[w6.heap.size]?=some (.cells #[.slice aa T.ans.length ac,.slice wa T.wts.length wc,.int .i64 T.tries,.int .i64 T.status,.string TR] 37 (0,0))∧u.ownsRow 0 9 1 (.slice aa T.ans.length ac) T.ans.length (strs T.ans)∧u.ownsRow 0 9 1 (.slice wa T.wts.length wc) T.wts.length (strs T.wts)):=fun u hu=>by
  have hb:u.heap[w6.heap.size]?=V.heap[w6.heap.size]?:=hu.block _ (Zab hbV)
  exact ⟨hb.trans hbV,Zah (Zba ha6 (Qm _)) (fun k hk=>(hu.block k (by have:=(ha6.lt k hk).2; have:=hEV.size; omega)).trans (hEV.block k (ha6.lt k hk).2)),Zah (Zba hw6 (Qm _)) (fun k hk=>(hu.block k (by have:=(hw6.lt k hk).2; have:=hEV.size; omega)).trans (hEV.block k (hw6.lt k hk).2))⟩
 have HEV:Hid (Ext w V):=(HE5.out.trans (hE6.mono HE5.out.size)).trans (hEV.mono (Qq HE5.out.size hE6.size))
 have HV:=Zac hV
 clear hE6 ha6 hw6 hEV hbV hV HEn HE4 HE5 HE3 hE3s
 go_wp2_with fail
 rw [← HV.out]
 refine (HAl.out V).mono ?_
 rintro e u1 ⟨hF1,va,vc,rfl,hv1⟩
 obtain ⟨b1,b2,b3⟩:=HT.out u1 hF1
 have d0:=Zaa b1 0 _ rfl
 have d3:=Zaa b1 3 _ rfl
 have dl:=Zab b1
 have HSa:Hid (∀ y,Ext u1 y→Calls Tryz.prog 12 #[.slice va T.ans.length vc,.slice aa T.ans.length ac] y fun e w'=>e = .returned (.bool true)∧Ext y w'):=fun y hy=>by
  have:=Yhz y V.heap.size 0 va vc T.ans aa ac T.ans (Zah hv1 (fun k hk=>hy.block k (hv1.lt k hk).2)) (Zah b2 (fun k hk=>hy.block k (b2.lt k hk).2)) (by omega) (by omega)
  rw [decide_eq_true rfl] at this
  exact this
 have HFu:=Zac hF1
 clear hF1 hv1 b1 b2 b3
 go_wp2_with fail
 refine (HSa.out u1 (Below.refl _ _)).mono ?_
 rintro e u2 ⟨rfl,hF2⟩
 have hF2':Ext V u2:=HFu.out.trans (hF2.mono HFu.out.size)
 have b1:=(HT.out u2 hF2').1
 have d3:=Zaa b1 3 _ rfl
 have d4:=Zaa b1 4 _ rfl
 have dl:=Zab b1
 have HFu2:=Zac hF2'
 have HPk:=Zac (fun u=>Zwy cut TR.size u Hcut.out ⟨by omega,by omega⟩)
 have hpk:=Zwx cut TR.size (by omega)
 obtain ⟨n,hn⟩:∃ n,n=Znu cut TR.size:=⟨_,rfl⟩
 rw [← hn] at HPk hpk
 clear hF2 hF2' b1 d0 HSa HFu hn
 go_wp2_with fail
 refine (HPk.out u2).mono ?_
 rintro e u3 ⟨rfl,rfl⟩
 have HC1:=Zac (HCt.out n (by have:=HTRs.out; omega))
 have HM1:=Zac HMo.out
 unfold Ybg at HC1 HM1
 clear HPk
 go_wp2_with fail
 refine (HC1.out _).mono ?_
 rintro e u4 ⟨⟨va4,ln4,vc4,rfl⟩,hF4⟩
 have hF4':Ext V u4:=HFu2.out.trans (hF4.mono HFu2.out.size)
 have b4:=(HT.out u4 hF4').1
 have f4:=Zaa b4 4 _ rfl
 have fl:=Zab b4
 have HFu4:=Zac hF4'
 clear hF4 hF4' b4 d3 d4 dl HC1
 go_wp2_with fail
 refine (HM1.out _).mono ?_
 rintro e u5 ⟨⟨va5,ln5,vc5,rfl⟩,hF5⟩
 have hF5':Ext V u5:=HFu4.out.trans (hF5.mono HFu4.out.size)
 have b5:=(HT.out u5 hF5').1
 have g4:=Zaa b5 4 _ rfl
 have gl:=Zab b5
 have HFu5:=Zac hF5'
 clear hF5 hF5' b5 f4 fl HM1
 go_wp2_with fail
 refine (HF1.out _).mono ?_
 rintro e u6 ⟨hfind,hF6⟩
 have hF6':Ext V u6:=HFu5.out.trans (hF6.mono HFu5.out.size)
 have b6:=(HT.out u6 hF6').1
 have HFu6:=Zac hF6'
 have k4:=Zaa b6 4 _ rfl
 have kl:=Zab b6
 clear hF6 hF6' b6 g4 gl
 have hfv:∃ v:Int,e = .returned (.int .i64 v)∧((∃ i:Nat,Zck tr [33] i∧(∀ j,j<i→¬ Zck tr [33] j)∧v=i)∨v = -1):=by
  rcases hfind with ⟨i,h1,h2,h3⟩ | ⟨_,h3⟩
  ·exact ⟨i,h3,Or.inl ⟨i,h1,h2,rfl⟩⟩
  ·exact ⟨-1,h3,Or.inr rfl⟩
 obtain ⟨v1,rfl,hv1⟩:=hfv
 have Hv1:=Zac hv1
 clear hfind hv1
 go_upto_if 123 with fail
 go_cut [14,19,23] from 26 (fun _ _ _ wc=>Ext V wc)
 case first =>
  rcases Hv1.out with ⟨i,hi,hno,rfl⟩ | rfl
  ·have hil:i<TR.size:=by have:=(Zix.1 hi); have:=(Qa.1 this).1; have:=HTRs.out; omega
   have hX:Ybg SP SQ (TR.extract 0 i++⟨#[40,41]⟩++TR.extract (i+1) TR.size) 7 i:=by
    rw [Ztv HTR.out [40,41] (i:=i) (n:=1) (by have:=HTRs.out; omega)]
    exact Zxy sP sQ (Hlf.out i hi hno) (by have:=HTRs.out; simp; omega)
   have HI:Hid (∀ Z u,Ext u6.drew u→(∀ k,Z k→u6.heap.size≤k∧k<u.heap.size)→Calls Tryz.prog 11 #[.string SP,.string SQ,.string (TR.extract 0 i++⟨#[40,41]⟩++TR.extract (i+1) TR.size)] u fun e u'=>∃ v,e = .returned v∧Ext u u'∧AllR 7 i Z v u'):=fun Z u _ _=>by
    refine (hX u).mono ?_
    rintro e u' ⟨⟨va,ln,vc,rfl⟩,hE⟩
    exact ⟨_,rfl,hE,va,ln,vc,rfl⟩
   have h0i:(0:Int)≤(i:Int):=by omega
   have z1:(TR.extract 0 i).size=i:=by simp; omega
   have z2:(TR.extract (i+1) TR.size).size=TR.size - (i+1):=by simp
   have z3:¬ (TR.size:Int)<(i:Int):=by omega
   have z4:¬ (TR.size:Int)<(i:Int)+1:=by omega
   have z5:((i:Int)+1).toNat=i+1:=by omega
   have z6:i≤TR.size:=by omega
   have z7:i+1≤TR.size:=by omega
   have z8:=Zxz i 1 (by omega) (by omega)
   have Hno:=Zac (trivial)
   clear hX hno hi
   go_wp2_with fail
   refine Zga (by kernel_rfl) [.pur (.string SP),.pur (.string SQ),.pur (.pointer (some ⟨w6.heap.size,4,none⟩)),.pur (.string TR),.pur (.int .i64 i),.pur (.string (TR.extract 0 i)),.pur (.string (TR.extract 0 i++⟨#[40,41]⟩)),.pur (.pointer (some ⟨w6.heap.size,4,none⟩)),.pur (.string TR),.pur (.int .i64 i),.pur (.int .i64 ((i:Int)+1)),.pur (.string (TR.extract (i+1) TR.size)),.pur (.string (TR.extract 0 i++⟨#[40,41]⟩++TR.extract (i+1) TR.size)),.cal,.post (fun v=>v),.post (Zdm 0),.post (Zdm 1),.post (Zdm 2),.post (Zdm 1),.post (Zdm 2)] 13 (by kernel_rfl) (AllR 7 i) 11 _ (AllR.stable 7 i) HI.out ?_ rfl (by decide) ?_
   ·refine ⟨fun vc β u hu => ?_,fun vc β u hu => ?_,fun vc β u hu => ?_,fun vc β u hu => ?_,fun vc β u hu => ?_,fun vc β u hu => ?_,fun vc β u hu => ?_,fun vc β u hu => ?_,fun vc β u hu => ?_,fun vc β u hu => ?_,fun vc β u hu => ?_,fun vc β u hu => ?_,fun vc β u hu => ?_,fun vc β u => ?_,?_,?_,?_,?_,?_,?_,trivial⟩
    all_goals try (simp [pa,Kd.val,go_sem]; done)
    all_goals try (simp [pa,Kd.val,go_sem,hu.up k4]; done)
    all_goals try (rintro vc β Z u ⟨va,ln,vcc,rfl⟩; simp [pa,Kd.val,go_sem,Zdm]; done)
    all_goals try (simp [pa,Kd.val,go_sem,z1,z2,z3,z4,z5,z6,z7]; done)
    all_goals simp [pa,Kd.val,go_sem,z1,z2,z3,z4,z5,z6,z7]
    all_goals first | omega | exact z8 | go_num | (intro h; omega)
   rintro vc β u7 hext7 ⟨va7,ln7,vc7,rfl⟩ _ _
   have HF7:Hid (Ext V u7):=HFu6.out.trans (hext7.undrew.mono HFu6.out.size)
   clear hext7
   simp only [phAll,phA,paAll,pa,Ph.kd,Ph.val,Kd.val,List.map_cons,List.map_nil,if_true,Act.put,List.setIfInBounds_toArray,List.set_cons_succ,List.set_cons_zero]
   simp only [show ∀ a b c:Value,Zdm 1 (.tuple #[a,b,c])=b from fun _ _ _=>rfl,show ∀ a b c:Value,Zdm 2 (.tuple #[a,b,c])=c from fun _ _ _=>rfl]
   go_wp2
   go_meet
   case rel=>exact HF7.out
  ·go_wp2
   go_meet
   case rel=>exact HFu6.out
 case rest =>
  have HC:=Zac hcut
  have bc:=(HT.out wc hcut).1
  have c4:=Zaa bc 4 _ rfl
  have cl:=Zab bc
  clear hcut bc k4 kl HFu6 HFu5 HFu4 HFu2 Hv1 Hlf HF1
  go_wp2_with fail
  refine (HF2.out _).mono ?_
  rintro e x6 ⟨hfind,hG6⟩
  have hG6':Ext V x6:=HC.out.trans (hG6.mono HC.out.size)
  have b6:=(HT.out x6 hG6').1
  have HG6:=Zac hG6'
  have c4:=Zaa b6 4 _ rfl
  have cl:=Zab b6
  clear hG6 hG6' b6
  have hfv:∃ v:Int,e = .returned (.int .i64 v)∧((∃ i:Nat,Zck tr [40,41] i∧(∀ j,j<i→¬ Zck tr [40,41] j)∧v=i)∨v = -1):=by
   rcases hfind with ⟨i,h1,h2,h3⟩ | ⟨_,h3⟩
   ·exact ⟨i,h3,Or.inl ⟨i,h1,h2,rfl⟩⟩
   ·exact ⟨-1,h3,Or.inr rfl⟩
  obtain ⟨v2,rfl,hv2⟩:=hfv
  have Hv2:=Zac hv2
  clear hfind hv2
  go_upto_if 153 with fail
  go_cut [14,19,23] from 26 (fun _ _ _ wc=>Ext V wc)
  case first =>
   rcases Hv2.out with ⟨i,hi,hno,rfl⟩ | rfl
   ·have hil:i+1<TR.size:=by have:=(Ziy.1 hi).2; have:=(Qa.1 this).1; have:=HTRs.out; omega
    have hX:Ybg SP SQ (TR.extract 0 i++⟨#[33]⟩++TR.extract (i+2) TR.size) 7 i:=by
     rw [Ztv HTR.out [33] (i:=i) (n:=2) (by have:=HTRs.out; omega)]
     exact Zxy sP sQ (Hdd.out i hi hno) (by have:=HTRs.out; simp; omega)
    have HI:Hid (∀ Z u,Ext x6.drew u→(∀ k,Z k→x6.heap.size≤k∧k<u.heap.size)→Calls Tryz.prog 11 #[.string SP,.string SQ,.string (TR.extract 0 i++⟨#[33]⟩++TR.extract (i+2) TR.size)] u fun e u'=>∃ v,e = .returned v∧Ext u u'∧AllR 7 i Z v u'):=fun Z u _ _=>by
     refine (hX u).mono ?_
     rintro e u' ⟨⟨va,ln,vc,rfl⟩,hE⟩
     exact ⟨_,rfl,hE,va,ln,vc,rfl⟩
    have h0i:(0:Int)≤(i:Int):=by omega
    have z1:(TR.extract 0 i).size=i:=by simp; omega
    have z2:(TR.extract (i+2) TR.size).size=TR.size - (i+2):=by simp
    have z3:¬ (TR.size:Int)<(i:Int):=by omega
    have z4:¬ (TR.size:Int)<(i:Int)+2:=by omega
    have z5:((i:Int)+2).toNat=i+2:=by omega
    have z6:i≤TR.size:=by omega
    have z7:i+2≤TR.size:=by omega
    have z8:=Zxz i 2 (by omega) (by omega)
    have Hno:=Zac (trivial)
    clear hX hno hi
    go_wp2_with fail
    refine Zga (by kernel_rfl) [.pur (.string SP),.pur (.string SQ),.pur (.pointer (some ⟨w6.heap.size,4,none⟩)),.pur (.string TR),.pur (.int .i64 i),.pur (.string (TR.extract 0 i)),.pur (.string (TR.extract 0 i++⟨#[33]⟩)),.pur (.pointer (some ⟨w6.heap.size,4,none⟩)),.pur (.string TR),.pur (.int .i64 i),.pur (.int .i64 ((i:Int)+2)),.pur (.string (TR.extract (i+2) TR.size)),.pur (.string (TR.extract 0 i++⟨#[33]⟩++TR.extract (i+2) TR.size)),.cal,.post (fun v=>v),.post (Zdm 0),.post (Zdm 1),.post (Zdm 2),.post (Zdm 1),.post (Zdm 2)] 13 (by kernel_rfl) (AllR 7 i) 11 _ (AllR.stable 7 i) HI.out ?_ rfl (by decide) ?_
    ·refine ⟨fun vc β u hu => ?_,fun vc β u hu => ?_,fun vc β u hu => ?_,fun vc β u hu => ?_,fun vc β u hu => ?_,fun vc β u hu => ?_,fun vc β u hu => ?_,fun vc β u hu => ?_,fun vc β u hu => ?_,fun vc β u hu => ?_,fun vc β u hu => ?_,fun vc β u hu => ?_,fun vc β u hu => ?_,fun vc β u => ?_,?_,?_,?_,?_,?_,?_,trivial⟩
     all_goals try (simp [pa,Kd.val,go_sem]; done)
     all_goals try (simp [pa,Kd.val,go_sem,hu.up c4]; done)
     all_goals try (rintro vc β Z u ⟨va,ln,vcc,rfl⟩; simp [pa,Kd.val,go_sem,Zdm]; done)
     all_goals try (simp [pa,Kd.val,go_sem,z1,z2,z3,z4,z5,z6,z7]; done)
     all_goals simp [pa,Kd.val,go_sem,z1,z2,z3,z4,z5,z6,z7]
     all_goals first | omega | exact z8 | go_num | (intro h; omega)
    rintro vc β u7 hext7 ⟨va7,ln7,vc7,rfl⟩ _ _
    have HF7:Hid (Ext V u7):=HG6.out.trans (hext7.undrew.mono HG6.out.size)
    clear hext7
    simp only [phAll,phA,paAll,pa,Ph.kd,Ph.val,Kd.val,List.map_cons,List.map_nil,if_true,Act.put,List.setIfInBounds_toArray,List.set_cons_succ,List.set_cons_zero]
    simp only [show ∀ a b c:Value,Zdm 1 (.tuple #[a,b,c])=b from fun _ _ _=>rfl,show ∀ a b c:Value,Zdm 2 (.tuple #[a,b,c])=c from fun _ _ _=>rfl]
    go_wp2
    go_meet
    case rel=>exact HF7.out
   ·go_wp2
    go_meet
    case rel=>exact HG6.out
  case rest =>
   have HD:=Zac hcut
   have bc:=(HT.out wc hcut).1
   have e1:=Zaa bc 1 _ rfl
   have el:=Zab bc
   clear hcut bc c4 cl HG6 HC Hv2 Hdd HF2
   go_wp2
   go_loopw [24] (fun i u=>∃ k:Nat,k≤T.wts.length∧i = .int .i64 k∧Ext V u) (fun i _=>T.wts.length - (intOf i).toNat)
   case atStart=>exact ⟨0,Qm _,rfl,HD.out⟩
   case round =>
    obtain ⟨k,hk,rfl,hEu⟩:=hrel
    have HEu:=Zac hEu
    obtain ⟨b1,b2,b3⟩:=HT.out wr hEu
    have d1:=Zaa b1 1 _ rfl
    have dl:=Zab b1
    by_cases hlt:k<T.wts.length
    ·obtain ⟨g,W,rfl,hg,hW,cW⟩:=Zvr b3 hlt
     have HM:=Zac (Hmis.out k W hW)
     clear hEu b1 b2 b3 hW
     go_wp2_with fail
     refine (HM.out _).mono ?_
     rintro e y1 ⟨rfl,hY1⟩
     have HY1:Hid (Ext V y1):=HEu.out.trans (hY1.mono HEu.out.size)
     clear hY1
     go_wp2
     go_roundw
     case rel=>exact ⟨k+1,by omega,by go_num,HY1.out⟩
     case measure=>simp [intOf]; omega
    ·clear b1 b2 b3
     go_wp2
     go_ret
     exact ⟨rfl,HEV.out.trans (HEu.out.mono HEV.out.size)⟩
end Go.Proofs.YtlmjilpjmgjjcabGreatDoor
namespace Go.Proofs.YtlmjilpjmgjjcabGreatDoor
open Go.ChangeShapes Go.WideShapes Go.ChangeAt Go.WideMaps Go.WideElems Go.RowKit
theorem own_k:ownKnob Tryz.prog.godebug=none:=by kernel_rfl
theorem Ztw:laidOutB Tryz.prog=true:=by kernel_rfl
theorem Zwh {H:Type} {enc:TypeId × Value→H} {W:World} {base:Nat} {spare:Nat→Bool} {held:Bool} {n:Int} {d:DataW H} {ps:List MemPlace} (h:DataW.Trod enc Tryz.prog W base spare held 3 (.int .i64 n) d ps) : -9223372036854775808≤n∧n<9223372036854775808:=by
 obtain ⟨fuel,hf⟩:=h
 obtain ⟨s,h1,_,h3⟩:=DataW.trod_int Tryz.underlying3 hf
 simp [Value.cells] at h1
 subst h1
 have h4:(decide (IntKind.min .i64≤n) && decide (n≤IntKind.max .i64))=true:=h3
 rw [Bool.and_eq_true,decide_eq_true_eq,decide_eq_true_eq,show IntKind.min .i64 = -9223372036854775808 from rfl,show IntKind.max .i64=9223372036854775807 from rfl] at h4
 omega
end Go.Proofs.YtlmjilpjmgjjcabGreatDoor
