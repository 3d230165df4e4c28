/-
  PROVED HERE: the given card of 'Warranted' (no conditions).
-/
import Derived.Test.YtlmjilpjmgjjcaaGreatDoorT12
import Derived.Test.YtlmjilpjmgjjcaaGreatDoorRows
import Derived.Test.YtlmjilpjmgjjcaaGreatDoorCards
import Derived.Test.YtlmjilpjmgjjcaaGreatDoorTie
import Derived.ProofKit
import Derived.LaidMore
import Derived.OpenShut
import Derived.Stop.Joined
import Derived.SevenTiedAt
import Derived.Deep.Slices
import Derived.Carry
set_option linter.unusedSimpArgs false
set_option linter.unusedVariables false
set_option maxRecDepth 10000
set_option maxHeartbeats 4000000
namespace Go.Proofs.YtlmjilpjmgjjcaaGreatDoor
open Go.RowKit
def Yga (w0 w:World) (b:Nat) (cv nv:Value) (s:ByteArray) (M:HM) (e:Ending) (w':World):Prop:=FrT w w'∧e = .returned (.bool M.ok)∧HoIn w0 w' b cv nv s M.at' M.way M.ans
theorem HoIn.grow {w0 w w':World} {b:Nat} {cv nv:Value} {s:ByteArray} {p:Nat} {way:List (ND × Nat)} {A:List (List UInt8)} (h:HoIn w0 w b cv nv s p way A) (e:Ext w w'):HoIn w0 w' b cv nv s p way A:=by
 obtain ⟨wa,wc,aa,ac,h⟩:=h
 exact ⟨wa,wc,aa,ac,h.grow e⟩
theorem CHo.answer {w0 w w1:World} {b:Nat} {cv nv:Value} {s:ByteArray} {p:Nat} {way:List (ND × Nat)} {A:List (List UInt8)} {wa:Option Addr} {wc:Nat} {aa aa':Option Addr} {ac ac':Nat} {Y:List UInt8} (h:CHo w0 w b cv nv s p way A wa wc aa ac)
  (ha:Appended w w0.heap.size 9 1 (.slice aa A.length ac) (A.length+1) (strs A++[.string ⟨Y.toArray⟩]) (.slice aa' (A.length+1) ac') w1) :
  w1.heap[b]?=w.heap[b]?∧CHo w0 (w1.setCell ⟨b,5,none⟩ (.slice aa' (A.length+1) ac')) b cv nv s p way (A++[Y]) wa wc aa' ac'∧FrT w (w1.setCell ⟨b,5,none⟩ (.slice aa' (A.length+1) ac')):=by
 obtain ⟨ys,h2⟩:=h.row
 have hn:=Zfs h.ans h.box (by decide)
 have hb1:w1.heap[b]?=w.heap[b]?:=ha.kept.block b (Zab h.box) (fun e=>hn b e rfl)
 have hF1:FrT w w1:=FrT.of_kept ha.kept (fun k e=>by
  rcases h.ans.2 with ⟨e',_⟩ | ⟨g,cap,cur,e',_,hg,_⟩
  ·rw [e'] at e; simp [Zbo,Value.ownBlock] at e
  ·rw [e'] at e
   simp [Zbo,Value.ownBlock] at e
   subst e
   exact ⟨_,_,_,hg,by simp [HoTy]⟩)
 have hrow1:RowH w0.heap.size w1 (.slice wa way.length wc) way.reverse ys:=h2.keep hF1 (fun k hj=>ha.kept.block k (h2.owns.lt k hj).2 (fun e=>by
  rcases h.ans.2 with ⟨e',_⟩ | ⟨g,cap,cur,e',_,hg,_⟩
  ·rw [e'] at e; simp [Zbo,Value.ownBlock] at e
  ·rw [e'] at e
   simp [Zbo,Value.ownBlock] at e
   subst e
   exact Zfs h2.owns hg (by decide) _ hj rfl))
 have hE1:Ext w0 w1:=h.ext.trans (ha.kept.below h.ext.size (fun k e=>(h.ans.lt k e).1))
 have hbx1:=hb1.trans h.box
 have hK:Kept (only b) w1 (w1.setCell ⟨b,5,none⟩ (.slice aa' (A.length+1) ac')):=(Qx _ _).put 5 _
 have hF2:FrT w1 (w1.setCell ⟨b,5,none⟩ (.slice aa' (A.length+1) ac')):=FrT.of_kept hK (fun k e=>by
  have e:k=b:=e
  subst e
  exact ⟨_,_,_,hbx1,by simp [HoTy]⟩)
 have hl:(A++[Y]).length=A.length+1:=by simp
 have hs:strs (A++[Y])=strs A++[.string ⟨Y.toArray⟩]:=by simp [strs]
 refine ⟨hb1,⟨Zeg hE1 hK h.low,h.low,by rw [hl]; exact Zaf hbx1 5 _,⟨ys,hrow1.keep hF2 (fun k hj=>hK.block k (hrow1.owns.lt k hj).2 (Zfs hrow1.owns hbx1 (by decide) k hj))⟩,?_⟩,hF1.trans hF2⟩
 rw [hl,hs]
 exact Zah ha.owns (fun k hj=>hK.block k (ha.owns.lt k hj).2 (Zfs ha.owns hbx1 (by decide) k hj))
theorem Zwr (w0 w:World) (b:Nat) (cv nv:Value) (s:ByteArray) (p:Nat) (way:List (ND × Nat)) (A:List (List UInt8)) (names:Names) (gv vv rv uv:Value) (n:ND) (h:HoIn w0 w b cv nv s p way A) (hn:CNode w gv vv rv uv n) (hg:n.goals=[]) (hnv:w0.ownsRow 0 9 1 nv names.length (strs names)) (hvl:n.vals.length=names.length) (hs6:names.length≤60) (hns:∀ x ∈ names,x.length≤8) (hs:s.size≤20000) (hp:p≤s.size) (hA:A.length≤20000) :
  Calls Tryz.prog 103 #[.pointer (some ⟨b,0,none⟩),.agg #[gv,vv,rv,uv]] w (Yga w0 w b cv nv s (Zcn names s.data.toList n p way A)):=by
 obtain ⟨ga,gc,va',vl',vc',ra,rl,rc,u,rfl,rfl,rfl,rfl,hu4⟩:=hn.shape
 obtain ⟨W,hW⟩:∃ W,W=w.alloc (.cells #[.slice ga n.goals.length gc,.slice va' vl' vc',.slice ra rl rc,.int .i64 u] 87):=⟨_,rfl⟩
 have hEW:Ext w W:=by rw [hW]; exact (Ext.of (by repeat' (first | with_reducible(first|exact Qx _ _|apply Kept.drew|apply Kept.drewN|apply Qz|refine Qy ?_ ?_ _)|exact fun h=>absurd h (by simp <;> omega))))
 have hbW:W.heap[w.heap.size]?=some (.cells #[.slice ga n.goals.length gc,.slice va' vl' vc',.slice ra rl rc,.int .i64 u] 87 (0,0)):=by rw [hW]; exact heap_alloc_new w _
 have HP:=Zac (Zrr w0 W b cv nv s p way A 33 (by decide) (h.grow hEW) hs hp)
 have hm:Zcn names s.data.toList n p way A=if s.data.toList[p]?=some 33 then ⟨true,p+1,way,A++[Zbp names n]⟩ else ⟨false,p,way,A⟩:=by unfold Zcn; rw [if_pos hg]
 obtain ⟨Y,hY⟩:∃ Y,Y=Zbp names n:=⟨_,rfl⟩
 rw [← hY] at hm
 obtain ⟨M,hM⟩:∃ M,M=Zcn names s.data.toList n p way A:=⟨_,rfl⟩
 rw [← hM] at hm ⊢
 have Hm:=Zac hm
 have hbl:b<w.heap.size:=by
  obtain ⟨_,_,_,_,h⟩:=h
  exact Zab h.box
 have Hn:=Zac hn
 have HEW:=Zac hEW
 have HbW:=Zac hbW
 simp only [show ((33:UInt8).toNat:Int)=33 from rfl] at HP
 rw [hg,Jt] at hW HbW ⊢
 have HW:=Zac hW
 have Hnv:=Zac hnv
 obtain ⟨na,nc,rfl⟩:=Zae hnv
 clear h hn hm hEW hbW hW hg hnv hM
 go_enter Tryz.func103,Tryz.ntmps103
 go_wp2_with fail
 rw [← HW.out]
 refine HP.out.mono ?_
 rintro e w1 ⟨hF1,⟨hc,rfl,h1⟩ | ⟨hc,rfl,h1⟩⟩
 ·obtain ⟨wa1,wc1,aa1,ac1,h1⟩:=h1
  obtain ⟨b0,b1,b2,b3,b4,b5,bf⟩:=box6 h1.box
  have hx1:=hF1 _ _ _ _ HbW.out (by simp [HoTy])
  have v1:=Zaa hx1 1 _ rfl
  have hbl1:=Zab h1.box
  obtain ⟨n1,hN,hU,hOk,hNm,hFw,hS⟩:=(Hn.out.ext HEW.out).fr hF1
  have hnl:n1.vals.length=names.length:=by rw [hS.vl,hvl]
  have hans:Zbp names n1=Zbp names n:=by unfold Zbp; rw [hS.valsC hOk]
  have hnv1:=Zah Hnv.out (fun j hj=>h1.ext.block j (Hnv.out.lt j hj).2)
  have HA:Hid (Calls Tryz.prog 70 #[.slice na names.length nc,.slice va' vl' vc'] w1.drew fun e w'=>Ext w1.drew w'∧e = .returned (.string ⟨(Zbp names n).toArray⟩)):=by
   have hE:Ext w1 w1.drew:=⟨rfl,rfl,rfl,Qe _,fun _ _=>rfl⟩
   rw [← hans]
   exact Zha _ _ _ names n1.vals (Zah hnv1 (fun j hj=>hE.block j (hnv1.lt j hj).2)) (hN.vals.ext hE) (Zwj hOk hNm (by omega)) hnl.symm (Zll hOk hNm (by omega) hs6 hns)
  rw [← hY] at HA
  have Hm1:Hid (M=⟨true,p+1,way,A++[Y]⟩):=by show _=_; rw [Hm.out,if_pos hc]
  have H1:=Zac h1
  have HF1:=Zac ((FrT.of_ext HEW.out).trans hF1)
  clear h1 hF1 hx1 hN hU hOk hNm hFw hS hnl hans hnv1 hY HP hns
  go_wp2_with fail
  refine Zgk (by kernel_rfl) [.rd 0 1 (fun _ => .pointer (some ⟨b,0,none⟩)),.rd 0 1 (fun _ => .pointer (some ⟨b,0,none⟩)),.rd 0 1 (fun _ => .pointer (some ⟨b,1,none⟩)),.rd 0 0 (fun _ => .slice na names.length nc),.rd 0 1 (fun _ => .pointer (some ⟨w.heap.size,1,none⟩)),.rd 0 0 (fun _ => .slice va' vl' vc'),.st 0,.rd 1 1 (fun _ => .string ⟨Y.toArray⟩)] 1 7 (by kernel_rfl) (OnePh w1.drew (.string ⟨Y.toArray⟩)) rfl ?_ ?_
  ·refine ⟨⟨trivial,fun vs y _ hl hS => ?_⟩,⟨trivial,fun vs y _ hl hS => ?_⟩,⟨trivial,fun vs y _ hl hS => ?_⟩,⟨trivial,fun vs y _ hl hS => ?_⟩,⟨trivial,fun vs y _ hl hS => ?_⟩,⟨trivial,fun vs y _ hl hS => ?_⟩,⟨trivial,fun vs y hl hS => ?_⟩,⟨trivial,fun vs y hl0 hl hS => ?_⟩,trivial⟩
   ·simp [phAll,phA,pa,Ph.kd,Ph.val,Kd.val,go_sem]
   ·simp [phAll,phA,pa,Ph.kd,Ph.val,Kd.val,go_sem]
   ·simp [phAll,phA,pa,Ph.kd,Ph.val,Kd.val,go_sem]
   ·obtain rfl:=hS.at hl
    simp [phAll,phA,pa,Ph.kd,Ph.val,Kd.val,go_sem,b1]
   ·simp [phAll,phA,pa,Ph.kd,Ph.val,Kd.val,go_sem]
   ·obtain rfl:=hS.at hl
    simp [phAll,phA,pa,Ph.kd,Ph.val,Kd.val,go_sem,v1]
   ·obtain rfl:=List.length_eq_zero_iff.1 hl
    obtain rfl:y=w1.drew:=hS
    refine .call 70 #[.slice na names.length nc,.slice va' vl' vc'] _ (by simp [phAll,phA,pa,Ph.kd,Ph.val,Kd.val,go_sem]) (HA.out.mono ?_)
    rintro e u ⟨hE,rfl⟩
    exact ⟨_,rfl,rfl,hE⟩
   ·obtain ⟨v,rfl⟩:=List.length_eq_one_iff.1 (show vs.length=1 by omega)
    obtain ⟨rfl,_⟩:=hS
    simp [phAll,phA,pa,Ph.kd,Ph.val,Kd.val,go_sem]
  rintro vs y hl hS
  obtain ⟨v,rfl⟩:=List.length_eq_one_iff.1 hl
  obtain ⟨hv,hy⟩:=hS
  have hy2:=hy.undrew
  have h2:=H1.out.grow hy2
  have HF2:=Zac (HF1.out.trans (FrT.of_ext hy2))
  clear b0 b1 b2 b3 b4 b5 bf v1
  obtain ⟨b0,b1,b2,b3,b4,b5,bf⟩:=box6 h2.box
  have hbl2:=Zab h2.box
  have H2:=Zac h2
  simp only [phAll,phA,paAll,pa,Ph.kd,Ph.val,Kd.val,List.map_cons,List.map_nil,if_true,Act.put,List.setIfInBounds_toArray,List.set_cons_succ,List.set_cons_zero]
  clear hv hy hy2 h2
  go_wp2_with (at_builtin; go_loud (refine Zan y rfl (.tmp 24) (.tmp 26) 47 rfl w0.heap.size 9 Tryz.infoStr Tryz.underlying47 rfl (by decide) (.slice aa1 A.length ac1) A.length (strs A) rfl H2.out.ans #[.string ⟨Y.toArray⟩] rfl (by omega) rfl (by simp [Value.oneCell']) ?_ ?_ ?_))
  ·omega
  ·have:=H2.out.ext.size
   omega
  intro v' w2 hap
  obtain ⟨ga2,gc2,rfl⟩:=Zae hap.owns
  obtain ⟨hb2,hC2,hF3⟩:=H2.out.answer hap
  have hbx2:=hb2.trans H2.out.box
  have c5:=Zaa hbx2 5 _ rfl
  have cf:=fun i=>Zad hbx2 i
  have HC2:=Zac hC2
  have HF3:=Zac hF3
  have hbl3:=Zab hbx2
  clear hap hb2 hC2 hF3 hbx2 b0 b1 b2 b3 b4 b5 bf
  go_wp2
  go_ret
  rw [Hm1.out]
  exact ⟨HF2.out.trans HF3.out,rfl,_,_,_,_,HC2.out⟩
 ·have H1:=Zac h1
  have HF1:=Zac ((FrT.of_ext HEW.out).trans hF1)
  have Hm1:Hid (M=⟨false,p,way,A⟩):=by show _=_; rw [Hm.out,if_neg hc]
  clear h1 hF1 hc HP
  go_wp2
  go_ret
  rw [Hm1.out]
  exact ⟨HF1.out,rfl,H1.out⟩
theorem Tryz.infoLevelT:(Tryz.prog.info? 235).map (fun i=>(i.zero,i.size,i.bytes))=some (some (.agg #[.slice none 0 0,.slice none 0 0,.slice none 0 0,.int .i64 0,.int .i64 0]),5,88):=by kernel_rfl
theorem RowH.step {B:Nat} {w w':World} {cv cv':Value} {ds:List (ND × Nat)} {xs:List Value} {x0 x1 x2 x3:Value} {n:ND} {k:Nat} (h:RowH B w cv ds xs) (hn:CNode w x0 x1 x2 x3 n) (hF:FrT w w') (ho:w'.ownsRow B 235 5 cv' (ds.length+1) (xs++[x0,x1,x2,x3,.int .i64 k])) :
  RowH B w' cv' (ds++[(n,k)]) (xs++[x0,x1,x2,x3,.int .i64 k]):=by
 have hxl:=h.owns.1
 refine ⟨by simpa using ho,fun i d hd => ?_⟩
 rcases Nat.lt_or_ge i ds.length with hi | hi
 ·rw [Qc hi] at hd
  obtain ⟨p0,p1,p2,p3,y0,y1,y2,y3,y4,g⟩:=h.all i d hd
  exact ⟨p0,p1,p2,p3,by rw [Qc (by omega)]; exact y0,by rw [Qc (by omega)]; exact y1,by rw [Qc (by omega)]; exact y2,by rw [Qc (by omega)]; exact y3,by rw [Qc (by omega)]; exact y4,g.fr hF⟩
 ·have e:i=ds.length:=by
   have:=(Qa.1 hd).1
   simp at this; omega
  subst e
  rw [Qd (Qe _)] at hd
  simp at hd
  subst hd
  exact ⟨x0,x1,x2,x3,by rw [Qd (by omega)]; simp [hxl],by rw [Qd (by omega),show ds.length * 5+1 - xs.length=1 by omega]; rfl,by rw [Qd (by omega),show ds.length * 5+2 - xs.length=2 by omega]; rfl,by rw [Qd (by omega),show ds.length * 5+3 - xs.length=3 by omega]; rfl,by rw [Qd (by omega),show ds.length * 5+4 - xs.length=4 by omega]; rfl,hn.fr hF⟩
theorem CHo.push {w0 w w1:World} {b:Nat} {cv nv:Value} {s:ByteArray} {p:Nat} {way:List (ND × Nat)} {A:List (List UInt8)} {wa wa':Option Addr} {wc wc':Nat} {aa:Option Addr} {ac:Nat} {n:ND} {x0 x1 x2 x3:Value} {ys:List Value} (h:CHo w0 w b cv nv s p way A wa wc aa ac) (h2:RowH w0.heap.size w (.slice wa way.length wc) way.reverse ys) (hn:CNode w x0 x1 x2 x3 n)
  (ha:Appended w w0.heap.size 235 5 (.slice wa way.length wc) (way.length+1) (ys++[x0,x1,x2,x3,.int .i64 0]) (.slice wa' (way.length+1) wc') w1) :
  w1.heap[b]?=w.heap[b]?∧CHo w0 (w1.setCell ⟨b,4,none⟩ (.slice wa' (way.length+1) wc')) b cv nv s p ((n,0)::way) A wa' wc' aa ac∧FrT w (w1.setCell ⟨b,4,none⟩ (.slice wa' (way.length+1) wc')):=by
 have hn':=Zfs h2.owns h.box (by decide)
 have hb1:w1.heap[b]?=w.heap[b]?:=ha.kept.block b (Zab h.box) (fun e=>hn' b e rfl)
 have hF1:FrT w w1:=FrT.of_kept ha.kept (fun k e=>by
  rcases h2.owns.2 with ⟨e',_⟩ | ⟨g,cap,cur,e',_,hg,_⟩
  ·rw [e'] at e; simp [Zbo,Value.ownBlock] at e
  ·rw [e'] at e
   simp [Zbo,Value.ownBlock] at e
   subst e
   exact ⟨_,_,_,hg,by simp [HoTy]⟩)
 have hrow1:=h2.step (k:=0) hn hF1 (by rw [List.length_reverse]; exact ha.owns)
 have hans1:w1.ownsRow w0.heap.size 9 1 (.slice aa A.length ac) A.length (strs A):=Zah h.ans (fun k hj=>ha.kept.block k (h.ans.lt k hj).2 (fun e=>by
  rcases h2.owns.2 with ⟨e',_⟩ | ⟨g,cap,cur,e',_,hg,_⟩
  ·rw [e'] at e; simp [Zbo,Value.ownBlock] at e
  ·rw [e'] at e
   simp [Zbo,Value.ownBlock] at e
   subst e
   exact Zfs h.ans hg (by decide) _ hj rfl))
 have hE1:Ext w0 w1:=h.ext.trans (ha.kept.below h.ext.size (fun k e=>(h2.owns.lt k e).1))
 have hbx1:=hb1.trans h.box
 have hK:Kept (only b) w1 (w1.setCell ⟨b,4,none⟩ (.slice wa' (way.length+1) wc')):=(Qx _ _).put 4 _
 have hF2:FrT w1 (w1.setCell ⟨b,4,none⟩ (.slice wa' (way.length+1) wc')):=FrT.of_kept hK (fun k e=>by
  have e:k=b:=e
  subst e
  exact ⟨_,_,_,hbx1,by simp [HoTy]⟩)
 exact ⟨hb1,⟨Zeg hE1 hK h.low,h.low,Zaf hbx1 4 _,⟨_,by rw [List.reverse_cons]; exact hrow1.keep hF2 (fun k hj=>hK.block k (hrow1.owns.lt k hj).2 (Zfs hrow1.owns hbx1 (by decide) k hj))⟩,Zah hans1 (fun k hj=>hK.block k (hans1.lt k hj).2 (Zfs hans1 hbx1 (by decide) k hj))⟩,hF1.trans hF2⟩
theorem Zws (w0 w:World) (b:Nat) (cv nv:Value) (s:ByteArray) (p:Nat) (way:List (ND × Nat)) (A:List (List UInt8)) (names:Names) (gv vv rv uv:Value) (n:ND) (h:HoIn w0 w b cv nv s p way A) (hn:CNode w gv vv rv uv n) (hg:n.goals≠[]) (hs:s.size≤20000) (hp:p≤s.size) (hwl:way.length≤20000) :
  Calls Tryz.prog 103 #[.pointer (some ⟨b,0,none⟩),.agg #[gv,vv,rv,uv]] w (Yga w0 w b cv nv s (Zcn names s.data.toList n p way A)):=by
 obtain ⟨ga,gc,va',vl',vc',ra,rl,rc,u,rfl,rfl,rfl,rfl,hu4⟩:=hn.shape
 have hgl:0<n.goals.length:=List.length_pos_iff.2 hg
 obtain ⟨z,hz⟩:∃ z,z=n.goals.length:=⟨_,rfl⟩
 rw [← hz] at hgl hn ⊢
 obtain ⟨W,hW⟩:∃ W,W=w.alloc (.cells #[.slice ga z gc,.slice va' vl' vc',.slice ra rl rc,.int .i64 u] 87):=⟨_,rfl⟩
 have hEW:Ext w W:=by rw [hW]; exact (Ext.of (by repeat' (first | with_reducible(first|exact Qx _ _|apply Kept.drew|apply Kept.drewN|apply Qz|refine Qy ?_ ?_ _)|exact fun h=>absurd h (by simp <;> omega))))
 have hbW:W.heap[w.heap.size]?=some (.cells #[.slice ga z gc,.slice va' vl' vc',.slice ra rl rc,.int .i64 u] 87 (0,0)):=by rw [hW]; exact heap_alloc_new w _
 have HP:=Zac (Zrr w0 W b cv nv s p way A 40 (by decide) (h.grow hEW) hs hp)
 have hm:Zcn names s.data.toList n p way A=if s.data.toList[p]?=some 40 then ⟨true,p+1,(n,0)::way,A⟩ else ⟨false,p,way,A⟩:=by unfold Zcn; rw [if_neg hg]
 obtain ⟨M,hM⟩:∃ M,M=Zcn names s.data.toList n p way A:=⟨_,rfl⟩
 rw [← hM] at hm ⊢
 have Hm:=Zac hm
 have hbl:b<w.heap.size:=by
  obtain ⟨_,_,_,_,h⟩:=h
  exact Zab h.box
 have Hn:=Zac hn
 have HEW:=Zac hEW
 have HbW:=Zac hbW
 simp only [show ((40:UInt8).toNat:Int)=40 from rfl] at HP
 have HW:=Zac hW
 have hzi:(0:Int)<(z:Int):=by omega
 have hzb:((z:Int) == 0)=false:=by rw [Qu]; omega
 clear h hn hm hEW hbW hW hg hM hz
 go_enter Tryz.func103,Tryz.ntmps103
 go_wp2_with fail
 rw [← HW.out]
 refine HP.out.mono ?_
 rintro e w1 ⟨hF1,⟨hc,rfl,h1⟩ | ⟨hc,rfl,h1⟩⟩
 ·obtain ⟨wa1,wc1,aa1,ac1,h1⟩:=h1
  have hx1:=hF1 _ _ _ _ HbW.out (by simp [HoTy])
  have hbx1:=h1.box
  obtain ⟨L,hL⟩:∃ L,L=way.length:=⟨_,rfl⟩
  rw [← hL] at hbx1 hwl
  obtain ⟨b0,b1,b2,b3,b4,b5,bf⟩:=box6 hbx1
  have k0:=Zaa hx1 0 _ rfl
  have k1:=Zaa hx1 1 _ rfl
  have k2:=Zaa hx1 2 _ rfl
  have k3:=Zaa hx1 3 _ rfl
  have hbl1:=Zab h1.box
  have hxl1:=Zab hx1
  obtain ⟨ys,hrow⟩:=h1.row
  have hCn:=(Hn.out.ext HEW.out).fr hF1
  have hEd:Ext w1 (w1.drewN 1):=Ext.of ((Qx _ w1).drewN _)
  have hod:(w1.drewN 1).ownsRow w0.heap.size 235 5 (.slice wa1 L wc1) L ys:=by
   have:=(hrow.keep (FrT.of_ext hEd) (fun k hk=>hEd.block k (hrow.owns.lt k hk).2)).owns
   rw [List.length_reverse,← hL] at this
   exact this
  have h0s:=h1.ext.size
  have Hfin:Hid (∀ w2 wa2 wc2,Appended (w1.drewN 1) w0.heap.size 235 5 (.slice wa1 L wc1) (L+1) (ys++[.slice ga z gc,.slice va' vl' vc',.slice ra rl rc,.int .i64 u,.int .i64 0]) (.slice wa2 (L+1) wc2) w2→w2.heap[b]?=w1.heap[b]?∧Yga w0 w b cv nv s M (.returned (.bool true)) (w2.setCell ⟨b,4,none⟩ (.slice wa2 (L+1) wc2))):=fun w2 wa2 wc2 hap=>by
   have hd:=h1.grow hEd
   rw [hL] at hap ⊢
   obtain ⟨g1,g2,g3⟩:=hd.push (hrow.keep (FrT.of_ext hEd) (fun k hk=>hEd.block k (hrow.owns.lt k hk).2)) (hCn.ext hEd) hap
   refine ⟨g1,?_⟩
   rw [Hm.out,if_pos hc]
   exact ⟨(((FrT.of_ext HEW.out).trans hF1).trans (FrT.of_ext hEd)).trans g3,rfl,_,_,_,_,g2⟩
  have Hod:=Zac hod
  have Hbx1:=Zac hbx1
  clear h1 hF1 hx1 hbx1 hrow hCn hEd hod HP hL
  go_wp2_with fail
  go_region_law (refine Zcs (w1.drewN 1) rfl (.tmp 37) (.tmp 40) 140 rfl w0.heap.size 235 Tryz.infoLevelT Tryz.underlying140 rfl (by decide) (.slice wa1 L wc1) L ys rfl Hod.out #[.slice ga z gc,.slice va' vl' vc',.slice ra rl rc,.int .i64 u,.int .i64 0] rfl (by show _=w1.heap.size; omega) rfl Zug (by omega) (by show _≤w1.heap.size; omega) rfl ?_; intro v' w2 hap; obtain ⟨wa2,wc2,rfl⟩:=Zae hap.owns; obtain ⟨hb2,hfin⟩:=Hfin.out _ _ _ hap; have hb3:=hb2.trans Hbx1.out; have d2:=Zaa hb3 4 _ rfl; have df:=fun i=>Zad hb3 i; have H2:=Zac hfin; clear hap hb2 hb3 hfin)
  all_goals
   go_wp2
   go_ret
   exact H2.out
 ·have H1:=Zac h1
  have HF1:=Zac ((FrT.of_ext HEW.out).trans hF1)
  have Hm1:Hid (M=⟨false,p,way,A⟩):=by show _=_; rw [Hm.out,if_neg hc]
  clear h1 hF1 hc HP
  go_wp2
  go_ret
  rw [Hm1.out]
  exact ⟨HF1.out,rfl,H1.out⟩
theorem RowH.bump {B:Nat} {w:World} {wb cap:Nat} {ds:List (ND × Nat)} {n:ND} {k:Nat} {xs:List Value} (h:RowH B w (.slice (some ⟨wb,0,none⟩) (ds.length+1) cap) (ds++[(n,k)]) xs) (k':Nat) :
  RowH B (w.setCell ⟨wb,ds.length * 5+4,none⟩ (.int .i64 k')) (.slice (some ⟨wb,0,none⟩) (ds.length+1) cap) (ds++[(n,k')]) (xs.set (ds.length * 5+4) (.int .i64 k'))∧FrT w (w.setCell ⟨wb,ds.length * 5+4,none⟩ (.int .i64 k')):=by
 have ho:=h.owns
 have hxl:=ho.1
 rw [Qg,Qn] at ho hxl
 have hk:=Zif w wb (ds.length+1) cap (ds.length * 5+4) (.int .i64 k')
 have hF:FrT w (w.setCell ⟨wb,ds.length * 5+4,none⟩ (.int .i64 k')):=FrT.of_kept hk (fun j hj=>by
  rcases ho.2 with ⟨e,_⟩ | ⟨g,cap',cur,e,_,hg,_⟩
  ·simp at e
  ·simp at e
   obtain ⟨rfl,_⟩:=e
   simp [Zbo,Value.ownBlock] at hj
   subst hj
   exact ⟨_,_,_,hg,by simp [HoTy]⟩)
 refine ⟨⟨by rw [Qg,Qn]; exact Zki ho _ _,fun i d hd => ?_⟩,hF⟩
 rcases Nat.lt_or_ge i ds.length with hi | hi
 ·rw [Qc hi] at hd
  obtain ⟨p0,p1,p2,p3,y0,y1,y2,y3,y4,g⟩:=h.all i d (by rw [Qc hi]; exact hd)
  exact ⟨p0,p1,p2,p3,by rw [List.getElem?_set_ne (by omega)]; exact y0,by rw [List.getElem?_set_ne (by omega)]; exact y1,by rw [List.getElem?_set_ne (by omega)]; exact y2,by rw [List.getElem?_set_ne (by omega)]; exact y3,by rw [List.getElem?_set_ne (by omega)]; exact y4,g.fr hF⟩
 ·have e:i=ds.length:=by
   have:=(Qa.1 hd).1
   simp at this; omega
  subst e
  rw [Qd (Qe _)] at hd
  simp at hd
  subst hd
  obtain ⟨p0,p1,p2,p3,y0,y1,y2,y3,y4,g⟩:=h.all ds.length (n,k) (by rw [Qd (Qe _)]; simp)
  exact ⟨p0,p1,p2,p3,by rw [List.getElem?_set_ne (by omega)]; exact y0,by rw [List.getElem?_set_ne (by omega)]; exact y1,by rw [List.getElem?_set_ne (by omega)]; exact y2,by rw [List.getElem?_set_ne (by omega)]; exact y3,by rw [List.getElem?_set_self (by omega)],g.fr hF⟩
theorem CHo.bump {w0 w:World} {b wb:Nat} {cv nv:Value} {s:ByteArray} {p:Nat} {n:ND} {k:Nat} {r:List (ND × Nat)} {A:List (List UInt8)} {wc:Nat} {aa:Option Addr} {ac:Nat} (h:CHo w0 w b cv nv s p ((n,k)::r) A (some ⟨wb,0,none⟩) wc aa ac) (k':Nat) :
  CHo w0 (w.setCell ⟨wb,r.length * 5+4,none⟩ (.int .i64 k')) b cv nv s p ((n,k')::r) A (some ⟨wb,0,none⟩) wc aa ac∧FrT w (w.setCell ⟨wb,r.length * 5+4,none⟩ (.int .i64 k')):=by
 obtain ⟨ys,hrow⟩:=h.row
 rw [Qf,List.reverse_cons] at hrow
 have hne:wb≠b:=Zfs hrow.owns h.box (by decide) wb rfl
 have hlow:w0.heap.size≤wb:=(hrow.owns.lt wb rfl).1
 obtain ⟨hR,hF⟩:=RowH.bump (ds:=r.reverse) (n:=n) (k:=k) (xs:=ys) (by rw [List.length_reverse]; exact hrow) k'
 rw [List.length_reverse] at hR hF
 have hk:Kept (only wb) w (w.setCell ⟨wb,r.length * 5+4,none⟩ (.int .i64 k')):=(Qx _ _).put _ _
 refine ⟨⟨Zeg h.ext hk hlow,h.low,(hk.block b (Zab h.box) (fun e=>hne (by have e:b=wb:=e; exact e.symm))).trans h.box,⟨_,by rw [Qf,List.reverse_cons]; exact hR⟩,Zah h.ans (fun j hj=>hk.block j (h.ans.lt j hj).2 (fun e => ?_))⟩,hF⟩
 have e:j=wb:=e
 subst e
 rcases hrow.owns.2 with ⟨e',_⟩ | ⟨g,cap,cur,e',_,hg,_⟩
 ·simp at e'
 ·simp at e'
  obtain ⟨rfl,_⟩:=e'
  exact Zfs h.ans hg (by decide) _ hj rfl
theorem CHo.other {w0 w w':World} {b q:Nat} {cv nv:Value} {s:ByteArray} {p:Nat} {way:List (ND × Nat)} {A:List (List UInt8)} {wa:Option Addr} {wc:Nat} {aa:Option Addr} {ac:Nat} {cl:Array Value} (h:CHo w0 w b cv nv s p way A wa wc aa ac) (hk:Kept (only q) w w') (hq:w.heap[q]?=some (.cells cl 87 (0,0))) (hl:w0.heap.size≤q):CHo w0 w' b cv nv s p way A wa wc aa ac:=by
 obtain ⟨ys,hrow⟩:=h.row
 have hS:OffCode (only q) w:=fun k e=>by
  have e:k=q:=e
  subst e
  exact ⟨_,_,_,hq,by simp [Zcm]⟩
 refine ⟨Zeg h.ext hk hl,h.low,(hk.block b (Zab h.box) (fun e => ?_)).trans h.box,⟨ys,Zah hrow.owns (fun k hj=>hk.block k (hrow.owns.lt k hj).2 (Zfs hrow.owns hq (by decide) k hj)),fun i d hd => ?_⟩,Zah h.ans (fun k hj=>hk.block k (h.ans.lt k hj).2 (Zfs h.ans hq (by decide) k hj))⟩
 ·have e:b=q:=e
  subst e
  rw [h.box] at hq
  simp at hq
 ·obtain ⟨x0,x1,x2,x3,y0,y1,y2,y3,y4,g⟩:=hrow.all i d hd
  exact ⟨x0,x1,x2,x3,y0,y1,y2,y3,y4,g.keep hk hS⟩
theorem FrT.put {w w1 w2:World} {q:Nat} (h:FrT w w1) (hk:Kept (only q) w1 w2) (hq:w.heap.size≤q):FrT w w2:=fun k cl t fr e ht=>by
 have h1:=h k cl t fr e ht
 exact (hk.block k (Zab h1) (fun e'=>by have e':k=q:=e'; have:=Zab e; omega)).trans h1
theorem box4 {w:World} {b:Nat} {u0 u1 u2 u3:Value} {t:TypeId} (h:w.heap[b]?=some (.cells #[u0,u1,u2,u3] t (0,0))) :
  w.cell? ⟨b,0,none⟩=some u0∧w.cell? ⟨b,1,none⟩=some u1∧w.cell? ⟨b,2,none⟩=some u2∧w.cell? ⟨b,3,none⟩=some u3∧∀ i,w.frozen? ⟨b,i,none⟩=false :=
 ⟨Zaa h 0 _ rfl,Zaa h 1 _ rfl,Zaa h 2 _ rfl,Zaa h 3 _ rfl,fun i=>Zad h i⟩
def Zwt (w0 w:World) (b:Nat) (cv nv:Value) (s:ByteArray) (p:Nat) (n:ND) (r:List (ND × Nat)) (A:List (List UInt8)) (L:Nat) (N:Option (Nat × Cls)) (e:Ending) (w':World):Prop:=FrT w w' ∧
 ((N=none∧e = .returned (.tuple #[.int .i64 0,.agg #[.slice none 0 0,.slice none 0 0,.slice none 0 0,.int .i64 0],.int .i64 0])∧HoIn w0 w' b cv nv s p ((n,L)::r) A) ∨
 (∃ j c,N=some (j,c)∧∃ g1 g2 g3 v1 v2 v3 q1 q2 q3,∃ uu o:Nat,e = .returned (.tuple #[.int .i64 j,.agg #[.slice g1 g2 g3,.slice v1 v2 v3,.slice q1 q2 q3,.int .i64 uu],.int .i64 o])∧HoIn w0 w' b cv nv s p ((n,j+1)::r) A∧((o=2∧(tryN n c j).2=3)∨(o=1∧((tryN n c j).2=1∨(tryN n c j).2=2)∧CNode w' (.slice g1 g2 g3) (.slice v1 v2 v3) (.slice q1 q2 q3) (.int .i64 uu) (tryN n c j).1))))
theorem Ygb (w0 w:World) (b:Nat) (ca:Option Addr) (cc:Nat) (nv:Value) (s:ByteArray) (p:Nat) (n:ND) (k:Nat) (r:List (ND × Nat)) (A:List (List UInt8)) (cs:List Cls) (xs:List (List Value)) (h:HoIn w0 w b (.slice ca cs.length cc) nv s p ((n,k)::r) A) (hP:ProgIn w0 (.slice ca cs.length cc) cs xs) (hg:n.goals≠[]) (hk:k≤cs.length) (hrl:r.length≤20000) (hcs:∀ c ∈ cs,COk c∧CNm c) (hcf:∀ c ∈ cs,CFew c) (hcl:cs.length≤24) :
  Calls Tryz.prog 138 #[.pointer (some ⟨b,0,none⟩)] w (Zwt w0 w b (.slice ca cs.length cc) nv s p n r A cs.length (Zge cs n (cs.length - k) k)):=by
 obtain ⟨N,hN⟩:∃ N,N=Zge cs n (cs.length - k) k:=⟨_,rfl⟩
 rw [← hN]
 have hb4:∃ wa wc,w.cell? ⟨b,4,none⟩=some (.slice wa (r.length+1) wc)∧b<w.heap.size:=by
  obtain ⟨wa,wc,aa,ac,h⟩:=h
  exact ⟨wa,wc,Zaa h.box 4 _ rfl,Zab h.box⟩
 obtain ⟨wa,wc,b4,hbl⟩:=hb4
 have H:=Zac h
 have HP:=Zac hP
 have Hg:=Zac hg
 have Hcs:=Zac hcs
 have Hcf:=Zac hcf
 have HN:=Zac hN
 clear h hP hg hcs hcf hN
 go_enter Tryz.func138,Tryz.ntmps138
 go_wp2
 go_loopg [6] (cs.length+1) (fun gk tv wr=>∃ k':Nat,k'≤cs.length∧cs.length - k'<gk∧Zge cs n (cs.length - k') k'=N∧HoIn w0 wr b (.slice ca cs.length cc) nv s p ((n,k')::r) A∧FrT w wr∧wr.heap[w.heap.size]?=some (.cells #[.slice none 0 0,.slice none 0 0,.slice none 0 0,.int .i64 0] 87 (0,0)))
 case atStart=>exact ⟨k,hk,by omega,HN.out.symm,H.out.grow (Ext.of (by repeat' (first | with_reducible(first|exact Qx _ _|apply Kept.drew|apply Kept.drewN|apply Qz|refine Qy ?_ ?_ _)|exact fun h=>absurd h (by simp <;> omega)))),FrT.of_ext (Ext.of (by repeat' (first | with_reducible(first|exact Qx _ _|apply Kept.drew|apply Kept.drewN|apply Qz|refine Qy ?_ ?_ _)|exact fun h=>absurd h (by simp <;> omega)))),heap_alloc_new w _⟩
 case round =>
  clear b4 hk
  obtain ⟨k,hk,hgk,hnx,⟨wa,wc,aa,ac,h⟩,hF,hres⟩:=hrel
  have hbx:=h.box
  simp only [Qf] at hbx
  obtain ⟨b0,b1,b2,b3,b4,b5,bf⟩:=box6 hbx
  obtain ⟨ys,hrow⟩:=h.row
  simp only [Qf,List.reverse_cons] at hrow
  have ho:=hrow.owns
  rw [Qg,List.length_reverse,Qn] at ho
  obtain ⟨wb,wcap,wcur,hwe,_,hwb,hwcap⟩:=Zap ho (by omega)
  simp only [Value.slice.injEq] at hwe
  obtain ⟨rfl,_,rfl⟩:=hwe
  obtain ⟨x0,x1,x2,x3,y0,y1,y2,y3,y4,hnode⟩:=hrow.all r.length (n,k) (by rw [Qd (by simp)]; simp)
  have c4:=Zai ho _ _ y4
  simp only at c4
  have hwf:=fun i=>Zad hwb i
  have hbl':=Zab hbx
  have hwbl:=Zab hwb
  have hrl':(0:Int)≤(r.length:Int):=by omega
  have hrlt:r.length<r.length+1:=by omega
  have hrlt':(r.length:Int)<(r.length:Int)+1:=by omega
  have Hres:=Zac hres
  have HF:=Zac hF
  have Hh:=Zac h
  have hz:=Zab hres
  have hlow:w0.heap.size≤w.heap.size:=by
   obtain ⟨_,_,_,_,h⟩:=H.out
   exact h.ext.size
  by_cases hlt:k<cs.length
  ·have hlt':(k:Int)<(cs.length:Int):=by omega
   clear hbx hrow ho hwb y0 y1 y2 y3 y4 hnode h hF hres
   go_wp2_with fail
   go_quiet (fail)
   go_wp2_with fail
   obtain ⟨W4,hW4⟩:∃ W4,W4=(wr.drewN nq).setCell ⟨wb,r.length * 5+4,none⟩ (.int .i64 ((k:Int)+1)):=⟨_,rfl⟩
   rw [← hW4]
   have hE0:Ext wr (wr.drewN nq):=Ext.of ((Qx _ wr).drewN _)
   obtain ⟨hC4,hF4⟩:=(Hh.out.grow hE0).bump (k+1)
   rw [show ((k+1:Nat):Int)=(k:Int)+1 by omega,← hW4] at hC4 hF4
   have hFw:FrT wr W4:=(FrT.of_ext hE0).trans hF4
   have hbx4:=hC4.box
   simp only [Qf] at hbx4
   clear b0 b1 b2 b3 b4 b5 bf c4 hwf
   obtain ⟨b0,b1,b2,b3,b4,b5,bf⟩:=box6 hbx4
   obtain ⟨ys4,hrow4⟩:=hC4.row
   simp only [Qf,List.reverse_cons] at hrow4
   have ho4:=hrow4.owns
   rw [Qg,List.length_reverse,Qn] at ho4
   obtain ⟨x0,x1,x2,x3,y0,y1,y2,y3,y4,hnode⟩:=hrow4.all r.length (n,k+1) (by rw [Qd (by simp)]; simp)
   obtain ⟨n1,hN1,rfl,hOk,hNm,hFe,hSm⟩:=hnode
   obtain ⟨ga,gcap,rfl⟩:=hN1.goals.shape
   obtain ⟨va',vcap',rfl⟩:=hN1.vals.shape
   obtain ⟨ra',rcap',rfl⟩:=hN1.done.shape
   simp only [Ql] at hN1 y0 y1 y2
   have c0:=Zai ho4 _ _ y0
   have c1:=Zai ho4 _ _ y1
   have c2:=Zai ho4 _ _ y2
   have c3:=Zai ho4 _ _ y3
   obtain ⟨c,hc⟩:∃ c,cs[k]?=some c:=⟨_,Qb hlt⟩
   have hP4:=HP.out.ext hC4.ext
   obtain ⟨lb,lcap,lcur,hle,_,hlb,_⟩:=Zap hP4.owns (by omega)
   simp only [Value.slice.injEq] at hle
   obtain ⟨rfl,_,rfl⟩:=hle
   obtain ⟨cv0,cv1,cv2,l0,l1,l2,hcl2⟩:=hP4.cell hc
   obtain ⟨d0,d1,rfl⟩:=Zae hcl2.head
   obtain ⟨d2,d3,rfl⟩:=hcl2.body.shape
   obtain ⟨d4,d5,rfl⟩:=Zae hcl2.names
   have hbl4:=Zab hbx4
   have hwbl4:wb<W4.heap.size:=World.block_lt_of_cell? W4 ⟨wb,r.length * 5,none⟩ c0
   have hlbl:lb<W4.heap.size:=World.block_lt_of_cell? W4 ⟨lb,k * 3,none⟩ l0
   obtain ⟨hco,hcm⟩:=Hcs.out c (Qh hc)
   have HIc:Hid (∀ Z u,Ext W4.drew u→(∀ k,Z k→W4.heap.size≤k∧k<u.heap.size)→Calls Tryz.prog 97 #[.agg #[.slice ga n1.goals.length gcap,.slice va' n1.vals.length vcap',.slice ra' n1.done.length rcap',.int .i64 n1.vars],.agg #[.slice d0 c.head.length d1,.slice d2 c.body.length d3,.slice d4 c.names.length d5]] u fun e u'=>∃ r,e = .returned r∧Ext u u'∧TryX n1 c k Z r u'):=fun Z u hu hZ=>by
    have hwu:Ext W4 u:=hu.undrew
    refine (Zrn u _ _ _ _ _ _ n1 c k hOk hco (hN1.ext hwu) (hcl2.ext hwu)).mono ?_
    intro e u' h
    exact h.toX (fun j hj=>(hZ j hj).2)
   have Hco:=Zac hco
   have HOk:=Zac hOk
   have HNm:=Zac hNm
   have HFe:=Zac hFe
   have HSm:=Zac hSm
   have Hcm:=Zac hcm
   have HCf:Hid (CFew c):=Hcf.out c (Qh hc)
   have HC4:=Zac hC4
   have HF4:=Zac (HF.out.trans hFw)
   have Hres4:=Zac (hFw _ _ _ _ Hres.out (by simp [HoTy]))
   have Hnx:Hid ((if (tryN n c k).2=0 then Zge cs n (cs.length - (k+1)) (k+1) else some (k,c))=N):=by
    show _=_
    rw [← hnx,show cs.length - k=(cs.length - (k+1))+1 by omega,Zge,hc]
   have hk2:k+1≤cs.length:=hlt
   clear hW4 hE0 hC4 hF4 hFw hbx4 hrow4 ho4 y0 y1 y2 y3 y4 hN1 hP4 hcl2 hlb hco hOk hNm hFe hSm hcm hnx hc
   refine Zjk (by kernel_rfl) [.pur (.pointer (some ⟨b,0,none⟩)),.pur (.pointer (some ⟨b,0,none⟩)),.pur (.pointer (some ⟨b,4,none⟩)),.pur (.slice (some ⟨wb,0,none⟩) (r.length+1) wc),.pur (.int .i64 r.length),.pur (.pointer (some ⟨wb,r.length * 5,none⟩)),.pur (.pointer (some ⟨wb,r.length * 5,none⟩)),.pur (.agg #[.slice ga n1.goals.length gcap,.slice va' n1.vals.length vcap',.slice ra' n1.done.length rcap',.int .i64 n1.vars]),
    .pur (.pointer (some ⟨b,0,none⟩)),.pur (.pointer (some ⟨b,0,none⟩)),.pur (.pointer (some ⟨b,0,none⟩)),.pur (.slice (some ⟨lb,0,none⟩) cs.length cc),.pur (.int .i64 k),.pur (.pointer (some ⟨lb,k * 3,none⟩)),.pur (.agg #[.slice d0 c.head.length d1,.slice d2 c.body.length d3,.slice d4 c.names.length d5]),
    .cal,.post (fun v=>v),.post (Zgx 0),.post (Zgx 1),.alo 87 #[.slice none 0 0,.slice none 0 0,.slice none 0 0,.int .i64 0] 20 (fun v=>cellsOf (Zgx 0 v)),.sto 19,.post (Zgx 1)] 15 (by kernel_rfl) (TryX n1 c k) 97 _ TryX.stable HIc.out ?_ rfl (by decide) ?_
   ·refine ⟨fun vc β u hu => ?_,fun vc β u hu => ?_,fun vc β u hu => ?_,fun vc β u hu => ?_,fun vc β u hu => ?_,fun vc β u hu => ?_,fun vc β u hu => ?_,fun vc β u hu => ?_,fun vc β u hu => ?_,fun vc β u hu => ?_,fun vc β u hu => ?_,fun vc β u hu => ?_,fun vc β u hu => ?_,fun vc β u hu => ?_,fun vc β u hu => ?_,fun vc β u => ?_,?_,?_,?_,fun vc β u => ?_,?_,?_,trivial⟩
    all_goals try (simp [pa,Kd.val,go_sem,hu.up b0,hu.up b4,hu.up c0,hu.up c1,hu.up c2,hu.up c3,hu.up l0,hu.up l1,hu.up l2,hlt]; done)
    all_goals try (simp [pa,Kd.val,go_sem]; done)
    all_goals try (rintro vc β Z u ⟨g1,g2,g3,v1,v2,v3,q1,q2,q3,uu,qq,rfl,_⟩; simp [pa,Kd.val,go_sem,Zgx]; done)
    all_goals try (simp [pa,Kd.val,go_sem]; intro h; omega)
    rintro vc β Z u t z sx cl he ⟨g1,g2,g3,v1,v2,v3,q1,q2,q3,uu,qq,rfl,_⟩ hb
    simp at he
    obtain ⟨rfl,rfl,rfl,rfl⟩:=he
    have z0:=Zaa hb 0 _ rfl
    have z1:=Zaa hb 1 _ rfl
    have z2:=Zaa hb 2 _ rfl
    have z3:=Zaa hb 3 _ rfl
    have zf:=fun i=>Zad hb i
    refine ⟨_,?_,Zaf (Zaf (Zaf (Zaf hb 0 _) 1 _) 2 _) 3 _,((((Qx (only (β 19)) u).put 0 _).put 1 _).put 2 _).put 3 _⟩
    simp [pa,Kd.val,go_sem,z0,z1,z2,z3,zf,Zgx]
   rintro vc β w5 hext5 ⟨g1,g2,g3,v1,v2,v3,q1,q2,q3,uu,qq,rfl,hqq⟩ hbox _
   have hext5:=hext5.undrew
   obtain ⟨hb0,hbx⟩:=hbox 19 _ _ _ _ rfl
   have hbx':w5.heap[β 19]?=some (.cells #[.slice g1 g2 g3,.slice v1 v2 v3,.slice q1 q2 q3,.int .i64 uu] 87 (0,0)):=hbx
   generalize hbe:β 19=bt at *
   have HC5:=Zac (HC4.out.grow hext5)
   have HF5:=Zac (HF4.out.trans (FrT.of_ext hext5))
   have hres5:=(hext5.block _ (Zab Hres4.out)).trans Hres4.out
   have Hres5:=Zac hres5
   clear b0 b1 b2 b3 b4 b5 bf c0 c1 c2 c3 l0 l1 l2
   simp only [paAll,pa,Kd.val,if_true,Act.put,Zgx]
   rw [hbe]
   rcases hqq with ⟨rfl,hq⟩ | ⟨rfl,ch,hq⟩ | ⟨rfl,ch,q0,hq12,hq,rfl,rfl,hg',hv',hr'⟩
   ·have hq0:(tryN n c k).2=0:=by
     rcases hq with h | h
     ·exact absurd (List.eq_nil_of_length_eq_zero (by rw [← HSm.out.gl,h]; rfl)) Hg.out
     ·exact (Zgb HOk.out HSm.out Hco.out h).1.symm
    have Hn5:Hid (Zge cs n (cs.length - (k+1)) (k+1)=N):=by show _=_; rw [← Hnx.out,if_pos hq0]
    clear hbx hbx' hbox hext5 hres5 hq hq0
    go_wp2
    go_roundg (cs.length - k)
    case measure=>omega
    case rel=>exact ⟨k+1,hk2,by omega,Hn5.out,⟨_,_,_,_,HC5.out⟩,HF5.out,Hres5.out⟩
   ·have hq3:(tryN n c k).2=3:=(Zgb HOk.out HSm.out Hco.out hq).1.symm
    have Hfin:Hid (∀ w6,Kept (only w.heap.size) w5 w6→Zwt w0 w b (.slice (some ⟨lb,0,none⟩) cs.length cc) nv s p n r A cs.length N (.returned (.tuple #[.int .i64 k,.agg #[.slice g1 g2 g3,.slice v1 v2 v3,.slice q1 q2 q3,.int .i64 uu],.int .i64 2])) w6):=fun w6 hK=>by
     refine ⟨HF5.out.put hK (Qe _),Or.inr ⟨k,c,?_,g1,g2,g3,v1,v2,v3,q1,q2,q3,uu,2,rfl,⟨_,_,_,_,HC5.out.other hK Hres5.out hlow⟩,Or.inl ⟨rfl,hq3⟩⟩⟩
     rw [← Hnx.out,if_neg (by omega)]
    obtain ⟨r0,r1,r2,r3,rf⟩:=box4 hres5
    obtain ⟨z0,z1,z2,z3,zf⟩:=box4 hbx'
    have hrl5:=Zab hres5
    have hbtl:=Zab hbx'
    clear hbx hbx' hbox hext5 hres5 hq hq3
    go_wp2_with fail
    go_region
    all_goals
     go_wp2
     refine bodyPost_ret (v := .tuple #[.int .i64 k,.agg #[.slice g1 g2 g3,.slice v1 v2 v3,.slice q1 q2 q3,.int .i64 uu],.int .i64 2]) (by simp [results,Tryz.results138,go_sem,r0,r1,r2,r3,rf]) rfl ?_
     exact Hfin.out _ (by repeat (first | exact Qx _ _ | apply Qz | apply Kept.put | apply Kept.drew))
   ·obtain ⟨e1,e2⟩:=Zgb HOk.out HSm.out Hco.out hq
    obtain ⟨hOk2,hSm2⟩:=e2 hq12
    have hk12:(tryN n c k).2=1∨(tryN n c k).2=2:=by rw [← e1]; exact hq12
    have hNm2:=Ych hq hq12 HNm.out Hcm.out
    have hFw2:=Zwb hq hq12 HFe.out HCf.out
    obtain ⟨vs1,hg1,_⟩:=hg'
    obtain ⟨vs2,hv1,_⟩:=hv'
    obtain ⟨vs3,hr1,_⟩:=hr'
    have hCN:CNode w5 (.slice g1 ch.goals.length g3) (.slice v1 v2 v3) (.slice q1 q2 q3) (.int .i64 ch.vars) (tryN n c k).1:=⟨ch,⟨⟨vs1,hg1⟩,⟨vs2,hv1⟩,⟨vs3,hr1⟩⟩,rfl,hOk2,hNm2,hFw2,hSm2⟩
    have hS5:OffCode (only w.heap.size) w5:=fun j e=>by
     have e:j=w.heap.size:=e
     subst e
     exact ⟨_,_,_,Hres5.out,by simp [Zcm]⟩
    obtain ⟨G,hG⟩:∃ G,G=ch.goals.length:=⟨_,rfl⟩
    obtain ⟨uu,huu⟩:∃ uu,uu=ch.vars:=⟨_,rfl⟩
    rw [← hG,← huu] at hCN
    rw [← hG] at hbx'
    rw [← huu] at hbx'
    have Hfin:Hid (∀ w6,Kept (only w.heap.size) w5 w6→Zwt w0 w b (.slice (some ⟨lb,0,none⟩) cs.length cc) nv s p n r A cs.length N (.returned (.tuple #[.int .i64 k,.agg #[.slice g1 G g3,.slice v1 v2 v3,.slice q1 q2 q3,.int .i64 uu],.int .i64 1])) w6):=fun w6 hK=>by
     refine ⟨HF5.out.put hK (Qe _),Or.inr ⟨k,c,?_,g1,G,g3,v1,v2,v3,q1,q2,q3,uu,1,rfl,⟨_,_,_,_,HC5.out.other hK Hres5.out hlow⟩,Or.inr ⟨rfl,hk12,hCN.keep hK hS5⟩⟩⟩
     rw [← Hnx.out,if_neg (by omega)]
    obtain ⟨r0,r1,r2,r3,rf⟩:=box4 hres5
    obtain ⟨z0,z1,z2,z3,zf⟩:=box4 hbx'
    have hrl5:=Zab hres5
    have hbtl:=Zab hbx'
    rw [← hG,← huu]
    clear hbx hbx' hbox hext5 hres5 hq hq12 hk12 e1 e2 hOk2 hSm2 hNm2 hFw2 hg1 hv1 hr1 hCN hS5 hG huu
    go_wp2_with fail
    go_region
    all_goals
     go_wp2
     refine bodyPost_ret (v := .tuple #[.int .i64 k,.agg #[.slice g1 G g3,.slice v1 v2 v3,.slice q1 q2 q3,.int .i64 uu],.int .i64 1]) (by simp [results,Tryz.results138,go_sem,r0,r1,r2,r3,rf]) rfl ?_
     exact Hfin.out _ (by repeat (first | exact Qx _ _ | apply Qz | apply Kept.put | apply Kept.drew))
  ·have he:k=cs.length:=by omega
   have hlt':¬ (k:Int)<(cs.length:Int):=by omega
   obtain ⟨r0,r1,r2,r3,rf⟩:=box4 hres
   have Hn:Hid (N=none):=by show _=_; rw [← hnx,he,Nat.sub_self]; rfl
   clear hbx hrow ho hwb y0 y1 y2 y3 y4 hnode h hF hres
   go_wp2_with fail
   go_quiet (fail)
   go_wp2
   refine bodyPost_ret (v := .tuple #[.int .i64 0,.agg #[.slice none 0 0,.slice none 0 0,.slice none 0 0,.int .i64 0],.int .i64 0]) (by simp [results,Tryz.results138,go_sem,r0,r1,r2,r3,rf]) rfl ?_
   have hK:Kept (only w.heap.size) wr (((((wr.drewN nq).setCell ⟨w.heap.size,0,none⟩ (.slice none 0 0)).setCell ⟨w.heap.size,1,none⟩ (.slice none 0 0)).setCell ⟨w.heap.size,2,none⟩ (.slice none 0 0)).setCell ⟨w.heap.size,3,none⟩ (.int .i64 0)):=(((((Qx _ wr).drewN _).put 0 _).put 1 _).put 2 _).put 3 _
   exact ⟨HF.out.put hK (Qe _),Or.inl ⟨Hn.out,rfl,_,_,_,_,he ▸ Hh.out.other hK Hres.out hlow⟩⟩
theorem Zyk {cs:List Cls} {n:ND}:∀ {f k j:Nat} {c:Cls},Zge cs n f k=some (j,c)→cs[j]?=some c∧j<k+f:=by
 intro f
 induction f with
 | zero=>intro k j c h; simp [Zge] at h
 | succ f ih =>
  intro k j c h
  rw [Zge] at h
  cases hc:cs[k]? with
  | none=>rw [hc] at h; simp at h
  | some d =>
   rw [hc] at h
   simp only at h
   split at h
   ·obtain ⟨h1,h2⟩:=ih h
    exact ⟨h1,by omega⟩
   ·simp at h
    obtain ⟨rfl,rfl⟩:=h
    exact ⟨hc,by omega⟩
structure HoP (w0:World) (ca:Option Addr) (cc:Nat) (nv:Value) (cs:List Cls) (names:Names):Prop where
 prog:∃ xs,ProgIn w0 (.slice ca cs.length cc) cs xs
 ok:∀ c ∈ cs,COk c∧CNm c
 cf:∀ c ∈ cs,CFew c
 cl:cs.length≤24
 row:w0.ownsRow 0 9 1 nv names.length (strs names)
 few:names.length≤60
 short:∀ x ∈ names,x.length≤8
theorem HoP.enter {w0 w:World} {b:Nat} {ca:Option Addr} {cc:Nat} {nv:Value} {s:ByteArray} {p:Nat} {way:List (ND × Nat)} {A:List (List UInt8)} {cs:List Cls} {names:Names} {gv vv rv uv:Value} {n:ND} (hq:HoP w0 ca cc nv cs names) (h:HoIn w0 w b (.slice ca cs.length cc) nv s p way A) (hn:CNode w gv vv rv uv n) (hvl:n.vals.length=names.length) (hs:s.size≤20000) (hp:p≤s.size) (hA:A.length≤20000) (hwl:way.length≤20000) :
  Calls Tryz.prog 103 #[.pointer (some ⟨b,0,none⟩),.agg #[gv,vv,rv,uv]] w (Yga w0 w b (.slice ca cs.length cc) nv s (Zcn names s.data.toList n p way A)):=by
 by_cases hg:n.goals=[]
 ·exact Zwr w0 w b _ nv s p way A names gv vv rv uv n h hn hg hq.row hvl hq.few hq.short hs hp hA
 ·exact Zws w0 w b _ nv s p way A names gv vv rv uv n h hn hg hs hp hwl
theorem Yje (w0 w:World) (b:Nat) (ca:Option Addr) (cc:Nat) (nv:Value) (s:ByteArray) (p:Nat) (n:ND) (k:Nat) (r:List (ND × Nat)) (A:List (List UInt8)) (cs:List Cls) (names:Names) (hq:HoP w0 ca cc nv cs names) (h:HoIn w0 w b (.slice ca cs.length cc) nv s p ((n,k)::r) A) (hg:n.goals≠[]) (hvl:n.vals.length=names.length) (hk:k≤cs.length) (hs:s.size≤20000) (hp:p≤s.size) (hA:A.length≤20000) (hrl:r.length+1≤20000) :
  Calls Tryz.prog 104 #[.pointer (some ⟨b,0,none⟩)] w (Yga w0 w b (.slice ca cs.length cc) nv s (goM cs names s.data.toList n k p r A)):=by
 obtain ⟨xs,hP⟩:=hq.prog
 have HNx:=Zac (Ygb w0 w b ca cc nv s p n k r A cs xs h hP hg hk (by omega) hq.ok hq.cf hq.cl)
 obtain ⟨M,hM⟩:∃ M,M=goM cs names s.data.toList n k p r A:=⟨_,rfl⟩
 have hin:∀ j c,Zge cs n (cs.length - k) k=some (j,c)→j<24:=fun j c h=>by
  have:=(Zyk h).2
  have:=hq.cl
  omega
 have hm:=hM
 unfold goM at hm
 rw [← hM]
 obtain ⟨N,hN⟩:∃ N,N=Zge cs n (cs.length - k) k:=⟨_,rfl⟩
 rw [← hN] at hm hin HNx
 have Hm:=Zac hm
 have Hq:=Zac hq
 have Hin:=Zac hin
 clear h hg hq hP hM hm hN hin
 go_enter Tryz.func104,Tryz.ntmps104
 go_wp2_with fail
 refine HNx.out.mono ?_
 rintro e w1 ⟨hF1,⟨hN0,rfl,h1⟩ | ⟨j,c,hN1,g1,g2,g3,v1,v2,v3,q1,q2,q3,uu,o,rfl,h1,ho⟩⟩
 ·obtain ⟨W,hW⟩:∃ W,W=w1.alloc (.cells #[.slice none 0 0,.slice none 0 0,.slice none 0 0,.int .i64 0] 87):=⟨_,rfl⟩
  have hE:Ext w1 W:=by rw [hW]; exact (Ext.of (by repeat' (first | with_reducible(first|exact Qx _ _|apply Kept.drew|apply Kept.drewN|apply Qz|refine Qy ?_ ?_ _)|exact fun h=>absurd h (by simp <;> omega))))
  have HL:=Zac (Ybo w0 W b _ nv s p (n,cs.length) r A (h1.grow hE) hs hp (by omega))
  have Hm1:Hid (M=if s.data.toList[p]?=some 41 then ⟨true,p+1,r,A⟩ else ⟨false,p,(n,cs.length)::r,A⟩):=by show _=_; rw [Hm.out,hN0]
  have HF1:=Zac (hF1.trans (FrT.of_ext hE))
  have HW:=Zac hW
  clear h1 hF1 hE hW hN0 HNx Hm
  go_wp2_with fail
  rw [← HW.out]
  refine HL.out.mono ?_
  rintro e w2 ⟨hF2,⟨hc,rfl,h2⟩ | ⟨hc,rfl,h2⟩⟩
  ·have Hm2:Hid (M=⟨true,p+1,r,A⟩):=by show _=_; rw [Hm1.out,if_pos hc]
   have HF2:=Zac (HF1.out.trans hF2)
   have H2:=Zac h2
   clear hF2 h2 hc HL
   go_wp2
   go_ret
   rw [Hm2.out]
   exact ⟨HF2.out,rfl,H2.out⟩
  ·have Hm2:Hid (M=⟨false,p,(n,cs.length)::r,A⟩):=by show _=_; rw [Hm1.out,if_neg hc]
   have HF2:=Zac (HF1.out.trans hF2)
   have H2:=Zac h2
   clear hF2 h2 hc HL
   go_wp2
   go_ret
   rw [Hm2.out]
   exact ⟨HF2.out,rfl,H2.out⟩
 ·obtain ⟨W,hW⟩:∃ W,W=w1.alloc (.cells #[.slice g1 g2 g3,.slice v1 v2 v3,.slice q1 q2 q3,.int .i64 uu] 87):=⟨_,rfl⟩
  have hE:Ext w1 W:=by rw [hW]; exact (Ext.of (by repeat' (first | with_reducible(first|exact Qx _ _|apply Kept.drew|apply Kept.drewN|apply Qz|refine Qy ?_ ?_ _)|exact fun h=>absurd h (by simp <;> omega))))
  have hjl:=Hin.out j c hN1
  have HF1:=Zac (hF1.trans (FrT.of_ext hE))
  have H1:=Zac (h1.grow hE)
  have Hm1:=Hm.out
  rw [hN1] at Hm1
  simp only at Hm1
  rcases ho with ⟨rfl,h3⟩ | ⟨rfl,h12,hCN⟩
  ·have Hm2:Hid (M=⟨false,p,(n,j+1)::r,A⟩):=by show _=_; rw [Hm1,if_pos (Or.inl h3)]
   have HW:=Zac hW
   clear h1 hF1 hE hW hN1 HNx Hm Hm1 h3 Hin Hq
   go_wp2
   go_ret
   rw [← HW.out,Hm2.out]
   exact ⟨HF1.out,rfl,H1.out⟩
  ·obtain ⟨V,hV⟩:∃ V,V=(Zak (s.data.toList.drop p)).1:=⟨_,rfl⟩
   obtain ⟨Z,hZ⟩:∃ Z,Z=(Zak (s.data.toList.drop p)).2:=⟨_,rfl⟩
   have hnz:=Zdy (s.data.toList.drop p)
   rw [List.length_drop,show s.data.toList.length=s.size by simp,← hV,← hZ] at hnz
   obtain ⟨hz1,hz2,hz3⟩:=hnz
   have HAt:=Zac (fun u=>Yfj s p u (by omega) (by omega))
   rw [← hV,← hZ] at HAt
   rw [← hV,← hZ] at Hm1
   have hbW:W.heap[w1.heap.size]?=some (.cells #[.slice g1 g2 g3,.slice v1 v2 v3,.slice q1 q2 q3,.int .i64 uu] 87 (0,0)):=by rw [hW]; exact heap_alloc_new w1 _
   have HbW:=Zac hbW
   have HCN:=Zac (hCN.ext hE)
   have HW:=Zac hW
   have hvl2:(tryN n c j).1.vals.length=names.length:=by rw [Zkm h12]; exact hvl
   have hn3:(tryN n c j).2≠3:=by omega
   obtain ⟨wa,wc,aa,ac,hC⟩:=H1.out
   obtain ⟨b0,b1,b2,b3,b4,b5,bf⟩:=box6 hC.box
   have hbl:=Zab hC.box
   have hwW:=Zab hbW
   have HC:=Zac hC
   have HmA:=Zac Hm1
   clear h1 hF1 hE hW hN1 HNx Hm Hm1 Hin hV hZ hbW hCN hC h12
   go_wp2_with fail
   rw [← HW.out]
   go_quiet ((go_at_call 96; exact Calls.quiet_of_same (HAt.out _)))
   have hEq:Ext W (W.drewN nq):=Ext.of ((Qx _ W).drewN _)
   by_cases hz0:Z=0
   ·have Hm2:Hid (M=⟨false,p,(n,j+1)::r,A⟩):=by show _=_; rw [HmA.out,if_pos (Or.inr (Or.inl hz0))]
    have H2:=Zac (H1.out.grow hEq)
    have HF2:=Zac (HF1.out.trans (FrT.of_ext hEq))
    subst hz0
    clear hEq
    go_wp2
    go_ret
    rw [Hm2.out]
    exact ⟨HF2.out,rfl,H2.out⟩
   ·have hk1:(((p:Int)+(Z:Int)) == (p:Int))=false:=by rw [Qu]; omega
    by_cases hv:V=j
    ·subst hv
     have Hm2:Hid (M=Zcn names s.data.toList (tryN n c V).1 (p+Z) ((n,V+1)::r) A):=by show _=_; rw [HmA.out,if_neg (by rintro (h | h | h); exact hn3 h; exact hz0 h; exact h rfl)]
     have hk2:((V:Int) != (V:Int))=false:=by simp
     obtain ⟨w5,hw5⟩:∃ w5,w5=(W.drewN nq).setCell ⟨b,3,none⟩ (.int .i64 ((p:Int)+(Z:Int))):=⟨_,rfl⟩
     have hK5:Kept (only b) W w5:=by rw [hw5]; exact ((Qx _ _).drewN _).put 3 _
     obtain ⟨hC5,hF5⟩:=HC.out.upd (p':=p+Z) hK5 (by rw [hw5,show ((p+Z:Nat):Int)=(p:Int)+(Z:Int) by omega]; exact Zaf (w:=W.drewN nq) HC.out.box 3 _) HC.out.row
     have HEn:=Zac (Hq.out.enter (way:=(n,V+1)::r) (A:=A) (p:=p+Z) ⟨_,_,_,_,hC5⟩ (HCN.out.fr hF5) hvl2 hs (by omega) hA (by rw [Qf]; omega))
     have HF5:=Zac (HF1.out.trans hF5)
     have hb5:=hF5 _ _ _ _ HbW.out (by simp [HoTy])
     obtain ⟨z0,z1,z2,z3,zf⟩:=box4 hb5
     have hne:b≠w1.heap.size:=fun e=>by
      have h1:=HbW.out
      rw [← e,HC.out.box] at h1
      simp at h1
     have Hw5:=Zac hw5
     have hbl5:=Zab hb5
     obtain ⟨y0,y1,y2,y3,yf⟩:=box4 HbW.out
     clear hEq hK5 hC5 hF5 hb5 hw5 HAt HmA
     go_wp2_with fail
     rw [← Hw5.out]
     refine HEn.out.mono ?_
     rintro e w6 ⟨hF6,rfl,h6⟩
     have H6:=Zac h6
     have HF6:=Zac (HF5.out.trans hF6)
     rw [← Hm2.out] at H6
     have e1:(Zcn names s.data.toList (tryN n c V).1 (p+Z) ((n,V+1)::r) A)=M:=Hm2.out.symm
     rw [e1]
     clear h6 hF6 HEn Hm2 e1 b0 b1 b2 b3 b4 b5 bf z0 z1 z2 z3 zf y0 y1 y2 y3 yf
     go_wp2
     go_ret
     exact ⟨HF6.out,rfl,H6.out⟩
    ·have hk2:((V:Int) != (j:Int))=true:=by rw [bne_iff_ne]; omega
     have Hm2:Hid (M=⟨false,p,(n,j+1)::r,A⟩):=by show _=_; rw [HmA.out,if_pos (Or.inr (Or.inr hv))]
     have H2:=Zac (H1.out.grow hEq)
     have HF2:=Zac (HF1.out.trans (FrT.of_ext hEq))
     clear hEq hv
     go_wp2
     go_ret
     rw [Hm2.out]
     exact ⟨HF2.out,rfl,H2.out⟩
structure WayOk (cs:List Cls) (names:Names) (l:List UInt8) (M:HM):Prop where
 way:∀ y ∈ M.way,y.1.goals≠[]∧y.2≤cs.length∧y.1.vals.length=names.length
 le:M.at'≤l.length
 cnt:M.ans.length+M.way.length≤M.at'
theorem Zun {cs:List Cls} {names:Names} {l:List UInt8} {n:ND} {p:Nat} {way:List (ND × Nat)} {A:List (List UInt8)} (h:WayOk cs names l ⟨true,p,way,A⟩) (hn:n.vals.length=names.length):WayOk cs names l (Zcn names l n p way A)∧((Zcn names l n p way A).ok=true→p<(Zcn names l n p way A).at'):=by
 obtain ⟨h1,h2,h3⟩:=h
 simp only at h1 h2 h3
 unfold Zcn
 split
 ·split
  ·rename_i hc
   have:=(Qa.1 hc).1
   exact ⟨⟨h1,this,by simp only [Qg,Qn]; omega⟩,fun _=>Nat.lt_succ_self _⟩
  ·exact ⟨⟨h1,h2,h3⟩,fun e=>by simp at e⟩
 ·rename_i hg
  split
  ·rename_i hc
   have:=(Qa.1 hc).1
   refine ⟨⟨fun y hy => ?_,this,by simp only [Qf]; omega⟩,fun _=>Nat.lt_succ_self _⟩
   rcases Qp.1 hy with rfl | hy
   ·exact ⟨hg,Qm _,hn⟩
   ·exact h1 y hy
  ·exact ⟨⟨h1,h2,h3⟩,fun e=>by simp at e⟩
theorem Ymv {cs:List Cls} {names:Names} {l:List UInt8} {n:ND} {k p:Nat} {r:List (ND × Nat)} {A:List (List UInt8)} (h:WayOk cs names l ⟨true,p,(n,k)::r,A⟩):WayOk cs names l (goM cs names l n k p r A)∧((goM cs names l n k p r A).ok=true→p<(goM cs names l n k p r A).at'):=by
 obtain ⟨h1,h2,h3⟩:=h
 simp only [Qf] at h1 h2 h3
 have hh:=h1 (n,k) (by simp)
 have hr:∀ y ∈ r,y.1.goals≠[]∧y.2≤cs.length∧y.1.vals.length=names.length:=fun y hy=>h1 y (by simp [hy])
 have hcons:∀ k',k'≤cs.length→∀ y ∈ (n,k')::r,y.1.goals≠[]∧y.2≤cs.length∧y.1.vals.length=names.length:=fun k' hk' y hy=>by
  rcases Qp.1 hy with rfl | hy
  ·exact ⟨hh.1,hk',hh.2.2⟩
  ·exact hr y hy
 unfold goM
 cases hN:Zge cs n (cs.length - k) k with
 | none =>
  simp only
  split
  ·rename_i hc
   have:=(Qa.1 hc).1
   exact ⟨⟨hr,this,by simp only; omega⟩,fun _=>Nat.lt_succ_self _⟩
  ·exact ⟨⟨hcons _ (Qe _),h2,by simp only [Qf]; omega⟩,fun e=>by simp at e⟩
 | some jc =>
  obtain ⟨j,c⟩:=jc
  obtain ⟨hc,_⟩:=Zyk hN
  have hj:=(Qa.1 hc).1
  simp only
  split
  ·exact ⟨⟨hcons _ hj,h2,by simp only [Qf]; omega⟩,fun e=>by simp at e⟩
  ·rename_i hw
   have hs:=Zdy (l.drop p)
   rw [List.length_drop] at hs
   have h12:(tryN n c j).2=1∨(tryN n c j).2=2:=by
    have h0:(tryN n c j).2≠0:=by
     have:∀ {f k:Nat},Zge cs n f k=some (j,c)→(tryN n c j).2≠0:=by
      intro f
      induction f with
      | zero=>intro k h; simp [Zge] at h
      | succ f ih =>
       intro k h
       rw [Zge] at h
       cases hc:cs[k]? with
       | none=>rw [hc] at h; simp at h
       | some d =>
        rw [hc] at h
        simp only at h
        split at h
        ·exact ih h
        ·simp at h
         obtain ⟨rfl,rfl⟩:=h
         assumption
     exact this hN
    have h3:(tryN n c j).2≠3:=fun h=>hw (Or.inl h)
    have:=Zhf n c j
    omega
   have:=Zun (cs:=cs) (names:=names) (l:=l) (n:=(tryN n c j).1) (p:=p+(Zak (l.drop p)).2) (way:=(n,j+1)::r) (A:=A) ⟨hcons _ hj,by simp only; omega,by simp only [Qf]; omega⟩ (by rw [Zkm h12]; exact hh.2.2)
   exact ⟨this.1,fun e=>by have:=this.2 e; omega⟩
def Zrs (w0 w:World) (R:HN) (e:Ending) (w':World):Prop:=FrT w w'∧Ext w0 w' ∧
 ((R.wrong=true∧e = .returned (.tuple #[.slice none 0 0,.agg #[.int .i64 7,.int .i64 R.at']]))∨(R.wrong=false∧∃ va vc,e = .returned (.tuple #[.slice va R.ans.length vc,.agg #[.int .i64 0,.int .i64 0]])∧w'.ownsRow w0.heap.size 9 1 (.slice va R.ans.length vc) R.ans.length (strs R.ans)))
theorem Zoc (w0 w:World) (b:Nat) (ca:Option Addr) (cc:Nat) (nv:Value) (s:ByteArray) (cs:List Cls) (names:Names) (gv vv rv uv:Value) (n:ND) (R:HN) (hq:HoP w0 ca cc nv cs names) (h:HoIn w0 w b (.slice ca cs.length cc) nv s 0 [] []) (hn:CNode w gv vv rv uv n) (hvl:n.vals.length=names.length) (hs:s.size≤20000) (hR:Zoh cs names s.data.toList (Zcn names s.data.toList n 0 [] []) R) :
  Calls Tryz.prog 82 #[.pointer (some ⟨b,0,none⟩),.agg #[gv,vv,rv,uv]] w (Zrs w0 w R):=by
 obtain ⟨ga,gc,va',vl',vc',ra,rl,rc,u,rfl,rfl,rfl,rfl,hu4⟩:=hn.shape
 obtain ⟨z,hz⟩:∃ z,z=n.goals.length:=⟨_,rfl⟩
 rw [← hz] at hn ⊢
 obtain ⟨W,hW⟩:∃ W,W=(w.alloc (.cells #[.slice ga z gc,.slice va' vl' vc',.slice ra rl rc,.int .i64 u] 87)).alloc (.cells #[.int .i64 0,.int .i64 0] 91):=⟨_,rfl⟩
 have hEW:Ext w W:=by rw [hW]; exact (Ext.of (by repeat' (first | with_reducible(first|exact Qx _ _|apply Kept.drew|apply Kept.drewN|apply Qz|refine Qy ?_ ?_ _)|exact fun h=>absurd h (by simp <;> omega))))
 have hbW:W.heap[w.heap.size+1]?=some (.cells #[.int .i64 0,.int .i64 0] 91 (0,0)):=by rw [hW]; exact Zdq (by simp) _
 have hsl:s.data.toList.length=s.size:=by simp
 have HEn:=Zac (hq.enter (h.grow hEW) (hn.ext hEW) hvl hs (Qm _) (by simp) (by simp))
 have hok:=Zun (cs:=cs) (names:=names) (l:=s.data.toList) (n:=n) (p:=0) (way:=[]) (A:=[]) ⟨fun y hy=>by simp at hy,Qm _,by simp⟩ hvl
 have Hok:=Zac hok.1
 obtain ⟨M,hM⟩:∃ M,M=Zcn names s.data.toList n 0 [] []:=⟨_,rfl⟩
 rw [← hM] at HEn hR Hok
 have HR:=Zac hR
 have Hq:=Zac hq
 have HEW:=Zac hEW
 have HbW:=Zac hbW
 have HW:=Zac hW
 have Hsl:=Zac hsl
 have hlow:w0.heap.size≤w.heap.size:=by
  obtain ⟨_,_,_,_,h⟩:=h
  exact h.ext.size
 clear h hn hq hR hEW hbW hW hsl hok hM hz hvl
 go_enter Tryz.func82,Tryz.ntmps82
 go_wp2_with fail
 rw [← HW.out]
 refine HEn.out.mono ?_
 rintro e w1 ⟨hF1,rfl,h1⟩
 have H1:=Zac h1
 have HF1:=Zac hF1
 clear h1 hF1 HEn
 go_wp2
 go_loopg [6] (s.size+2) (fun gk hv wr=>∃ M:HM,hv = .bool M.ok∧Zoh cs names s.data.toList M R∧WayOk cs names s.data.toList M∧(if M.ok then s.size - M.at'+1 else 0)<gk∧HoIn w0 wr b (.slice ca cs.length cc) nv s M.at' M.way M.ans∧FrT W wr)
 case atStart=>exact ⟨M,rfl,HR.out,Hok.out,by split <;> omega,H1.out,HF1.out⟩
 case round =>
  obtain ⟨⟨ok,p,way,A⟩,rfl,hG,hO,hgk,⟨wa,wc,aa,ac,hC⟩,hF⟩:=hrel
  simp only at hG hO hgk hC
  have hle:=hO.le
  have hcnt:=hO.cnt
  rw [Hsl.out] at hle
  simp only at hle hcnt
  have hbx:=hC.box
  obtain ⟨b0,b1,b2,b3,b4,b5,bf⟩:=box6 hbx
  have hbl:=Zab hbx
  have hf:=hF _ _ _ _ HbW.out (by simp [HoTy])
  obtain ⟨f0,f1,ff⟩:=box2 hf
  have hfl:=Zab hf
  have HC:=Zac hC
  have HF:=Zac hF
  have Hf:=Zac hf
  clear hC hF hf hbx
  cases ok with
  | false =>
   obtain ⟨hw,ha⟩:=hG.2 rfl
   simp only at ha
   have Hfin:Hid (∀ w2,Kept (only (w.heap.size+1)) wr w2→Zrs w0 w R (.returned (.tuple #[.slice none 0 0,.agg #[.int .i64 7,.int .i64 p]])) w2):=fun w2 hK=>by
    refine ⟨((FrT.of_ext HEW.out).trans HF.out).put hK (by omega),Zeg HC.out.ext hK (by omega),Or.inl ⟨hw,by rw [ha]⟩⟩
   clear hG hO hgk hw ha
   go_wp2_with fail
   go_region
   all_goals
    go_wp2
    refine bodyPost_ret (v := .tuple #[.slice none 0 0,.agg #[.int .i64 7,.int .i64 p]]) (by simp [results,Tryz.results82,go_sem,f0,f1,ff]) rfl ?_
    exact Hfin.out _ (by repeat (first | exact Qx _ _ | apply Qz | apply Kept.put | apply Kept.drew))
  | true =>
   cases way with
   | nil =>
    have hr:=Zxi (hG.1 rfl)
    simp only at hr
    have Hfin:Hid (∀ w2,Kept (only (w.heap.size+1)) wr w2→Zrs w0 w R (.returned (.tuple #[.slice aa A.length ac,.agg #[.int .i64 0,.int .i64 0]])) w2):=fun w2 hK=>by
     refine ⟨((FrT.of_ext HEW.out).trans HF.out).put hK (by omega),Zeg HC.out.ext hK (by omega),Or.inr ⟨by rw [hr],aa,ac,by rw [hr],?_⟩⟩
     rw [hr]
     exact Zah HC.out.ans (fun k hj=>hK.block k (HC.out.ans.lt k hj).2 (Zfs HC.out.ans Hf.out (by decide) k hj))
    clear hG hO hgk hr
    go_wp2
    refine bodyPost_ret (v := .tuple #[.slice aa A.length ac,.agg #[.int .i64 0,.int .i64 0]]) (by simp [results,Tryz.results82,go_sem,f0,f1,ff]) rfl ?_
    exact Hfin.out _ (by repeat (first | exact Qx _ _ | apply Qz | apply Kept.put | apply Kept.drew))
   | cons y r =>
    obtain ⟨n2,k2⟩:=y
    obtain ⟨hg1,hg2,hg3⟩:=hO.way (n2,k2) (by simp)
    have HGo:=Zac (Yje w0 wr b ca cc nv s p n2 k2 r A cs names Hq.out ⟨_,_,_,_,HC.out⟩ hg1 hg3 hg2 hs hle (by omega) (by simp only [Qf] at hcnt; omega))
    have HGm:=Zac (Znf (hG.1 rfl))
    obtain ⟨hO2,hlt2⟩:=Ymv hO
    obtain ⟨M2,hM2⟩:∃ M2,M2=goM cs names s.data.toList n2 k2 p r A:=⟨_,rfl⟩
    rw [← hM2] at HGo HGm hO2 hlt2
    have HO2:=Zac hO2
    have Hlt2:=Zac hlt2
    simp only [Qf] at b4 hcnt
    have hrl:(0:Int)<(r.length:Int)+1:=by omega
    have hgk2:s.size - p+1<gk:=by simpa using hgk
    clear hG hO hgk hg1 hg2 hg3 hO2 hlt2 hM2
    go_wp2_with fail
    refine HGo.out.mono ?_
    rintro e w2 ⟨hF2,rfl,h2⟩
    have H2:=Zac h2
    have HF2:=Zac (HF.out.trans hF2)
    clear h2 hF2 HGo b0 b1 b2 b3 b4 b5 bf f0 f1 ff
    go_wp2
    go_roundg (s.size - p+1)
    case measure=>omega
    case rel =>
     refine ⟨M2,rfl,HGm.out,HO2.out,?_,H2.out,HF2.out⟩
     split
     ·rename_i e
      have h1:=Hlt2.out e
      have h2:=HO2.out.le
      rw [Hsl.out] at h2
      omega
     ·omega
def Zod (p q t:ByteArray) (w:World) (e:Ending) (w':World):Prop:=Ext w w'∧∃ va vc,e = .returned (.tuple #[.slice va (allN p q t).1.length vc,.agg #[.int .i64 (allN p q t).2.1,.int .i64 (allN p q t).2.2]])∧w'.ownsRow w.heap.size 9 1 (.slice va (allN p q t).1.length vc) (allN p q t).1.length (strs (allN p q t).1)
theorem Zoe {p q t:ByteArray} {w w':World} {er pl:Nat} (h:allN p q t=([],er,pl)) (hE:Ext w w'):Zod p q t w (.returned (.tuple #[.slice none 0 0,.agg #[.int .i64 er,.int .i64 pl]])) w':=by
 refine ⟨hE,none,0,?_,?_⟩
 ·rw [h]; rfl
 ·rw [h]; exact World.ownsRow_nil _ _ _ _
theorem Zwu (p q t:ByteArray) (w:World) (hp:p.size≤maxLen) (hq:q.size≤maxLen) (ht:t.size≤maxLen):Calls Tryz.prog 60 #[.string p,.string q,.string t] w (Zod p q t w):=by
 obtain ⟨W0,hW0⟩:∃ W0,W0=w.alloc (.cells #[.int .i64 0,.int .i64 0] 91):=⟨_,rfl⟩
 have HB:=Zac (Zns p q W0 hp hq)
 have hE0:Ext w W0:=by rw [hW0]; exact (Ext.of (by repeat' (first | with_reducible(first|exact Qx _ _|apply Kept.drew|apply Kept.drewN|apply Qz|refine Qy ?_ ?_ _)|exact fun h=>absurd h (by simp <;> omega))))
 have hb0:W0.heap[w.heap.size]?=some (.cells #[.int .i64 0,.int .i64 0] 91 (0,0)):=by rw [hW0]; exact heap_alloc_new w _
 have hs0:W0.heap.size=w.heap.size+1:=by rw [hW0]; simp
 have HW0:=Zac hW0
 have HE0:=Zac hE0
 have Hb0:=Zac hb0
 unfold maxLen at ht
 clear hp hq hW0 hE0 hb0
 go_enter Tryz.func60,Tryz.ntmps60
 go_wp2_with fail
 rw [← HW0.out]
 refine HB.out.mono ?_
 rintro e w1 ⟨hE1,hB⟩
 have hs1:=hE1.size
 have hb1:=(hE1.block _ (by omega)).trans Hb0.out
 obtain ⟨f0,f1,ff⟩:=box2 hb1
 have hfl:=Zab hb1
 have HE1:=Zac (HE0.out.trans (hE1.mono HE0.out.size))
 have Hb1:=Zac hb1
 clear hE1 hb1 HB
 have Hno:Hid (∀ w2 er pl,allN p q t=([],er,pl)→Kept (only w.heap.size) w1 w2→Zod p q t w (.returned (.tuple #[.slice none 0 0,.agg #[.int .i64 (er:Nat),.int .i64 (pl:Nat)]])) w2):=fun w2 er pl ha hK=>Zoe ha (Zeg HE1.out hK (Qe _))
 rcases hB with ⟨hno,rfl⟩ | ⟨⟨cs,hsome⟩,hno,rfl⟩ | ⟨cs,a,l1,lc,xs,h1,h2,h3,b1,bc,n1,nc,hsome,hask,rfl,hP,hT,hns⟩
 ·have Hh:Hid (allN p q t=([],4,0)):=by show _=_; simp [allN,hno]
  clear hno
  go_wp2
  refine bodyPost_ret (v := .tuple #[.slice none 0 0,.agg #[.int .i64 4,.int .i64 0]]) (by simp [results,Tryz.results60,go_sem,f0,f1,ff,hfl]) rfl ?_
  exact Hno.out _ 4 0 Hh.out (by repeat (first | exact Qx _ _ | apply Qz | apply Kept.put | apply Kept.drew))
 ·have Hh:Hid (allN p q t=([],5,0)):=by show _=_; simp [allN,hno,hsome]
  clear hno hsome
  go_wp2
  refine bodyPost_ret (v := .tuple #[.slice none 0 0,.agg #[.int .i64 5,.int .i64 0]]) (by simp [results,Tryz.results60,go_sem,f0,f1,ff,hfl]) rfl ?_
  exact Hno.out _ 5 0 Hh.out (by repeat (first | exact Qx _ _ | apply Qz | apply Kept.put | apply Kept.drew))
 ·by_cases ht2:20000<t.size
  ·have Hh:Hid (allN p q t=([],1,0)):=by show _=_; simp [allN,hsome,hask,ht2]
   have ht3:(20000:Int)<(t.size:Int):=by omega
   clear hP hT hns hsome hask ht2
   go_wp2
   refine bodyPost_ret (v := .tuple #[.slice none 0 0,.agg #[.int .i64 1,.int .i64 0]]) (by simp [results,Tryz.results60,go_sem,f0,f1,ff,hfl]) rfl ?_
   exact Hno.out _ 1 0 Hh.out (by repeat (first | exact Qx _ _ | apply Qz | apply Kept.put | apply Kept.drew))
  ·have ht3:¬ (20000:Int)<(t.size:Int):=by omega
   obtain ⟨W2,hW2⟩:∃ W2,W2=w1.alloc (.cells #[.slice h1 h2 h3,.slice b1 a.1.length bc,.slice n1 a.2.length nc] 107):=⟨_,rfl⟩
   have hE2:Ext w1 W2:=by rw [hW2]; exact (Ext.of (by repeat' (first | with_reducible(first|exact Qx _ _|apply Kept.drew|apply Kept.drewN|apply Qz|refine Qy ?_ ?_ _)|exact fun h=>absurd h (by simp <;> omega))))
   have hbW2:W2.heap[w1.heap.size]?=some (.cells #[.slice h1 h2 h3,.slice b1 a.1.length bc,.slice n1 a.2.length nc] 107 (0,0)):=by rw [hW2]; exact heap_alloc_new w1 _
   have hs2:W2.heap.size=w1.heap.size+1:=by rw [hW2]; simp
   have HCf:=Zac (Zrq t W2 (by omega))
   have HW2:=Zac hW2
   cases hsh:Zfn t.data.toList with
   | some pl =>
    have Hh:Hid (allN p q t=([],6,pl)):=by show _=_; simp [allN,hsome,hask,ht2,hsh]
    unfold Zwp at HCf
    rw [hsh] at HCf
    simp only at HCf
    have HE2:=Zac hE2
    have hb2:=(hE2.block _ hfl).trans Hb1.out
    have Hb2:=Zac hb2
    clear hP hT hns hsome hask ht2 hsh hE2 hbW2 hW2 hb2
    go_wp2_with fail
    rw [← HW2.out]
    refine HCf.out.mono ?_
    rintro e w3 ⟨hE3,rfl⟩
    have hs3:=hE3.size
    have hb3:=(hE3.block _ (by omega)).trans Hb2.out
    have HE3:=Zac (HE2.out.trans (hE3.mono HE2.out.size))
    clear hE3 HCf f0 f1 ff
    obtain ⟨f0,f1,ff⟩:=box2 hb3
    have Hfin:Hid (∀ w4,Kept (only w.heap.size) w3 w4→Zod p q t w (.returned (.tuple #[.slice none 0 0,.agg #[.int .i64 6,.int .i64 pl]])) w4):=fun w4 hK=>Zoe Hh.out (Zeg (HE1.out.trans (HE3.out.mono HE1.out.size)) hK (Qe _))
    have hfl3:=Zab hb3
    clear hb3
    go_wp2_with fail
    go_region
    all_goals
     go_wp2
     refine bodyPost_ret (v := .tuple #[.slice none 0 0,.agg #[.int .i64 6,.int .i64 pl]]) (by simp [results,Tryz.results60,go_sem,f0,f1,ff,hfl3]) rfl ?_
     exact Hfin.out _ (by repeat (first | exact Qx _ _ | apply Qz | apply Kept.put | apply Kept.drew))
   | none =>
    obtain ⟨R,hR⟩:∃ R,R=Zle cs a t.data.toList:=⟨_,rfl⟩
    have hG:=Ztf cs a hsh
    rw [← hR] at hG
    have Hh:Hid (allN p q t=if R.wrong=true then ([],7,R.at') else (R.ans,0,0)):=by show _=_; simp [allN,hsome,hask,ht2,hsh,hR]
    unfold Zwp at HCf
    rw [hsh] at HCf
    simp only at HCf
    obtain ⟨_,_,_,hcs,hcl⟩:=Zcx hsome
    obtain ⟨_,_,_,hOk,hNm,ha1,ha2,ha3,ha8⟩:=Zdf hask
    have ha6:=Znu hask
    have hFw:=Zwd hask
    have hHoP:HoP w1 l1 lc (.slice n1 a.2.length nc) cs a.2:=⟨⟨xs,hP⟩,hcs,Zmk hsome,hcl,hns,ha6,ha8⟩
    have HTop:Hid (∀ u,Ext w1 u→Calls Tryz.prog 51 #[.agg #[.slice h1 h2 h3,.slice b1 a.1.length bc,.slice n1 a.2.length nc]] u _):=fun u hu=>Zrm u (.slice h1 h2 h3) (.slice b1 a.1.length bc) (.slice n1 a.2.length nc) a.1 a.2 ⟨_,_,_,rfl⟩ (hT.ext hu) (Zah hns (fun j hj=>hu.block j (hns.lt j hj).2)) (by omega) (by omega) (Yjt hOk ha3)
    have Hst:Hid (∀ u g1 gc v1 vc b,HoIn w1 u b (.slice l1 cs.length lc) (.slice n1 a.2.length nc) t 0 [] []→TermsIn u (.slice g1 a.1.length gc) a.1→TermsIn u (.slice v1 a.2.length vc) ((List.range a.2.length).map vr)→Calls Tryz.prog 82 #[.pointer (some ⟨b,0,none⟩),.agg #[.slice g1 a.1.length gc,.slice v1 a.2.length vc,.slice none 0 0,.int .i64 a.2.length]] u (Zrs w1 u R)):=fun u g1 gc v1 vc b hI hg hv=>by
     have hCN:CNode u (.slice g1 a.1.length gc) (.slice v1 a.2.length vc) (.slice none 0 0) (.int .i64 a.2.length) (topN a):=by
      refine ⟨topN a,⟨?_,hv,⟨[],TermsAt.nil _ _⟩⟩,rfl,hOk,hNm,hFw,Same.refl hOk⟩
      have:(topN a).goals.map (·.1)=a.1:=by unfold topN; rw [List.map_map]; exact (List.map_congr_left (fun _ _=>rfl)).trans (List.map_id _)
      rw [this]; exact hg
     exact Zoc w1 u b l1 lc _ t cs a.2 _ _ _ _ (topN a) R hHoP hI hCN (by simp [topN]) (by omega) hG
    have HE2:=Zac hE2
    have Hb2:=Zac ((hE2.block _ hfl).trans Hb1.out)
    have HbW2:=Zac hbW2
    clear hP hT hns hsome hask ht2 hsh hE2 hbW2 hW2 hcs hOk hNm ha1 ha2 ha3 ha6 ha8 hFw hHoP hG hR
    go_wp2_with fail
    rw [← HW2.out]
    refine HCf.out.mono ?_
    rintro e w3 ⟨hE3,rfl⟩
    have hs3:=hE3.size
    have Hb3:=Zac ((hE3.block _ (by omega)).trans Hb2.out)
    have hc3:=(hE3.block _ (by omega)).trans HbW2.out
    have HE3:=Zac (HE2.out.trans (hE3.mono HE2.out.size))
    obtain ⟨W5,hW5⟩:∃ W5,W5=(w3.alloc (.cells #[.int .i64 0,.int .i64 0] 91)).alloc (.cells #[.slice l1 cs.length lc,.slice n1 a.2.length nc,.string t,.int .i64 0,.slice none 0 0,.slice none 0 0] 142):=⟨_,rfl⟩
    have hE5:Ext w3 W5:=by rw [hW5]; exact (Ext.of (by repeat' (first | with_reducible(first|exact Qx _ _|apply Kept.drew|apply Kept.drewN|apply Qz|refine Qy ?_ ?_ _)|exact fun h=>absurd h (by simp <;> omega))))
    have hb5:W5.heap[w3.heap.size+1]?=some (.cells #[.slice l1 cs.length lc,.slice n1 a.2.length nc,.string t,.int .i64 0,.slice none 0 0,.slice none 0 0] 142 (0,0)):=by rw [hW5]; exact heap_alloc2_new w3 _ _
    have hE15:Ext w1 W5:=HE3.out.trans (hE5.mono HE3.out.size)
    have HI5:Hid (HoIn w1 W5 (w3.heap.size+1) (.slice l1 cs.length lc) (.slice n1 a.2.length nc) t 0 [] []):=⟨none,0,none,0,hE15,by omega,hb5,⟨[],⟨World.ownsRow_nil _ _ _ _,fun i d h=>by simp at h⟩⟩,World.ownsRow_nil _ _ _ _⟩
    obtain ⟨c0,c1,c2,cf⟩:=box3' hc3
    have hcl3:=Zab hc3
    have HT5:=Zac (HTop.out W5 hE15)
    have Hb5:=Zac ((hE5.block _ (by omega)).trans Hb3.out)
    have HE15:=Zac hE15
    have HW5:=Zac hW5
    have hs5:=hE5.size
    clear hE3 HCf f0 f1 ff hc3 hE5 hb5 hE15 hW5 HTop
    go_wp2_with fail
    rw [← HW5.out]
    refine HT5.out.mono ?_
    rintro e w6 ⟨hE6,g1,gc,v1,vc,rfl,hg,hv⟩
    have hs6:=hE6.size
    obtain ⟨W7,hW7⟩:∃ W7,W7=w6.alloc (.cells #[.slice g1 a.1.length gc,.slice v1 a.2.length vc,.slice none 0 0,.int .i64 a.2.length] 87):=⟨_,rfl⟩
    have hE7:Ext w6 W7:=by rw [hW7]; exact (Ext.of (by repeat' (first | with_reducible(first|exact Qx _ _|apply Kept.drew|apply Kept.drewN|apply Qz|refine Qy ?_ ?_ _)|exact fun h=>absurd h (by simp <;> omega))))
    have hE57:Ext W5 W7:=hE6.trans (hE7.mono hE6.size)
    have H7:=Zac (Hst.out W7 g1 gc v1 vc (w3.heap.size+1) (HI5.out.grow hE57) (hg.ext hE7) (hv.ext hE7))
    have Hb7:=Zac ((hE57.block _ (Zab Hb5.out)).trans Hb5.out)
    have HW7:=Zac hW7
    clear hE6 hg hv hE7 hE57 hW7 Hst HT5 c0 c1 c2 cf
    go_wp2_with fail
    rw [← HW7.out]
    refine H7.out.mono ?_
    rintro e w8 ⟨hF8,hE8,hout⟩
    have hb8:=hF8 _ _ _ _ Hb7.out (by simp [HoTy])
    obtain ⟨f0,f1,ff⟩:=box2 hb8
    have hfl8:=Zab hb8
    have HEw:=Zac (HE1.out.trans (hE8.mono HE1.out.size))
    have Hb8:=Zac hb8
    clear hF8 hE8 hb8 H7
    rcases hout with ⟨hw,rfl⟩ | ⟨hw,va,vc',rfl,ho⟩
    ·have Hfin:Hid (∀ w9,Kept (only w.heap.size) w8 w9→Zod p q t w (.returned (.tuple #[.slice none 0 0,.agg #[.int .i64 7,.int .i64 R.at']])) w9):=fun w9 hK=>Zoe (by rw [Hh.out,if_pos hw]) (Zeg HEw.out hK (Qe _))
     clear hw
     go_wp2
     refine bodyPost_ret (v := .tuple #[.slice none 0 0,.agg #[.int .i64 7,.int .i64 R.at']]) (by simp [results,Tryz.results60,go_sem,f0,f1,ff,hfl8]) rfl ?_
     exact Hfin.out _ (by repeat (first | exact Qx _ _ | apply Qz | apply Kept.put | apply Kept.drew))
    ·have Hfin:Hid (∀ w9,Kept (only w.heap.size) w8 w9→Zod p q t w (.returned (.tuple #[.slice va R.ans.length vc',.agg #[.int .i64 0,.int .i64 0]])) w9):=fun w9 hK=>by
      have e:allN p q t=(R.ans,0,0):=by rw [Hh.out,if_neg (by rw [hw]; simp)]
      refine ⟨Zeg HEw.out hK (Qe _),va,vc',by rw [e]; rfl,?_⟩
      rw [e]
      exact Zbf (Zah ho (fun k hj=>hK.block k (ho.lt k hj).2 (Zfs ho Hb8.out (by decide) k hj))) HE1.out.size
     clear hw ho
     go_wp2
     refine bodyPost_ret (v := .tuple #[.slice va R.ans.length vc',.agg #[.int .i64 0,.int .i64 0]]) (by simp [results,Tryz.results60,go_sem,f0,f1,ff,hfl8]) rfl ?_
     exact Hfin.out _ (by repeat (first | exact Qx _ _ | apply Qz | apply Kept.put | apply Kept.drew))
theorem Ylz (p q t:ByteArray):((allN p q t).2.1≠0→(allN p q t).1=[])∧((allN p q t).2.1=0→(allN p q t).2.2=0):=by
 unfold allN
 split
 ·exact ⟨fun _=>rfl,fun h=>by simp at h⟩
 ·split
  ·exact ⟨fun _=>rfl,fun h=>by simp at h⟩
  ·split
   ·exact ⟨fun _=>rfl,fun h=>by simp at h⟩
   ·split
    ·exact ⟨fun _=>rfl,fun h=>by simp at h⟩
    ·split
     ·exact ⟨fun _=>rfl,fun h=>by simp at h⟩
     ·exact ⟨fun h=>absurd rfl h,fun _=>rfl⟩
theorem Zyl (p q t:ByteArray) (w:World) (hp:p.size≤maxLen) (hq:q.size≤maxLen) (ht:t.size≤maxLen):Calls Tryz.prog 36 #[.string p,.string q,.string t] w (Zpd p q t w):=by
 have HA:=Zac (Zwu p q t w hp hq ht)
 unfold Zod at HA
 obtain ⟨hX3,hX4⟩:=Ylz p q t
 obtain ⟨X,hX⟩:∃ X,X=allN p q t:=⟨_,rfl⟩
 rw [← hX] at HA hX3 hX4
 have HX:=Zac hX
 clear hp hq ht hX
 obtain ⟨A,er,pl⟩:=X
 simp only at HA hX3 hX4
 go_enter Tryz.func36,Tryz.ntmps36
 go_wp2_with fail
 refine HA.out.mono ?_
 rintro e w1 ⟨hE1,va,vc,rfl,ho⟩
 have hs1:=hE1.size
 have HE1:=Zac hE1
 have Ho:=Zac ho
 clear hE1 ho HA
 by_cases he:er=0
 ·obtain rfl:=hX4 he
  subst he
  have Hfin:Hid (∀ o,Zpd p q t w (.returned (.tuple #[.slice va A.length vc,.int .i64 0,.int .i64 0])) (w1.alloc o)):=fun o=>by
   have hEo:Ext w1 (w1.alloc o):=(Ext.of (by repeat' (first | with_reducible(first|exact Qx _ _|apply Kept.drew|apply Kept.drewN|apply Qz|refine Qy ?_ ?_ _)|exact fun h=>absurd h (by simp <;> omega))))
   refine ⟨HE1.out.trans (hEo.mono hs1),va,vc,by rw [← HX.out]; rfl,?_⟩
   rw [← HX.out]
   exact Zah Ho.out (fun k hk=>hEo.block k (Ho.out.lt k hk).2)
  clear hX3 hX4
  go_wp2
  go_ret3
  exact Hfin.out _
 ·have hb:((er:Int) != 0)=true:=by rw [bne_iff_ne]; omega
  obtain rfl:=hX3 he
  have Hfin:Hid (∀ w2,Ext w1 w2→Zpd p q t w (.returned (.tuple #[.slice none 0 0,.int .i64 er,.int .i64 pl])) w2):=fun w2 hE2=>Ydo HX.out.symm (HE1.out.trans (hE2.mono hs1))
  clear hX3 hX4 he
  go_wp2_with fail
  go_quiet (fail)
  go_wp2
  go_ret3
  exact Hfin.out _ (Ext.of (by repeat' (first | with_reducible(first|exact Qx _ _|apply Kept.drew|apply Kept.drewN|apply Qz|refine Qy ?_ ?_ _)|exact fun h=>absurd h (by simp <;> omega))))
theorem Yjf (P:List (GT × List GT)) (hc:∀ c ∈ P,ClFine c∧c.1.hd≠Zfv) (hl:P.length≤23) (hs:(Zce P).length≤700) (w:World) :
  Calls Tryz.prog 18 #[.string ⟨(Zce P).toArray⟩,.int .i64 P.length] w fun e w'=>e = .returned (.bool true)∧Ext w w':=by
 obtain ⟨hp,ha⟩:=Zob P hc hl hs
 obtain ⟨hy,hall⟩:=Yfx P hc hl hs
 obtain ⟨n,hn⟩:∃ n,n=P.length:=⟨_,rfl⟩
 obtain ⟨D,hD⟩:∃ D:ByteArray,D=⟨(Lib.decDigits n).toArray⟩:=⟨_,rfl⟩
 obtain ⟨S0,hS0⟩:∃ S0:ByteArray,S0=⟨(Zce P).toArray⟩:=⟨_,rfl⟩
 obtain ⟨S,hS⟩:∃ S:ByteArray,S=S0++⟨#[32,115,117,114,101,46]⟩:=⟨_,rfl⟩
 have hS':S=⟨(Zce P++[32,115,117,114,101,46]).toArray⟩:=by
  rw [hS,hS0]
  show (⟨(Zce P).toArray⟩:ByteArray)++⟨[32,115,117,114,101,46].toArray⟩=_
  rw [Zbb]
 obtain ⟨T,hT⟩:∃ T:ByteArray,T=⟨#[40]⟩++D++⟨#[33,41]⟩:=⟨_,rfl⟩
 have hT':T=⟨([40]++Lib.decDigits n++[33]++[41]).toArray⟩:=by
  rw [hT,hD]
  show (⟨[40].toArray⟩:ByteArray)++⟨(Lib.decDigits n).toArray⟩++⟨[33,41].toArray⟩=_
  rw [Zbb,Zbb]
  simp
 rw [← hn] at ha hy hall ⊢
 rw [← hS'] at hp hy hall
 rw [← hD] at hy
 rw [← hT'] at hall
 rw [← hS0]
 have hss:S.size≤800:=by rw [hS']; simp [ByteArray.size]; omega
 have hs0:S0.size≤700:=by rw [hS0]; simpa [ByteArray.size] using hs
 have hds:D.size≤2:=by rw [hD]; have:=Zkn (k:=n) (by omega); simpa [ByteArray.size] using this
 have hts:T.size≤10:=by rw [hT']; have:=Zkn (k:=n) (by omega); simp [ByteArray.size]; omega
 have HI:=Zac (fun u=>Zkk n u (by omega))
 rw [← hD] at HI
 have HEn:Hid (∀ u,Calls Tryz.prog 25 #[.string S,.string ⟨#[115,117,114,101,46]⟩] u fun e w'=>Ext u w'∧∃ aa ac wa wc,e = .returned (.tuple #[.agg #[.slice aa 1 ac,.slice wa 1 wc,.int .i64 ((n:Int)+1),.int .i64 2,.string T],.bool true]) ∧
   w'.ownsRow u.heap.size 9 1 (.slice aa 1 ac) 1 (strs [[121,101,115]])∧w'.ownsRow u.heap.size 9 1 (.slice wa 1 wc) 1 (strs [Lib.decDigits n])):=fun u=>by
  have:=Yfr S ⟨#[115,117,114,101,46]⟩ u _ Zeq (by simp only [maxLen]; omega) (by simp [maxLen,ByteArray.size]) hp Zml
  rw [ha] at this
  refine this.mono ?_
  rintro e w' ⟨h1,aa,ac,wa,wc,rfl,h2,h3⟩
  refine ⟨h1,aa,ac,wa,wc,?_,h2,h3⟩
  have e1:(Zcy Zeq (Zdt n 2).status (Zdt n 2).found (Zdt n 2).tree).2.2=[40]++Lib.decDigits n++[33]++[41]:=rfl
  simp only [e1]
  rw [← hT']
  rfl
 have HY:Hid (∀ u,Calls Tryz.prog 19 #[.string S,.string ⟨#[115,117,114,101,46]⟩,.string D] u fun e w'=>e = .returned (.tuple #[.string ⟨#[121,101,115]⟩,.int .i64 0,.int .i64 0])∧Ext u w'):=fun u=>by
  have:=Zye S ⟨#[115,117,114,101,46]⟩ D u (by simp only [maxLen]; omega) (by simp [maxLen,ByteArray.size]) (by simp only [maxLen]; omega)
  rw [hy] at this
  exact this
 have HAl:Hid (∀ u,Calls Tryz.prog 36 #[.string S,.string ⟨#[115,117,114,101,46]⟩,.string T] u fun e w'=>Ext u w'∧∃ va vc,e = .returned (.tuple #[.slice va 1 vc,.int .i64 0,.int .i64 0])∧w'.ownsRow u.heap.size 9 1 (.slice va 1 vc) 1 (strs [[121,101,115]])):=fun u=>by
  have:=Zyl S ⟨#[115,117,114,101,46]⟩ T u (by simp only [maxLen]; omega) (by simp [maxLen,ByteArray.size]) (by simp only [maxLen]; omega)
  unfold Zpd at this
  rw [hall] at this
  exact this
 have hSq:S0++⟨#[32,115,117,114,101,46]⟩=S:=hS.symm
 have hTq:(⟨#[40]⟩:ByteArray)++D++⟨#[33,41]⟩=T:=hT.symm
 have HD:=Zac hD
 have hn23:n≤23:=by omega
 clear hp ha hy hall hS hS' hT hT' hD hS0 hs hc hn hl
 go_enter Tryz.func18,Tryz.ntmps18
 go_wp2_with fail
 refine (HI.out _).mono ?_
 rintro e u1 ⟨rfl,rfl⟩
 go_wp2_with fail
 refine (HEn.out _).mono ?_
 rintro e w2 ⟨hE2,aa,ac,wa,wc,rfl,ha2,hw2⟩
 obtain ⟨g,y,rfl,hg,hy,cg⟩:=Zln (i:=0) ha2 (by decide)
 simp at hy
 subst hy
 obtain ⟨g',y',rfl,hg',hy',cg'⟩:=Zln (i:=0) hw2 (by decide)
 simp at hy'
 subst hy'
 rw [← HD.out] at cg'
 have Hans:=Zac ha2
 have HE2:=Zac hE2
 clear hE2 ha2 hw2
 go_wp2_with fail
 obtain ⟨V,hV⟩:∃ V,V=w2.alloc (.cells #[.slice (some ⟨g,0,none⟩) 1 ac,.slice (some ⟨g',0,none⟩) 1 wc,.int .i64 ((n:Int)+1),.int .i64 2,.string T] 49):=⟨_,rfl⟩
 have hEV:Ext w2 V:=by rw [hV]; exact (Ext.of (by repeat' (first | with_reducible(first|exact Qx _ _|apply Kept.drew|apply Kept.drewN|apply Qz|refine Qy ?_ ?_ _)|exact fun h=>absurd h (by simp <;> omega))))
 have hbV:V.heap[w2.heap.size]?=some (.cells #[.slice (some ⟨g,0,none⟩) 1 ac,.slice (some ⟨g',0,none⟩) 1 wc,.int .i64 ((n:Int)+1),.int .i64 2,.string T] 49 (0,0)):=by rw [hV]; exact heap_alloc_new w2 _
 have Hat:Hid (∀ u,Ext V u→u.heap[w2.heap.size]?=some (.cells #[.slice (some ⟨g,0,none⟩) 1 ac,.slice (some ⟨g',0,none⟩) 1 wc,.int .i64 ((n:Int)+1),.int .i64 2,.string T] 49 (0,0))∧u.cell? ⟨g,0,none⟩=some (.string ⟨#[121,101,115]⟩)∧u.cell? ⟨g',0,none⟩=some (.string D)∧g<u.heap.size∧g'<u.heap.size∧u.ownsRow u1.heap.size 9 1 (.slice (some ⟨g,0,none⟩) 1 ac) 1 (strs [[121,101,115]])):=fun u hu=>by
  have hs1:=hEV.size
  have hs2:=hu.size
  have k1:u.heap[w2.heap.size]?=V.heap[w2.heap.size]?:=hu.block _ (Zab hbV)
  refine ⟨k1.trans hbV,(hu.cell (p:=⟨g,0,none⟩) (by show g<_; omega)).trans ((hEV.cell (p:=⟨g,0,none⟩) hg).trans cg),(hu.cell (p:=⟨g',0,none⟩) (by show g'<_; omega)).trans ((hEV.cell (p:=⟨g',0,none⟩) hg').trans cg'),by omega,by omega,?_⟩
  exact Zah Hans.out (fun k hk=>(hu.block k (by have:=(Hans.out.lt k hk).2; omega)).trans (hEV.block k (Hans.out.lt k hk).2))
 have HEV:Hid (Ext u1 V):=HE2.out.trans (hEV.mono HE2.out.size)
 rw [← hV]
 clear hV hEV hbV cg cg' hg hg'
 refine (HY.out V).mono ?_
 rintro e w3 ⟨rfl,hE3⟩
 obtain ⟨k1,k2,k3,k4,k5,k6⟩:=Hat.out w3 hE3
 have b4:=Zaa k1 4 _ rfl
 have bl:=Zab k1
 have HE3:=Zac hE3
 clear hE3 k1 k2 k3 k4 k5 k6
 go_wp2_with fail
 refine (HAl.out w3).mono ?_
 rintro e w4 ⟨hE4,va,vc,rfl,hv4⟩
 have hE4':Ext V w4:=HE3.out.trans (hE4.mono HE3.out.size)
 obtain ⟨k1,k2,k3,k4,k5,k6⟩:=Hat.out w4 hE4'
 have c0:=Zaa k1 0 _ rfl
 have c1:=Zaa k1 1 _ rfl
 have cl:=Zab k1
 have HSa:=Zac (Zyi w4 w3.heap.size u1.heap.size va vc [[121,101,115]] (some ⟨g,0,none⟩) ac [[121,101,115]] hv4 k6 (by decide) (by decide))
 have HE4:Hid (Ext u1 w4):=HEV.out.trans (hE4'.mono HEV.out.size)
 clear hE4 hE4' hv4 k1 k6 b4 bl
 go_wp2_with fail
 refine HSa.out.mono ?_
 rintro e w5 ⟨rfl,hE5⟩
 have HE5:Hid (Ext u1 w5):=HE4.out.trans (hE5.mono HE4.out.size)
 clear hE5
 go_wp2
 go_ret
 exact ⟨rfl,HE5.out⟩
structure TrL (w:World) (bt:Nat) (T:Tr) (tree:List UInt8) (aa:Option Addr) (ac:Nat) (wa:Option Addr) (wc:Nat):Prop where
 box:w.heap[bt]?=some (.cells #[.slice aa T.ans.length ac,.slice wa T.wts.length wc,.int .i64 T.tries,.int .i64 T.status,.string ⟨tree.toArray⟩] 49 (0,0))
 ans:w.ownsRow 0 9 1 (.slice aa T.ans.length ac) T.ans.length (strs T.ans)
 wts:w.ownsRow 0 9 1 (.slice wa T.wts.length wc) T.wts.length (strs T.wts)
theorem TrL.ext {w w':World} {bt:Nat} {T:Tr} {tree:List UInt8} {aa:Option Addr} {ac:Nat} {wa:Option Addr} {wc:Nat} (h:TrL w bt T tree aa ac wa wc) (e:Ext w w'):TrL w' bt T tree aa ac wa wc :=
 ⟨(e.block _ (Zab h.box)).trans h.box,Zah h.ans (fun k hk=>e.block k (h.ans.lt k hk).2),Zah h.wts (fun k hk=>e.block k (h.wts.lt k hk).2)⟩
theorem Ygc {cs:List Cls} {a:List (List Sym) × Names} {tries size:Nat} (hcl:cs.length≤24) (hs:0<size):∀ {f:Nat} {m:SN} {t:Tr},InvN cs a m→(m.status=0∨m.status=1)→t.ans.length≤t.tries→t.wts.length≤t.tries→t.tries≤tries→(aftN cs a tries size f m t).2.ans.length≤tries∧(aftN cs a tries size f m t).2.wts.length≤tries∧(aftN cs a tries size f m t).2.tries≤tries:=by
 intro f
 induction f with
 | zero=>intro m t _ _ h1 h2 h3; exact ⟨Qq h1 h3,Qq h2 h3,h3⟩
 | succ f ih =>
  intro m t hI hm h1 h2 h3
  rw [aftN]
  split
  ·rename_i hlt
   obtain ⟨N,hN⟩:∃ N,N=Zco size (tries - t.tries):=⟨_,rfl⟩
   have hN0:1≤N∧N≤tries - t.tries:=by rw [hN]; unfold Zco; split <;> omega
   rw [← hN]
   have hle:=Zmg (cs:=cs) (n:=N) (s:=m)
   have hsm:=Zlf (cs:=cs) (n:=N) (s:=m) (by omega) (by omega)
   have hst:=(hI.step hcl (n:=N)).st
   have hadd:(addN a t (Zaz cs N m)).ans.length≤(addN a t (Zaz cs N m)).tries∧(addN a t (Zaz cs N m)).wts.length≤(addN a t (Zaz cs N m)).tries∧(addN a t (Zaz cs N m)).tries≤tries:=by
    rw [Zea]
    unfold addN
    split
    ·rename_i h0
     have:=hsm (Or.inr h0)
     simp only [Qg,Qn]
     omega
    ·simp only
     omega
   split
   ·simp only
    omega
   ·rename_i h23
    exact ih (hI.step hcl) (by omega) hadd.1 hadd.2.1 hadd.2.2
  ·exact ⟨Qq h1 h3,Qq h2 h3,h3⟩
theorem Ybp {cs:List Cls} {a:List (List Sym) × Names} {tries size:Nat}:∀ {f:Nat} {m:SN} {t:Tr},m.status=t.status→(aftN cs a tries size f m t).1.status=(aftN cs a tries size f m t).2.status:=by
 have ha:∀ (t:Tr) (r:SN × Nat),(addN a t r).status=r.1.status:=fun t r=>by unfold addN; split <;> rfl
 intro f
 induction f with
 | zero=>intro m t h; exact h
 | succ f ih =>
  intro m t h
  rw [aftN]
  split
  ·split
   ·exact (ha _ _).symm
   ·exact ih (ha _ _).symm
  ·exact h
set_option maxHeartbeats 8000000 in
theorem Zok (w:World) (ra:Option Addr) (rl rc:Nat) (hlen:rl≤9223372036854775807) (hraw:∀ i,i<rl→∃ (k off:Nat) (c:Int),ra=some ⟨k,off,none⟩∧k<w.heap.size∧w.cell? ⟨k,off+i,none⟩=some (.int .i64 c) ∧ -9223372036854775808≤c∧c<9223372036854775808) :
  Calls Tryz.prog 12 #[.slice ra rl rc] w fun e w'=>e = .returned (.bool true)∧Ext w w':=by
 have hE0:Ext w (w.alloc (.cells #[.slice ra rl rc,.int .i64 0] 28)):=(Ext.of (by repeat' (first | with_reducible(first|exact Qx _ _|apply Kept.drew|apply Kept.drewN|apply Qz|refine Qy ?_ ?_ _)|exact fun h=>absurd h (by simp <;> omega))))
 have HR:Hid (Zeb (w.alloc (.cells #[.slice ra rl rc,.int .i64 0] 28)) w.heap.size w.heap.size ra rl rc):=⟨0,Qe _,heap_alloc_new w _,Qm _,hlen,fun i hi=>by
  obtain ⟨k,off,c,h1,h2,h3,h4⟩:=hraw i hi
  exact ⟨k,off,c,h1,h2,(hE0.cell (p:=⟨k,off+i,none⟩) h2).trans h3,h4⟩⟩
 have HC:=Zac (Zuk _ w.heap.size w.heap.size ra rl rc HR.out)
 have HE0:=Zac hE0
 clear hraw hE0 hlen
 go_enter Tryz.func12,Tryz.ntmps12
 go_wp2_with fail
 refine HC.out.mono ?_
 rintro e w1 ⟨⟨P,hP1,hP5,hPc,hPl,rfl⟩,hK1,hR1⟩
 have HQ:=Zac (Zrp w1 w.heap.size w.heap.size ra rl rc hR1)
 have HE1:Hid (Ext w w1):=HE0.out.trans (hK1.below (by simp) (fun k e=>by have e:k=w.heap.size:=e; omega))
 have HPc:=Zac hPc
 clear hK1 hR1 HC HR HE0 hPc
 go_wp2_with fail
 refine HQ.out.mono ?_
 rintro e w2 ⟨⟨t,r,ht,hr,hrl,hql,rfl⟩,hK2,hR2⟩
 have HE2:Hid (Ext w w2):=HE1.out.trans (hK2.below HE1.out.size (fun k e=>by have e:k=w.heap.size:=e; omega))
 have hql2:(Zci t r++[46]).length≤120:=by simp; omega
 have hW:=Ybm P (fun c hc=>(HPc.out c hc).1) (by omega) (by omega) t r ht hr (by omega) hql2 400 1 (by omega)
 have hpo:=Zju P (fun c hc=>(HPc.out c hc).1) (by omega) (by omega)
 have hqo:=Zlh t r ht hr (by omega) hql2
 obtain ⟨cs,hcse⟩:∃ cs,cs=P.map clOf:=⟨_,rfl⟩
 obtain ⟨a,hae⟩:∃ a,a=Zhz (t::r) []:=⟨_,rfl⟩
 have hne:cs≠[]:=fun e=>by rw [hcse] at e; simp at e; subst e; simp at hP1
 rw [← hcse,← hae] at hW
 rw [← hcse] at hpo
 rw [← hae] at hqo
 have HSu:=Zac (fun u=>Yjf P HPc.out (by omega) (by omega) u)
 obtain ⟨SP,hSP⟩:∃ SP:ByteArray,SP=⟨(Zce P).toArray⟩:=⟨_,rfl⟩
 obtain ⟨SQ,hSQ⟩:∃ SQ:ByteArray,SQ=⟨(Zci t r++[46]).toArray⟩:=⟨_,rfl⟩
 rw [← hSP] at hW hpo HSu ⊢
 rw [← hSQ] at hW hqo ⊢
 have sP:SP.size≤800:=(Zcx hpo).1
 have sQ:SQ.size≤120:=(Zdf hqo).1
 obtain ⟨_,_,_,hcs,hcl24⟩:=Zcx hpo
 obtain ⟨_,_,_,_,_,_,hane,_,_⟩:=Zdf hqo
 have HNew:=Zac (fun u=>Zyh SP SQ u (by simp only [maxLen]; omega) (by simp only [maxLen]; omega))
 obtain ⟨Rr,hRr⟩:∃ Rr,Rr=aftN cs a 400 1 401 (newN cs a) ⟨[],[],0,0⟩:=⟨_,rfl⟩
 have hI0:=InvN.new cs hane
 have hs0:=Zhv cs hane
 have hF0:Zgf (newN cs a):=fun h=>by rw [hs0] at h; simp at h
 have HAf:Hid (∀ (u:World) (bb:Nat) (xx:CX),CSr u bb xx cs a (newN cs a)→Calls Tryz.prog 33 #[.pointer (some ⟨bb,0,none⟩),.int .i64 400,.int .i64 400] u (Zqb u bb xx cs a Rr)):=fun u bb xx hC=>by
  have:=Zuj u bb xx cs _ a (newN cs a) 400 400 hC hI0 hF0 hs0 hcs (Zmk hpo) (by omega) hqo (by omega) (by omega) (by omega)
  rw [Yhe (f':=401) (by omega) (by omega) hI0 (Or.inl hs0) (by simp) (by simp),← hRr] at this
  exact this
 obtain ⟨hsm1,hsm2,hsm3⟩:=Ygc (cs:=cs) (a:=a) (tries:=400) (size:=1) (f:=401) (m:=newN cs a) (t:=⟨[],[],0,0⟩) (by omega) (by omega) hI0 (Or.inl hs0) (by simp) (by simp) (by simp)
 have hpos:=Yhh (tries:=400) (f:=401) hane hne (by omega) (by omega) hs0
 have hst:=Ybp (cs:=cs) (a:=a) (tries:=400) (size:=1) (f:=401) (m:=newN cs a) (t:=⟨[],[],0,0⟩) hs0
 rw [← hRr] at hsm1 hsm2 hsm3 hpos hst hW
 obtain ⟨R1,T⟩:=Rr
 simp only at hsm1 hsm2 hsm3 hpos hst
 obtain ⟨Q,hQ⟩:∃ Q,Q=(Zcy a R1.status R1.found R1.tree).2.2:=⟨_,rfl⟩
 unfold Zqb at HAf
 simp only [← hQ] at HAf
 have hWl:T.ans.length=T.wts.length:=hW.len
 -- the calls
 have HY:Hid (∀ (i:Nat) (A W:List UInt8),T.ans[i]?=some A→T.wts[i]?=some W→∃ E:List UInt8,(∀ u,Calls Tryz.prog 19 #[.string SP,.string SQ,.string ⟨W.toArray⟩] u fun e w'=>e = .returned (.tuple #[.string ⟨A.toArray⟩,.int .i64 0,.int .i64 0])∧Ext u w')∧(∀ u,Calls Tryz.prog 34 #[.string SP,.string SQ,.string ⟨W.toArray⟩] u fun e w'=>e = .returned (.tuple #[.string ⟨E.toArray⟩,.int .i64 0,.int .i64 0])∧Ext u w') ∧
   (∀ u,Calls Tryz.prog 35 #[.string ⟨E.toArray⟩,.string ⟨W.toArray⟩] u fun e w'=>e = .returned (.bool true)∧Ext u w')):=fun i A W hA hWt=>by
  obtain ⟨y1,y2,E,y3,y4,L,y5,y6,y7,y8,y9⟩:=hW.each i A W hA hWt
  have hws:(⟨W.toArray⟩:ByteArray).size≤400:=by simpa [ByteArray.size] using y2
  refine ⟨E,fun u => ?_,fun u => ?_,fun u => ?_⟩
  ·have:=Zye SP SQ ⟨W.toArray⟩ u (by simp only [maxLen]; omega) (by simp only [maxLen]; omega) (by simp only [maxLen]; omega)
   rw [y1] at this
   exact this
  ·have:=Zuh SP SQ ⟨W.toArray⟩ u (by simp only [maxLen]; omega) (by simp only [maxLen]; omega) (by simp only [maxLen]; omega)
   rw [y3] at this
   exact this
  ·exact Ycb ⟨E.toArray⟩ ⟨W.toArray⟩ L u y5 y6 y7 y8 y9 (by simpa [ByteArray.size] using y4) (by omega)
 have HAl:Hid (T.status=2→∀ u,Calls Tryz.prog 36 #[.string SP,.string SQ,.string ⟨Q.toArray⟩] u fun e w'=>Ext u w'∧∃ va vc,e = .returned (.tuple #[.slice va T.ans.length vc,.int .i64 0,.int .i64 0])∧w'.ownsRow u.heap.size 9 1 (.slice va T.ans.length vc) T.ans.length (strs T.ans)):=fun h2 u=>by
  have h2':R1.status=2:=by rw [hst]; exact h2
  obtain ⟨k1,k2⟩:=hW.all h2'
  simp only at k1 k2
  have hQt:Q=R1.tree:=by rw [hQ]; unfold Zcy; rw [if_neg (by omega),if_pos h2']
  rw [← hQt] at k1 k2
  have:=Zyl SP SQ ⟨Q.toArray⟩ u (by simp only [maxLen]; omega) (by simp only [maxLen]; omega) (by simp only [maxLen,ByteArray.size,List.size_toArray]; omega)
  unfold Zpd at this
  rw [k2] at this
  exact this
 have Hpo:=Zac hpo
 have Hqo:=Zac hqo
 have HWl:=Zac hWl
 obtain ⟨np,hnp⟩:∃ np:Nat,np=P.length:=⟨_,rfl⟩
 rw [← hnp] at HSu ⊢
 clear hRr hI0 hs0 hF0 hQ hcs hane hne hW hpo hqo hst hcse hae hSP hSQ ht hr hrl hql hql2 hK2 hR2 HQ HPc hP1 hP5 hPl hWl hnp
 go_wp2_with fail
 refine (HSu.out _).mono ?_
 rintro e w3 ⟨rfl,hE3⟩
 have HE3:Hid (Ext w w3):=HE2.out.trans (hE3.mono HE2.out.size)
 clear hE3 HSu
 go_wp2_with fail
 refine (HNew.out _).mono ?_
 rintro e w4 ⟨hE4,⟨h1,_⟩ | ⟨_,h1,_⟩ | ⟨cs',a',b1,x1,h1,h2,rfl,hge1,hC1⟩⟩
 ·rw [Hpo.out] at h1; simp at h1
 ·rw [Hqo.out] at h1; simp at h1
 obtain rfl:cs'=cs:=by rw [Hpo.out] at h1; exact (Option.some.inj h1).symm
 obtain rfl:a'=a:=by rw [Hqo.out] at h2; exact (Option.some.inj h2).symm
 have HE4:Hid (Ext w w4):=HE3.out.trans (hE4.mono HE3.out.size)
 have Hge1:Hid (∀ j,ownS b1 x1 j→w.heap.size≤j):=fun j hj=>Qq HE3.out.size (hge1 j hj)
 have HX1:=Zac (HAf.out w4 b1 x1 hC1)
 clear h1 h2 hE4 hge1 hC1 HNew HAf
 go_wp2_with fail
 refine HX1.out.mono ?_
 rintro e w5 ⟨hK5,_,_,aa,ac,wa,wc,rfl,ha5,hw5⟩
 obtain ⟨V,hV⟩:∃ V,V=w5.alloc (.cells #[.slice aa T.ans.length ac,.slice wa T.wts.length wc,.int .i64 T.tries,.int .i64 T.status,.string ⟨Q.toArray⟩] 49):=⟨_,rfl⟩
 have hEV:Ext w5 V:=by rw [hV]; exact (Ext.of (by repeat' (first | with_reducible(first|exact Qx _ _|apply Kept.drew|apply Kept.drewN|apply Qz|refine Qy ?_ ?_ _)|exact fun h=>absurd h (by simp <;> omega))))
 have hTV:TrL V w5.heap.size T Q aa ac wa wc:=⟨by rw [hV]; exact heap_alloc_new w5 _,Zah (Zbf ha5 (Qm _)) (fun k hk=>hEV.block k (ha5.lt k hk).2),Zah (Zbf hw5 (Qm _)) (fun k hk=>hEV.block k (hw5.lt k hk).2)⟩
 have HEV:Hid (Ext w V):=(HE4.out.trans (hK5.below HE4.out.size Hge1.out)).trans (hEV.mono (Qq HE4.out.size hK5.size))
 have HT:Hid (∀ u,Ext V u→TrL u w5.heap.size T Q aa ac wa wc):=fun u hu=>hTV.ext hu
 have HV:=Zac hV
 have hposI:(0:Int)<(T.tries:Int):=by omega
 have hpos0:((T.tries:Int) == 0)=false:=by rw [Qu]; omega
 clear hK5 ha5 hw5 hEV hTV hV HX1 Hge1 HE1 HE2 HE3 HE4
 go_wp2
 rw [← HV.out]
 go_loopw [12] (fun i u=>∃ k:Nat,k≤T.ans.length∧i = .int .i64 k∧Ext V u) (fun i _=>T.ans.length - (intOf i).toNat)
 case atStart=>exact ⟨0,Qm _,rfl,Below.refl _ _⟩
 case round =>
  obtain ⟨k,hk,rfl,hEu⟩:=hrel
  have HEu:=Zac hEu
  have hTu:=HT.out wr hEu
  have d0:=Zaa hTu.box 0 _ rfl
  have d1:=Zaa hTu.box 1 _ rfl
  have dl:=Zab hTu.box
  by_cases hlt:k<T.ans.length
  ·obtain ⟨g,A,rfl,hg,hA,cA⟩:=Zln hTu.ans hlt
   obtain ⟨g',W,rfl,hg',hWt,cW⟩:=Zln (i:=k) hTu.wts (by rw [← HWl.out]; exact hlt)
   obtain ⟨E,c1,c2,c3⟩:=HY.out k A W hA hWt
   have HC1:=Zac c1
   have HC2:=Zac c2
   have HC3:=Zac c3
   have hwl:k<T.wts.length:=by rw [← HWl.out]; exact hlt
   clear hEu hTu hA hWt c1 c2 c3
   go_wp2_with fail
   refine (HC1.out _).mono ?_
   rintro e u1 ⟨rfl,hF1⟩
   have hF1':Ext V u1:=HEu.out.trans (hF1.mono HEu.out.size)
   have e1:=Zaa (HT.out u1 hF1').box 1 _ rfl
   have el:=Zab (HT.out u1 hF1').box
   have eW:u1.cell? ⟨g',k,none⟩=some (.string ⟨W.toArray⟩):=(hF1.cell (p:=⟨g',k,none⟩) hg').trans cW
   have eA:u1.cell? ⟨g,k,none⟩=some (.string ⟨A.toArray⟩):=(hF1.cell (p:=⟨g,k,none⟩) hg).trans cA
   have eg':g'<u1.heap.size:=Nat.lt_of_lt_of_le hg' hF1.size
   have eg:g<u1.heap.size:=Nat.lt_of_lt_of_le hg hF1.size
   have HF1:=Zac hF1'
   clear hF1 hF1' d0 d1 dl cA cW hg hg'
   go_wp2_with fail
   refine (HC2.out _).mono ?_
   rintro e u2 ⟨rfl,hF2⟩
   have hF2':Ext V u2:=HF1.out.trans (hF2.mono HF1.out.size)
   have f1:=Zaa (HT.out u2 hF2').box 1 _ rfl
   have fl:=Zab (HT.out u2 hF2').box
   have fW:u2.cell? ⟨g',k,none⟩=some (.string ⟨W.toArray⟩):=(hF2.cell (p:=⟨g',k,none⟩) eg').trans eW
   have fA:u2.cell? ⟨g,k,none⟩=some (.string ⟨A.toArray⟩):=(hF2.cell (p:=⟨g,k,none⟩) eg).trans eA
   have fg':g'<u2.heap.size:=Nat.lt_of_lt_of_le eg' hF2.size
   have fg:g<u2.heap.size:=Nat.lt_of_lt_of_le eg hF2.size
   have HF2:=Zac hF2'
   clear hF2 hF2' e1 el eW eA eg' eg
   go_wp2_with fail
   refine (HC3.out _).mono ?_
   rintro e u3 ⟨rfl,hF3⟩
   have hF3':Ext V u3:=HF2.out.trans (hF3.mono HF2.out.size)
   have k0:=Zaa (HT.out u3 hF3').box 0 _ rfl
   have kl:=Zab (HT.out u3 hF3').box
   have kA:u3.cell? ⟨g,k,none⟩=some (.string ⟨A.toArray⟩):=(hF3.cell (p:=⟨g,k,none⟩) fg).trans fA
   have kg:g<u3.heap.size:=Nat.lt_of_lt_of_le fg hF3.size
   have HF3:=Zac hF3'
   clear hF3 hF3' f1 fl fW fA fg' fg
   go_wp2
   go_roundw
   case rel=>exact ⟨k+1,by omega,by go_num,HF3.out⟩
   case measure=>simp [intOf]; omega
  ·have d3:=Zaa hTu.box 3 _ rfl
   by_cases h2:T.status=2
   ·have d4:=Zaa hTu.box 4 _ rfl
    have HA2:=Zac (HAl.out h2 wr)
    have h2i:(T.status:Int)=2:=by omega
    have HTu:=Zac hTu
    have hkn:¬ (k:Int)<(T.ans.length:Int):=by omega
    clear hEu hTu h2
    go_wp2_with fail
    refine HA2.out.mono ?_
    rintro e u1 ⟨hF1,va,vc,rfl,hv⟩
    have hF1':Ext V u1:=HEu.out.trans (hF1.mono HEu.out.size)
    have hT1:=HT.out u1 hF1'
    have e0:=Zaa hT1.box 0 _ rfl
    have el:=Zab hT1.box
    have HSa:=Zac (Zyi u1 wr.heap.size 0 va vc T.ans aa ac T.ans hv hT1.ans (by omega) (by omega))
    have HF1:Hid (Ext w u1):=HEV.out.trans (hF1'.mono HEV.out.size)
    rw [decide_eq_true rfl] at HSa
    clear hF1 hF1' hT1 hv d0 d1 d3 d4 dl HA2
    go_wp2_with fail
    refine HSa.out.mono ?_
    rintro e u2 ⟨rfl,hF2⟩
    have HF2:Hid (Ext w u2):=HF1.out.trans (hF2.mono HF1.out.size)
    clear hF2
    go_wp2
    go_ret
    exact ⟨rfl,HF2.out⟩
   ·have h2i:((T.status:Int) == 2)=false:=by rw [Qu]; omega
    have h2j:((T.status:Int) != 2)=true:=by simpa [bne] using h2i
    have hkn:¬ (k:Int)<(T.ans.length:Int):=by omega
    have HF:Hid (Ext w wr):=HEV.out.trans (HEu.out.mono HEV.out.size)
    clear hEu hTu
    go_wp2
    go_ret
    exact ⟨rfl,HF.out⟩
end Go.Proofs.YtlmjilpjmgjjcaaGreatDoor
namespace Go.Proofs.YtlmjilpjmgjjcaaGreatDoor
open Go.ChangeShapes Go.WideShapes Go.ChangeAt Go.WideMaps Go.WideElems Go.RowKit
theorem own_k:ownKnob Tryz.prog.godebug=none:=by kernel_rfl
theorem Ygd:laidOutB Tryz.prog=true:=by kernel_rfl
theorem Ybq:Tryz.prog.cellsOf 3=1:=by kernel_rfl
theorem Ymw {W:World} {a:Addr} {j:Nat} {v:Value} (h:W.cell? (a.add j)=some v) (hs:a.spot=none):W.cell? ⟨a.block,a.off+j,none⟩=some v:=by
 have e:a.add j=⟨a.block,a.off+j,none⟩:=by
  unfold Addr.add
  obtain ⟨b,o,s⟩:=a
  simp only at hs
  subst hs
  split
  ·rename_i h0; subst h0; rfl
  ·rfl
 rwa [e] at h
theorem Ymx {W:World} {a:Addr} {v:Value} (h:W.cell? a=some v):a.spot=none:=by
 unfold World.cell? at h
 split at h
 ·split at h
  ·cases h
  ·rename_i h1; cases hs:a.spot with
   | none=>rfl
   | some _=>rw [hs] at h1; simp at h1
 ·cases h
theorem Yma {H:Type} {enc:TypeId × Value→H} {W:World} {a0:Option Addr} {len cap:Nat} {d:DataW H} {ps:List MemPlace}
  (h:DataW.Trod enc Tryz.prog W 0 (fun _=>true) true 25 (.slice a0 len cap) d ps):len≤9223372036854775807∧∀ i,i<len→∃ (k off:Nat) (c:Int),a0=some ⟨k,off,none⟩∧k<W.heap.size∧W.cell? ⟨k,off+i,none⟩=some (.int .i64 c) ∧ -9223372036854775808≤c∧c<9223372036854775808:=by
 obtain ⟨fuel,hf⟩:=h
 rcases Deep.open_slice1 Tryz.underlying25 Ybq hf with ⟨hcs,_⟩ | ⟨a,l,c,m,n,V,D,Pl,hcs,_,hl,hm,hmm,_,hall⟩
 ·simp [Value.cells] at hcs
  obtain ⟨rfl,rfl,rfl⟩:=hcs
  exact ⟨by omega,fun k hk=>absurd hk (by omega)⟩
 ·simp [Value.cells] at hcs
  obtain ⟨rfl,rfl,rfl⟩:=hcs
  simp only [maxLen] at hm
  refine ⟨by omega,fun i hi => ?_⟩
  obtain ⟨hc,ht⟩:=hall i (by rw [hmm]; simp; omega)
  obtain ⟨z,h1,_,h3⟩:=DataW.trod_int Tryz.underlying3 ht
  simp at h1
  rw [h1] at hc
  have hsp:a.spot=none:=by
   obtain ⟨hc0,_⟩:=hall 0 (by rw [hmm]; simp; omega)
   have:=Ymx hc0
   simpa [Addr.add] using this
  have hblk:a.block<W.heap.size:=by
   obtain ⟨hc0,_⟩:=hall 0 (by rw [hmm]; simp; omega)
   have:=World.block_lt_of_cell? W _ hc0
   simpa [Addr.add] using this
  have h4:(decide (IntKind.min .i64≤z) && decide (z≤IntKind.max .i64))=true:=h3
  rw [Bool.and_eq_true,decide_eq_true_eq,decide_eq_true_eq,show IntKind.min .i64 = -9223372036854775808 from rfl,show IntKind.max .i64=9223372036854775807 from rfl] at h4
  refine ⟨a.block,a.off,z,?_,hblk,Ymw hc hsp,by omega,by omega⟩
  obtain ⟨b,o,sp⟩:=a
  simp only at hsp
  subst hsp
  rfl
theorem Zol (os:Os) (args:Array Value):laidMetH Tryz.prog Rows.warrantedRow.laid ((World.doorLaid Tryz.prog 400 os).forCall (fun _ _=>0) ⟨#[],args,[]⟩).memory :=
 laidMetH_of_parts3 (fuel:=8) (laidMet_of_run' 8 (by kernel_rfl) (by kernel_rfl)) (by kernel_rfl) (by kernel_rfl)
set_option maxRecDepth 100000 in
theorem Zmd (os:Os) (started:os.Started) (H:Type) (enc:TypeId × Value→H) :
  ReturnsInHanded {} Tryz.checked os 12 .any (fun w args=>(Rows.warrantedSpec.pre enc Tryz.prog Tryz.f12 [] false w args∧laidMetH Tryz.prog Rows.warrantedRow.laid w)∧sizedMet enc Tryz.prog Tryz.f12 (OpenSpec.ofChange Rows.warrantedSpec) false w args)
   (Rows.warrantedSpec.post enc Tryz.prog Tryz.f12 false true false false):=by
 refine returnsInHanded_of_change_and (C:=Tryz.checked) (X:=fun w _=>laidMetH Tryz.prog Rows.warrantedRow.laid w) (fun _ _ _ hh h=>h.of_heap hh) own_k started (by kernel_rfl) Tryz.func12
  (ChangeSpec.witness_shaped (enc:=enc) (C:=Tryz.checked) (os:=os) (X:=fun w _=>laidMetH Tryz.prog Rows.warrantedRow.laid w) false (World.doorLaid Tryz.prog 400 os) #[.slice none 0 0] 8 rfl (World.shaped_of_RefB (by kernel_rfl) (by kernel_rfl)) (by kernel_rfl) (by kernel_rfl) (by kernel_rfl) (Zol os _)) ?_
 intro W base args ds gs before hval0 hW _ _ hL _
 have hval:∀ (j:Nat) t v,Tryz.f12.params[j]?=some t→args[j]?=some v→Value.okWide Tryz.prog W .any base t v:=hval0
 have hW':=hW
 obtain ⟨p,q,hA0,hV,rfl,hfz,hnd⟩:=hW
 have hA:DataW.TrodAll enc Tryz.prog W 0 (fun _=>true) true Tryz.f12.params.toList args.toList ds p:=hA0
 rw [Tryz.params12] at hA hval
 obtain ⟨v0,d0,rfl,rfl,h0⟩:=trodAll_one hA
 obtain ⟨rfl,rfl⟩:=trodVars_none hV
 have lt0:∀ x ∈ p,x.block<W.heap.size:=by obtain ⟨m,hm⟩:=h0; exact DataW.trod_lt m _ _ _ hm
 obtain ⟨a0,len0,cap0,rfl⟩:=okWide_slice Tryz.underlying25 (hval 0 25 v0 rfl rfl)
 obtain ⟨hlen,hints⟩:=Yma h0
 clear hA0 hval0
 refine (Zok W a0 len0 cap0 hlen hints).mono fun e W' ⟨he,bel⟩ => ?_
 subst he
 exact ⟨_,rfl,_,_,_,[],_,[],hW',trodAll_mk1 (shut_bool Tryz.underlying4 _),trodAll_mk1 (Below.trod Ygd (by kernel_rfl) (of_decide_eq_true (by kernel_rfl)) h0 bel lt0),rfl,bel.frame _,fun h=>by cases h⟩
theorem Zrt:Rows.WarrantedSaid :=
 OpenClaim.holds_of_wide 12 Tryz.f12 rfl rfl rfl rfl rfl rfl rfl ⟨rfl,rfl,rfl,rfl,rfl⟩ rfl rfl rfl rfl rfl (by kernel_rfl) Tryz.func12 (by kernel_rfl)
  (of_decide_eq_true (by kernel_rfl)) (by unfold Func.isWrapper; first | (rw [if_pos (by decide +kernel)]; kernel_rfl) | (rw [if_neg (by decide +kernel)]; exact ⟨rfl,rfl⟩))
  (fun os started H enc _=>Zmd os started H enc)
theorem warranted_hold:Rows.WarrantedCardSaid :=
 Claim7.holds_tied_plain_at .later [] [.data,.data,.data] true Rows.warrantedCard.stood.harness false
  Zrt (fun _ h=>by cases h) (by kernel_rfl) (fun _ h=>by cases h) warranted_row_tie rfl ⟨rfl,rfl⟩ (by kernel_rfl) rfl
  (fun f fn hf hfn=>by
   obtain rfl:f=12:=Option.some.inj ((show Tryz.prog.funcNamed Tryz.f12.name=some 12 by kernel_rfl).symm.trans hf) |>.symm
   obtain rfl:fn=Tryz.f12:=(Option.some.inj (Tryz.func12.symm.trans hfn)).symm
   exact ⟨by kernel_rfl,fun j t ht=>by
    rw [Tryz.params12] at ht
    have hm:t ∈ [25]:=by simpa using Array.mem_of_getElem? ht
    have hall:([25].all fun u => !Tryz.prog.wantsStandIn u)=true:=by kernel_rfl
    exact (show Tryz.prog.wantsStandIn t=false by simpa using List.all_eq_true.1 hall t hm)⟩)
  (by kernel_rfl)
end Go.Proofs.YtlmjilpjmgjjcaaGreatDoor
