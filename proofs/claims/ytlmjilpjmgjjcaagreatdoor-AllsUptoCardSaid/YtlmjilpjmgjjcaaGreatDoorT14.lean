/-
  PROVED HERE: the given card of the law 'Alls' in its second form: where what it reads is of bulk at most 1048576.
-/
import Derived.Test.YtlmjilpjmgjjcaaGreatDoorT13
import Derived.Deep.DeepHandedRow
import Derived.Test.YtlmjilpjmgjjcaaGreatDoorCards
import Derived.ProofKit
import Derived.Lib.LaidTab
import Derived.Lib.AppendIntMem
import Derived.Stop.LaidErr
set_option linter.unusedSimpArgs false
set_option linter.unusedVariables false
set_option maxRecDepth 10000
set_option maxHeartbeats 4000000
namespace Go.Proofs.YtlmjilpjmgjjcaaGreatDoor
open Go.RowKit
def Ycu (w0 w:World) (b:Nat) (cv nv:Value) (s:ByteArray) (M:HM) (e:Ending) (w':World):Prop:=FrT w w'∧e = .returned (.bool M.ok)∧HoIn w0 w' b cv nv s M.at' M.way M.ans
theorem HoIn.grow {w0 w w':World} {b:Nat} {cv nv:Value} {s:ByteArray} {p:Nat} {way:List (ND × Nat)} {A:List (List UInt8)} (h:HoIn w0 w b cv nv s p way A) (e:Ext w w'):HoIn w0 w' b cv nv s p way A:=by
 obtain ⟨wa,wc,aa,ac,h⟩:=h
 exact ⟨wa,wc,aa,ac,h.grow e⟩
theorem CHo.answer {w0 w w1:World} {b:Nat} {cv nv:Value} {s:ByteArray} {p:Nat} {way:List (ND × Nat)} {A:List (List UInt8)} {wa:Option Addr} {wc:Nat} {aa aa':Option Addr} {ac ac':Nat} {Y:List UInt8} (h:CHo w0 w b cv nv s p way A wa wc aa ac)
  (ha:Appended w w0.heap.size 9 1 (.slice aa A.length ac) (A.length+1) (strs A++[.string ⟨Y.toArray⟩]) (.slice aa' (A.length+1) ac') w1) :
  w1.heap[b]?=w.heap[b]?∧CHo w0 (w1.setCell ⟨b,5,none⟩ (.slice aa' (A.length+1) ac')) b cv nv s p way (A++[Y]) wa wc aa' ac'∧FrT w (w1.setCell ⟨b,5,none⟩ (.slice aa' (A.length+1) ac')):=by
 obtain ⟨ys,h2⟩:=h.row
 have hn:=Zfh h.ans h.box (by decide)
 have hb1:w1.heap[b]?=w.heap[b]?:=ha.kept.block b (Zac h.box) (fun e=>hn b e rfl)
 have hF1:FrT w w1:=FrT.of_kept ha.kept (fun k e=>by
  rcases h.ans.2 with ⟨e',_⟩ | ⟨g,cap,cur,e',_,hg,_⟩
  ·rw [e'] at e; simp [Zap,Value.ownBlock] at e
  ·rw [e'] at e
   simp [Zap,Value.ownBlock] at e
   subst e
   exact ⟨_,_,_,hg,by simp [HoTy]⟩)
 have hrow1:RowH w0.heap.size w1 (.slice wa way.length wc) way.reverse ys:=h2.keep hF1 (fun k hj=>ha.kept.block k (h2.owns.lt k hj).2 (fun e=>by
  rcases h.ans.2 with ⟨e',_⟩ | ⟨g,cap,cur,e',_,hg,_⟩
  ·rw [e'] at e; simp [Zap,Value.ownBlock] at e
  ·rw [e'] at e
   simp [Zap,Value.ownBlock] at e
   subst e
   exact Zfh h2.owns hg (by decide) _ hj rfl))
 have hE1:Ext w0 w1:=h.ext.trans (ha.kept.below h.ext.size (fun k e=>(h.ans.lt k e).1))
 have hbx1:=hb1.trans h.box
 have hK:Kept (only b) w1 (w1.setCell ⟨b,5,none⟩ (.slice aa' (A.length+1) ac')):=(Qx _ _).put 5 _
 have hF2:FrT w1 (w1.setCell ⟨b,5,none⟩ (.slice aa' (A.length+1) ac')):=FrT.of_kept hK (fun k e=>by
  have e:k=b:=e
  subst e
  exact ⟨_,_,_,hbx1,by simp [HoTy]⟩)
 have hl:(A++[Y]).length=A.length+1:=by simp
 have hs:strs (A++[Y])=strs A++[.string ⟨Y.toArray⟩]:=by simp [strs]
 refine ⟨hb1,⟨Zea hE1 hK h.low,h.low,by rw [hl]; exact Zai hbx1 5 _,⟨ys,hrow1.keep hF2 (fun k hj=>hK.block k (hrow1.owns.lt k hj).2 (Zfh hrow1.owns hbx1 (by decide) k hj))⟩,?_⟩,hF1.trans hF2⟩
 rw [hl,hs]
 exact Zak ha.owns (fun k hj=>hK.block k (ha.owns.lt k hj).2 (Zfh ha.owns hbx1 (by decide) k hj))
theorem Zuw (w0 w:World) (b:Nat) (cv nv:Value) (s:ByteArray) (p:Nat) (way:List (ND × Nat)) (A:List (List UInt8)) (names:Names) (gv vv rv uv:Value) (n:ND) (h:HoIn w0 w b cv nv s p way A) (hn:CNode w gv vv rv uv n) (hg:n.goals=[]) (hnv:w0.ownsRow 0 9 1 nv names.length (strs names)) (hvl:n.vals.length=names.length) (hs6:names.length≤60) (hns:∀ x ∈ names,x.length≤8) (hs:s.size≤20000) (hp:p≤s.size) (hA:A.length≤20000) :
  Calls Tryz.prog 103 #[.pointer (some ⟨b,0,none⟩),.agg #[gv,vv,rv,uv]] w (Ycu w0 w b cv nv s (Zdk names s.data.toList n p way A)):=by
 obtain ⟨ga,gc,va',vl',vc',ra,rl,rc,u,rfl,rfl,rfl,rfl,hu4⟩:=hn.shape
 obtain ⟨W,hW⟩:∃ W,W=w.alloc (.cells #[.slice ga n.goals.length gc,.slice va' vl' vc',.slice ra rl rc,.int .i64 u] 87):=⟨_,rfl⟩
 have hEW:Ext w W:=by rw [hW]; exact (Ext.of (by repeat' (first | with_reducible(first|exact Qx _ _|apply Kept.drew|apply Kept.drewN|apply Qz|refine Qy ?_ ?_ _)|exact fun h=>absurd h (by simp <;> omega))))
 have hbW:W.heap[w.heap.size]?=some (.cells #[.slice ga n.goals.length gc,.slice va' vl' vc',.slice ra rl rc,.int .i64 u] 87 (0,0)):=by rw [hW]; exact heap_alloc_new w _
 have HP:=Zaa (Zqp w0 W b cv nv s p way A 33 (by decide) (h.grow hEW) hs hp)
 have hm:Zdk names s.data.toList n p way A=if s.data.toList[p]?=some 33 then ⟨true,p+1,way,A++[Zdg names n]⟩ else ⟨false,p,way,A⟩:=by unfold Zdk; rw [if_pos hg]
 obtain ⟨Y,hY⟩:∃ Y,Y=Zdg names n:=⟨_,rfl⟩
 rw [← hY] at hm
 obtain ⟨M,hM⟩:∃ M,M=Zdk names s.data.toList n p way A:=⟨_,rfl⟩
 rw [← hM] at hm ⊢
 have Hm:=Zaa hm
 have hbl:b<w.heap.size:=by
  obtain ⟨_,_,_,_,h⟩:=h
  exact Zac h.box
 have Hn:=Zaa hn
 have HEW:=Zaa hEW
 have HbW:=Zaa hbW
 simp only [show ((33:UInt8).toNat:Int)=33 from rfl] at HP
 rw [hg,Qt] at hW HbW ⊢
 have HW:=Zaa hW
 have Hnv:=Zaa hnv
 obtain ⟨na,nc,rfl⟩:=Zad hnv
 clear h hn hm hEW hbW hW hg hnv hM
 go_enter Tryz.func103,Tryz.ntmps103
 go_wp2_with fail
 rw [← HW.out]
 refine HP.out.mono ?_
 rintro e w1 ⟨hF1,⟨hc,rfl,h1⟩ | ⟨hc,rfl,h1⟩⟩
 ·obtain ⟨wa1,wc1,aa1,ac1,h1⟩:=h1
  obtain ⟨b0,b1,b2,b3,b4,b5,bf⟩:=box6 h1.box
  have hx1:=hF1 _ _ _ _ HbW.out (by simp [HoTy])
  have v1:=Zab hx1 1 _ rfl
  have hbl1:=Zac h1.box
  obtain ⟨n1,hN,hU,hOk,hNm,hFw,hS⟩:=(Hn.out.ext HEW.out).fr hF1
  have hnl:n1.vals.length=names.length:=by rw [hS.vl,hvl]
  have hans:Zdg names n1=Zdg names n:=by unfold Zdg; rw [hS.valsC hOk]
  have hnv1:=Zak Hnv.out (fun j hj=>h1.ext.block j (Hnv.out.lt j hj).2)
  have HA:Hid (Calls Tryz.prog 70 #[.slice na names.length nc,.slice va' vl' vc'] w1.drew fun e w'=>Ext w1.drew w'∧e = .returned (.string ⟨(Zdg names n).toArray⟩)):=by
   have hE:Ext w1 w1.drew:=⟨rfl,rfl,rfl,Qe _,fun _ _=>rfl⟩
   rw [← hans]
   exact Zno _ _ _ names n1.vals (Zak hnv1 (fun j hj=>hE.block j (hnv1.lt j hj).2)) (hN.vals.ext hE) (Yhx hOk hNm (by omega)) hnl.symm (Zza hOk hNm (by omega) hs6 hns)
  rw [← hY] at HA
  have Hm1:Hid (M=⟨true,p+1,way,A++[Y]⟩):=by show _=_; rw [Hm.out,if_pos hc]
  have H1:=Zaa h1
  have HF1:=Zaa ((FrT.of_ext HEW.out).trans hF1)
  clear h1 hF1 hx1 hN hU hOk hNm hFw hS hnl hans hnv1 hY HP hns
  go_wp2_with fail
  refine Zib (by kernel_rfl) [.rd 0 1 (fun _ => .pointer (some ⟨b,0,none⟩)),.rd 0 1 (fun _ => .pointer (some ⟨b,0,none⟩)),.rd 0 1 (fun _ => .pointer (some ⟨b,1,none⟩)),.rd 0 0 (fun _ => .slice na names.length nc),.rd 0 1 (fun _ => .pointer (some ⟨w.heap.size,1,none⟩)),.rd 0 0 (fun _ => .slice va' vl' vc'),.st 0,.rd 1 1 (fun _ => .string ⟨Y.toArray⟩)] 1 7 (by kernel_rfl) (OnePh w1.drew (.string ⟨Y.toArray⟩)) rfl ?_ ?_
  ·refine ⟨⟨trivial,fun vs y _ hl hS => ?_⟩,⟨trivial,fun vs y _ hl hS => ?_⟩,⟨trivial,fun vs y _ hl hS => ?_⟩,⟨trivial,fun vs y _ hl hS => ?_⟩,⟨trivial,fun vs y _ hl hS => ?_⟩,⟨trivial,fun vs y _ hl hS => ?_⟩,⟨trivial,fun vs y hl hS => ?_⟩,⟨trivial,fun vs y hl0 hl hS => ?_⟩,trivial⟩
   ·simp [phAll,phA,pa,Ph.kd,Ph.val,Kd.val,go_sem]
   ·simp [phAll,phA,pa,Ph.kd,Ph.val,Kd.val,go_sem]
   ·simp [phAll,phA,pa,Ph.kd,Ph.val,Kd.val,go_sem]
   ·obtain rfl:=hS.at hl
    simp [phAll,phA,pa,Ph.kd,Ph.val,Kd.val,go_sem,b1]
   ·simp [phAll,phA,pa,Ph.kd,Ph.val,Kd.val,go_sem]
   ·obtain rfl:=hS.at hl
    simp [phAll,phA,pa,Ph.kd,Ph.val,Kd.val,go_sem,v1]
   ·obtain rfl:=List.length_eq_zero_iff.1 hl
    obtain rfl:y=w1.drew:=hS
    refine .call 70 #[.slice na names.length nc,.slice va' vl' vc'] _ (by simp [phAll,phA,pa,Ph.kd,Ph.val,Kd.val,go_sem]) (HA.out.mono ?_)
    rintro e u ⟨hE,rfl⟩
    exact ⟨_,rfl,rfl,hE⟩
   ·obtain ⟨v,rfl⟩:=List.length_eq_one_iff.1 (show vs.length=1 by omega)
    obtain ⟨rfl,_⟩:=hS
    simp [phAll,phA,pa,Ph.kd,Ph.val,Kd.val,go_sem]
  rintro vs y hl hS
  obtain ⟨v,rfl⟩:=List.length_eq_one_iff.1 hl
  obtain ⟨hv,hy⟩:=hS
  have hy2:=hy.undrew
  have h2:=H1.out.grow hy2
  have HF2:=Zaa (HF1.out.trans (FrT.of_ext hy2))
  clear b0 b1 b2 b3 b4 b5 bf v1
  obtain ⟨b0,b1,b2,b3,b4,b5,bf⟩:=box6 h2.box
  have hbl2:=Zac h2.box
  have H2:=Zaa h2
  simp only [phAll,phA,paAll,pa,Ph.kd,Ph.val,Kd.val,List.map_cons,List.map_nil,if_true,Act.put,List.setIfInBounds_toArray,List.set_cons_succ,List.set_cons_zero]
  clear hv hy hy2 h2
  go_wp2_with (at_builtin; go_loud (refine Zal y rfl (.tmp 24) (.tmp 26) 47 rfl w0.heap.size 9 Tryz.infoStr Tryz.underlying47 rfl (by decide) (.slice aa1 A.length ac1) A.length (strs A) rfl H2.out.ans #[.string ⟨Y.toArray⟩] rfl (by omega) rfl (by simp [Value.oneCell']) ?_ ?_ ?_))
  ·omega
  ·have:=H2.out.ext.size
   omega
  intro v' w2 hap
  obtain ⟨ga2,gc2,rfl⟩:=Zad hap.owns
  obtain ⟨hb2,hC2,hF3⟩:=H2.out.answer hap
  have hbx2:=hb2.trans H2.out.box
  have c5:=Zab hbx2 5 _ rfl
  have cf:=fun i=>Zae hbx2 i
  have HC2:=Zaa hC2
  have HF3:=Zaa hF3
  have hbl3:=Zac hbx2
  clear hap hb2 hC2 hF3 hbx2 b0 b1 b2 b3 b4 b5 bf
  go_wp2
  go_ret
  rw [Hm1.out]
  exact ⟨HF2.out.trans HF3.out,rfl,_,_,_,_,HC2.out⟩
 ·have H1:=Zaa h1
  have HF1:=Zaa ((FrT.of_ext HEW.out).trans hF1)
  have Hm1:Hid (M=⟨false,p,way,A⟩):=by show _=_; rw [Hm.out,if_neg hc]
  clear h1 hF1 hc HP
  go_wp2
  go_ret
  rw [Hm1.out]
  exact ⟨HF1.out,rfl,H1.out⟩
theorem Tryz.infoLevelT:(Tryz.prog.info? 235).map (fun i=>(i.zero,i.size,i.bytes))=some (some (.agg #[.slice none 0 0,.slice none 0 0,.slice none 0 0,.int .i64 0,.int .i64 0]),5,88):=by kernel_rfl
theorem RowH.step {B:Nat} {w w':World} {cv cv':Value} {ds:List (ND × Nat)} {xs:List Value} {x0 x1 x2 x3:Value} {n:ND} {k:Nat} (h:RowH B w cv ds xs) (hn:CNode w x0 x1 x2 x3 n) (hF:FrT w w') (ho:w'.ownsRow B 235 5 cv' (ds.length+1) (xs++[x0,x1,x2,x3,.int .i64 k])) :
  RowH B w' cv' (ds++[(n,k)]) (xs++[x0,x1,x2,x3,.int .i64 k]):=by
 have hxl:=h.owns.1
 refine ⟨by simpa using ho,fun i d hd => ?_⟩
 rcases Nat.lt_or_ge i ds.length with hi | hi
 ·rw [Qc hi] at hd
  obtain ⟨p0,p1,p2,p3,y0,y1,y2,y3,y4,g⟩:=h.all i d hd
  exact ⟨p0,p1,p2,p3,by rw [Qc (by omega)]; exact y0,by rw [Qc (by omega)]; exact y1,by rw [Qc (by omega)]; exact y2,by rw [Qc (by omega)]; exact y3,by rw [Qc (by omega)]; exact y4,g.fr hF⟩
 ·have e:i=ds.length:=by
   have:=(Qa.1 hd).1
   simp at this; omega
  subst e
  rw [Qd (Qe _)] at hd
  simp at hd
  subst hd
  exact ⟨x0,x1,x2,x3,by rw [Qd (by omega)]; simp [hxl],by rw [Qd (by omega),show ds.length * 5+1 - xs.length=1 by omega]; rfl,by rw [Qd (by omega),show ds.length * 5+2 - xs.length=2 by omega]; rfl,by rw [Qd (by omega),show ds.length * 5+3 - xs.length=3 by omega]; rfl,by rw [Qd (by omega),show ds.length * 5+4 - xs.length=4 by omega]; rfl,hn.fr hF⟩
theorem CHo.push {w0 w w1:World} {b:Nat} {cv nv:Value} {s:ByteArray} {p:Nat} {way:List (ND × Nat)} {A:List (List UInt8)} {wa wa':Option Addr} {wc wc':Nat} {aa:Option Addr} {ac:Nat} {n:ND} {x0 x1 x2 x3:Value} {ys:List Value} (h:CHo w0 w b cv nv s p way A wa wc aa ac) (h2:RowH w0.heap.size w (.slice wa way.length wc) way.reverse ys) (hn:CNode w x0 x1 x2 x3 n)
  (ha:Appended w w0.heap.size 235 5 (.slice wa way.length wc) (way.length+1) (ys++[x0,x1,x2,x3,.int .i64 0]) (.slice wa' (way.length+1) wc') w1) :
  w1.heap[b]?=w.heap[b]?∧CHo w0 (w1.setCell ⟨b,4,none⟩ (.slice wa' (way.length+1) wc')) b cv nv s p ((n,0)::way) A wa' wc' aa ac∧FrT w (w1.setCell ⟨b,4,none⟩ (.slice wa' (way.length+1) wc')):=by
 have hn':=Zfh h2.owns h.box (by decide)
 have hb1:w1.heap[b]?=w.heap[b]?:=ha.kept.block b (Zac h.box) (fun e=>hn' b e rfl)
 have hF1:FrT w w1:=FrT.of_kept ha.kept (fun k e=>by
  rcases h2.owns.2 with ⟨e',_⟩ | ⟨g,cap,cur,e',_,hg,_⟩
  ·rw [e'] at e; simp [Zap,Value.ownBlock] at e
  ·rw [e'] at e
   simp [Zap,Value.ownBlock] at e
   subst e
   exact ⟨_,_,_,hg,by simp [HoTy]⟩)
 have hrow1:=h2.step (k:=0) hn hF1 (by rw [List.length_reverse]; exact ha.owns)
 have hans1:w1.ownsRow w0.heap.size 9 1 (.slice aa A.length ac) A.length (strs A):=Zak h.ans (fun k hj=>ha.kept.block k (h.ans.lt k hj).2 (fun e=>by
  rcases h2.owns.2 with ⟨e',_⟩ | ⟨g,cap,cur,e',_,hg,_⟩
  ·rw [e'] at e; simp [Zap,Value.ownBlock] at e
  ·rw [e'] at e
   simp [Zap,Value.ownBlock] at e
   subst e
   exact Zfh h.ans hg (by decide) _ hj rfl))
 have hE1:Ext w0 w1:=h.ext.trans (ha.kept.below h.ext.size (fun k e=>(h2.owns.lt k e).1))
 have hbx1:=hb1.trans h.box
 have hK:Kept (only b) w1 (w1.setCell ⟨b,4,none⟩ (.slice wa' (way.length+1) wc')):=(Qx _ _).put 4 _
 have hF2:FrT w1 (w1.setCell ⟨b,4,none⟩ (.slice wa' (way.length+1) wc')):=FrT.of_kept hK (fun k e=>by
  have e:k=b:=e
  subst e
  exact ⟨_,_,_,hbx1,by simp [HoTy]⟩)
 exact ⟨hb1,⟨Zea hE1 hK h.low,h.low,Zai hbx1 4 _,⟨_,by rw [List.reverse_cons]; exact hrow1.keep hF2 (fun k hj=>hK.block k (hrow1.owns.lt k hj).2 (Zfh hrow1.owns hbx1 (by decide) k hj))⟩,Zak hans1 (fun k hj=>hK.block k (hans1.lt k hj).2 (Zfh hans1 hbx1 (by decide) k hj))⟩,hF1.trans hF2⟩
theorem Zux (w0 w:World) (b:Nat) (cv nv:Value) (s:ByteArray) (p:Nat) (way:List (ND × Nat)) (A:List (List UInt8)) (names:Names) (gv vv rv uv:Value) (n:ND) (h:HoIn w0 w b cv nv s p way A) (hn:CNode w gv vv rv uv n) (hg:n.goals≠[]) (hs:s.size≤20000) (hp:p≤s.size) (hwl:way.length≤20000) :
  Calls Tryz.prog 103 #[.pointer (some ⟨b,0,none⟩),.agg #[gv,vv,rv,uv]] w (Ycu w0 w b cv nv s (Zdk names s.data.toList n p way A)):=by
 obtain ⟨ga,gc,va',vl',vc',ra,rl,rc,u,rfl,rfl,rfl,rfl,hu4⟩:=hn.shape
 have hgl:0<n.goals.length:=List.length_pos_iff.2 hg
 obtain ⟨z,hz⟩:∃ z,z=n.goals.length:=⟨_,rfl⟩
 rw [← hz] at hgl hn ⊢
 obtain ⟨W,hW⟩:∃ W,W=w.alloc (.cells #[.slice ga z gc,.slice va' vl' vc',.slice ra rl rc,.int .i64 u] 87):=⟨_,rfl⟩
 have hEW:Ext w W:=by rw [hW]; exact (Ext.of (by repeat' (first | with_reducible(first|exact Qx _ _|apply Kept.drew|apply Kept.drewN|apply Qz|refine Qy ?_ ?_ _)|exact fun h=>absurd h (by simp <;> omega))))
 have hbW:W.heap[w.heap.size]?=some (.cells #[.slice ga z gc,.slice va' vl' vc',.slice ra rl rc,.int .i64 u] 87 (0,0)):=by rw [hW]; exact heap_alloc_new w _
 have HP:=Zaa (Zqp w0 W b cv nv s p way A 40 (by decide) (h.grow hEW) hs hp)
 have hm:Zdk names s.data.toList n p way A=if s.data.toList[p]?=some 40 then ⟨true,p+1,(n,0)::way,A⟩ else ⟨false,p,way,A⟩:=by unfold Zdk; rw [if_neg hg]
 obtain ⟨M,hM⟩:∃ M,M=Zdk names s.data.toList n p way A:=⟨_,rfl⟩
 rw [← hM] at hm ⊢
 have Hm:=Zaa hm
 have hbl:b<w.heap.size:=by
  obtain ⟨_,_,_,_,h⟩:=h
  exact Zac h.box
 have Hn:=Zaa hn
 have HEW:=Zaa hEW
 have HbW:=Zaa hbW
 simp only [show ((40:UInt8).toNat:Int)=40 from rfl] at HP
 have HW:=Zaa hW
 have hzi:(0:Int)<(z:Int):=by omega
 have hzb:((z:Int) == 0)=false:=by rw [Qu]; omega
 clear h hn hm hEW hbW hW hg hM hz
 go_enter Tryz.func103,Tryz.ntmps103
 go_wp2_with fail
 rw [← HW.out]
 refine HP.out.mono ?_
 rintro e w1 ⟨hF1,⟨hc,rfl,h1⟩ | ⟨hc,rfl,h1⟩⟩
 ·obtain ⟨wa1,wc1,aa1,ac1,h1⟩:=h1
  have hx1:=hF1 _ _ _ _ HbW.out (by simp [HoTy])
  have hbx1:=h1.box
  obtain ⟨L,hL⟩:∃ L,L=way.length:=⟨_,rfl⟩
  rw [← hL] at hbx1 hwl
  obtain ⟨b0,b1,b2,b3,b4,b5,bf⟩:=box6 hbx1
  have k0:=Zab hx1 0 _ rfl
  have k1:=Zab hx1 1 _ rfl
  have k2:=Zab hx1 2 _ rfl
  have k3:=Zab hx1 3 _ rfl
  have hbl1:=Zac h1.box
  have hxl1:=Zac hx1
  obtain ⟨ys,hrow⟩:=h1.row
  have hCn:=(Hn.out.ext HEW.out).fr hF1
  have hEd:Ext w1 (w1.drewN 1):=Ext.of ((Qx _ w1).drewN _)
  have hod:(w1.drewN 1).ownsRow w0.heap.size 235 5 (.slice wa1 L wc1) L ys:=by
   have:=(hrow.keep (FrT.of_ext hEd) (fun k hk=>hEd.block k (hrow.owns.lt k hk).2)).owns
   rw [List.length_reverse,← hL] at this
   exact this
  have h0s:=h1.ext.size
  have Hfin:Hid (∀ w2 wa2 wc2,Appended (w1.drewN 1) w0.heap.size 235 5 (.slice wa1 L wc1) (L+1) (ys++[.slice ga z gc,.slice va' vl' vc',.slice ra rl rc,.int .i64 u,.int .i64 0]) (.slice wa2 (L+1) wc2) w2→w2.heap[b]?=w1.heap[b]?∧Ycu w0 w b cv nv s M (.returned (.bool true)) (w2.setCell ⟨b,4,none⟩ (.slice wa2 (L+1) wc2))):=fun w2 wa2 wc2 hap=>by
   have hd:=h1.grow hEd
   rw [hL] at hap ⊢
   obtain ⟨g1,g2,g3⟩:=hd.push (hrow.keep (FrT.of_ext hEd) (fun k hk=>hEd.block k (hrow.owns.lt k hk).2)) (hCn.ext hEd) hap
   refine ⟨g1,?_⟩
   rw [Hm.out,if_pos hc]
   exact ⟨(((FrT.of_ext HEW.out).trans hF1).trans (FrT.of_ext hEd)).trans g3,rfl,_,_,_,_,g2⟩
  have Hod:=Zaa hod
  have Hbx1:=Zaa hbx1
  clear h1 hF1 hx1 hbx1 hrow hCn hEd hod HP hL
  go_wp2_with fail
  go_region_law (refine Zch (w1.drewN 1) rfl (.tmp 37) (.tmp 40) 140 rfl w0.heap.size 235 Tryz.infoLevelT Tryz.underlying140 rfl (by decide) (.slice wa1 L wc1) L ys rfl Hod.out #[.slice ga z gc,.slice va' vl' vc',.slice ra rl rc,.int .i64 u,.int .i64 0] rfl (by show _=w1.heap.size; omega) rfl Ycl (by omega) (by show _≤w1.heap.size; omega) rfl ?_; intro v' w2 hap; obtain ⟨wa2,wc2,rfl⟩:=Zad hap.owns; obtain ⟨hb2,hfin⟩:=Hfin.out _ _ _ hap; have hb3:=hb2.trans Hbx1.out; have d2:=Zab hb3 4 _ rfl; have df:=fun i=>Zae hb3 i; have H2:=Zaa hfin; clear hap hb2 hb3 hfin)
  all_goals
   go_wp2
   go_ret
   exact H2.out
 ·have H1:=Zaa h1
  have HF1:=Zaa ((FrT.of_ext HEW.out).trans hF1)
  have Hm1:Hid (M=⟨false,p,way,A⟩):=by show _=_; rw [Hm.out,if_neg hc]
  clear h1 hF1 hc HP
  go_wp2
  go_ret
  rw [Hm1.out]
  exact ⟨HF1.out,rfl,H1.out⟩
theorem RowH.bump {B:Nat} {w:World} {wb cap:Nat} {ds:List (ND × Nat)} {n:ND} {k:Nat} {xs:List Value} (h:RowH B w (.slice (some ⟨wb,0,none⟩) (ds.length+1) cap) (ds++[(n,k)]) xs) (k':Nat) :
  RowH B (w.setCell ⟨wb,ds.length * 5+4,none⟩ (.int .i64 k')) (.slice (some ⟨wb,0,none⟩) (ds.length+1) cap) (ds++[(n,k')]) (xs.set (ds.length * 5+4) (.int .i64 k'))∧FrT w (w.setCell ⟨wb,ds.length * 5+4,none⟩ (.int .i64 k')):=by
 have ho:=h.owns
 have hxl:=ho.1
 rw [Qg,Qn] at ho hxl
 have hk:=Zel w wb (ds.length+1) cap (ds.length * 5+4) (.int .i64 k')
 have hF:FrT w (w.setCell ⟨wb,ds.length * 5+4,none⟩ (.int .i64 k')):=FrT.of_kept hk (fun j hj=>by
  rcases ho.2 with ⟨e,_⟩ | ⟨g,cap',cur,e,_,hg,_⟩
  ·simp at e
  ·simp at e
   obtain ⟨rfl,_⟩:=e
   simp [Zap,Value.ownBlock] at hj
   subst hj
   exact ⟨_,_,_,hg,by simp [HoTy]⟩)
 refine ⟨⟨by rw [Qg,Qn]; exact Zju ho _ _,fun i d hd => ?_⟩,hF⟩
 rcases Nat.lt_or_ge i ds.length with hi | hi
 ·rw [Qc hi] at hd
  obtain ⟨p0,p1,p2,p3,y0,y1,y2,y3,y4,g⟩:=h.all i d (by rw [Qc hi]; exact hd)
  exact ⟨p0,p1,p2,p3,by rw [List.getElem?_set_ne (by omega)]; exact y0,by rw [List.getElem?_set_ne (by omega)]; exact y1,by rw [List.getElem?_set_ne (by omega)]; exact y2,by rw [List.getElem?_set_ne (by omega)]; exact y3,by rw [List.getElem?_set_ne (by omega)]; exact y4,g.fr hF⟩
 ·have e:i=ds.length:=by
   have:=(Qa.1 hd).1
   simp at this; omega
  subst e
  rw [Qd (Qe _)] at hd
  simp at hd
  subst hd
  obtain ⟨p0,p1,p2,p3,y0,y1,y2,y3,y4,g⟩:=h.all ds.length (n,k) (by rw [Qd (Qe _)]; simp)
  exact ⟨p0,p1,p2,p3,by rw [List.getElem?_set_ne (by omega)]; exact y0,by rw [List.getElem?_set_ne (by omega)]; exact y1,by rw [List.getElem?_set_ne (by omega)]; exact y2,by rw [List.getElem?_set_ne (by omega)]; exact y3,by rw [List.getElem?_set_self (by omega)],g.fr hF⟩
theorem CHo.bump {w0 w:World} {b wb:Nat} {cv nv:Value} {s:ByteArray} {p:Nat} {n:ND} {k:Nat} {r:List (ND × Nat)} {A:List (List UInt8)} {wc:Nat} {aa:Option Addr} {ac:Nat} (h:CHo w0 w b cv nv s p ((n,k)::r) A (some ⟨wb,0,none⟩) wc aa ac) (k':Nat) :
  CHo w0 (w.setCell ⟨wb,r.length * 5+4,none⟩ (.int .i64 k')) b cv nv s p ((n,k')::r) A (some ⟨wb,0,none⟩) wc aa ac∧FrT w (w.setCell ⟨wb,r.length * 5+4,none⟩ (.int .i64 k')):=by
 obtain ⟨ys,hrow⟩:=h.row
 rw [Qf,List.reverse_cons] at hrow
 have hne:wb≠b:=Zfh hrow.owns h.box (by decide) wb rfl
 have hlow:w0.heap.size≤wb:=(hrow.owns.lt wb rfl).1
 obtain ⟨hR,hF⟩:=RowH.bump (ds:=r.reverse) (n:=n) (k:=k) (xs:=ys) (by rw [List.length_reverse]; exact hrow) k'
 rw [List.length_reverse] at hR hF
 have hk:Kept (only wb) w (w.setCell ⟨wb,r.length * 5+4,none⟩ (.int .i64 k')):=(Qx _ _).put _ _
 refine ⟨⟨Zea h.ext hk hlow,h.low,(hk.block b (Zac h.box) (fun e=>hne (by have e:b=wb:=e; exact e.symm))).trans h.box,⟨_,by rw [Qf,List.reverse_cons]; exact hR⟩,Zak h.ans (fun j hj=>hk.block j (h.ans.lt j hj).2 (fun e => ?_))⟩,hF⟩
 have e:j=wb:=e
 subst e
 rcases hrow.owns.2 with ⟨e',_⟩ | ⟨g,cap,cur,e',_,hg,_⟩
 ·simp at e'
 ·simp at e'
  obtain ⟨rfl,_⟩:=e'
  exact Zfh h.ans hg (by decide) _ hj rfl
theorem CHo.other {w0 w w':World} {b q:Nat} {cv nv:Value} {s:ByteArray} {p:Nat} {way:List (ND × Nat)} {A:List (List UInt8)} {wa:Option Addr} {wc:Nat} {aa:Option Addr} {ac:Nat} {cl:Array Value} (h:CHo w0 w b cv nv s p way A wa wc aa ac) (hk:Kept (only q) w w') (hq:w.heap[q]?=some (.cells cl 87 (0,0))) (hl:w0.heap.size≤q):CHo w0 w' b cv nv s p way A wa wc aa ac:=by
 obtain ⟨ys,hrow⟩:=h.row
 have hS:OffCode (only q) w:=fun k e=>by
  have e:k=q:=e
  subst e
  exact ⟨_,_,_,hq,by simp [Zox]⟩
 refine ⟨Zea h.ext hk hl,h.low,(hk.block b (Zac h.box) (fun e => ?_)).trans h.box,⟨ys,Zak hrow.owns (fun k hj=>hk.block k (hrow.owns.lt k hj).2 (Zfh hrow.owns hq (by decide) k hj)),fun i d hd => ?_⟩,Zak h.ans (fun k hj=>hk.block k (h.ans.lt k hj).2 (Zfh h.ans hq (by decide) k hj))⟩
 ·have e:b=q:=e
  subst e
  rw [h.box] at hq
  simp at hq
 ·obtain ⟨x0,x1,x2,x3,y0,y1,y2,y3,y4,g⟩:=hrow.all i d hd
  exact ⟨x0,x1,x2,x3,y0,y1,y2,y3,y4,g.keep hk hS⟩
theorem FrT.put {w w1 w2:World} {q:Nat} (h:FrT w w1) (hk:Kept (only q) w1 w2) (hq:w.heap.size≤q):FrT w w2:=fun k cl t fr e ht=>by
 have h1:=h k cl t fr e ht
 exact (hk.block k (Zac h1) (fun e'=>by have e':k=q:=e'; have:=Zac e; omega)).trans h1
theorem box4 {w:World} {b:Nat} {u0 u1 u2 u3:Value} {t:TypeId} (h:w.heap[b]?=some (.cells #[u0,u1,u2,u3] t (0,0))) :
  w.cell? ⟨b,0,none⟩=some u0∧w.cell? ⟨b,1,none⟩=some u1∧w.cell? ⟨b,2,none⟩=some u2∧w.cell? ⟨b,3,none⟩=some u3∧∀ i,w.frozen? ⟨b,i,none⟩=false :=
 ⟨Zab h 0 _ rfl,Zab h 1 _ rfl,Zab h 2 _ rfl,Zab h 3 _ rfl,fun i=>Zae h i⟩
def Zuy (w0 w:World) (b:Nat) (cv nv:Value) (s:ByteArray) (p:Nat) (n:ND) (r:List (ND × Nat)) (A:List (List UInt8)) (L:Nat) (N:Option (Nat × Cls)) (e:Ending) (w':World):Prop:=FrT w w' ∧
 ((N=none∧e = .returned (.tuple #[.int .i64 0,.agg #[.slice none 0 0,.slice none 0 0,.slice none 0 0,.int .i64 0],.int .i64 0])∧HoIn w0 w' b cv nv s p ((n,L)::r) A) ∨
 (∃ j c,N=some (j,c)∧∃ g1 g2 g3 v1 v2 v3 q1 q2 q3,∃ uu o:Nat,e = .returned (.tuple #[.int .i64 j,.agg #[.slice g1 g2 g3,.slice v1 v2 v3,.slice q1 q2 q3,.int .i64 uu],.int .i64 o])∧HoIn w0 w' b cv nv s p ((n,j+1)::r) A∧((o=2∧(tryN n c j).2=3)∨(o=1∧((tryN n c j).2=1∨(tryN n c j).2=2)∧CNode w' (.slice g1 g2 g3) (.slice v1 v2 v3) (.slice q1 q2 q3) (.int .i64 uu) (tryN n c j).1))))
theorem Ycv (w0 w:World) (b:Nat) (ca:Option Addr) (cc:Nat) (nv:Value) (s:ByteArray) (p:Nat) (n:ND) (k:Nat) (r:List (ND × Nat)) (A:List (List UInt8)) (cs:List Cls) (xs:List (List Value)) (h:HoIn w0 w b (.slice ca cs.length cc) nv s p ((n,k)::r) A) (hP:ProgIn w0 (.slice ca cs.length cc) cs xs) (hg:n.goals≠[]) (hk:k≤cs.length) (hrl:r.length≤20000) (hcs:∀ c ∈ cs,COk c∧CNm c) (hcf:∀ c ∈ cs,CFew c) (hcl:cs.length≤24) :
  Calls Tryz.prog 138 #[.pointer (some ⟨b,0,none⟩)] w (Zuy w0 w b (.slice ca cs.length cc) nv s p n r A cs.length (Zgn cs n (cs.length - k) k)):=by
 obtain ⟨N,hN⟩:∃ N,N=Zgn cs n (cs.length - k) k:=⟨_,rfl⟩
 rw [← hN]
 have hb4:∃ wa wc,w.cell? ⟨b,4,none⟩=some (.slice wa (r.length+1) wc)∧b<w.heap.size:=by
  obtain ⟨wa,wc,aa,ac,h⟩:=h
  exact ⟨wa,wc,Zab h.box 4 _ rfl,Zac h.box⟩
 obtain ⟨wa,wc,b4,hbl⟩:=hb4
 have H:=Zaa h
 have HP:=Zaa hP
 have Hg:=Zaa hg
 have Hcs:=Zaa hcs
 have Hcf:=Zaa hcf
 have HN:=Zaa hN
 clear h hP hg hcs hcf hN
 go_enter Tryz.func138,Tryz.ntmps138
 go_wp2
 go_loopg [6] (cs.length+1) (fun gk tv wr=>∃ k':Nat,k'≤cs.length∧cs.length - k'<gk∧Zgn cs n (cs.length - k') k'=N∧HoIn w0 wr b (.slice ca cs.length cc) nv s p ((n,k')::r) A∧FrT w wr∧wr.heap[w.heap.size]?=some (.cells #[.slice none 0 0,.slice none 0 0,.slice none 0 0,.int .i64 0] 87 (0,0)))
 case atStart=>exact ⟨k,hk,by omega,HN.out.symm,H.out.grow (Ext.of (by repeat' (first | with_reducible(first|exact Qx _ _|apply Kept.drew|apply Kept.drewN|apply Qz|refine Qy ?_ ?_ _)|exact fun h=>absurd h (by simp <;> omega)))),FrT.of_ext (Ext.of (by repeat' (first | with_reducible(first|exact Qx _ _|apply Kept.drew|apply Kept.drewN|apply Qz|refine Qy ?_ ?_ _)|exact fun h=>absurd h (by simp <;> omega)))),heap_alloc_new w _⟩
 case round =>
  clear b4 hk
  obtain ⟨k,hk,hgk,hnx,⟨wa,wc,aa,ac,h⟩,hF,hres⟩:=hrel
  have hbx:=h.box
  simp only [Qf] at hbx
  obtain ⟨b0,b1,b2,b3,b4,b5,bf⟩:=box6 hbx
  obtain ⟨ys,hrow⟩:=h.row
  simp only [Qf,List.reverse_cons] at hrow
  have ho:=hrow.owns
  rw [Qg,List.length_reverse,Qn] at ho
  obtain ⟨wb,wcap,wcur,hwe,_,hwb,hwcap⟩:=Zan ho (by omega)
  simp only [Value.slice.injEq] at hwe
  obtain ⟨rfl,_,rfl⟩:=hwe
  obtain ⟨x0,x1,x2,x3,y0,y1,y2,y3,y4,hnode⟩:=hrow.all r.length (n,k) (by rw [Qd (by simp)]; simp)
  have c4:=Zaf ho _ _ y4
  simp only at c4
  have hwf:=fun i=>Zae hwb i
  have hbl':=Zac hbx
  have hwbl:=Zac hwb
  have hrl':(0:Int)≤(r.length:Int):=by omega
  have hrlt:r.length<r.length+1:=by omega
  have hrlt':(r.length:Int)<(r.length:Int)+1:=by omega
  have Hres:=Zaa hres
  have HF:=Zaa hF
  have Hh:=Zaa h
  have hz:=Zac hres
  have hlow:w0.heap.size≤w.heap.size:=by
   obtain ⟨_,_,_,_,h⟩:=H.out
   exact h.ext.size
  by_cases hlt:k<cs.length
  ·have hlt':(k:Int)<(cs.length:Int):=by omega
   clear hbx hrow ho hwb y0 y1 y2 y3 y4 hnode h hF hres
   go_wp2_with fail
   go_quiet (fail)
   go_wp2_with fail
   obtain ⟨W4,hW4⟩:∃ W4,W4=(wr.drewN nq).setCell ⟨wb,r.length * 5+4,none⟩ (.int .i64 ((k:Int)+1)):=⟨_,rfl⟩
   rw [← hW4]
   have hE0:Ext wr (wr.drewN nq):=Ext.of ((Qx _ wr).drewN _)
   obtain ⟨hC4,hF4⟩:=(Hh.out.grow hE0).bump (k+1)
   rw [show ((k+1:Nat):Int)=(k:Int)+1 by omega,← hW4] at hC4 hF4
   have hFw:FrT wr W4:=(FrT.of_ext hE0).trans hF4
   have hbx4:=hC4.box
   simp only [Qf] at hbx4
   clear b0 b1 b2 b3 b4 b5 bf c4 hwf
   obtain ⟨b0,b1,b2,b3,b4,b5,bf⟩:=box6 hbx4
   obtain ⟨ys4,hrow4⟩:=hC4.row
   simp only [Qf,List.reverse_cons] at hrow4
   have ho4:=hrow4.owns
   rw [Qg,List.length_reverse,Qn] at ho4
   obtain ⟨x0,x1,x2,x3,y0,y1,y2,y3,y4,hnode⟩:=hrow4.all r.length (n,k+1) (by rw [Qd (by simp)]; simp)
   obtain ⟨n1,hN1,rfl,hOk,hNm,hFe,hSm⟩:=hnode
   obtain ⟨ga,gcap,rfl⟩:=hN1.goals.shape
   obtain ⟨va',vcap',rfl⟩:=hN1.vals.shape
   obtain ⟨ra',rcap',rfl⟩:=hN1.done.shape
   simp only [Ql] at hN1 y0 y1 y2
   have c0:=Zaf ho4 _ _ y0
   have c1:=Zaf ho4 _ _ y1
   have c2:=Zaf ho4 _ _ y2
   have c3:=Zaf ho4 _ _ y3
   obtain ⟨c,hc⟩:∃ c,cs[k]?=some c:=⟨_,Qb hlt⟩
   have hP4:=HP.out.ext hC4.ext
   obtain ⟨lb,lcap,lcur,hle,_,hlb,_⟩:=Zan hP4.owns (by omega)
   simp only [Value.slice.injEq] at hle
   obtain ⟨rfl,_,rfl⟩:=hle
   obtain ⟨cv0,cv1,cv2,l0,l1,l2,hcl2⟩:=hP4.cell hc
   obtain ⟨d0,d1,rfl⟩:=Zad hcl2.head
   obtain ⟨d2,d3,rfl⟩:=hcl2.body.shape
   obtain ⟨d4,d5,rfl⟩:=Zad hcl2.names
   have hbl4:=Zac hbx4
   have hwbl4:wb<W4.heap.size:=World.block_lt_of_cell? W4 ⟨wb,r.length * 5,none⟩ c0
   have hlbl:lb<W4.heap.size:=World.block_lt_of_cell? W4 ⟨lb,k * 3,none⟩ l0
   obtain ⟨hco,hcm⟩:=Hcs.out c (Qh hc)
   have HIc:Hid (∀ Z u,Ext W4.drew u→(∀ k,Z k→W4.heap.size≤k∧k<u.heap.size)→Calls Tryz.prog 97 #[.agg #[.slice ga n1.goals.length gcap,.slice va' n1.vals.length vcap',.slice ra' n1.done.length rcap',.int .i64 n1.vars],.agg #[.slice d0 c.head.length d1,.slice d2 c.body.length d3,.slice d4 c.names.length d5]] u fun e u'=>∃ r,e = .returned r∧Ext u u'∧TryX n1 c k Z r u'):=fun Z u hu hZ=>by
    have hwu:Ext W4 u:=hu.undrew
    refine (Yeq u _ _ _ _ _ _ n1 c k hOk hco (hN1.ext hwu) (hcl2.ext hwu)).mono ?_
    intro e u' h
    exact h.toX (fun j hj=>(hZ j hj).2)
   have Hco:=Zaa hco
   have HOk:=Zaa hOk
   have HNm:=Zaa hNm
   have HFe:=Zaa hFe
   have HSm:=Zaa hSm
   have Hcm:=Zaa hcm
   have HCf:Hid (CFew c):=Hcf.out c (Qh hc)
   have HC4:=Zaa hC4
   have HF4:=Zaa (HF.out.trans hFw)
   have Hres4:=Zaa (hFw _ _ _ _ Hres.out (by simp [HoTy]))
   have Hnx:Hid ((if (tryN n c k).2=0 then Zgn cs n (cs.length - (k+1)) (k+1) else some (k,c))=N):=by
    show _=_
    rw [← hnx,show cs.length - k=(cs.length - (k+1))+1 by omega,Zgn,hc]
   have hk2:k+1≤cs.length:=hlt
   clear hW4 hE0 hC4 hF4 hFw hbx4 hrow4 ho4 y0 y1 y2 y3 y4 hN1 hP4 hcl2 hlb hco hOk hNm hFe hSm hcm hnx hc
   refine Zhc (by kernel_rfl) [.pur (.pointer (some ⟨b,0,none⟩)),.pur (.pointer (some ⟨b,0,none⟩)),.pur (.pointer (some ⟨b,4,none⟩)),.pur (.slice (some ⟨wb,0,none⟩) (r.length+1) wc),.pur (.int .i64 r.length),.pur (.pointer (some ⟨wb,r.length * 5,none⟩)),.pur (.pointer (some ⟨wb,r.length * 5,none⟩)),.pur (.agg #[.slice ga n1.goals.length gcap,.slice va' n1.vals.length vcap',.slice ra' n1.done.length rcap',.int .i64 n1.vars]),
    .pur (.pointer (some ⟨b,0,none⟩)),.pur (.pointer (some ⟨b,0,none⟩)),.pur (.pointer (some ⟨b,0,none⟩)),.pur (.slice (some ⟨lb,0,none⟩) cs.length cc),.pur (.int .i64 k),.pur (.pointer (some ⟨lb,k * 3,none⟩)),.pur (.agg #[.slice d0 c.head.length d1,.slice d2 c.body.length d3,.slice d4 c.names.length d5]),
    .cal,.post (fun v=>v),.post (Zff 0),.post (Zff 1),.alo 87 #[.slice none 0 0,.slice none 0 0,.slice none 0 0,.int .i64 0] 20 (fun v=>cellsOf (Zff 0 v)),.sto 19,.post (Zff 1)] 15 (by kernel_rfl) (TryX n1 c k) 97 _ TryX.stable HIc.out ?_ rfl (by decide) ?_
   ·refine ⟨fun vc β u hu => ?_,fun vc β u hu => ?_,fun vc β u hu => ?_,fun vc β u hu => ?_,fun vc β u hu => ?_,fun vc β u hu => ?_,fun vc β u hu => ?_,fun vc β u hu => ?_,fun vc β u hu => ?_,fun vc β u hu => ?_,fun vc β u hu => ?_,fun vc β u hu => ?_,fun vc β u hu => ?_,fun vc β u hu => ?_,fun vc β u hu => ?_,fun vc β u => ?_,?_,?_,?_,fun vc β u => ?_,?_,?_,trivial⟩
    all_goals try (simp [pa,Kd.val,go_sem,hu.up b0,hu.up b4,hu.up c0,hu.up c1,hu.up c2,hu.up c3,hu.up l0,hu.up l1,hu.up l2,hlt]; done)
    all_goals try (simp [pa,Kd.val,go_sem]; done)
    all_goals try (rintro vc β Z u ⟨g1,g2,g3,v1,v2,v3,q1,q2,q3,uu,qq,rfl,_⟩; simp [pa,Kd.val,go_sem,Zff]; done)
    all_goals try (simp [pa,Kd.val,go_sem]; intro h; omega)
    rintro vc β Z u t z sx cl he ⟨g1,g2,g3,v1,v2,v3,q1,q2,q3,uu,qq,rfl,_⟩ hb
    simp at he
    obtain ⟨rfl,rfl,rfl,rfl⟩:=he
    have z0:=Zab hb 0 _ rfl
    have z1:=Zab hb 1 _ rfl
    have z2:=Zab hb 2 _ rfl
    have z3:=Zab hb 3 _ rfl
    have zf:=fun i=>Zae hb i
    refine ⟨_,?_,Zai (Zai (Zai (Zai hb 0 _) 1 _) 2 _) 3 _,((((Qx (only (β 19)) u).put 0 _).put 1 _).put 2 _).put 3 _⟩
    simp [pa,Kd.val,go_sem,z0,z1,z2,z3,zf,Zff]
   rintro vc β w5 hext5 ⟨g1,g2,g3,v1,v2,v3,q1,q2,q3,uu,qq,rfl,hqq⟩ hbox _
   have hext5:=hext5.undrew
   obtain ⟨hb0,hbx⟩:=hbox 19 _ _ _ _ rfl
   have hbx':w5.heap[β 19]?=some (.cells #[.slice g1 g2 g3,.slice v1 v2 v3,.slice q1 q2 q3,.int .i64 uu] 87 (0,0)):=hbx
   generalize hbe:β 19=bt at *
   have HC5:=Zaa (HC4.out.grow hext5)
   have HF5:=Zaa (HF4.out.trans (FrT.of_ext hext5))
   have hres5:=(hext5.block _ (Zac Hres4.out)).trans Hres4.out
   have Hres5:=Zaa hres5
   clear b0 b1 b2 b3 b4 b5 bf c0 c1 c2 c3 l0 l1 l2
   simp only [paAll,pa,Kd.val,if_true,Act.put,Zff]
   rw [hbe]
   rcases hqq with ⟨rfl,hq⟩ | ⟨rfl,ch,hq⟩ | ⟨rfl,ch,q0,hq12,hq,rfl,rfl,hg',hv',hr'⟩
   ·have hq0:(tryN n c k).2=0:=by
     rcases hq with h | h
     ·exact absurd (List.eq_nil_of_length_eq_zero (by rw [← HSm.out.gl,h]; rfl)) Hg.out
     ·exact (Zkm HOk.out HSm.out Hco.out h).1.symm
    have Hn5:Hid (Zgn cs n (cs.length - (k+1)) (k+1)=N):=by show _=_; rw [← Hnx.out,if_pos hq0]
    clear hbx hbx' hbox hext5 hres5 hq hq0
    go_wp2
    go_roundg (cs.length - k)
    case measure=>omega
    case rel=>exact ⟨k+1,hk2,by omega,Hn5.out,⟨_,_,_,_,HC5.out⟩,HF5.out,Hres5.out⟩
   ·have hq3:(tryN n c k).2=3:=(Zkm HOk.out HSm.out Hco.out hq).1.symm
    have Hfin:Hid (∀ w6,Kept (only w.heap.size) w5 w6→Zuy w0 w b (.slice (some ⟨lb,0,none⟩) cs.length cc) nv s p n r A cs.length N (.returned (.tuple #[.int .i64 k,.agg #[.slice g1 g2 g3,.slice v1 v2 v3,.slice q1 q2 q3,.int .i64 uu],.int .i64 2])) w6):=fun w6 hK=>by
     refine ⟨HF5.out.put hK (Qe _),Or.inr ⟨k,c,?_,g1,g2,g3,v1,v2,v3,q1,q2,q3,uu,2,rfl,⟨_,_,_,_,HC5.out.other hK Hres5.out hlow⟩,Or.inl ⟨rfl,hq3⟩⟩⟩
     rw [← Hnx.out,if_neg (by omega)]
    obtain ⟨r0,r1,r2,r3,rf⟩:=box4 hres5
    obtain ⟨z0,z1,z2,z3,zf⟩:=box4 hbx'
    have hrl5:=Zac hres5
    have hbtl:=Zac hbx'
    clear hbx hbx' hbox hext5 hres5 hq hq3
    go_wp2_with fail
    go_region
    all_goals
     go_wp2
     refine bodyPost_ret (v := .tuple #[.int .i64 k,.agg #[.slice g1 g2 g3,.slice v1 v2 v3,.slice q1 q2 q3,.int .i64 uu],.int .i64 2]) (by simp [results,Tryz.results138,go_sem,r0,r1,r2,r3,rf]) rfl ?_
     exact Hfin.out _ (by repeat (first | exact Qx _ _ | apply Qz | apply Kept.put | apply Kept.drew))
   ·obtain ⟨e1,e2⟩:=Zkm HOk.out HSm.out Hco.out hq
    obtain ⟨hOk2,hSm2⟩:=e2 hq12
    have hk12:(tryN n c k).2=1∨(tryN n c k).2=2:=by rw [← e1]; exact hq12
    have hNm2:=Yga hq hq12 HNm.out Hcm.out
    have hFw2:=Yht hq hq12 HFe.out HCf.out
    obtain ⟨vs1,hg1,_⟩:=hg'
    obtain ⟨vs2,hv1,_⟩:=hv'
    obtain ⟨vs3,hr1,_⟩:=hr'
    have hCN:CNode w5 (.slice g1 ch.goals.length g3) (.slice v1 v2 v3) (.slice q1 q2 q3) (.int .i64 ch.vars) (tryN n c k).1:=⟨ch,⟨⟨vs1,hg1⟩,⟨vs2,hv1⟩,⟨vs3,hr1⟩⟩,rfl,hOk2,hNm2,hFw2,hSm2⟩
    have hS5:OffCode (only w.heap.size) w5:=fun j e=>by
     have e:j=w.heap.size:=e
     subst e
     exact ⟨_,_,_,Hres5.out,by simp [Zox]⟩
    obtain ⟨G,hG⟩:∃ G,G=ch.goals.length:=⟨_,rfl⟩
    obtain ⟨uu,huu⟩:∃ uu,uu=ch.vars:=⟨_,rfl⟩
    rw [← hG,← huu] at hCN
    rw [← hG] at hbx'
    rw [← huu] at hbx'
    have Hfin:Hid (∀ w6,Kept (only w.heap.size) w5 w6→Zuy w0 w b (.slice (some ⟨lb,0,none⟩) cs.length cc) nv s p n r A cs.length N (.returned (.tuple #[.int .i64 k,.agg #[.slice g1 G g3,.slice v1 v2 v3,.slice q1 q2 q3,.int .i64 uu],.int .i64 1])) w6):=fun w6 hK=>by
     refine ⟨HF5.out.put hK (Qe _),Or.inr ⟨k,c,?_,g1,G,g3,v1,v2,v3,q1,q2,q3,uu,1,rfl,⟨_,_,_,_,HC5.out.other hK Hres5.out hlow⟩,Or.inr ⟨rfl,hk12,hCN.keep hK hS5⟩⟩⟩
     rw [← Hnx.out,if_neg (by omega)]
    obtain ⟨r0,r1,r2,r3,rf⟩:=box4 hres5
    obtain ⟨z0,z1,z2,z3,zf⟩:=box4 hbx'
    have hrl5:=Zac hres5
    have hbtl:=Zac hbx'
    rw [← hG,← huu]
    clear hbx hbx' hbox hext5 hres5 hq hq12 hk12 e1 e2 hOk2 hSm2 hNm2 hFw2 hg1 hv1 hr1 hCN hS5 hG huu
    go_wp2_with fail
    go_region
    all_goals
     go_wp2
     refine bodyPost_ret (v := .tuple #[.int .i64 k,.agg #[.slice g1 G g3,.slice v1 v2 v3,.slice q1 q2 q3,.int .i64 uu],.int .i64 1]) (by simp [results,Tryz.results138,go_sem,r0,r1,r2,r3,rf]) rfl ?_
     exact Hfin.out _ (by repeat (first | exact Qx _ _ | apply Qz | apply Kept.put | apply Kept.drew))
  ·have he:k=cs.length:=by omega
   have hlt':¬ (k:Int)<(cs.length:Int):=by omega
   obtain ⟨r0,r1,r2,r3,rf⟩:=box4 hres
   have Hn:Hid (N=none):=by show _=_; rw [← hnx,he,Nat.sub_self]; rfl
   clear hbx hrow ho hwb y0 y1 y2 y3 y4 hnode h hF hres
   go_wp2_with fail
   go_quiet (fail)
   go_wp2
   refine bodyPost_ret (v := .tuple #[.int .i64 0,.agg #[.slice none 0 0,.slice none 0 0,.slice none 0 0,.int .i64 0],.int .i64 0]) (by simp [results,Tryz.results138,go_sem,r0,r1,r2,r3,rf]) rfl ?_
   have hK:Kept (only w.heap.size) wr (((((wr.drewN nq).setCell ⟨w.heap.size,0,none⟩ (.slice none 0 0)).setCell ⟨w.heap.size,1,none⟩ (.slice none 0 0)).setCell ⟨w.heap.size,2,none⟩ (.slice none 0 0)).setCell ⟨w.heap.size,3,none⟩ (.int .i64 0)):=(((((Qx _ wr).drewN _).put 0 _).put 1 _).put 2 _).put 3 _
   exact ⟨HF.out.put hK (Qe _),Or.inl ⟨Hn.out,rfl,_,_,_,_,he ▸ Hh.out.other hK Hres.out hlow⟩⟩
theorem Zwl {cs:List Cls} {n:ND}:∀ {f k j:Nat} {c:Cls},Zgn cs n f k=some (j,c)→cs[j]?=some c∧j<k+f:=by
 intro f
 induction f with
 | zero=>intro k j c h; simp [Zgn] at h
 | succ f ih =>
  intro k j c h
  rw [Zgn] at h
  cases hc:cs[k]? with
  | none=>rw [hc] at h; simp at h
  | some d =>
   rw [hc] at h
   simp only at h
   split at h
   ·obtain ⟨h1,h2⟩:=ih h
    exact ⟨h1,by omega⟩
   ·simp at h
    obtain ⟨rfl,rfl⟩:=h
    exact ⟨hc,by omega⟩
structure HoP (w0:World) (ca:Option Addr) (cc:Nat) (nv:Value) (cs:List Cls) (names:Names):Prop where
 prog:∃ xs,ProgIn w0 (.slice ca cs.length cc) cs xs
 ok:∀ c ∈ cs,COk c∧CNm c
 cf:∀ c ∈ cs,CFew c
 cl:cs.length≤24
 row:w0.ownsRow 0 9 1 nv names.length (strs names)
 few:names.length≤60
 short:∀ x ∈ names,x.length≤8
theorem HoP.enter {w0 w:World} {b:Nat} {ca:Option Addr} {cc:Nat} {nv:Value} {s:ByteArray} {p:Nat} {way:List (ND × Nat)} {A:List (List UInt8)} {cs:List Cls} {names:Names} {gv vv rv uv:Value} {n:ND} (hq:HoP w0 ca cc nv cs names) (h:HoIn w0 w b (.slice ca cs.length cc) nv s p way A) (hn:CNode w gv vv rv uv n) (hvl:n.vals.length=names.length) (hs:s.size≤20000) (hp:p≤s.size) (hA:A.length≤20000) (hwl:way.length≤20000) :
  Calls Tryz.prog 103 #[.pointer (some ⟨b,0,none⟩),.agg #[gv,vv,rv,uv]] w (Ycu w0 w b (.slice ca cs.length cc) nv s (Zdk names s.data.toList n p way A)):=by
 by_cases hg:n.goals=[]
 ·exact Zuw w0 w b _ nv s p way A names gv vv rv uv n h hn hg hq.row hvl hq.few hq.short hs hp hA
 ·exact Zux w0 w b _ nv s p way A names gv vv rv uv n h hn hg hs hp hwl
theorem Yfl (w0 w:World) (b:Nat) (ca:Option Addr) (cc:Nat) (nv:Value) (s:ByteArray) (p:Nat) (n:ND) (k:Nat) (r:List (ND × Nat)) (A:List (List UInt8)) (cs:List Cls) (names:Names) (hq:HoP w0 ca cc nv cs names) (h:HoIn w0 w b (.slice ca cs.length cc) nv s p ((n,k)::r) A) (hg:n.goals≠[]) (hvl:n.vals.length=names.length) (hk:k≤cs.length) (hs:s.size≤20000) (hp:p≤s.size) (hA:A.length≤20000) (hrl:r.length+1≤20000) :
  Calls Tryz.prog 104 #[.pointer (some ⟨b,0,none⟩)] w (Ycu w0 w b (.slice ca cs.length cc) nv s (goM cs names s.data.toList n k p r A)):=by
 obtain ⟨xs,hP⟩:=hq.prog
 have HNx:=Zaa (Ycv w0 w b ca cc nv s p n k r A cs xs h hP hg hk (by omega) hq.ok hq.cf hq.cl)
 obtain ⟨M,hM⟩:∃ M,M=goM cs names s.data.toList n k p r A:=⟨_,rfl⟩
 have hin:∀ j c,Zgn cs n (cs.length - k) k=some (j,c)→j<24:=fun j c h=>by
  have:=(Zwl h).2
  have:=hq.cl
  omega
 have hm:=hM
 unfold goM at hm
 rw [← hM]
 obtain ⟨N,hN⟩:∃ N,N=Zgn cs n (cs.length - k) k:=⟨_,rfl⟩
 rw [← hN] at hm hin HNx
 have Hm:=Zaa hm
 have Hq:=Zaa hq
 have Hin:=Zaa hin
 clear h hg hq hP hM hm hN hin
 go_enter Tryz.func104,Tryz.ntmps104
 go_wp2_with fail
 refine HNx.out.mono ?_
 rintro e w1 ⟨hF1,⟨hN0,rfl,h1⟩ | ⟨j,c,hN1,g1,g2,g3,v1,v2,v3,q1,q2,q3,uu,o,rfl,h1,ho⟩⟩
 ·obtain ⟨W,hW⟩:∃ W,W=w1.alloc (.cells #[.slice none 0 0,.slice none 0 0,.slice none 0 0,.int .i64 0] 87):=⟨_,rfl⟩
  have hE:Ext w1 W:=by rw [hW]; exact (Ext.of (by repeat' (first | with_reducible(first|exact Qx _ _|apply Kept.drew|apply Kept.drewN|apply Qz|refine Qy ?_ ?_ _)|exact fun h=>absurd h (by simp <;> omega))))
  have HL:=Zaa (Zzd w0 W b _ nv s p (n,cs.length) r A (h1.grow hE) hs hp (by omega))
  have Hm1:Hid (M=if s.data.toList[p]?=some 41 then ⟨true,p+1,r,A⟩ else ⟨false,p,(n,cs.length)::r,A⟩):=by show _=_; rw [Hm.out,hN0]
  have HF1:=Zaa (hF1.trans (FrT.of_ext hE))
  have HW:=Zaa hW
  clear h1 hF1 hE hW hN0 HNx Hm
  go_wp2_with fail
  rw [← HW.out]
  refine HL.out.mono ?_
  rintro e w2 ⟨hF2,⟨hc,rfl,h2⟩ | ⟨hc,rfl,h2⟩⟩
  ·have Hm2:Hid (M=⟨true,p+1,r,A⟩):=by show _=_; rw [Hm1.out,if_pos hc]
   have HF2:=Zaa (HF1.out.trans hF2)
   have H2:=Zaa h2
   clear hF2 h2 hc HL
   go_wp2
   go_ret
   rw [Hm2.out]
   exact ⟨HF2.out,rfl,H2.out⟩
  ·have Hm2:Hid (M=⟨false,p,(n,cs.length)::r,A⟩):=by show _=_; rw [Hm1.out,if_neg hc]
   have HF2:=Zaa (HF1.out.trans hF2)
   have H2:=Zaa h2
   clear hF2 h2 hc HL
   go_wp2
   go_ret
   rw [Hm2.out]
   exact ⟨HF2.out,rfl,H2.out⟩
 ·obtain ⟨W,hW⟩:∃ W,W=w1.alloc (.cells #[.slice g1 g2 g3,.slice v1 v2 v3,.slice q1 q2 q3,.int .i64 uu] 87):=⟨_,rfl⟩
  have hE:Ext w1 W:=by rw [hW]; exact (Ext.of (by repeat' (first | with_reducible(first|exact Qx _ _|apply Kept.drew|apply Kept.drewN|apply Qz|refine Qy ?_ ?_ _)|exact fun h=>absurd h (by simp <;> omega))))
  have hjl:=Hin.out j c hN1
  have HF1:=Zaa (hF1.trans (FrT.of_ext hE))
  have H1:=Zaa (h1.grow hE)
  have Hm1:=Hm.out
  rw [hN1] at Hm1
  simp only at Hm1
  rcases ho with ⟨rfl,h3⟩ | ⟨rfl,h12,hCN⟩
  ·have Hm2:Hid (M=⟨false,p,(n,j+1)::r,A⟩):=by show _=_; rw [Hm1,if_pos (Or.inl h3)]
   have HW:=Zaa hW
   clear h1 hF1 hE hW hN1 HNx Hm Hm1 h3 Hin Hq
   go_wp2
   go_ret
   rw [← HW.out,Hm2.out]
   exact ⟨HF1.out,rfl,H1.out⟩
  ·obtain ⟨V,hV⟩:∃ V,V=(Zao (s.data.toList.drop p)).1:=⟨_,rfl⟩
   obtain ⟨Z,hZ⟩:∃ Z,Z=(Zao (s.data.toList.drop p)).2:=⟨_,rfl⟩
   have hnz:=Zdu (s.data.toList.drop p)
   rw [List.length_drop,show s.data.toList.length=s.size by simp,← hV,← hZ] at hnz
   obtain ⟨hz1,hz2,hz3⟩:=hnz
   have HAt:=Zaa (fun u=>Ygf s p u (by omega) (by omega))
   rw [← hV,← hZ] at HAt
   rw [← hV,← hZ] at Hm1
   have hbW:W.heap[w1.heap.size]?=some (.cells #[.slice g1 g2 g3,.slice v1 v2 v3,.slice q1 q2 q3,.int .i64 uu] 87 (0,0)):=by rw [hW]; exact heap_alloc_new w1 _
   have HbW:=Zaa hbW
   have HCN:=Zaa (hCN.ext hE)
   have HW:=Zaa hW
   have hvl2:(tryN n c j).1.vals.length=names.length:=by rw [Znc h12]; exact hvl
   have hn3:(tryN n c j).2≠3:=by omega
   obtain ⟨wa,wc,aa,ac,hC⟩:=H1.out
   obtain ⟨b0,b1,b2,b3,b4,b5,bf⟩:=box6 hC.box
   have hbl:=Zac hC.box
   have hwW:=Zac hbW
   have HC:=Zaa hC
   have HmA:=Zaa Hm1
   clear h1 hF1 hE hW hN1 HNx Hm Hm1 Hin hV hZ hbW hCN hC h12
   go_wp2_with fail
   rw [← HW.out]
   go_quiet ((go_at_call 96; exact Calls.quiet_of_same (HAt.out _)))
   have hEq:Ext W (W.drewN nq):=Ext.of ((Qx _ W).drewN _)
   by_cases hz0:Z=0
   ·have Hm2:Hid (M=⟨false,p,(n,j+1)::r,A⟩):=by show _=_; rw [HmA.out,if_pos (Or.inr (Or.inl hz0))]
    have H2:=Zaa (H1.out.grow hEq)
    have HF2:=Zaa (HF1.out.trans (FrT.of_ext hEq))
    subst hz0
    clear hEq
    go_wp2
    go_ret
    rw [Hm2.out]
    exact ⟨HF2.out,rfl,H2.out⟩
   ·have hk1:(((p:Int)+(Z:Int)) == (p:Int))=false:=by rw [Qu]; omega
    by_cases hv:V=j
    ·subst hv
     have Hm2:Hid (M=Zdk names s.data.toList (tryN n c V).1 (p+Z) ((n,V+1)::r) A):=by show _=_; rw [HmA.out,if_neg (by rintro (h | h | h); exact hn3 h; exact hz0 h; exact h rfl)]
     have hk2:((V:Int) != (V:Int))=false:=by simp
     obtain ⟨w5,hw5⟩:∃ w5,w5=(W.drewN nq).setCell ⟨b,3,none⟩ (.int .i64 ((p:Int)+(Z:Int))):=⟨_,rfl⟩
     have hK5:Kept (only b) W w5:=by rw [hw5]; exact ((Qx _ _).drewN _).put 3 _
     obtain ⟨hC5,hF5⟩:=HC.out.upd (p':=p+Z) hK5 (by rw [hw5,show ((p+Z:Nat):Int)=(p:Int)+(Z:Int) by omega]; exact Zai (w:=W.drewN nq) HC.out.box 3 _) HC.out.row
     have HEn:=Zaa (Hq.out.enter (way:=(n,V+1)::r) (A:=A) (p:=p+Z) ⟨_,_,_,_,hC5⟩ (HCN.out.fr hF5) hvl2 hs (by omega) hA (by rw [Qf]; omega))
     have HF5:=Zaa (HF1.out.trans hF5)
     have hb5:=hF5 _ _ _ _ HbW.out (by simp [HoTy])
     obtain ⟨z0,z1,z2,z3,zf⟩:=box4 hb5
     have hne:b≠w1.heap.size:=fun e=>by
      have h1:=HbW.out
      rw [← e,HC.out.box] at h1
      simp at h1
     have Hw5:=Zaa hw5
     have hbl5:=Zac hb5
     obtain ⟨y0,y1,y2,y3,yf⟩:=box4 HbW.out
     clear hEq hK5 hC5 hF5 hb5 hw5 HAt HmA
     go_wp2_with fail
     rw [← Hw5.out]
     refine HEn.out.mono ?_
     rintro e w6 ⟨hF6,rfl,h6⟩
     have H6:=Zaa h6
     have HF6:=Zaa (HF5.out.trans hF6)
     rw [← Hm2.out] at H6
     have e1:(Zdk names s.data.toList (tryN n c V).1 (p+Z) ((n,V+1)::r) A)=M:=Hm2.out.symm
     rw [e1]
     clear h6 hF6 HEn Hm2 e1 b0 b1 b2 b3 b4 b5 bf z0 z1 z2 z3 zf y0 y1 y2 y3 yf
     go_wp2
     go_ret
     exact ⟨HF6.out,rfl,H6.out⟩
    ·have hk2:((V:Int) != (j:Int))=true:=by rw [bne_iff_ne]; omega
     have Hm2:Hid (M=⟨false,p,(n,j+1)::r,A⟩):=by show _=_; rw [HmA.out,if_pos (Or.inr (Or.inr hv))]
     have H2:=Zaa (H1.out.grow hEq)
     have HF2:=Zaa (HF1.out.trans (FrT.of_ext hEq))
     clear hEq hv
     go_wp2
     go_ret
     rw [Hm2.out]
     exact ⟨HF2.out,rfl,H2.out⟩
structure WayOk (cs:List Cls) (names:Names) (l:List UInt8) (M:HM):Prop where
 way:∀ y ∈ M.way,y.1.goals≠[]∧y.2≤cs.length∧y.1.vals.length=names.length
 le:M.at'≤l.length
 cnt:M.ans.length+M.way.length≤M.at'
theorem Zsv {cs:List Cls} {names:Names} {l:List UInt8} {n:ND} {p:Nat} {way:List (ND × Nat)} {A:List (List UInt8)} (h:WayOk cs names l ⟨true,p,way,A⟩) (hn:n.vals.length=names.length):WayOk cs names l (Zdk names l n p way A)∧((Zdk names l n p way A).ok=true→p<(Zdk names l n p way A).at'):=by
 obtain ⟨h1,h2,h3⟩:=h
 simp only at h1 h2 h3
 unfold Zdk
 split
 ·split
  ·rename_i hc
   have:=(Qa.1 hc).1
   exact ⟨⟨h1,this,by simp only [Qg,Qn]; omega⟩,fun _=>Nat.lt_succ_self _⟩
  ·exact ⟨⟨h1,h2,h3⟩,fun e=>by simp at e⟩
 ·rename_i hg
  split
  ·rename_i hc
   have:=(Qa.1 hc).1
   refine ⟨⟨fun y hy => ?_,this,by simp only [Qf]; omega⟩,fun _=>Nat.lt_succ_self _⟩
   rcases Qp.1 hy with rfl | hy
   ·exact ⟨hg,Qm _,hn⟩
   ·exact h1 y hy
  ·exact ⟨⟨h1,h2,h3⟩,fun e=>by simp at e⟩
theorem Yja {cs:List Cls} {names:Names} {l:List UInt8} {n:ND} {k p:Nat} {r:List (ND × Nat)} {A:List (List UInt8)} (h:WayOk cs names l ⟨true,p,(n,k)::r,A⟩):WayOk cs names l (goM cs names l n k p r A)∧((goM cs names l n k p r A).ok=true→p<(goM cs names l n k p r A).at'):=by
 obtain ⟨h1,h2,h3⟩:=h
 simp only [Qf] at h1 h2 h3
 have hh:=h1 (n,k) (by simp)
 have hr:∀ y ∈ r,y.1.goals≠[]∧y.2≤cs.length∧y.1.vals.length=names.length:=fun y hy=>h1 y (by simp [hy])
 have hcons:∀ k',k'≤cs.length→∀ y ∈ (n,k')::r,y.1.goals≠[]∧y.2≤cs.length∧y.1.vals.length=names.length:=fun k' hk' y hy=>by
  rcases Qp.1 hy with rfl | hy
  ·exact ⟨hh.1,hk',hh.2.2⟩
  ·exact hr y hy
 unfold goM
 cases hN:Zgn cs n (cs.length - k) k with
 | none =>
  simp only
  split
  ·rename_i hc
   have:=(Qa.1 hc).1
   exact ⟨⟨hr,this,by simp only; omega⟩,fun _=>Nat.lt_succ_self _⟩
  ·exact ⟨⟨hcons _ (Qe _),h2,by simp only [Qf]; omega⟩,fun e=>by simp at e⟩
 | some jc =>
  obtain ⟨j,c⟩:=jc
  obtain ⟨hc,_⟩:=Zwl hN
  have hj:=(Qa.1 hc).1
  simp only
  split
  ·exact ⟨⟨hcons _ hj,h2,by simp only [Qf]; omega⟩,fun e=>by simp at e⟩
  ·rename_i hw
   have hs:=Zdu (l.drop p)
   rw [List.length_drop] at hs
   have h12:(tryN n c j).2=1∨(tryN n c j).2=2:=by
    have h0:(tryN n c j).2≠0:=by
     have:∀ {f k:Nat},Zgn cs n f k=some (j,c)→(tryN n c j).2≠0:=by
      intro f
      induction f with
      | zero=>intro k h; simp [Zgn] at h
      | succ f ih =>
       intro k h
       rw [Zgn] at h
       cases hc:cs[k]? with
       | none=>rw [hc] at h; simp at h
       | some d =>
        rw [hc] at h
        simp only at h
        split at h
        ·exact ih h
        ·simp at h
         obtain ⟨rfl,rfl⟩:=h
         assumption
     exact this hN
    have h3:(tryN n c j).2≠3:=fun h=>hw (Or.inl h)
    have:=Zso n c j
    omega
   have:=Zsv (cs:=cs) (names:=names) (l:=l) (n:=(tryN n c j).1) (p:=p+(Zao (l.drop p)).2) (way:=(n,j+1)::r) (A:=A) ⟨hcons _ hj,by simp only; omega,by simp only [Qf]; omega⟩ (by rw [Znc h12]; exact hh.2.2)
   exact ⟨this.1,fun e=>by have:=this.2 e; omega⟩
def Zqq (w0 w:World) (R:HN) (e:Ending) (w':World):Prop:=FrT w w'∧Ext w0 w' ∧
 ((R.wrong=true∧e = .returned (.tuple #[.slice none 0 0,.agg #[.int .i64 7,.int .i64 R.at']]))∨(R.wrong=false∧∃ va vc,e = .returned (.tuple #[.slice va R.ans.length vc,.agg #[.int .i64 0,.int .i64 0]])∧w'.ownsRow w0.heap.size 9 1 (.slice va R.ans.length vc) R.ans.length (strs R.ans)))
theorem Zng (w0 w:World) (b:Nat) (ca:Option Addr) (cc:Nat) (nv:Value) (s:ByteArray) (cs:List Cls) (names:Names) (gv vv rv uv:Value) (n:ND) (R:HN) (hq:HoP w0 ca cc nv cs names) (h:HoIn w0 w b (.slice ca cs.length cc) nv s 0 [] []) (hn:CNode w gv vv rv uv n) (hvl:n.vals.length=names.length) (hs:s.size≤20000) (hR:Zss cs names s.data.toList (Zdk names s.data.toList n 0 [] []) R) :
  Calls Tryz.prog 82 #[.pointer (some ⟨b,0,none⟩),.agg #[gv,vv,rv,uv]] w (Zqq w0 w R):=by
 obtain ⟨ga,gc,va',vl',vc',ra,rl,rc,u,rfl,rfl,rfl,rfl,hu4⟩:=hn.shape
 obtain ⟨z,hz⟩:∃ z,z=n.goals.length:=⟨_,rfl⟩
 rw [← hz] at hn ⊢
 obtain ⟨W,hW⟩:∃ W,W=(w.alloc (.cells #[.slice ga z gc,.slice va' vl' vc',.slice ra rl rc,.int .i64 u] 87)).alloc (.cells #[.int .i64 0,.int .i64 0] 91):=⟨_,rfl⟩
 have hEW:Ext w W:=by rw [hW]; exact (Ext.of (by repeat' (first | with_reducible(first|exact Qx _ _|apply Kept.drew|apply Kept.drewN|apply Qz|refine Qy ?_ ?_ _)|exact fun h=>absurd h (by simp <;> omega))))
 have hbW:W.heap[w.heap.size+1]?=some (.cells #[.int .i64 0,.int .i64 0] 91 (0,0)):=by rw [hW]; exact Zfj (by simp) _
 have hsl:s.data.toList.length=s.size:=by simp
 have HEn:=Zaa (hq.enter (h.grow hEW) (hn.ext hEW) hvl hs (Qm _) (by simp) (by simp))
 have hok:=Zsv (cs:=cs) (names:=names) (l:=s.data.toList) (n:=n) (p:=0) (way:=[]) (A:=[]) ⟨fun y hy=>by simp at hy,Qm _,by simp⟩ hvl
 have Hok:=Zaa hok.1
 obtain ⟨M,hM⟩:∃ M,M=Zdk names s.data.toList n 0 [] []:=⟨_,rfl⟩
 rw [← hM] at HEn hR Hok
 have HR:=Zaa hR
 have Hq:=Zaa hq
 have HEW:=Zaa hEW
 have HbW:=Zaa hbW
 have HW:=Zaa hW
 have Hsl:=Zaa hsl
 have hlow:w0.heap.size≤w.heap.size:=by
  obtain ⟨_,_,_,_,h⟩:=h
  exact h.ext.size
 clear h hn hq hR hEW hbW hW hsl hok hM hz hvl
 go_enter Tryz.func82,Tryz.ntmps82
 go_wp2_with fail
 rw [← HW.out]
 refine HEn.out.mono ?_
 rintro e w1 ⟨hF1,rfl,h1⟩
 have H1:=Zaa h1
 have HF1:=Zaa hF1
 clear h1 hF1 HEn
 go_wp2
 go_loopg [6] (s.size+2) (fun gk hv wr=>∃ M:HM,hv = .bool M.ok∧Zss cs names s.data.toList M R∧WayOk cs names s.data.toList M∧(if M.ok then s.size - M.at'+1 else 0)<gk∧HoIn w0 wr b (.slice ca cs.length cc) nv s M.at' M.way M.ans∧FrT W wr)
 case atStart=>exact ⟨M,rfl,HR.out,Hok.out,by split <;> omega,H1.out,HF1.out⟩
 case round =>
  obtain ⟨⟨ok,p,way,A⟩,rfl,hG,hO,hgk,⟨wa,wc,aa,ac,hC⟩,hF⟩:=hrel
  simp only at hG hO hgk hC
  have hle:=hO.le
  have hcnt:=hO.cnt
  rw [Hsl.out] at hle
  simp only at hle hcnt
  have hbx:=hC.box
  obtain ⟨b0,b1,b2,b3,b4,b5,bf⟩:=box6 hbx
  have hbl:=Zac hbx
  have hf:=hF _ _ _ _ HbW.out (by simp [HoTy])
  obtain ⟨f0,f1,ff⟩:=box2 hf
  have hfl:=Zac hf
  have HC:=Zaa hC
  have HF:=Zaa hF
  have Hf:=Zaa hf
  clear hC hF hf hbx
  cases ok with
  | false =>
   obtain ⟨hw,ha⟩:=hG.2 rfl
   simp only at ha
   have Hfin:Hid (∀ w2,Kept (only (w.heap.size+1)) wr w2→Zqq w0 w R (.returned (.tuple #[.slice none 0 0,.agg #[.int .i64 7,.int .i64 p]])) w2):=fun w2 hK=>by
    refine ⟨((FrT.of_ext HEW.out).trans HF.out).put hK (by omega),Zea HC.out.ext hK (by omega),Or.inl ⟨hw,by rw [ha]⟩⟩
   clear hG hO hgk hw ha
   go_wp2_with fail
   go_region
   all_goals
    go_wp2
    refine bodyPost_ret (v := .tuple #[.slice none 0 0,.agg #[.int .i64 7,.int .i64 p]]) (by simp [results,Tryz.results82,go_sem,f0,f1,ff]) rfl ?_
    exact Hfin.out _ (by repeat (first | exact Qx _ _ | apply Qz | apply Kept.put | apply Kept.drew))
  | true =>
   cases way with
   | nil =>
    have hr:=Yfg (hG.1 rfl)
    simp only at hr
    have Hfin:Hid (∀ w2,Kept (only (w.heap.size+1)) wr w2→Zqq w0 w R (.returned (.tuple #[.slice aa A.length ac,.agg #[.int .i64 0,.int .i64 0]])) w2):=fun w2 hK=>by
     refine ⟨((FrT.of_ext HEW.out).trans HF.out).put hK (by omega),Zea HC.out.ext hK (by omega),Or.inr ⟨by rw [hr],aa,ac,by rw [hr],?_⟩⟩
     rw [hr]
     exact Zak HC.out.ans (fun k hj=>hK.block k (HC.out.ans.lt k hj).2 (Zfh HC.out.ans Hf.out (by decide) k hj))
    clear hG hO hgk hr
    go_wp2
    refine bodyPost_ret (v := .tuple #[.slice aa A.length ac,.agg #[.int .i64 0,.int .i64 0]]) (by simp [results,Tryz.results82,go_sem,f0,f1,ff]) rfl ?_
    exact Hfin.out _ (by repeat (first | exact Qx _ _ | apply Qz | apply Kept.put | apply Kept.drew))
   | cons y r =>
    obtain ⟨n2,k2⟩:=y
    obtain ⟨hg1,hg2,hg3⟩:=hO.way (n2,k2) (by simp)
    have HGo:=Zaa (Yfl w0 wr b ca cc nv s p n2 k2 r A cs names Hq.out ⟨_,_,_,_,HC.out⟩ hg1 hg3 hg2 hs hle (by omega) (by simp only [Qf] at hcnt; omega))
    have HGm:=Zaa (Ycq (hG.1 rfl))
    obtain ⟨hO2,hlt2⟩:=Yja hO
    obtain ⟨M2,hM2⟩:∃ M2,M2=goM cs names s.data.toList n2 k2 p r A:=⟨_,rfl⟩
    rw [← hM2] at HGo HGm hO2 hlt2
    have HO2:=Zaa hO2
    have Hlt2:=Zaa hlt2
    simp only [Qf] at b4 hcnt
    have hrl:(0:Int)<(r.length:Int)+1:=by omega
    have hgk2:s.size - p+1<gk:=by simpa using hgk
    clear hG hO hgk hg1 hg2 hg3 hO2 hlt2 hM2
    go_wp2_with fail
    refine HGo.out.mono ?_
    rintro e w2 ⟨hF2,rfl,h2⟩
    have H2:=Zaa h2
    have HF2:=Zaa (HF.out.trans hF2)
    clear h2 hF2 HGo b0 b1 b2 b3 b4 b5 bf f0 f1 ff
    go_wp2
    go_roundg (s.size - p+1)
    case measure=>omega
    case rel =>
     refine ⟨M2,rfl,HGm.out,HO2.out,?_,H2.out,HF2.out⟩
     split
     ·rename_i e
      have h1:=Hlt2.out e
      have h2:=HO2.out.le
      rw [Hsl.out] at h2
      omega
     ·omega
def Znh (p q t:ByteArray) (w:World) (e:Ending) (w':World):Prop:=Ext w w'∧∃ va vc,e = .returned (.tuple #[.slice va (allN p q t).1.length vc,.agg #[.int .i64 (allN p q t).2.1,.int .i64 (allN p q t).2.2]])∧w'.ownsRow w.heap.size 9 1 (.slice va (allN p q t).1.length vc) (allN p q t).1.length (strs (allN p q t).1)
theorem Zni {p q t:ByteArray} {w w':World} {er pl:Nat} (h:allN p q t=([],er,pl)) (hE:Ext w w'):Znh p q t w (.returned (.tuple #[.slice none 0 0,.agg #[.int .i64 er,.int .i64 pl]])) w':=by
 refine ⟨hE,none,0,?_,?_⟩
 ·rw [h]; rfl
 ·rw [h]; exact World.ownsRow_nil _ _ _ _
theorem Zuz (p q t:ByteArray) (w:World) (hp:p.size≤maxLen) (hq:q.size≤maxLen) (ht:t.size≤maxLen):Calls Tryz.prog 60 #[.string p,.string q,.string t] w (Znh p q t w):=by
 obtain ⟨W0,hW0⟩:∃ W0,W0=w.alloc (.cells #[.int .i64 0,.int .i64 0] 91):=⟨_,rfl⟩
 have HB:=Zaa (Ycb p q W0 hp hq)
 have hE0:Ext w W0:=by rw [hW0]; exact (Ext.of (by repeat' (first | with_reducible(first|exact Qx _ _|apply Kept.drew|apply Kept.drewN|apply Qz|refine Qy ?_ ?_ _)|exact fun h=>absurd h (by simp <;> omega))))
 have hb0:W0.heap[w.heap.size]?=some (.cells #[.int .i64 0,.int .i64 0] 91 (0,0)):=by rw [hW0]; exact heap_alloc_new w _
 have hs0:W0.heap.size=w.heap.size+1:=by rw [hW0]; simp
 have HW0:=Zaa hW0
 have HE0:=Zaa hE0
 have Hb0:=Zaa hb0
 unfold maxLen at ht
 clear hp hq hW0 hE0 hb0
 go_enter Tryz.func60,Tryz.ntmps60
 go_wp2_with fail
 rw [← HW0.out]
 refine HB.out.mono ?_
 rintro e w1 ⟨hE1,hB⟩
 have hs1:=hE1.size
 have hb1:=(hE1.block _ (by omega)).trans Hb0.out
 obtain ⟨f0,f1,ff⟩:=box2 hb1
 have hfl:=Zac hb1
 have HE1:=Zaa (HE0.out.trans (hE1.mono HE0.out.size))
 have Hb1:=Zaa hb1
 clear hE1 hb1 HB
 have Hno:Hid (∀ w2 er pl,allN p q t=([],er,pl)→Kept (only w.heap.size) w1 w2→Znh p q t w (.returned (.tuple #[.slice none 0 0,.agg #[.int .i64 (er:Nat),.int .i64 (pl:Nat)]])) w2):=fun w2 er pl ha hK=>Zni ha (Zea HE1.out hK (Qe _))
 rcases hB with ⟨hno,rfl⟩ | ⟨⟨cs,hsome⟩,hno,rfl⟩ | ⟨cs,a,l1,lc,xs,h1,h2,h3,b1,bc,n1,nc,hsome,hask,rfl,hP,hT,hns⟩
 ·have Hh:Hid (allN p q t=([],4,0)):=by show _=_; simp [allN,hno]
  clear hno
  go_wp2
  refine bodyPost_ret (v := .tuple #[.slice none 0 0,.agg #[.int .i64 4,.int .i64 0]]) (by simp [results,Tryz.results60,go_sem,f0,f1,ff,hfl]) rfl ?_
  exact Hno.out _ 4 0 Hh.out (by repeat (first | exact Qx _ _ | apply Qz | apply Kept.put | apply Kept.drew))
 ·have Hh:Hid (allN p q t=([],5,0)):=by show _=_; simp [allN,hno,hsome]
  clear hno hsome
  go_wp2
  refine bodyPost_ret (v := .tuple #[.slice none 0 0,.agg #[.int .i64 5,.int .i64 0]]) (by simp [results,Tryz.results60,go_sem,f0,f1,ff,hfl]) rfl ?_
  exact Hno.out _ 5 0 Hh.out (by repeat (first | exact Qx _ _ | apply Qz | apply Kept.put | apply Kept.drew))
 ·by_cases ht2:20000<t.size
  ·have Hh:Hid (allN p q t=([],1,0)):=by show _=_; simp [allN,hsome,hask,ht2]
   have ht3:(20000:Int)<(t.size:Int):=by omega
   clear hP hT hns hsome hask ht2
   go_wp2
   refine bodyPost_ret (v := .tuple #[.slice none 0 0,.agg #[.int .i64 1,.int .i64 0]]) (by simp [results,Tryz.results60,go_sem,f0,f1,ff,hfl]) rfl ?_
   exact Hno.out _ 1 0 Hh.out (by repeat (first | exact Qx _ _ | apply Qz | apply Kept.put | apply Kept.drew))
  ·have ht3:¬ (20000:Int)<(t.size:Int):=by omega
   obtain ⟨W2,hW2⟩:∃ W2,W2=w1.alloc (.cells #[.slice h1 h2 h3,.slice b1 a.1.length bc,.slice n1 a.2.length nc] 107):=⟨_,rfl⟩
   have hE2:Ext w1 W2:=by rw [hW2]; exact (Ext.of (by repeat' (first | with_reducible(first|exact Qx _ _|apply Kept.drew|apply Kept.drewN|apply Qz|refine Qy ?_ ?_ _)|exact fun h=>absurd h (by simp <;> omega))))
   have hbW2:W2.heap[w1.heap.size]?=some (.cells #[.slice h1 h2 h3,.slice b1 a.1.length bc,.slice n1 a.2.length nc] 107 (0,0)):=by rw [hW2]; exact heap_alloc_new w1 _
   have hs2:W2.heap.size=w1.heap.size+1:=by rw [hW2]; simp
   have HCf:=Zaa (Zqo t W2 (by omega))
   have HW2:=Zaa hW2
   cases hsh:Zfd t.data.toList with
   | some pl =>
    have Hh:Hid (allN p q t=([],6,pl)):=by show _=_; simp [allN,hsome,hask,ht2,hsh]
    unfold Zuu at HCf
    rw [hsh] at HCf
    simp only at HCf
    have HE2:=Zaa hE2
    have hb2:=(hE2.block _ hfl).trans Hb1.out
    have Hb2:=Zaa hb2
    clear hP hT hns hsome hask ht2 hsh hE2 hbW2 hW2 hb2
    go_wp2_with fail
    rw [← HW2.out]
    refine HCf.out.mono ?_
    rintro e w3 ⟨hE3,rfl⟩
    have hs3:=hE3.size
    have hb3:=(hE3.block _ (by omega)).trans Hb2.out
    have HE3:=Zaa (HE2.out.trans (hE3.mono HE2.out.size))
    clear hE3 HCf f0 f1 ff
    obtain ⟨f0,f1,ff⟩:=box2 hb3
    have Hfin:Hid (∀ w4,Kept (only w.heap.size) w3 w4→Znh p q t w (.returned (.tuple #[.slice none 0 0,.agg #[.int .i64 6,.int .i64 pl]])) w4):=fun w4 hK=>Zni Hh.out (Zea (HE1.out.trans (HE3.out.mono HE1.out.size)) hK (Qe _))
    have hfl3:=Zac hb3
    clear hb3
    go_wp2_with fail
    go_region
    all_goals
     go_wp2
     refine bodyPost_ret (v := .tuple #[.slice none 0 0,.agg #[.int .i64 6,.int .i64 pl]]) (by simp [results,Tryz.results60,go_sem,f0,f1,ff,hfl3]) rfl ?_
     exact Hfin.out _ (by repeat (first | exact Qx _ _ | apply Qz | apply Kept.put | apply Kept.drew))
   | none =>
    obtain ⟨R,hR⟩:∃ R,R=Znf cs a t.data.toList:=⟨_,rfl⟩
    have hG:=Ycs cs a hsh
    rw [← hR] at hG
    have Hh:Hid (allN p q t=if R.wrong=true then ([],7,R.at') else (R.ans,0,0)):=by show _=_; simp [allN,hsome,hask,ht2,hsh,hR]
    unfold Zuu at HCf
    rw [hsh] at HCf
    simp only at HCf
    obtain ⟨_,_,_,hcs,hcl⟩:=Zjg hsome
    obtain ⟨_,_,_,hOk,hNm,ha1,ha2,ha3,ha8⟩:=Zkp hask
    have ha6:=Yci hask
    have hFw:=Yhu hask
    have hHoP:HoP w1 l1 lc (.slice n1 a.2.length nc) cs a.2:=⟨⟨xs,hP⟩,hcs,Yeu hsome,hcl,hns,ha6,ha8⟩
    have HTop:Hid (∀ u,Ext w1 u→Calls Tryz.prog 51 #[.agg #[.slice h1 h2 h3,.slice b1 a.1.length bc,.slice n1 a.2.length nc]] u _):=fun u hu=>Yem u (.slice h1 h2 h3) (.slice b1 a.1.length bc) (.slice n1 a.2.length nc) a.1 a.2 ⟨_,_,_,rfl⟩ (hT.ext hu) (Zak hns (fun j hj=>hu.block j (hns.lt j hj).2)) (by omega) (by omega) (Yiy hOk ha3)
    have Hst:Hid (∀ u g1 gc v1 vc b,HoIn w1 u b (.slice l1 cs.length lc) (.slice n1 a.2.length nc) t 0 [] []→TermsIn u (.slice g1 a.1.length gc) a.1→TermsIn u (.slice v1 a.2.length vc) ((List.range a.2.length).map vr)→Calls Tryz.prog 82 #[.pointer (some ⟨b,0,none⟩),.agg #[.slice g1 a.1.length gc,.slice v1 a.2.length vc,.slice none 0 0,.int .i64 a.2.length]] u (Zqq w1 u R)):=fun u g1 gc v1 vc b hI hg hv=>by
     have hCN:CNode u (.slice g1 a.1.length gc) (.slice v1 a.2.length vc) (.slice none 0 0) (.int .i64 a.2.length) (topN a):=by
      refine ⟨topN a,⟨?_,hv,⟨[],TermsAt.nil _ _⟩⟩,rfl,hOk,hNm,hFw,Same.refl hOk⟩
      have:(topN a).goals.map (·.1)=a.1:=by unfold topN; rw [List.map_map]; exact (List.map_congr_left (fun _ _=>rfl)).trans (List.map_id _)
      rw [this]; exact hg
     exact Zng w1 u b l1 lc _ t cs a.2 _ _ _ _ (topN a) R hHoP hI hCN (by simp [topN]) (by omega) hG
    have HE2:=Zaa hE2
    have Hb2:=Zaa ((hE2.block _ hfl).trans Hb1.out)
    have HbW2:=Zaa hbW2
    clear hP hT hns hsome hask ht2 hsh hE2 hbW2 hW2 hcs hOk hNm ha1 ha2 ha3 ha6 ha8 hFw hHoP hG hR
    go_wp2_with fail
    rw [← HW2.out]
    refine HCf.out.mono ?_
    rintro e w3 ⟨hE3,rfl⟩
    have hs3:=hE3.size
    have Hb3:=Zaa ((hE3.block _ (by omega)).trans Hb2.out)
    have hc3:=(hE3.block _ (by omega)).trans HbW2.out
    have HE3:=Zaa (HE2.out.trans (hE3.mono HE2.out.size))
    obtain ⟨W5,hW5⟩:∃ W5,W5=(w3.alloc (.cells #[.int .i64 0,.int .i64 0] 91)).alloc (.cells #[.slice l1 cs.length lc,.slice n1 a.2.length nc,.string t,.int .i64 0,.slice none 0 0,.slice none 0 0] 142):=⟨_,rfl⟩
    have hE5:Ext w3 W5:=by rw [hW5]; exact (Ext.of (by repeat' (first | with_reducible(first|exact Qx _ _|apply Kept.drew|apply Kept.drewN|apply Qz|refine Qy ?_ ?_ _)|exact fun h=>absurd h (by simp <;> omega))))
    have hb5:W5.heap[w3.heap.size+1]?=some (.cells #[.slice l1 cs.length lc,.slice n1 a.2.length nc,.string t,.int .i64 0,.slice none 0 0,.slice none 0 0] 142 (0,0)):=by rw [hW5]; exact heap_alloc2_new w3 _ _
    have hE15:Ext w1 W5:=HE3.out.trans (hE5.mono HE3.out.size)
    have HI5:Hid (HoIn w1 W5 (w3.heap.size+1) (.slice l1 cs.length lc) (.slice n1 a.2.length nc) t 0 [] []):=⟨none,0,none,0,hE15,by omega,hb5,⟨[],⟨World.ownsRow_nil _ _ _ _,fun i d h=>by simp at h⟩⟩,World.ownsRow_nil _ _ _ _⟩
    obtain ⟨c0,c1,c2,cf⟩:=Zkh hc3
    have hcl3:=Zac hc3
    have HT5:=Zaa (HTop.out W5 hE15)
    have Hb5:=Zaa ((hE5.block _ (by omega)).trans Hb3.out)
    have HE15:=Zaa hE15
    have HW5:=Zaa hW5
    have hs5:=hE5.size
    clear hE3 HCf f0 f1 ff hc3 hE5 hb5 hE15 hW5 HTop
    go_wp2_with fail
    rw [← HW5.out]
    refine HT5.out.mono ?_
    rintro e w6 ⟨hE6,g1,gc,v1,vc,rfl,hg,hv⟩
    have hs6:=hE6.size
    obtain ⟨W7,hW7⟩:∃ W7,W7=w6.alloc (.cells #[.slice g1 a.1.length gc,.slice v1 a.2.length vc,.slice none 0 0,.int .i64 a.2.length] 87):=⟨_,rfl⟩
    have hE7:Ext w6 W7:=by rw [hW7]; exact (Ext.of (by repeat' (first | with_reducible(first|exact Qx _ _|apply Kept.drew|apply Kept.drewN|apply Qz|refine Qy ?_ ?_ _)|exact fun h=>absurd h (by simp <;> omega))))
    have hE57:Ext W5 W7:=hE6.trans (hE7.mono hE6.size)
    have H7:=Zaa (Hst.out W7 g1 gc v1 vc (w3.heap.size+1) (HI5.out.grow hE57) (hg.ext hE7) (hv.ext hE7))
    have Hb7:=Zaa ((hE57.block _ (Zac Hb5.out)).trans Hb5.out)
    have HW7:=Zaa hW7
    clear hE6 hg hv hE7 hE57 hW7 Hst HT5 c0 c1 c2 cf
    go_wp2_with fail
    rw [← HW7.out]
    refine H7.out.mono ?_
    rintro e w8 ⟨hF8,hE8,hout⟩
    have hb8:=hF8 _ _ _ _ Hb7.out (by simp [HoTy])
    obtain ⟨f0,f1,ff⟩:=box2 hb8
    have hfl8:=Zac hb8
    have HEw:=Zaa (HE1.out.trans (hE8.mono HE1.out.size))
    have Hb8:=Zaa hb8
    clear hF8 hE8 hb8 H7
    rcases hout with ⟨hw,rfl⟩ | ⟨hw,va,vc',rfl,ho⟩
    ·have Hfin:Hid (∀ w9,Kept (only w.heap.size) w8 w9→Znh p q t w (.returned (.tuple #[.slice none 0 0,.agg #[.int .i64 7,.int .i64 R.at']])) w9):=fun w9 hK=>Zni (by rw [Hh.out,if_pos hw]) (Zea HEw.out hK (Qe _))
     clear hw
     go_wp2
     refine bodyPost_ret (v := .tuple #[.slice none 0 0,.agg #[.int .i64 7,.int .i64 R.at']]) (by simp [results,Tryz.results60,go_sem,f0,f1,ff,hfl8]) rfl ?_
     exact Hfin.out _ (by repeat (first | exact Qx _ _ | apply Qz | apply Kept.put | apply Kept.drew))
    ·have Hfin:Hid (∀ w9,Kept (only w.heap.size) w8 w9→Znh p q t w (.returned (.tuple #[.slice va R.ans.length vc',.agg #[.int .i64 0,.int .i64 0]])) w9):=fun w9 hK=>by
      have e:allN p q t=(R.ans,0,0):=by rw [Hh.out,if_neg (by rw [hw]; simp)]
      refine ⟨Zea HEw.out hK (Qe _),va,vc',by rw [e]; rfl,?_⟩
      rw [e]
      exact Zbb (Zak ho (fun k hj=>hK.block k (ho.lt k hj).2 (Zfh ho Hb8.out (by decide) k hj))) HE1.out.size
     clear hw ho
     go_wp2
     refine bodyPost_ret (v := .tuple #[.slice va R.ans.length vc',.agg #[.int .i64 0,.int .i64 0]]) (by simp [results,Tryz.results60,go_sem,f0,f1,ff,hfl8]) rfl ?_
     exact Hfin.out _ (by repeat (first | exact Qx _ _ | apply Qz | apply Kept.put | apply Kept.drew))
theorem Yic (p q t:ByteArray):((allN p q t).2.1≠0→(allN p q t).1=[])∧((allN p q t).2.1=0→(allN p q t).2.2=0):=by
 unfold allN
 split
 ·exact ⟨fun _=>rfl,fun h=>by simp at h⟩
 ·split
  ·exact ⟨fun _=>rfl,fun h=>by simp at h⟩
  ·split
   ·exact ⟨fun _=>rfl,fun h=>by simp at h⟩
   ·split
    ·exact ⟨fun _=>rfl,fun h=>by simp at h⟩
    ·split
     ·exact ⟨fun _=>rfl,fun h=>by simp at h⟩
     ·exact ⟨fun h=>absurd rfl h,fun _=>rfl⟩
theorem Yfm (p q t:ByteArray) (w:World) (hp:p.size≤maxLen) (hq:q.size≤maxLen) (ht:t.size≤maxLen):Calls Tryz.prog 36 #[.string p,.string q,.string t] w (Zlj p q t w):=by
 have HA:=Zaa (Zuz p q t w hp hq ht)
 unfold Znh at HA
 obtain ⟨hX3,hX4⟩:=Yic p q t
 obtain ⟨X,hX⟩:∃ X,X=allN p q t:=⟨_,rfl⟩
 rw [← hX] at HA hX3 hX4
 have HX:=Zaa hX
 clear hp hq ht hX
 obtain ⟨A,er,pl⟩:=X
 simp only at HA hX3 hX4
 go_enter Tryz.func36,Tryz.ntmps36
 go_wp2_with fail
 refine HA.out.mono ?_
 rintro e w1 ⟨hE1,va,vc,rfl,ho⟩
 have hs1:=hE1.size
 have HE1:=Zaa hE1
 have Ho:=Zaa ho
 clear hE1 ho HA
 by_cases he:er=0
 ·obtain rfl:=hX4 he
  subst he
  have Hfin:Hid (∀ o,Zlj p q t w (.returned (.tuple #[.slice va A.length vc,.int .i64 0,.int .i64 0])) (w1.alloc o)):=fun o=>by
   have hEo:Ext w1 (w1.alloc o):=(Ext.of (by repeat' (first | with_reducible(first|exact Qx _ _|apply Kept.drew|apply Kept.drewN|apply Qz|refine Qy ?_ ?_ _)|exact fun h=>absurd h (by simp <;> omega))))
   refine ⟨HE1.out.trans (hEo.mono hs1),va,vc,by rw [← HX.out]; rfl,?_⟩
   rw [← HX.out]
   exact Zak Ho.out (fun k hk=>hEo.block k (Ho.out.lt k hk).2)
  clear hX3 hX4
  go_wp2
  go_ret3
  exact Hfin.out _
 ·have hb:((er:Int) != 0)=true:=by rw [bne_iff_ne]; omega
  obtain rfl:=hX3 he
  have Hfin:Hid (∀ w2,Ext w1 w2→Zlj p q t w (.returned (.tuple #[.slice none 0 0,.int .i64 er,.int .i64 pl])) w2):=fun w2 hE2=>Zgx HX.out.symm (HE1.out.trans (hE2.mono hs1))
  clear hX3 hX4 he
  go_wp2_with fail
  go_quiet (fail)
  go_wp2
  go_ret3
  exact Hfin.out _ (Ext.of (by repeat' (first | with_reducible(first|exact Qx _ _|apply Kept.drew|apply Kept.drewN|apply Qz|refine Qy ?_ ?_ _)|exact fun h=>absurd h (by simp <;> omega))))
theorem Yjb {cs:List Cls} {names:Names} {l:List UInt8} {n:ND} {p:Nat} {A:List (List UInt8)} {R:HN} (h:HoldR cs names l n p A R):A.length≤p→R.ans.length≤R.at'∧(R.wrong=false→R.at'≤l.length):=by
 refine HoldR.ind (P:=fun n p A R=>A.length≤p→R.ans.length≤R.at'∧(R.wrong=false→R.at'≤l.length)) ?_ ?_ ?_ ?_ h
 ·intro n p A hc _ hA
  have:=(Qa.1 hc).1
  exact ⟨by simp; omega,fun _=>this⟩
 ·intro n p A hc _ hA
  exact ⟨hA,fun h=>by simp at h⟩
 ·intro n p A hc _ hA
  exact ⟨hA,fun h=>by simp at h⟩
 ·intro n p A R hc _ hK hA
  have key:∀ (f k p:Nat) (A:List (List UInt8)) (R:HN),Zql (fun n p A R=>A.length≤p→R.ans.length≤R.at'∧(R.wrong=false→R.at'≤l.length)) cs l n f k p A R→A.length≤p→R.ans.length≤R.at'∧(R.wrong=false→R.at'≤l.length):=by
   intro f
   induction f with
   | zero =>
    intro k p A R h hA
    rcases h with ⟨h1,rfl⟩ | ⟨c,h1,_,rfl⟩
    ·have:=(Qa.1 h1).1
     exact ⟨by simp only; omega,fun _=>this⟩
    ·exact ⟨hA,fun h=>by simp at h⟩
   | succ f ih =>
    intro k p A R h hA
    obtain ⟨c,_,⟨_,h1⟩ | ⟨_,_,rfl⟩ | ⟨_,_,_,R1,h1,⟨hw,rfl⟩ | ⟨hw,h2⟩⟩⟩:=h
    ·exact ih _ _ _ _ h1 hA
    ·exact ⟨hA,fun h=>by simp at h⟩
    ·exact h1 (by omega)
    ·exact ih _ _ _ _ h2 (h1 (by omega)).1
  exact key _ _ _ _ _ hK (by omega)
theorem Yfn (p q t:ByteArray):(allN p q t).1.length≤20000:=by
 unfold allN
 split
 ·simp
 ·rename_i cs _
  split
  ·simp
  ·rename_i a _
   split
   ·simp
   ·rename_i ht
    split
    ·simp
    ·rename_i hsh
     split
     ·simp
     ·rename_i hw
      have h1:=Yjb (Zqm cs a hsh) (by simp)
      have h2:=h1.2 (by simpa using hw)
      have h3:t.data.toList.length=t.size:=rfl
      simp only
      omega
theorem Yid {w:World} {B bW:Nat} {v0 lv:Value} {ls:List (Value × Nat)} {sa:Option Addr} {sc:Nat} {ka:Option Addr} {kc B' n:Nat} {xs:List Value} (h:ListsAt w B bW v0 ls sa sc ka kc) (hr:w.ownsRow B' 9 1 lv n xs) :
  ∀ k,ownL bW (.slice sa ls.length sc) (.slice ka ls.length kc) lv k→∃ cl t fr,w.heap[k]?=some (.cells cl t fr)∧t≠78∧(t=9→Zap lv k):=fun k hk=>by
 rcases hk with rfl | hk | hk | hk
 ·exact ⟨_,_,_,h.box,by decide,fun e=>absurd e (by decide)⟩
 ·obtain ⟨cl,fr,h1⟩:=Zli h.lrow k hk
  exact ⟨_,_,_,h1,by decide,fun e=>absurd e (by decide)⟩
 ·obtain ⟨cl,fr,h1⟩:=Zli h.krow k hk
  exact ⟨_,_,_,h1,by decide,fun e=>absurd e (by decide)⟩
 ·obtain ⟨cl,fr,h1⟩:=Zli hr k hk
  exact ⟨_,_,_,h1,by decide,fun _=>hk⟩
theorem Yie {w:World} {B bW:Nat} {v0 lv:Value} {ls:List (Value × Nat)} {sa:Option Addr} {sc:Nat} {ka:Option Addr} {kc n:Nat} {xs:List Value} (h:ListsAt w B bW v0 ls sa sc ka kc) (hB:B≤bW) (hr:w.ownsRow B 9 1 lv n xs) :
  ∀ k,ownL bW (.slice sa ls.length sc) (.slice ka ls.length kc) lv k→B≤k:=fun k hk=>by
 rcases hk with rfl | hk | hk | hk
 ·exact hB
 ·exact (h.lrow.lt k hk).1
 ·exact (h.krow.lt k hk).1
 ·exact (hr.lt k hk).1
def Ycw (w:World) (B bW:Nat) (v0:Value) (N:Nat) (e:Ending) (w':World):Prop :=
 e = .returned (.bool true)∧Below B w w'∧∃ ls' sa sc ka kc,ls'.length=N∧ListsAt w' B bW v0 ls' sa sc ka kc
structure TurnAt (w wr:World) (B bW b0:Nat) (v0 s0 s1 s2 s3 s4 s5:Value) (va:Option Addr) (vc:Nat) (A:List (List UInt8)) (N:Nat) (ls:List (Value × Nat)) (sa:Option Addr) (sc:Nat) (ka:Option Addr) (kc:Nat):Prop where
 bel:Below B w wr
 len:ls.length=N
 box:wr.heap[b0]?=some (.cells #[s0,s1,s2,s3,s4,s5] 78 (0,0))
 lists:ListsAt wr B bW v0 ls sa sc ka kc
 want:wr.ownsRow 0 9 1 (.slice va A.length vc) A.length (strs A)
theorem TurnAt.own {w wr w2 w3:World} {B bW b0:Nat} {v0 s0 s1 s2 s3 s4 s5:Value} {va:Option Addr} {vc:Nat} {A:List (List UInt8)} {N:Nat} {ls:List (Value × Nat)} {sa:Option Addr} {sc:Nat} {ka:Option Addr} {kc:Nat} (h:TurnAt w wr B bW b0 v0 s0 s1 s2 s3 s4 s5 va vc A N ls sa sc ka kc) (hB:B≤bW) (hE:Ext wr w2)
  {la:Option Addr} {lc:Nat} (hr:w2.ownsRow wr.heap.size 9 1 (.slice la A.length lc) A.length (strs A)) {e:Ending} (hO:Ygi w2 B bW v0 (ls.length+4) (ownL bW (.slice sa ls.length sc) (.slice ka ls.length kc) (.slice la A.length lc)) e w3) :
  e = .returned (.tuple #[])∧∃ ls' sa' sc' ka' kc',TurnAt w w3 B bW b0 v0 s0 s1 s2 s3 s4 s5 va vc A (N+4) ls' sa' sc' ka' kc':=by
 obtain ⟨rfl,hK,ls',sa',sc',ka',kc',hl,hL⟩:=hO
 have hbW:=Zac h.lists.box
 have hL2:=h.lists.ext hE
 have hty:=Yid hL2 hr
 have hge:=Yie hL2 hB (Zbb hr (by omega))
 have hs2:=hE.size
 refine ⟨rfl,ls',sa',sc',ka',kc',?_,by rw [hl,h.len],?_,hL,?_⟩
 ·exact (h.bel.trans (hE.mono (by omega))).trans (hK.below (by omega) hge)
 ·have hb2:=(hE.block _ (Zac h.box)).trans h.box
  refine (hK.block _ (Zac hb2) (fun hs => ?_)).trans hb2
  obtain ⟨cl,t,fr,h1,h2,_⟩:=hty _ hs
  rw [hb2] at h1
  simp at h1
  exact h2 h1.2.1.symm
 ·have hw2:=Zak h.want (fun k hk=>hE.block k (h.want.lt k hk).2)
  refine Zak hw2 (fun k hk=>hK.block k (hw2.lt k hk).2 (fun hs => ?_))
  obtain ⟨cl,t,fr,h1,_,h2⟩:=hty _ hs
  obtain ⟨cl',fr',h3⟩:=Zli hw2 k hk
  rw [h3] at h1
  simp at h1
  have h4:=h2 h1.2.1.symm
  have h5:=(hr.lt k h4).1
  have h6:=(h.want.lt k hk).2
  omega
theorem Yif (w:World) (B bW:Nat) (v0:Value) (ls:List (Value × Nat)) (sa:Option Addr) (sc:Nat) (ka:Option Addr) (kc:Nat) (h:ListsAt w B bW v0 ls sa sc ka kc) (hB:B≤bW) (hlen:ls.length≤9000000) (kd n m:Int) (p q x:ByteArray) (hp:p.size≤maxLen) (hq:q.size≤maxLen) (hx:x.size≤maxLen) (hT:TabAt B w) :
  Calls Tryz.prog 64 #[.pointer (some ⟨bW,0,none⟩),.agg #[.int .i64 kd,.int .i64 n,.int .i64 m,.string p,.string q,.string x]] w (Ycw w B bW v0 (ls.length+8)):=by
 have HR:=Zaa (fun u=>Zzb p q x u hp hq hx)
 have HC:=Zaa (fun u=>Yfm p q x u hp hq hx)
 unfold Zlj at HR HC
 have hAl:=Yfn p q x
 obtain ⟨X,hX⟩:∃ X,X=allN p q x:=⟨_,rfl⟩
 simp only [← hX] at HR HC hAl
 clear hX
 obtain ⟨A,er,pl⟩:=X
 simp only at HR HC hAl
 have hbW:=Zac h.box
 have Hh:=Zaa h
 have HT:=Zaa hT
 clear h hp hq hx hT
 go_enter Tryz.func64,Tryz.ntmps64
 go_wp2_with fail
 refine (HR.out _).mono ?_
 rintro e w1 ⟨hE1,va,vc,rfl,ho⟩
 have hE0:Ext w (w.alloc (.cells #[.int .i64 kd,.int .i64 n,.int .i64 m,.string p,.string q,.string x] 78)):=(Ext.of (by repeat' (first | with_reducible(first|exact Qx _ _|apply Kept.drew|apply Kept.drewN|apply Qz|refine Qy ?_ ?_ _)|exact fun h=>absurd h (by simp <;> omega))))
 have HU:Hid (TurnAt w w1 B bW w.heap.size v0 (.int .i64 kd) (.int .i64 n) (.int .i64 m) (.string p) (.string q) (.string x) va vc A (ls.length+4 * 0) ls sa sc ka kc) :=
  ⟨(hE0.mono (by omega)).trans (hE1.mono (by have:=hE0.size; omega)),rfl,(hE1.block _ (by simp)).trans (heap_alloc_new w _),(Hh.out.ext hE0).ext hE1,Zbb ho (Qm _)⟩
 clear hE0 hE1 ho HR
 go_wp2
 go_loopw [8] (fun i wr=>∃ (t:Nat) (ls':List (Value × Nat)) (sa':Option Addr) (sc':Nat) (ka':Option Addr) (kc':Nat),t≤2∧i = .int .i64 t∧TurnAt w wr B bW w.heap.size v0 (.int .i64 kd) (.int .i64 n) (.int .i64 m) (.string p) (.string q) (.string x) va vc A (ls.length+4 * t) ls' sa' sc' ka' kc') (fun i _=>2 - (intOf i).toNat)
 case atStart=>exact ⟨0,ls,sa,sc,ka,kc,by omega,rfl,HU.out⟩
 case round =>
  clear HU
  obtain ⟨t,ls',sa',sc',ka',kc',ht,rfl,hU⟩:=hrel
  have HU:=Zaa hU
  have c3:wr.cell? ⟨w.heap.size,3,none⟩=some (.string p):=Zab hU.box 3 _ rfl
  have c4:wr.cell? ⟨w.heap.size,4,none⟩=some (.string q):=Zab hU.box 4 _ rfl
  have c5:wr.cell? ⟨w.heap.size,5,none⟩=some (.string x):=Zab hU.box 5 _ rfl
  have hb5:=Zac hU.box
  have hll:=hU.len
  clear hU
  by_cases hlt:t<2
  ·go_wp2_with fail
   refine (HC.out _).mono ?_
   rintro e w2 ⟨hE2,la,lc,rfl,ho2⟩
   have hs2:=hE2.size
   have HO:Hid (∀ u,Ext w2 u→Calls Tryz.prog 94 #[.pointer (some ⟨bW,0,none⟩),.slice la A.length lc] u fun e w3=>e = .returned (.tuple #[])∧∃ ls' sa' sc' ka' kc',TurnAt w w3 B bW w.heap.size v0 (.int .i64 kd) (.int .i64 n) (.int .i64 m) (.string p) (.string q) (.string x) va vc A (ls.length+4 * t+4) ls' sa' sc' ka' kc'):=fun u hu=>by
    have hEu:Ext wr u:=hE2.trans (hu.mono hs2)
    have hou:u.ownsRow wr.heap.size 9 1 (.slice la A.length lc) A.length (strs A):=Zak ho2 (fun k hk=>hu.block k (ho2.lt k hk).2)
    refine (Yia u B bW v0 ls' sa' sc' ka' kc' (HU.out.lists.ext hEu) hB (by omega) la A.length lc (strs A) (Zbb hou (by omega)) hAl (fun y hy k hk hk2=>by
     have h1:=(HU.out.lists.all y hy).1.lt hk
     have h2:=(hou.lt k hk2).1
     omega) B (Lib.TabBelow.on HT.out (HU.out.bel.trans (hEu.mono (by omega))))).mono ?_
    exact fun e w3 h3=>HU.out.own hB hEu hou h3
   have Hc:Hid (∀ u,Ext w2 u→∀ s,s<A.length→∃ g g' a,la=some ⟨g,0,none⟩∧va=some ⟨g',0,none⟩∧g<u.heap.size∧g'<u.heap.size∧u.cell? ⟨g,s,none⟩=some (.string a)∧u.cell? ⟨g',s,none⟩=some (.string a)):=fun u hu s hs=>by
    have hEu:Ext wr u:=hE2.trans (hu.mono hs2)
    have hou:u.ownsRow wr.heap.size 9 1 (.slice la A.length lc) A.length (strs A):=Zak ho2 (fun k hk=>hu.block k (ho2.lt k hk).2)
    obtain ⟨g,y,h1,h2,h3,h4,_⟩:=Zkx hou hs
    obtain ⟨g',y',k1,k2,k3,k4,_⟩:=Zkx (Zak HU.out.want (fun k hk=>hEu.block k (HU.out.want.lt k hk).2)) hs
    rw [h3] at k3
    cases k3
    have h5:∃ a,y = .string a:=by
     unfold strs at h3
     rw [Qj] at h3
     obtain ⟨z,_,rfl⟩:=Option.map_eq_some_iff.1 h3
     exact ⟨_,rfl⟩
    obtain ⟨a,rfl⟩:=h5
    exact ⟨g,g',a,h1,k1,h2,k2,h4,k4⟩
   clear hE2 ho2 c3 c4 c5 HU
   go_wp2
   go_loopw [12] (fun i u=>∃ s:Nat,s≤A.length∧i = .int .i64 s∧Ext w2 u) (fun i _=>A.length - (intOf i).toNat)
   case atStart=>exact ⟨0,Qm _,rfl,Below.refl _ _⟩
   case round =>
    obtain ⟨s,hs,rfl,hEu⟩:=hrel
    have HEu:=Zaa hEu
    by_cases hls:s<A.length
    ·obtain ⟨g,g',a,rfl,rfl,hg,hg',cg,cg'⟩:=Hc.out _ hEu s hls
     clear hEu
     go_wp2_with fail
     go_quiet (fail)
     go_wp2
     go_roundw
     case rel=>exact ⟨s+1,by omega,by go_num,HEu.out.trans ((Ext.of (by repeat' (first | with_reducible(first|exact Qx _ _|apply Kept.drew|apply Kept.drewN|apply Qz|refine Qy ?_ ?_ _)|exact fun h=>absurd h (by simp <;> omega)))).mono HEu.out.size)⟩
     case measure=>simp [intOf]; omega
    ·clear hEu
     go_wp2_with fail
     refine (HO.out _ HEu.out).mono ?_
     rintro e w3 ⟨rfl,ls3,sa3,sc3,ka3,kc3,h4⟩
     have H4:=Zaa h4
     clear h4
     go_wp2
     go_roundw
     case rel=>exact ⟨t+1,ls3,sa3,sc3,ka3,kc3,by omega,by go_num,H4.out⟩
     case measure=>simp [intOf]; omega
  ·obtain rfl:t=2:=by omega
   go_wp2
   go_ret
   exact ⟨rfl,HU.out.bel,ls',sa',sc',ka',kc',hll,HU.out.lists⟩
theorem Yfo (w:World) (B bW:Nat) (v0:Value) (ls:List (Value × Nat)) (sa:Option Addr) (sc:Nat) (ka:Option Addr) (kc:Nat) (h:ListsAt w B bW v0 ls sa sc ka kc) (hB:B≤bW) (hlen:ls.length≤9000000) (n m:Int) (p q x:ByteArray) (hp:p.size≤maxLen) (hq:q.size≤maxLen) (hx:x.size≤maxLen) (hT:TabAt B w) :
  Calls Tryz.prog 38 #[.pointer (some ⟨bW,0,none⟩),.agg #[.int .i64 8,.int .i64 n,.int .i64 m,.string p,.string q,.string x]] w (Ycw w B bW v0 (ls.length+8)):=by
 have hbl:=Zac h.box
 have hE:Ext w (w.alloc (.cells #[.int .i64 8,.int .i64 n,.int .i64 m,.string p,.string q,.string x] 78)):=(Ext.of (by repeat' (first | with_reducible(first|exact Qx _ _|apply Kept.drew|apply Kept.drewN|apply Qz|refine Qy ?_ ?_ _)|exact fun h=>absurd h (by simp <;> omega))))
 have HS:=Zaa (Yif (w.alloc (.cells #[.int .i64 8,.int .i64 n,.int .i64 m,.string p,.string q,.string x] 78)) B bW v0 ls sa sc ka kc (h.ext hE) hB hlen 8 n m p q x hp hq hx (hT.ext (by omega) hE))
 have HBl:Hid (Below B w (w.alloc (.cells #[.int .i64 8,.int .i64 n,.int .i64 m,.string p,.string q,.string x] 78))):=(Below.refl _ w).alloc (by omega) _
 clear h hp hq hx hT hE
 go_enter Tryz.func38,Tryz.ntmps38
 go_wp2_with fail
 refine HS.out.mono ?_
 rintro e w1 h1
 have H1:=Zaa h1
 obtain ⟨rfl,_⟩:=h1
 go_wp2
 go_ret
 exact ⟨rfl,HBl.out.trans H1.out.2.1,H1.out.2.2⟩
theorem Yfp (sv:Value) (w:World) (hst:Zuq w sv 1048576) (hT:TabAt w.heap.size w) :
  Calls Tryz.prog 13 #[sv,.int .i64 8,.int .i64 8] w fun e w'=>e = .returned (.int .i64 (-1))∧Below w.heap.size w w':=by
 obtain ⟨a,len,cap,rfl,hlen,hcells⟩:=hst
 have Hcells:=Zaa hcells
 have HT:=Zaa hT
 clear hcells hT
 go_enter Tryz.func13,Tryz.ntmps13
 go_wp2
 go_loopw [8] (fun i wr=>∃ (k:Nat) (ls:List (Value × Nat)) (sa:Option Addr) (sc:Nat) (ka:Option Addr) (kc:Nat),k≤len∧i = .int .i64 k∧Below w.heap.size w wr∧ls.length≤8 * k∧ListsAt wr w.heap.size w.heap.size (.slice none 0 0) ls sa sc ka kc) (fun i _=>len - (intOf i).toNat)
 case atStart=>exact ⟨0,[],none,0,none,0,Qm _,rfl,(Below.refl _ _).alloc (Qe _) _,Qe _,ListsAt.nil (heap_alloc_new w _)⟩
 case round =>
  obtain ⟨k,ls,sa,sc,ka,kc,hk,rfl,hbel,hes,hL⟩:=hrel
  have hsz:=Zac hL.box
  have HLw:=Zaa hL
  have Hbel:=Zaa hbel
  clear hL
  by_cases hlt:k<len
  ·obtain ⟨b,off,kd,n,m,p,q,x,rfl,hbl,d0,d1,d2,d3,d4,d5,hp,hq,hx,hn,hm⟩:=Hcells.out k hlt
   have c0:wr.cell? ⟨b,off+k * 6,none⟩=some (.int .i64 kd):=(hbel.cell (p:=⟨b,off+k * 6,none⟩) hbl).trans d0
   have c1:wr.cell? ⟨b,off+k * 6+1,none⟩=some (.int .i64 n):=(hbel.cell (p:=⟨b,off+k * 6+1,none⟩) hbl).trans d1
   have c2:wr.cell? ⟨b,off+k * 6+2,none⟩=some (.int .i64 m):=(hbel.cell (p:=⟨b,off+k * 6+2,none⟩) hbl).trans d2
   have c3:wr.cell? ⟨b,off+k * 6+3,none⟩=some (.string p):=(hbel.cell (p:=⟨b,off+k * 6+3,none⟩) hbl).trans d3
   have c4:wr.cell? ⟨b,off+k * 6+4,none⟩=some (.string q):=(hbel.cell (p:=⟨b,off+k * 6+4,none⟩) hbl).trans d4
   have c5:wr.cell? ⟨b,off+k * 6+5,none⟩=some (.string x):=(hbel.cell (p:=⟨b,off+k * 6+5,none⟩) hbl).trans d5
   have hE1:Ext wr (wr.alloc (.cells #[.int .i64 kd,.int .i64 n,.int .i64 m,.string p,.string q,.string x] 78)):=(Ext.of (by repeat' (first | with_reducible(first|exact Qx _ _|apply Kept.drew|apply Kept.drewN|apply Qz|refine Qy ?_ ?_ _)|exact fun h=>absurd h (by simp <;> omega))))
   have HL1:=Zaa (HLw.out.ext hE1)
   have HB1:=Zaa (hbel.trans (hE1.mono (by omega)))
   clear d0 d1 d2 d3 d4 d5 hE1 hbel hn hm
   by_cases hkd:kd=8
   ·subst hkd
    have HS:=Zaa (Yfo _ w.heap.size w.heap.size _ ls sa sc ka kc HL1.out (Qe _) (by omega) n m p q x hp hq hx (Lib.TabBelow.on HT.out HB1.out))
    clear hp hq hx
    go_wp2_with fail
    refine HS.out.mono ?_
    rintro e w1 ⟨rfl,hb1,ls1,sa1,sc1,ka1,kc1,hes1,hL1⟩
    have Hb1:=Zaa (HB1.out.trans hb1)
    have hsz1:=Zac hL1.box
    have HL2:=Zaa (Ycm w1 w.heap.size w.heap.size _ ls1 sa1 sc1 ka1 kc1 hL1 (by omega) w.heap.size (Lib.TabBelow.on HT.out Hb1.out) (by omega))
    have HLw1:=Zaa hL1
    clear hb1 hL1 c0 c1 c2 c3 c4 c5
    go_wp2_with fail
    refine HL2.out.mono ?_
    rintro e w2 ⟨rfl,hE2⟩
    have HE2:=Zaa hE2
    clear hE2
    go_wp2
    go_roundw
    case rel=>exact ⟨k+1,ls1,sa1,sc1,ka1,kc1,by omega,by go_num,Hb1.out.trans (HE2.out.mono (by omega)),by omega,HLw1.out.ext HE2.out⟩
    case measure=>simp [intOf]; omega
   ·by_cases hlo:(8:Int)≤kd
    ·have h2:¬ kd≤(8:Int):=by omega
     clear hkd hp hq hx
     go_wp2
     go_roundw
     case rel=>exact ⟨k+1,ls,sa,sc,ka,kc,by omega,by go_num,HB1.out,by omega,HL1.out⟩
     case measure=>simp [intOf]; omega
    ·clear hkd hp hq hx
     go_wp2
     go_roundw
     case rel=>exact ⟨k+1,ls,sa,sc,ka,kc,by omega,by go_num,HB1.out,by omega,HL1.out⟩
     case measure=>simp [intOf]; omega
  ·clear hbel
   go_wp2
   go_ret
   exact ⟨rfl,Hbel.out⟩
theorem Ycx (sv:Value) (w:World) (hst:Zuq w sv 1048576) (hT:TabAt w.heap.size w) :
  Calls Tryz.prog 8 #[sv] w fun e w'=>e = .returned (.bool true)∧Below w.heap.size w w':=by
 have HU:=Zaa (Yfp sv w hst hT)
 clear hst hT
 go_enter Tryz.func8,Tryz.ntmps8
 go_wp2_with fail
 refine HU.out.mono ?_
 rintro e w1 ⟨rfl,hb1⟩
 have Hb1:=Zaa hb1
 clear hb1
 go_wp2
 go_ret
 exact ⟨rfl,Hb1.out⟩
end Go.Proofs.YtlmjilpjmgjjcaaGreatDoor
namespace Go.Proofs.YtlmjilpjmgjjcaaGreatDoor
open Go.ChangeShapes Go.WideShapes Go.ChangeAt Go.WideMaps Go.WideElems Go.RowKit
theorem Yfq {H:Type} (d:DataW H):1≤Rows.uptoBulk d:=by
 cases d with
 | lit l=>cases l <;> simp [Rows.uptoBulk]
 | nil=>simp [Rows.uptoBulk]
 | ptr d=>simp [Rows.uptoBulk]
 | slice elems spare=>simp [Rows.uptoBulk]
 | agg parts=>simp [Rows.uptoBulk]
 | iface t d=>simp [Rows.uptoBulk]
 | map entries=>simp [Rows.uptoBulk]
 | held h=>simp [Rows.uptoBulk]
theorem Yfr {H:Type} (l:List (DataW H)):l.length≤Rows.uptoBulkAll l:=by
 induction l with
 | nil=>simp [Rows.uptoBulkAll]
 | cons x r ih=>have:=Yfq x; simp only [Rows.uptoBulkAll,Qf]; omega
theorem Zoy {H:Type} {enc:TypeId × Value→H} {W:World} {base n':Nat} {spare:Nat→Bool} {held:Bool} {a:Addr} {cs:List Value} {x:DataW H × List MemPlace} {i:Nat} (hcells:∀ i,i<6→W.cell? (a.add i)=cs[i]?) (hlen:cs.length=6) (hi:i<6)
  (h:DataW.trod enc Tryz.prog W base spare held n' 3 ((cs.drop i).take (Tryz.prog.cellsOf 3))=some x):∃ k:Int,W.cell? (a.add i)=some (.int .i64 k)∧Yfa k:=by
 obtain ⟨s,h1,_,h3⟩:=DataW.trod_int Tryz.underlying3 h
 rw [Zwh] at h1
 refine ⟨s,?_,?_⟩
 ·rw [hcells i hi]
  have:=congrArg (fun l:List Value=>l[0]?) h1
  simpa using this
 ·have h4:(decide (IntKind.min .i64≤s) && decide (s≤IntKind.max .i64))=true:=h3
  rw [Bool.and_eq_true,decide_eq_true_eq,decide_eq_true_eq,show IntKind.min .i64 = -9223372036854775808 from rfl,show IntKind.max .i64=9223372036854775807 from rfl] at h4
  unfold Yfa
  omega
set_option maxRecDepth 100000 in
theorem Yfs {H:Type} {enc:TypeId × Value→H} {W:World} {a0:Option Addr} {len cap:Nat} {d:DataW H} {ps:List MemPlace}
  (h:DataW.Trod enc Tryz.prog W 0 (fun _=>true) true 22 (.slice a0 len cap) d ps) (hb:Rows.uptoBulk d≤1048576):Zuq W (.slice a0 len cap) 1048576:=by
 obtain ⟨fuel,hf⟩:=h
 rcases Deep.open_slice Tryz.underlying22 hf with ⟨hcs,_⟩ | ⟨a,l,c,m,n,D,Pl,hcs,_,hl,hm,hmm,hx,hall⟩
 ·simp [Value.cells] at hcs
  obtain ⟨rfl,rfl,rfl⟩:=hcs
  exact ⟨none,0,0,rfl,by decide,fun k hk=>absurd hk (by omega)⟩
 ·simp [Value.cells] at hcs
  obtain ⟨rfl,rfl,rfl⟩:=hcs
  have hlen:len≤1048576:=by
   have hd:d = .slice ((List.range len).map D) ((List.range (m - len)).map fun j=>D (len+j)):=congrArg Prod.fst hx
   rw [hd] at hb
   have h1:=Yfr ((List.range len).map D)
   simp only [Rows.uptoBulk] at hb
   rw [Ql,List.length_range] at h1
   omega
  refine ⟨some a,len,cap,rfl,hlen,fun k hk => ?_⟩
  obtain ⟨cs,hcells,htrod⟩:=hall k (by rw [hmm]; simp; omega)
  rw [Zsn] at hcells
  obtain ⟨hb,hlen,hcell⟩:=World.cells?_some hcells
  obtain ⟨xs,n',_,_,hlen2,hxl,hfld⟩:=DataW.trod_struct Tryz.underlying78 htrod
  have hx:∀ i,i<6→∃ x,xs[i]?=some x:=fun i hi=>⟨_,Qb (by rw [hxl]; exact hi)⟩
  obtain ⟨x0,e0⟩:=hx 0 (by omega)
  obtain ⟨x1,e1⟩:=hx 1 (by omega)
  obtain ⟨x2,e2⟩:=hx 2 (by omega)
  obtain ⟨x3,e3⟩:=hx 3 (by omega)
  obtain ⟨x4,e4⟩:=hx 4 (by omega)
  obtain ⟨x5,e5⟩:=hx 5 (by omega)
  obtain ⟨k0,q0⟩:=Yez hcell hlen (i:=0) (by omega) ((hfld 0 _ rfl).trans e0)
  obtain ⟨k1,q1,r1⟩:=Zoy hcell hlen (i:=1) (by omega) ((hfld 1 _ rfl).trans e1)
  obtain ⟨k2,q2,r2⟩:=Zoy hcell hlen (i:=2) (by omega) ((hfld 2 _ rfl).trans e2)
  obtain ⟨s3,q3,z3⟩:=Zqk hcell hlen (i:=3) (by omega) ((hfld 3 _ rfl).trans e3)
  obtain ⟨s4,q4,z4⟩:=Zqk hcell hlen (i:=4) (by omega) ((hfld 4 _ rfl).trans e4)
  obtain ⟨s5,q5,z5⟩:=Zqk hcell hlen (i:=5) (by omega) ((hfld 5 _ rfl).trans e5)
  have hblk:a.block<W.heap.size:=by
   have:=World.block_lt_of_cell? W _ q1
   rw [Deep.add_add] at this
   simpa [Addr.add] using this
  have hsp:a.spot=none:=by
   obtain ⟨cs',hcells',_⟩:=hall 0 (by rw [hmm]; simp; omega)
   rw [Zsn] at hcells'
   obtain ⟨_,hlen',hcell'⟩:=World.cells?_some hcells'
   have h1:=hcell' 0 (by omega)
   rw [Qb (by omega)] at h1
   have h2:=Ycj h1
   simpa [Addr.add] using h2
  simp only [Deep.add_add] at q0 q1 q2 q3 q4 q5
  obtain ⟨b,o,sp⟩:=a
  simp only at hsp
  subst hsp
  refine ⟨b,o,k0,k1,k2,s3,s4,s5,rfl,hblk,?_,?_,?_,?_,?_,?_,z3,z4,z5,r1,r2⟩
  ·simpa using Zfn q0 rfl
  ·simpa [Nat.add_assoc] using Zfn q1 rfl
  ·simpa [Nat.add_assoc] using Zfn q2 rfl
  ·simpa [Nat.add_assoc] using Zfn q3 rfl
  ·simpa [Nat.add_assoc] using Zfn q4 rfl
  ·simpa [Nat.add_assoc] using Zfn q5 rfl
theorem Yft:(Rows.laid_internal_strconv_uint64pow10:DataW Unit)=Lib.tabData .u64 Lib.pow10Tab:=by kernel_rfl
theorem Yjc {W:World} (h:laidMet Tryz.prog Rows.allsUptoRow.laid W):Lib.TabIs Tryz.prog W "internal/strconv.uint64pow10" .u64 Lib.pow10Tab:=by
 have h1:laidMet Tryz.prog [("internal/strconv.uint64pow10",Rows.laid_internal_strconv_uint64pow10)] W:=h.tail.tail
 rw [Yft] at h1
 exact Lib.tabIs_of_head (g:=0) (t:=258) (e:=209) (n:=20) (by kernel_rfl) (by kernel_rfl) (by kernel_rfl) (by kernel_rfl) (by kernel_rfl) (by kernel_rfl) h1
theorem Ycy (os:Os) (args:Array Value):laidMetH Tryz.prog Rows.allsUptoRow.laid ((World.doorLaid Tryz.prog 400 os).forCall (fun _ _=>0) ⟨#[],args,[]⟩).memory :=
 laidMetH_of_parts3 (fuel:=8) (laidMet_of_run' 8 (by kernel_rfl) (by kernel_rfl)) (by kernel_rfl) (by kernel_rfl)
theorem Zze (os:Os) {H:Type} (enc:TypeId × Value→H):DataW.whole enc Tryz.prog ((World.doorLaid Tryz.prog 400 os).forCall (fun _ _=>0) ⟨#[],#[.slice none 0 0],[]⟩).memory Tryz.f8.params.toList Rows.allsSpec.vars false #[Value.slice none 0 0].toList 8=some ([.nil],[],[]):=by kernel_rfl
set_option maxRecDepth 100000 in
theorem Zva (os:Os) (started:os.Started) (H:Type) (enc:TypeId × Value→H) (F:Stop.Interp) :
  ReturnsInHanded {} Tryz.checked os 8 .any ((Rows.OpenSpec.upto Rows.allsSpec).preRow enc Tryz.prog Tryz.f8 Rows.allsUptoRow.domain false Rows.allsUptoRow.laid) (((Rows.OpenSpec.upto Rows.allsSpec).at F).post enc Tryz.prog Tryz.f8 false true false false):=by
 have hok:Input.okWideB Tryz.prog ((World.doorLaid Tryz.prog 400 os).forCall (fun _ _=>0) ⟨#[],#[.slice none 0 0],[]⟩) 8 ⟨#[],#[.slice none 0 0],[]⟩=true:=by kernel_rfl
 refine returnsInHanded_of_row (C:=Tryz.checked) (s:=Rows.OpenSpec.upto Rows.allsSpec) own started (by kernel_rfl) Tryz.func8
  ⟨World.doorLaid Tryz.prog 400 os,fun _ _=>0,⟨#[],#[.slice none 0 0],[]⟩,rfl,World.shaped_of_RefB (by kernel_rfl) (by kernel_rfl),(Input.okWide_of_okWideB (base:=0) hok).1,(Input.okWide_of_okWideB hok).2,
   OpenSpec.preRow_of_cond 8 (Zze os enc) (by kernel_rfl) (fun k hk=>by cases hk; kernel_rfl) (by kernel_rfl) (Ycy os _),by
    simp only [Assume.holds]
    exact ⟨by simp,by simp,fun _=>Modest.zero,by simp,by simp⟩⟩ ?_
 intro W base args ds gs before hval0 hW _ hcond _ hL _ _
 have hval:∀ (j:Nat) t v,Tryz.f8.params[j]?=some t→args[j]?=some v→Value.okWide Tryz.prog W .any base t v:=hval0
 have hbk:Rows.uptoBulkAll (ds++gs)≤1048576:=of_decide_eq_true (hcond _ rfl)
 have hW':=hW
 obtain ⟨p,q,hA0,hV,rfl,hfz,hnd⟩:=hW
 have hA:DataW.TrodAll enc Tryz.prog W 0 (fun _=>true) true Tryz.f8.params.toList args.toList ds p:=hA0
 rw [Tryz.params8] at hA hval
 obtain ⟨v0,d0,rfl,rfl,h0⟩:=trodAll_one hA
 obtain ⟨rfl,rfl⟩:=trodVars_none hV
 have lt0:∀ x ∈ p,x.block<W.heap.size:=by obtain ⟨m,hm⟩:=h0; exact DataW.trod_lt m _ _ _ hm
 obtain ⟨a0,len0,cap0,rfl⟩:=okWide_slice Tryz.underlying22 (hval 0 22 v0 rfl rfl)
 have hst:=Yfs h0 (by simp only [Qs,Rows.uptoBulkAll] at hbk; omega)
 clear hA0 hval0
 have hTab:Lib.TabIs Tryz.prog W "internal/strconv.uint64pow10" .u64 Lib.pow10Tab:=Yjc hL
 refine (Ycx _ W hst (Lib.tabBelow_of_tabIs hTab)).mono fun e W' ⟨he,bel⟩ => ?_
 subst he
 exact ⟨_,rfl,_,_,_,[],_,[],hW',trodAll_mk1 (shut_bool Tryz.underlying4 _),trodAll_mk1 (Below.trod Yhw (by kernel_rfl) (of_decide_eq_true (by kernel_rfl)) h0 bel lt0),rfl,bel.frame _,fun h=>by cases h⟩
theorem Yfu:Rows.AllsUptoSaid :=
 OpenClaim.holds_of_cond 8 Tryz.f8 rfl rfl rfl rfl rfl rfl rfl ⟨rfl,rfl,rfl,rfl,rfl⟩ rfl rfl rfl rfl rfl (by kernel_rfl) Tryz.func8 (by kernel_rfl)
  (of_decide_eq_true (by kernel_rfl)) (by unfold Func.isWrapper; first | (rw [if_pos (by decide +kernel)]; kernel_rfl) | (rw [if_neg (by decide +kernel)]; exact ⟨rfl,rfl⟩))
  (fun os started H enc _ F=>by rw [OpenClaim.pre_eq_preRow]; exact Zva os started H enc F)
theorem alls_hold:Rows.AllsUptoCardSaid :=
 Claim7.holds_tied_plain_at .later [] [.data,.data,.data] true Rows.allsUptoCard.stood.harness false
  Yfu (fun _ h=>by cases h) (by kernel_rfl) (fun _ h=>by cases h) allsUpto_row_tie rfl ⟨rfl,rfl⟩ (by kernel_rfl) rfl
  (fun f fn hf hfn=>by
   obtain rfl:f=8:=Option.some.inj ((show Tryz.prog.funcNamed Tryz.f8.name=some 8 by kernel_rfl).symm.trans hf) |>.symm
   obtain rfl:fn=Tryz.f8:=(Option.some.inj (Tryz.func8.symm.trans hfn)).symm
   exact ⟨by kernel_rfl,fun j t ht=>by
    rw [Tryz.params8] at ht
    have hm:t ∈ [22]:=by simpa using Array.mem_of_getElem? ht
    have hall:([22].all fun u => !Tryz.prog.wantsStandIn u)=true:=by kernel_rfl
    exact (show Tryz.prog.wantsStandIn t=false by simpa using List.all_eq_true.1 hall t hm)⟩)
  (by kernel_rfl)
end Go.Proofs.YtlmjilpjmgjjcaaGreatDoor
