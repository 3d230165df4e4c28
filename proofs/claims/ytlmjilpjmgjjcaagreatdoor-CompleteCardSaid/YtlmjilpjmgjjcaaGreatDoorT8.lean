/-
  PROVED HERE: what the program's 'proof.follow' gives (the conditions stand in the statement).
-/
import Derived.Test.YtlmjilpjmgjjcaaGreatDoorT7
set_option linter.unusedSimpArgs false
set_option linter.unusedVariables false
set_option maxRecDepth 10000
set_option maxHeartbeats 4000000
namespace Go.Proofs.YtlmjilpjmgjjcaaGreatDoor
open Go.RowKit
theorem Zfy {w:World} {n:Nat} (h:w.heap.size=n) (o:Obj):(w.alloc o).heap[n]?=some o:=by subst h; exact heap_alloc_new w o
structure TopB (w:World) (B2:Nat) (hv bv vv:Value) (ls:List (List Sym)) (j:Nat) (gv v2:Value) (ys:List Value) (wr:World):Prop where
 ext:Ext w wr
 cls:wr.heap[w.heap.size]?=some (.cells #[hv,bv,vv] 107 (0,0))
 res:NB wr (w.heap.size+1) (.slice none 0 0) (.slice none 0 0) (.slice none 0 0) 0
 box:NB wr (w.heap.size+2) gv v2 (.slice none 0 0) 0
 goals:TermsIn wr gv ls
 low:∀ j,gv.ownBlock=some j→j<B2
 b1:w.heap.size≤B2
 b2:B2≤wr.heap.size
 vals:TermsAt wr B2 v2 ((List.range j).map vr) ys
theorem TopB.app {w wr w2:World} {B2:Nat} {hv bv vv gv v2 v3:Value} {ls:List (List Sym)} {j:Nat} {ys:List Value} (h:TopB w B2 hv bv vv ls j gv v2 ys wr)
  (hap:Appended (wr.alloc (.cells #[.string ⟨#[]⟩,.int .i64 j,.int .i64 0] 133)) B2 105 1 v2 (j+1) (ys++[.slice (some ⟨wr.heap.size,0,none⟩) 1 1]) v3 w2):TopB w B2 hv bv vv ls (j+1) gv v3 (ys++[.slice (some ⟨wr.heap.size,0,none⟩) 1 1]) (w2.setCell ⟨w.heap.size+2,1,none⟩ v3):=by
 obtain ⟨h1,h2,h3,h4,h5,h6,h7,h8,h9⟩:=h
 have hE:Ext wr (wr.alloc (.cells #[.string ⟨#[]⟩,.int .i64 j,.int .i64 0] 133)):=(Ext.of (by repeat' (first | with_reducible(first|exact Qx _ _|apply Kept.drew|apply Kept.drewN|apply Qz|refine Qy ?_ ?_ _)|exact fun h=>absurd h (by simp <;> omega))))
 have c2:=Zav h2 (.cells #[.string ⟨#[]⟩,.int .i64 j,.int .i64 0] 133)
 have c3:=Zav h3 (.cells #[.string ⟨#[]⟩,.int .i64 j,.int .i64 0] 133)
 have c4:=Zav h4 (.cells #[.string ⟨#[]⟩,.int .i64 j,.int .i64 0] 133)
 have c9:=h9.ext hE
 have b2:=(hap.kept.block _ (Zab c2) (Zaf c9.owns (by decide) c2)).trans c2
 have b3:=(hap.kept.block _ (Zab c3) (Zaf c9.owns (by decide) c3)).trans c3
 have b4:=(hap.kept.block _ (Zab c4) (Zaf c9.owns (by decide) c4)).trans c4
 have hK:Kept (fun j=>j=w.heap.size+2) w2 (w2.setCell ⟨w.heap.size+2,1,none⟩ v3):=(Qx (only (w.heap.size+2)) w2).put 1 _
 have hlen:((List.range j).map vr).length=j:=by simp
 have ht:TermsAt w2 B2 v3 ((List.range (j+1)).map vr) (ys++[.slice (some ⟨wr.heap.size,0,none⟩) 1 1]):=by
  rw [List.range_succ,Qr]
  exact c9.snoc (by rw [hlen]; exact hap) (Ztr wr j)
 have hsz:=hap.kept.size
 have hbel:=hap.kept.below (B:=B2) (by simp; omega) (fun j hj=>(c9.owns.lt j hj).1)
 exact ⟨(h1.trans ((hE.mono h1.size).trans (hbel.mono h7))).setCell (p:=⟨w.heap.size+2,1,none⟩) (by simp) _,(hK.block _ (Zab b2) (by simp)).trans b2,(hK.block _ (Zab b3) (by simp)).trans b3,Zai b4 1 _,
  ((h5.ext hE).aside h6 c9.owns hap.kept).box b4 (by decide) (by decide) hK,h6,h7,by simp at hsz ⊢; omega,ht.box b4 (by decide) (by decide) hK⟩
def TopA (w:World) (hv bv vv:Value) (ls:List (List Sym)) (k:Nat) (gv:Value) (xs:List Value) (wr:World):Prop :=
 Ext w wr∧wr.heap[w.heap.size]?=some (.cells #[hv,bv,vv] 107 (0,0))∧NB wr (w.heap.size+1) (.slice none 0 0) (.slice none 0 0) (.slice none 0 0) 0∧NB wr (w.heap.size+2) gv (.slice none 0 0) (.slice none 0 0) 0∧TermsAt wr w.heap.size gv (ls.take k) xs
theorem TopA.ext {w wr w1:World} {hv bv vv gv:Value} {ls:List (List Sym)} {k:Nat} {xs:List Value} (h:TopA w hv bv vv ls k gv xs wr) (e:Ext wr w1):TopA w hv bv vv ls k gv xs w1:=by
 obtain ⟨h1,h2,h3,h4,h5⟩:=h
 exact ⟨h1.trans (e.mono h1.size),(e.block _ (Zab h2)).trans h2,(e.block _ (Zab h3)).trans h3,(e.block _ (Zab h4)).trans h4,h5.ext e⟩
theorem TopA.app {w w1 w2:World} {hv bv vv gv gv2 x:Value} {ls:List (List Sym)} {k:Nat} {l:List Sym} {xs:List Value} (h:TopA w hv bv vv ls k gv xs w1) (hl:ls[k]?=some l) (hx:WordAt w1 x l) (hap:Appended w1 w.heap.size 105 1 gv (k+1) (xs++[x]) gv2 w2):TopA w hv bv vv ls (k+1) gv2 (xs++[x]) (w2.setCell ⟨w.heap.size+2,0,none⟩ gv2):=by
 obtain ⟨h1,h2,h3,h4,h5⟩:=h
 have hkl:=(Qa.1 hl).1
 have hlen:(ls.take k).length=k:=by simp; omega
 have b2:=(hap.kept.block _ (Zab h2) (Zaf h5.owns (by decide) h2)).trans h2
 have b3:=(hap.kept.block _ (Zab h3) (Zaf h5.owns (by decide) h3)).trans h3
 have b4:=(hap.kept.block _ (Zab h4) (Zaf h5.owns (by decide) h4)).trans h4
 have hK:Kept (fun j=>j=w.heap.size+2) w2 (w2.setCell ⟨w.heap.size+2,0,none⟩ gv2):=(Qx (only (w.heap.size+2)) w2).put 0 _
 have ht:TermsAt w2 w.heap.size gv2 (ls.take (k+1)) (xs++[x]):=by
  rw [List.take_add_one,hl]
  exact h5.snoc (by rw [hlen]; exact hap) hx
 refine ⟨(h1.trans (hap.kept.below h1.size (fun j hj=>(h5.owns.lt j hj).1))).setCell (p:=⟨w.heap.size+2,0,none⟩) (by simp) _,(hK.block _ (Zab b2) (by simp)).trans b2,(hK.block _ (Zab b3) (by simp)).trans b3,Zai b4 0 _,ht.box b4 (by decide) (by decide) hK⟩
def Yjh (ls:List (List Sym)) (n:Nat) (w:World) (e:Ending) (w':World):Prop:=Ext w w'∧∃ g1 gc v1 vc,e = .returned (.agg #[.slice g1 ls.length gc,.slice v1 n vc,.slice none 0 0,.int .i64 n])∧TermsIn w' (.slice g1 ls.length gc) ls∧TermsIn w' (.slice v1 n vc) ((List.range n).map vr)
theorem Yev (w:World) (hv bv vv:Value) (ls:List (List Sym)) (ns:Names) (hh:∃ a n x,hv = .slice a n x) (hb:TermsIn w bv ls) (hns:w.ownsRow 0 9 1 vv ns.length (strs ns)) (hl:ls.length≤4000) (hn:ns.length≤4000) (hls:∀ l ∈ ls,TmOk l) :
  Calls Tryz.prog 51 #[.agg #[hv,bv,vv]] w (Yjh ls ns.length w):=by
 obtain ⟨ha,hn1,hc1,rfl⟩:=hh
 obtain ⟨us,hb⟩:=hb
 obtain ⟨ba,bcap,rfl⟩:=Zad hb.owns
 obtain ⟨na,ncap,rfl⟩:=Zad hns
 have Hb:=Zac hb
 have Hls:=Zac hls
 clear hb hns hls
 go_enter Tryz.func51,Tryz.ntmps51
 go_wp2
 go_loopg [10] (ls.length+1) (fun gk iv wr=>∃ (k:Nat) (gv:Value) (xs:List Value),iv = .int .i64 k∧k≤ls.length∧ls.length - k<gk∧TopA w (.slice ha hn1 hc1) (.slice ba ls.length bcap) (.slice na ns.length ncap) ls k gv xs wr)
 case atStart =>
  refine ⟨0,.slice none 0 0,[],by go_num,Qm _,by omega,(Ext.of (by repeat' (first | with_reducible(first|exact Qx _ _|apply Kept.drew|apply Kept.drewN|apply Qz|refine Qy ?_ ?_ _)|exact fun h=>absurd h (by simp <;> omega)))),Zav (Zav (heap_alloc_new w _) _) _,Zav ?_ _,?_,TermsAt.nil _ _⟩
  ·exact Zfy (by simp) _
  ·exact Zfy (by simp) _
 case round =>
  obtain ⟨k,gv,xs,rfl,hk,hgk,hA⟩:=hrel
  have hlk:(ls.take k).length=k:=by simp; omega
  have hrow:=hA.2.2.2.2.owns
  rw [hlk] at hrow
  obtain ⟨ra,rcap,rfl⟩:=Zad hrow
  have hsr:=hA.1.size
  have q2:=Zaa hA.2.1 2 _ rfl
  have q3:=Zab hA.2.1
  have n0:wr.cell? ⟨w.heap.size+2,0,none⟩=some (.slice ra k rcap):=Zaa hA.2.2.2.1 0 _ rfl
  have n1:=Zaa hA.2.2.2.1 1 _ rfl
  have n2:=Zaa hA.2.2.2.1 2 _ rfl
  have n3:=Zaa hA.2.2.2.1 3 _ rfl
  have nf:=fun i=>Zae hA.2.2.2.1 i
  have nl:=Zab hA.2.2.2.1
  have HA:=Zac hA
  clear hA hrow hlk
  by_cases hlt:k<ls.length
  ·obtain ⟨l,hs⟩:∃ l,ls[k]?=some l:=⟨_,Qb hlt⟩
   obtain ⟨x,hx,hxo⟩:=Hb.out.all _ l hs
   obtain ⟨xa,xcap,rfl⟩:=Zad hxo
   obtain ⟨g,cap',cur,he,_,hgb,_⟩:=Zaw Hb.out.owns (by omega)
   simp only [Value.slice.injEq] at he
   obtain ⟨rfl,_,rfl⟩:=he
   have hgw:=Zab hgb
   have hgr:g<wr.heap.size:=by omega
   have x0:wr.cell? ⟨g,k,none⟩=some (.slice xa l.length xcap):=(HA.out.1.cell (p:=⟨g,k,none⟩) hgw).trans (Zag Hb.out.owns _ _ hx)
   obtain ⟨_,o2,o3⟩:=Hls.out l (Qh hs)
   have HR:=Zhr wr.drew (.slice xa l.length xcap) l 0 (WordAt.ext hxo (HA.out.1.trans ⟨rfl,rfl,rfl,Qe _,fun _ _=>rfl⟩)) o2 o3 (by omega)
   rw [Yhr] at HR
   have HR:=Zac HR
   have Hs:=Zac hs
   clear hs hx hxo hgb o2 o3
   go_wp2_with fail
   have HA':TopA w (.slice ha hn1 hc1) (.slice (some ⟨g,0,none⟩) ls.length bcap) (.slice na ns.length ncap) ls k (.slice ra k rcap) xs wr.drew:=HA.out.ext ⟨rfl,rfl,rfl,Qe _,fun _ _=>rfl⟩
   refine Zeu (by kernel_rfl) [.rd 0 3 (fun _ => .pointer (some ⟨w.heap.size+2,0,none⟩)),.rd 0 2 (fun _ => .slice ra k rcap),.rd 0 3 (fun _ => .slice xa l.length xcap),.st 0,.st 1,.st 2,.rd 0 3 (fun _ => .pointer (some ⟨w.heap.size+2,0,none⟩)),.st 3] 4 6 (by kernel_rfl)
    (CallApp wr.drew w.heap.size l (.slice ra k rcap) k xs (fun z u=>∃ xs',TopA w (.slice ha hn1 hc1) (.slice (some ⟨g,0,none⟩) ls.length bcap) (.slice na ns.length ncap) ls (k+1) z xs' u)) rfl ?_ ?_
   ·refine ⟨⟨trivial,fun vs u _ hl hS => ?_⟩,⟨trivial,fun vs u _ hl hS => ?_⟩,⟨trivial,fun vs u _ hl hS => ?_⟩,⟨trivial,fun vs u hl hS => ?_⟩,⟨trivial,fun vs u hl hS => ?_⟩,⟨trivial,fun vs u hl hS => ?_⟩,⟨trivial,fun vs u _ hl hS => ?_⟩,⟨trivial,fun vs u hl hS => ?_⟩,trivial⟩
    ·simp [phAll,phA,pa,Ph.kd,Ph.val,Kd.val,go_sem]
    ·have t1:u.cell? ⟨w.heap.size+2,0,none⟩=some (.slice ra k rcap):=((hS.ext hl).cell (p:=⟨w.heap.size+2,0,none⟩) nl).trans n0
     simp [phAll,phA,pa,Ph.kd,Ph.val,Kd.val,go_sem,t1]
    ·simp [phAll,phA,pa,Ph.kd,Ph.val,Kd.val,go_sem]
    ·obtain rfl:=List.length_eq_zero_iff.1 hl
     have hu:u=wr.drew:=hS
     subst hu
     refine .call 74 #[.slice xa l.length xcap,.int .i64 0] _ (by simp [phAll,phA,pa,Ph.kd,Ph.val,Kd.val,go_sem]) (HR.out.mono ?_)
     rintro e u ⟨v,B,rfl,h⟩
     exact ⟨v,rfl,v,B,rfl,h⟩
    ·obtain ⟨x,rfl⟩:=List.length_eq_one_iff.1 hl
     have hS1:=hS
     obtain ⟨x',B',he,hB,hr,hE⟩:=hS1
     simp only [Ending.returned.injEq] at he
     subst he
     obtain ⟨xa1,xc1,rfl⟩:=Zad hr
     exact .value (.slice (some ⟨u.heap.size,0,none⟩) 1 1) (u.alloc (.cells #[.slice xa1 l.length xc1] 105)) (by simp [phAll,phA,pa,Ph.kd,Ph.val,Kd.val,go_sem]) ⟨u,hS,rfl,rfl⟩
    ·obtain ⟨x,y,rfl⟩:∃ x y,vs=[x,y]:=by
      match vs,hl with
      | [x,y],_=>exact ⟨x,y,rfl⟩
     obtain ⟨u1,hW,rfl,rfl⟩:=hS
     have hW1:=hW
     obtain ⟨x',B',he,hB,hr,hE⟩:=hW1
     simp only [Ending.returned.injEq] at he
     subst he
     obtain ⟨xa1,xc1,rfl⟩:=Zad hr
     have hrow:u1.ownsRow w.heap.size 105 1 (.slice ra k rcap) k xs:=by
      have:=(HA'.ext hE).2.2.2.2.owns
      rw [show (ls.take k).length=k by simp; omega] at this
      exact this
     have hsz:=hE.size
     obtain ⟨z,w',hrun,hap⟩:=Zgo (P:=Tryz.prog) u1 85 85 w.heap.size 105 Tryz.infoSyms Tryz.underlying85 rfl (by decide) (.slice ra k rcap) k xs hrow #[.slice xa1 l.length xc1] rfl (Zdm _ _ _) (by omega) (Qq hsr hsz)
     refine .value z w' (Zhq (.tmp 15) (.tmp 18) 85 rfl (by simp [phAll,phA,pa,Ph.kd,Ph.val,Kd.val,go_sem]) (by simp [phAll,phA,pa,Ph.kd,Ph.val,Kd.val,go_sem]) hrun) ⟨u1,hW,by simpa using hap⟩
    ·simp [phAll,phA,pa,Ph.kd,Ph.val,Kd.val,go_sem]
    ·obtain ⟨x,y,z,rfl⟩:∃ x y z,vs=[x,y,z]:=by
      match vs,hl with
      | [x,y,z],_=>exact ⟨x,y,z,rfl⟩
     obtain ⟨u1,hW,hap⟩:=hS
     obtain ⟨x',B',he,hB,hr,hE⟩:=hW
     simp only [Ending.returned.injEq] at he
     subst he
     obtain ⟨za,zc,rfl⟩:=Zad hap.owns
     have hA2:=(HA'.ext hE).app Hs.out (Zbd hr (Qm _)) hap
     have h4:=(HA'.ext hE).2.2.2.1
     have b4:=(hap.kept.block _ (Zab h4) (Zaf (HA'.ext hE).2.2.2.2.owns (by decide) h4)).trans h4
     have c4:=Zaa b4 0 _ rfl
     have f4:=Zae b4 0
     exact .skip _ (by simp [phAll,phA,pa,Ph.kd,Ph.val,Kd.val,go_sem,c4,f4]) ⟨_,hA2⟩
   ·rintro vs u hl hS
    obtain ⟨x,y,z,y',rfl⟩:∃ x y z y',vs=[x,y,z,y']:=by
     match vs,hl with
     | [x,y,z,y'],_=>exact ⟨x,y,z,y',rfl⟩
    obtain ⟨xs',hA2⟩:=hS
    simp only [phAll,phA,paAll,pa,Ph.kd,Ph.val,Kd.val,List.map_cons,List.map_nil,if_true,Act.put,List.setIfInBounds_toArray,List.set_cons_succ,List.set_cons_zero]
    have HA2:=Zac hA2
    clear hA2
    go_wp2
    go_roundg (ls.length - k)
    case measure=>omega
    case rel=>exact ⟨k+1,_,xs',by go_num,by omega,by omega,HA2.out⟩
  ·have hek:k=ls.length:=by omega
   subst hek
   have hB:TopB w wr.heap.size (.slice ha hn1 hc1) (.slice ba ls.length bcap) (.slice na ns.length ncap) ls 0 (.slice ra ls.length rcap) (.slice none 0 0) [] wr:=by
    obtain ⟨h1,h2,h3,h4,h5⟩:=HA.out
    rw [List.take_length] at h5
    exact ⟨h1,h2,h3,h4,h5.inn,fun j hj=>(h5.owns.lt j hj).2,h1.size,Qe _,TermsAt.nil _ _⟩
   have HB:=Zac hB
   obtain ⟨wo,hwo⟩:∃ x,x=wr:=⟨_,rfl⟩
   subst hwo
   clear HA hB
   go_wp2
   go_loopg [25] (ns.length+1) (fun gk iv wr=>∃ (j:Nat) (v2:Value) (ys:List Value),iv = .int .i64 j∧j≤ns.length∧ns.length - j<gk∧TopB w wo.heap.size (.slice ha hn1 hc1) (.slice ba ls.length bcap) (.slice na ns.length ncap) ls j (.slice ra ls.length rcap) v2 ys wr)
   case atStart=>exact ⟨0,.slice none 0 0,[],by go_num,Qm _,by omega,HB.out⟩
   case round =>
    clear q2 q3 n0 n1 n2 n3 nf nl HB
    obtain ⟨j,v2,ys,rfl,hj,hgj,hB⟩:=hrel
    have hrow:=hB.vals.owns
    rw [show ((List.range j).map vr).length=j by simp] at hrow
    obtain ⟨va,vcap,rfl⟩:=Zad hrow
    have hsr:=hB.ext.size
    have hb2:=hB.b2
    have q2:=Zaa hB.cls 2 _ rfl
    have q3:=Zab hB.cls
    have n0:=Zaa hB.box 0 _ rfl
    have n1:wr.cell? ⟨w.heap.size+2,1,none⟩=some (.slice va j vcap):=Zaa hB.box 1 _ rfl
    have n2:=Zaa hB.box 2 _ rfl
    have n3:=Zaa hB.box 3 _ rfl
    have nf:=fun i=>Zae hB.box i
    have nl:=Zab hB.box
    have HB:=Zac hB
    have Hrow:Hid ((wr.alloc (.cells #[.string ⟨#[]⟩,.int .i64 j,.int .i64 0] 133)).ownsRow wo.heap.size 105 1 (.slice va j vcap) j ys):=Zal hrow (fun i hi=>Below.heap_alloc _ _ _ (hrow.lt i hi).2)
    clear hB hrow
    by_cases hlt:j<ns.length
    ·go_wp2_with (at_builtin; go_loud (refine Zam (wr.alloc (.cells #[.string ⟨#[]⟩,.int .i64 j,.int .i64 0] 133)) rfl (.tmp 29) (.tmp 33) 85 rfl wo.heap.size 105 Tryz.infoSyms Tryz.underlying85 rfl (by decide) (.slice va j vcap) j ys rfl Hrow.out #[.slice (some ⟨wr.heap.size,0,none⟩) 1 1] (N:=wr.heap.size+1) rfl (by simp) rfl (Zdm _ _ _) ?_ ?_ ?_))
     ·omega
     ·simp; omega
     intro v3 w2 hap
     obtain ⟨a3,c3,rfl⟩:=Zad hap.owns
     have hB2:=HB.out.app hap
     have b4:w2.heap[w.heap.size+2]?=some (.cells #[.slice ra ls.length rcap,.slice va j vcap,.slice none 0 0,.int .i64 0] 87 (0,0)):=by
      have h4:=Zav HB.out.box (.cells #[.string ⟨#[]⟩,.int .i64 j,.int .i64 0] 133)
      exact (hap.kept.block _ (Zab h4) (Zaf Hrow.out (by decide) h4)).trans h4
     have m1:=Zaa b4 1 _ rfl
     have mf:=fun i=>Zae b4 i
     have ml:=Zab b4
     have HB2:=Zac hB2
     clear hap hB2 b4
     go_wp2
     go_roundg (ns.length - j)
     case measure=>omega
     case rel=>exact ⟨j+1,_,_,by go_num,by omega,by omega,HB2.out⟩
    ·have hej:j=ns.length:=by omega
     subst hej
     have r0:=Zaa HB.out.res 0 _ rfl
     have r1:=Zaa HB.out.res 1 _ rfl
     have r2:=Zaa HB.out.res 2 _ rfl
     have r3:=Zaa HB.out.res 3 _ rfl
     have rf:=fun i=>Zae HB.out.res i
     have rl:=Zab HB.out.res
     go_wp2
     refine bodyPost_ret (v := .agg #[.slice ra ls.length rcap,.slice va ns.length vcap,.slice none 0 0,.int .i64 ns.length]) (by simp [results,Tryz.results51,go_sem,r0,r1,r2,r3,rf,rl]) rfl ?_
     have hE:∀ x0 x1 x2 x3 x,Ext w (((((wr.setCell ⟨w.heap.size+2,3,none⟩ x).setCell ⟨w.heap.size+1,0,none⟩ x0).setCell ⟨w.heap.size+1,1,none⟩ x1).setCell ⟨w.heap.size+1,2,none⟩ x2).setCell ⟨w.heap.size+1,3,none⟩ x3):=fun x0 x1 x2 x3 x =>
      ((((HB.out.ext.setCell (p:=⟨w.heap.size+2,3,none⟩) (by simp) _).setCell (p:=⟨w.heap.size+1,0,none⟩) (by simp) _).setCell (p:=⟨w.heap.size+1,1,none⟩) (by simp) _).setCell (p:=⟨w.heap.size+1,2,none⟩) (by simp) _).setCell (p:=⟨w.heap.size+1,3,none⟩) (by simp) _
     have hK1:∀ x,Kept (fun j=>j=w.heap.size+2) wr (wr.setCell ⟨w.heap.size+2,3,none⟩ x):=fun x=>(Qx (only (w.heap.size+2)) wr).put 3 _
     have hK2:∀ (y:World) x0 x1 x2 x3,Kept (fun j=>j=w.heap.size+1) y ((((y.setCell ⟨w.heap.size+1,0,none⟩ x0).setCell ⟨w.heap.size+1,1,none⟩ x1).setCell ⟨w.heap.size+1,2,none⟩ x2).setCell ⟨w.heap.size+1,3,none⟩ x3):=fun y x0 x1 x2 x3=>((((Qx (only (w.heap.size+1)) y).put 0 _).put 1 _).put 2 _).put 3 _
     have hr1:∀ x,(wr.setCell ⟨w.heap.size+2,3,none⟩ x).heap[w.heap.size+1]?=some (.cells #[.slice none 0 0,.slice none 0 0,.slice none 0 0,.int .i64 0] 87 (0,0)):=fun x=>((hK1 x).block _ rl (by simp)).trans HB.out.res
     have hv:=HB.out.vals.inn
     exact ⟨hE _ _ _ _ _,_,_,_,_,rfl,(HB.out.goals.box HB.out.box (by decide) (by decide) (hK1 _)).box (hr1 _) (by decide) (by decide) (hK2 _ _ _ _ _),(hv.box HB.out.box (by decide) (by decide) (hK1 _)).box (hr1 _) (by decide) (by decide) (hK2 _ _ _ _ _)⟩
theorem Zrx (s:ByteArray) (w:World) (hl:s.size≤800) :
  Calls Tryz.prog 72 #[.string s] w fun e w'=>Below w.heap.size w w'∧(((runs s false).1≠0∧e = .returned (.tuple #[.slice none 0 0,.agg #[.int .i64 (runs s false).1,.int .i64 (runs s false).2.1]])) ∨
   ((runs s false).1=0∧∃ v B Sa Sb xs,e = .returned (.tuple #[v,.agg #[.int .i64 0,.int .i64 0]])∧CCRow w' B Sa Sb v (runs s false).2.2.clauses xs∧w.heap.size≤B)):=by
 obtain ⟨R,hR⟩:∃ R,R=runs s false:=⟨_,rfl⟩
 have hA:=Zmc ((w.alloc (.cells #[.int .i64 0,.int .i64 0] 91)).alloc (.cells (Zcv (st0 false) nilV) 169)) _ _ (st0 false) s (Ygc (w.alloc (.cells #[.int .i64 0,.int .i64 0] 91)) false) (Zzv false) (by omega)
 rw [show runT s.size (toks s.data.toList 0) (st0 false)=R from hR.symm] at hA
 rw [show (w.alloc (.cells #[.int .i64 0,.int .i64 0] 91)).heap.size=w.heap.size+1 from by simp] at hA
 have HA:=Zac hA
 rw [← hR]
 clear hR hA
 go_enter Tryz.func72,Tryz.ntmps72
 go_wp2_with fail
 refine HA.out.mono ?_
 rintro e w2 ⟨rfl,hr,hb⟩
 have hF:FaultAt w2 w.heap.size 0 0:=(hb.block w.heap.size (by omega)).trans (Zav (heap_alloc_new w _) _)
 have hB:Below w.heap.size w w2:=((Below.refl _ w).alloc (Qe _) _).trans ((((Below.refl _ _).alloc (by simp) _)).trans (hb.mono (by omega)))
 obtain ⟨V,Sa,Sb,vs,xs,h⟩:=hr
 have hrb:=Zab h.blk
 obtain ⟨c0,c1,c2,c3,c4,c5,c6,c7,c8⟩:=h.opens.facts
 have cf:=fun i=>Zae h.blk i
 obtain ⟨ca,ccap,hvc⟩:=Zad h.rest.cls.1
 rw [hvc] at c8
 obtain ⟨hT4,f0,f1,ff⟩:=hF.cells
 have HF:=Zac hF
 have HB:=Zac hB
 have HC:=Zac h.rest.cls
 have Hvc:=Zac hvc
 clear hF hB h hvc hb c0 c1 c2 c3 c4 c5 c6 c7
 by_cases hc:R.1=0
 ·have b0:((R.1:Int) != 0)=false:=by rw [hc]; rfl
  have Hc:=Zac hc
  clear hc
  go_wp2
  refine bodyPost_ret (v := .tuple #[.slice ca R.2.2.clauses.length ccap,.agg #[.int .i64 0,.int .i64 0]]) (by simp [results,Tryz.results72,go_sem,f0,f1,ff,hT4]) rfl ?_
  refine ⟨?_,Or.inr ⟨Hc.out,_,w.heap.size+1,Sa,Sb,xs,rfl,?_,by omega⟩⟩
  ·exact ((HB.out.setCell (p:=⟨w.heap.size,0,none⟩) (Qe _) _).setCell (p:=⟨w.heap.size,1,none⟩) (Qe _) _).alloc (by simp; omega) _
  ·rw [← Hvc.out]
   exact Ydt HC.out ((((Qx (only w.heap.size) w2).put 0 _).put 1 _).alloc _) (fun k cur T fr hk hb=>by
    have hk:k=w.heap.size:=hk
    rw [hk,HF.out] at hb
    simp only [Qo,Obj.cells.injEq] at hb
    rw [← hb.2.1]
    decide)
 ·have b0:((R.1:Int) != 0)=true:=by rw [bne_iff_ne]; omega
  have Hc:=Zac hc
  clear hc
  go_wp2_with fail
  go_region
  all_goals
   go_wp2
   refine bodyPost_ret (v := .tuple #[.slice none 0 0,.agg #[.int .i64 R.1,.int .i64 R.2.1]]) (by simp [results,Tryz.results72,go_sem,f0,f1,ff,hT4]) rfl ?_
   refine ⟨?_,Or.inl ⟨Hc.out,rfl⟩⟩
   exact (((HB.out.setCell (p:=⟨w.heap.size,0,none⟩) (Qe _) _).setCell (p:=⟨w.heap.size,1,none⟩) (Qe _) _).alloc (by simp; omega) _).drew
def Yew (p:ByteArray) (w:World) (e:Ending) (w':World):Prop:=Ext w w'∧((Zdb p=none∧∃ er pl:Nat,er≠0∧e = .returned (.tuple #[.slice none 0 0,.agg #[.int .i64 er,.int .i64 pl]])) ∨
 (∃ cs a c xs,Zdb p=some cs∧e = .returned (.tuple #[.slice a cs.length c,.agg #[.int .i64 0,.int .i64 0]])∧ProgIn w' (.slice a cs.length c) cs xs∧∀ j,(Value.slice a cs.length c).ownBlock=some j→w.heap.size≤j))
theorem Ybw (p:ByteArray) (w:World) (hp:p.size≤maxLen):Calls Tryz.prog 72 #[.string p] w (Yew p w):=by
 by_cases hb:800<p.size
 ·refine (Zox p w hp hb).mono ?_
  rintro e w' ⟨rfl,hE⟩
  exact ⟨hE,Or.inl ⟨by unfold Zdb; rw [if_pos hb],1,0,by omega,rfl⟩⟩
 ·refine (Zrx p w (by omega)).mono ?_
  rintro e w' ⟨hE,⟨hne,rfl⟩ | ⟨h0,v,B,Sa,Sb,xs,rfl,hrow,hB⟩⟩
  ·obtain ⟨r1,_,_⟩:=Zdh p false
   refine ⟨hE,Or.inl ⟨?_,_,_,hne,rfl⟩⟩
   unfold Zdb
   rw [if_neg hb,if_pos (by rw [← r1]; exact hne)]
  ·obtain ⟨r1,_,_⟩:=Zdh p false
   obtain ⟨cs,h1,h2⟩:=Zrj p (by omega) h0
   have hpo:Zdb p=some cs:=by
    unfold Zdb
    rw [if_neg hb,if_neg (by rw [← r1]; simp [h0]),h1]
   rw [h2] at hrow
   obtain ⟨a,c,rfl⟩:=Zad hrow.1
   exact ⟨hE,Or.inr ⟨cs,a,c,xs,hpo,rfl,hrow.prog,fun j hj=>Qq hB (hrow.1.lt j hj).1⟩⟩
def Yhs (q:ByteArray) (w:World) (e:Ending) (w':World):Prop:=Ext w w'∧((Zex q=none∧∃ er pl:Nat,er≠0∧e = .returned (.tuple #[.agg #[.slice none 0 0,.slice none 0 0,.slice none 0 0],.agg #[.int .i64 er,.int .i64 pl]])) ∨
 (∃ a h1 h2 h3 b1 bc n1 nc,Zex q=some a∧e = .returned (.tuple #[.agg #[.slice h1 h2 h3,.slice b1 a.1.length bc,.slice n1 a.2.length nc],.agg #[.int .i64 0,.int .i64 0]])∧TermsIn w' (.slice b1 a.1.length bc) a.1∧w'.ownsRow 0 9 1 (.slice n1 a.2.length nc) a.2.length (strs a.2)))
theorem Yex (q:ByteArray) (w:World) (hq:q.size≤maxLen):Calls Tryz.prog 73 #[.string q] w (Yhs q w):=by
 by_cases hb:120<q.size
 ·refine (Zss q w hq hb).mono ?_
  rintro e w' ⟨rfl,hE⟩
  exact ⟨hE,Or.inl ⟨by unfold Zex; rw [if_pos hb],1,0,by omega,rfl⟩⟩
 ·refine (Zwp q w (by omega) (fun h0 => ?_)).mono ?_
  ·obtain ⟨x,e1,e2,_⟩:=Zhz q (by omega) h0
   exact ⟨_,_,e2⟩
  rintro e w' ⟨hE,⟨hne,rfl⟩ | ⟨h0,hv,bv,vv,B,Sa,vs,c,cs,rfl,hcs,⟨h1,h2,h3,rfl⟩,hn,hbd⟩⟩
  ·obtain ⟨r1,_,_⟩:=Zdh q true
   refine ⟨hE,Or.inl ⟨?_,_,_,hne,rfl⟩⟩
   unfold Zex
   rw [if_neg hb,if_pos (by rw [← r1]; exact hne)]
  ·obtain ⟨r1,_,_⟩:=Zdh q true
   obtain ⟨x,e1,e2,_⟩:=Zhz q (by omega) h0
   have hao:Zex q=some (x.1,x.2.2):=by
    unfold Zex
    rw [if_neg hb,if_neg (by rw [← r1]; simp [h0]),e1]
    rfl
   rw [e2] at hcs
   simp only [List.cons.injEq] at hcs
   obtain ⟨rfl,_⟩:=hcs
   obtain ⟨n1,nc,rfl⟩:=Zad hn
   obtain ⟨b1,bc,rfl⟩:=Zad hbd.1
   exact ⟨hE,Or.inr ⟨(x.1,x.2.2),h1,h2,h3,b1,bc,n1,nc,hao,rfl,hbd.terms,Zbd hn (Qm _)⟩⟩
def Yey (p q:ByteArray) (w:World) (e:Ending) (w':World):Prop:=Ext w w'∧((Zdb p=none∧e = .returned (.tuple #[.slice none 0 0,.agg #[.slice none 0 0,.slice none 0 0,.slice none 0 0],.int .i64 4])) ∨
 ((∃ cs,Zdb p=some cs)∧Zex q=none∧e = .returned (.tuple #[.slice none 0 0,.agg #[.slice none 0 0,.slice none 0 0,.slice none 0 0],.int .i64 5])) ∨
 (∃ cs a l1 lc xs h1 h2 h3 b1 bc n1 nc,Zdb p=some cs∧Zex q=some a∧e = .returned (.tuple #[.slice l1 cs.length lc,.agg #[.slice h1 h2 h3,.slice b1 a.1.length bc,.slice n1 a.2.length nc],.int .i64 0])∧ProgIn w' (.slice l1 cs.length lc) cs xs∧TermsIn w' (.slice b1 a.1.length bc) a.1∧w'.ownsRow 0 9 1 (.slice n1 a.2.length nc) a.2.length (strs a.2)))
theorem ProgIn.box {w w':World} {M:Nat} {cs0:Array Value} {t:TypeId} {fr:Nat × Nat} {v:Value} {cs:List Cls} {xs:List (List Value)} (h:ProgIn w v cs xs) (hM:w.heap[M]?=some (.cells cs0 t fr)) (h1:107≠t∨∀ j,v.ownBlock=some j→j≠M) (h2:105≠t) (h3:133≠t) (h4:9≠t) (hk:Kept (fun k=>k=M) w w'):ProgIn w' v cs xs :=
 ⟨hk.owns h.owns (fun j hj hS=>by
  rcases h1 with h1 | h1
  ·have hS:j=M:=hS
   rw [hS] at hj
   exact Zaf h.owns h1 hM hj
  ·exact h1 j hj hS),h.len,h.three,fun i c hc=>by
  obtain ⟨hv,bv,vv,e1,e2⟩:=h.all i c hc
  exact ⟨hv,bv,vv,e1,Zep e2.head hM h3 hk,e2.body.box hM h2 h3 hk,Zep e2.names hM h4 hk⟩⟩
theorem Ybx (p q:ByteArray) (w:World) (hp:p.size≤maxLen) (hq:q.size≤maxLen):Calls Tryz.prog 50 #[.string p,.string q] w (Yey p q w):=by
 have HP:=Zac (fun u=>Ybw p u hp)
 have HQ:=Zac (fun u=>Yex q u hq)
 clear hp hq
 go_enter Tryz.func50,Tryz.ntmps50
 go_wp2_with fail
 refine (HP.out _).mono ?_
 rintro e w1 ⟨hE1,hc⟩
 have hs1:=hE1.size
 simp at hs1
 have hb1:w1.heap[w.heap.size]?=some (.cells #[.slice none 0 0,.slice none 0 0,.slice none 0 0] 107 (0,0)):=(hE1.block _ (by simp)).trans (heap_alloc_new w _)
 obtain ⟨b0,b1,b2,bf⟩:w1.cell? ⟨w.heap.size,0,none⟩=some (.slice none 0 0)∧w1.cell? ⟨w.heap.size,1,none⟩=some (.slice none 0 0)∧w1.cell? ⟨w.heap.size,2,none⟩=some (.slice none 0 0)∧∀ i,w1.frozen? ⟨w.heap.size,i,none⟩=false:=⟨Zaa hb1 0 _ rfl,Zaa hb1 1 _ rfl,Zaa hb1 2 _ rfl,fun i=>Zae hb1 i⟩
 have hm1:w.heap.size<w1.heap.size:=by omega
 have HEw1:Hid (Ext w w1):=((Ext.of (by repeat' (first | with_reducible(first|exact Qx _ _|apply Kept.drew|apply Kept.drewN|apply Qz|refine Qy ?_ ?_ _)|exact fun h=>absurd h (by simp <;> omega)))):Ext w (w.alloc _)).trans (hE1.mono (by simp))
 have Hb1:=Zac hb1
 rcases hc with ⟨hno,er,pl,her,rfl⟩ | ⟨cs,la,lcap,xs,hsome,rfl,hrow,hnew⟩
 ·have hb:((er:Int) != 0)=true:=by rw [bne_iff_ne]; omega
  have Hno:=Zac hno
  clear hno hE1 hb1
  go_wp2
  refine bodyPost_ret (v := .tuple #[.slice none 0 0,.agg #[.slice none 0 0,.slice none 0 0,.slice none 0 0],.int .i64 4]) (by simp [results,Tryz.results50,go_sem,b0,b1,b2,bf,hm1]) rfl ?_
  refine ⟨HEw1.out.trans (Kept.below (S:=fun i=>w.heap.size≤i) (by repeat' (first | with_reducible(first|exact Qx _ _|apply Kept.drew|apply Kept.drewN|apply Qz|refine Qy ?_ ?_ _)|(intro _; simp only; omega))) (by omega) (fun i e=>e)),Or.inl ⟨Hno.out,rfl⟩⟩
 ·have Hrow:=Zac hrow
  have Hsome:=Zac hsome
  have Hnew:Hid (∀ j,(Value.slice la cs.length lcap).ownBlock=some j→j≠w.heap.size):=fun j hj=>by
   have:=hnew j hj
   simp at this
   omega
  clear hrow hsome hE1 hb1 hnew
  go_wp2_with fail
  refine (HQ.out _).mono ?_
  rintro e w2 ⟨hE2,hc⟩
  have hs2:=hE2.size
  simp at hs2
  have hE12:Ext w1 w2:=(Below.refl _ w1 |>.alloc (Qe _) _).trans (hE2.mono (by simp))
  have hb2:=(hE12.block _ hm1).trans Hb1.out
  obtain ⟨b0,b1,b2,bf⟩:w2.cell? ⟨w.heap.size,0,none⟩=some (.slice none 0 0)∧w2.cell? ⟨w.heap.size,1,none⟩=some (.slice none 0 0)∧w2.cell? ⟨w.heap.size,2,none⟩=some (.slice none 0 0)∧∀ i,w2.frozen? ⟨w.heap.size,i,none⟩=false:=⟨Zaa hb2 0 _ rfl,Zaa hb2 1 _ rfl,Zaa hb2 2 _ rfl,fun i=>Zae hb2 i⟩
  have hm2:w.heap.size<w2.heap.size:=by omega
  have HEw2:Hid (Ext w w2):=HEw1.out.trans (hE12.mono (by omega))
  have Hb2:=Zac hb2
  have HE2:=Zac hE12
  clear hE12
  rcases hc with ⟨hno,er,pl,her,rfl⟩ | ⟨a,h1,h2,h3,c1,cc,n1,nc,hask,rfl,hA,hN⟩
  ·have hb:((er:Int) != 0)=true:=by rw [bne_iff_ne]; omega
   have Hno:=Zac hno
   clear hno hE2 hb2
   go_wp2
   refine bodyPost_ret (v := .tuple #[.slice none 0 0,.agg #[.slice none 0 0,.slice none 0 0,.slice none 0 0],.int .i64 5]) (by simp [results,Tryz.results50,go_sem,b0,b1,b2,bf,hm2]) rfl ?_
   refine ⟨HEw2.out.trans (Kept.below (S:=fun i=>w.heap.size≤i) (by repeat' (first | with_reducible(first|exact Qx _ _|apply Kept.drew|apply Kept.drewN|apply Qz|refine Qy ?_ ?_ _)|(intro _; simp only; omega))) (by omega) (fun i e=>e)),Or.inr (Or.inl ⟨⟨cs,Hsome.out⟩,Hno.out,rfl⟩)⟩
  ·have HA:=Zac hA
   have HN:=Zac hN
   have Hask:=Zac hask
   clear hA hN hask hE2 hb2
   go_wp2_with fail
   go_region
   all_goals
    go_wp2
    refine bodyPost_ret (v := .tuple #[.slice la cs.length lcap,.agg #[.slice h1 h2 h3,.slice c1 a.1.length cc,.slice n1 a.2.length nc],.int .i64 0]) (by simp [results,Tryz.results50,go_sem,b0,b1,b2,bf,hm2]) rfl ?_
    refine ⟨HEw2.out.trans (Kept.below (S:=fun i=>w.heap.size≤i) (by repeat' (first | with_reducible(first|exact Qx _ _|apply Kept.drew|apply Kept.drewN|apply Qz|refine Qy ?_ ?_ _)|(intro _; simp only; omega))) (by omega) (fun i e=>e)),Or.inr (Or.inr ⟨cs,a,la,lcap,xs,h1,h2,h3,c1,cc,n1,nc,Hsome.out,Hask.out,rfl,?_,?_,?_⟩)⟩
    ·exact ((Hrow.out.ext HE2.out).box Hb2.out (Or.inr Hnew.out) (by decide) (by decide) (by decide) ((((Qx (only w.heap.size) w2).put 0 _).put 1 _).put 2 _)).ext (Ext.of (by repeat' (first | with_reducible(first|exact Qx _ _|apply Kept.drew|apply Kept.drewN|apply Qz|refine Qy ?_ ?_ _)|exact fun h=>absurd h (by simp <;> omega))))
    ·exact (HA.out.box Hb2.out (by decide) (by decide) ((((Qx (only w.heap.size) w2).put 0 _).put 1 _).put 2 _)).ext (Ext.of (by repeat' (first | with_reducible(first|exact Qx _ _|apply Kept.drew|apply Kept.drewN|apply Qz|refine Qy ?_ ?_ _)|exact fun h=>absurd h (by simp <;> omega))))
    ·exact Zal (Zep HN.out Hb2.out (by decide) ((((Qx (only w.heap.size) w2).put 0 (.slice h1 h2 h3)).put 1 (.slice c1 a.1.length cc)).put 2 (.slice n1 a.2.length nc))) (fun j hj=>((Ext.of (by repeat' (first | with_reducible(first|exact Qx _ _|apply Kept.drew|apply Kept.drewN|apply Qz|refine Qy ?_ ?_ _)|exact fun h=>absurd h (by simp <;> omega)))):Ext _ _).block j (by simp; have:=(HN.out.lt j hj).2; omega))
structure WBg (w:World) (gv vv rv:Value) (u uu:Nat) (hv bv nv:Value) (gl:List (List Sym)) (g:Value) (xs:List Value) (wr:World):Prop where
 ext:Ext w wr
 nb:NB wr w.heap.size gv vv rv u
 cb:wr.heap[w.heap.size+1]?=some (.cells #[hv,bv,nv] 107 (0,0))
 res:NB wr (w.heap.size+2) (.slice none 0 0) (.slice none 0 0) (.slice none 0 0) 0
 box:NB wr (w.heap.size+3) g vv (.slice none 0 0) uu
 row:TermsAt wr w.heap.size g gl xs
theorem WBg.on {w wr w1:World} {gv vv rv hv bv nv g:Value} {u uu:Nat} {gl:List (List Sym)} {xs:List Value} (h:WBg w gv vv rv u uu hv bv nv gl g xs wr) (e:Ext wr w1):WBg w gv vv rv u uu hv bv nv gl g xs w1:=by
 obtain ⟨h1,h2,h3,h4,h5,h6⟩:=h
 exact ⟨h1.trans (e.mono h1.size),(e.block _ (Zab h2)).trans h2,(e.block _ (Zab h3)).trans h3,(e.block _ (Zab h4)).trans h4,(e.block _ (Zab h5)).trans h5,h6.ext e⟩
theorem WBg.app {w w1 w2:World} {gv vv rv hv bv nv g g2 x:Value} {u uu n:Nat} {gl:List (List Sym)} {l:List Sym} {xs:List Value} (h:WBg w gv vv rv u uu hv bv nv gl g xs w1) (hn:gl.length=n) (hx:WordAt w1 x l) (hap:Appended w1 w.heap.size 105 1 g (n+1) (xs++[x]) g2 w2) :
  WBg w gv vv rv u uu hv bv nv (gl++[l]) g2 (xs++[x]) (w2.setCell ⟨w.heap.size+3,0,none⟩ g2):=by
 obtain ⟨h1,h2,h3,h4,h5,h6⟩:=h
 have b2:=(hap.kept.block _ (Zab h2) (Zaf h6.owns (by decide) h2)).trans h2
 have b3:=(hap.kept.block _ (Zab h3) (Zaf h6.owns (by decide) h3)).trans h3
 have b4:=(hap.kept.block _ (Zab h4) (Zaf h6.owns (by decide) h4)).trans h4
 have b5:=(hap.kept.block _ (Zab h5) (Zaf h6.owns (by decide) h5)).trans h5
 have hK:Kept (fun j=>j=w.heap.size+3) w2 (w2.setCell ⟨w.heap.size+3,0,none⟩ g2):=(Qx (only (w.heap.size+3)) w2).put 0 _
 exact ⟨(h1.trans (hap.kept.below h1.size (fun j hj=>(h6.owns.lt j hj).1))).setCell (p:=⟨w.heap.size+3,0,none⟩) (by simp) _,(hK.block _ (Zab b2) (by simp)).trans b2,(hK.block _ (Zab b3) (by simp)).trans b3,(hK.block _ (Zab b4) (by simp)).trans b4,Zai b5 0 _,
  (h6.snoc (by rw [hn]; exact hap) hx).box b5 (by decide) (by decide) hK⟩
structure WBr (w:World) (B:Nat) (gv vv rv:Value) (u uu:Nat) (hv bv nv:Value) (gl:List (List Sym)) (g:Value) (rl:List (List Sym)) (r:Value) (ys:List Value) (wr:World):Prop where
 ext:Ext w wr
 nb:NB wr w.heap.size gv vv rv u
 cb:wr.heap[w.heap.size+1]?=some (.cells #[hv,bv,nv] 107 (0,0))
 res:NB wr (w.heap.size+2) (.slice none 0 0) (.slice none 0 0) (.slice none 0 0) 0
 box:NB wr (w.heap.size+3) g vv r uu
 goals:TermsIn wr g gl
 low:∀ j,g.ownBlock=some j→j<B
 b1:w.heap.size≤B
 b2:B≤wr.heap.size
 row:TermsAt wr B r rl ys
theorem WBr.on {w wr w1:World} {B:Nat} {gv vv rv hv bv nv g r:Value} {u uu:Nat} {gl rl:List (List Sym)} {ys:List Value} (h:WBr w B gv vv rv u uu hv bv nv gl g rl r ys wr) (e:Ext wr w1):WBr w B gv vv rv u uu hv bv nv gl g rl r ys w1:=by
 obtain ⟨h1,h2,h3,h4,h5,h6,h7,h8,h9,h10⟩:=h
 exact ⟨h1.trans (e.mono h1.size),(e.block _ (Zab h2)).trans h2,(e.block _ (Zab h3)).trans h3,(e.block _ (Zab h4)).trans h4,(e.block _ (Zab h5)).trans h5,h6.ext e,h7,h8,Qq h9 e.size,h10.ext e⟩
theorem WBr.app {w w1 w2:World} {B n:Nat} {gv vv rv hv bv nv g r r2 x:Value} {u uu:Nat} {gl rl:List (List Sym)} {l:List Sym} {ys:List Value} (h:WBr w B gv vv rv u uu hv bv nv gl g rl r ys w1) (hn:rl.length=n) (hx:WordAt w1 x l) (hap:Appended w1 B 105 1 r (n+1) (ys++[x]) r2 w2) :
  WBr w B gv vv rv u uu hv bv nv gl g (rl++[l]) r2 (ys++[x]) (w2.setCell ⟨w.heap.size+3,2,none⟩ r2):=by
 obtain ⟨h1,h2,h3,h4,h5,h6,h7,h8,h9,h10⟩:=h
 have b2:=(hap.kept.block _ (Zab h2) (Zaf h10.owns (by decide) h2)).trans h2
 have b3:=(hap.kept.block _ (Zab h3) (Zaf h10.owns (by decide) h3)).trans h3
 have b4:=(hap.kept.block _ (Zab h4) (Zaf h10.owns (by decide) h4)).trans h4
 have b5:=(hap.kept.block _ (Zab h5) (Zaf h10.owns (by decide) h5)).trans h5
 have hK:Kept (fun j=>j=w.heap.size+3) w2 (w2.setCell ⟨w.heap.size+3,2,none⟩ r2):=(Qx (only (w.heap.size+3)) w2).put 2 _
 have hsz:=hap.kept.size
 exact ⟨(h1.trans (hap.kept.below h1.size (fun j hj=>Qq h8 (h10.owns.lt j hj).1))).setCell (p:=⟨w.heap.size+3,2,none⟩) (by simp) _,(hK.block _ (Zab b2) (by simp)).trans b2,(hK.block _ (Zab b3) (by simp)).trans b3,(hK.block _ (Zab b4) (by simp)).trans b4,Zai b5 2 _,
  (h6.aside h7 h10.owns hap.kept).box b5 (by decide) (by decide) hK,h7,h8,by simp; omega,(h10.snoc (by rw [hn]; exact hap) hx).box b5 (by decide) (by decide) hK⟩
def LayApp (w0:World) (B:Nat) (x gv:Value) (n:Nat) (xs:List Value) (F:Value→World→Prop):List Value→World→Prop
 | [],u=>u=w0
 | [y],u=>y = .slice (some ⟨w0.heap.size,0,none⟩) 1 1∧u=w0.alloc (.cells #[x] 105)
 | [_,z],u=>Appended w0 B 105 1 gv (n+1) (xs++[x]) z u
 | [_,z,_],u=>F z u
 | _,_=>False
theorem LayApp.ext {w0:World} {B:Nat} {x gv:Value} {n:Nat} {xs:List Value} {F:Value→World→Prop}:∀ {vs:List Value} {u:World},LayApp w0 B x gv n xs F vs u→vs.length≤1→Ext w0 u
 | [],u,h,_=>by obtain rfl:u=w0:=h; exact Below.refl _ _
 | [y],u,h,_=>by
  obtain ⟨_,rfl⟩:=h
  exact (Below.refl _ _).alloc (Qe _) _
 | _::_::_,_,_,h=>by simp at h
def Yht (gl vl rl:List (List Sym)) (vv:Value) (uu:Nat) (w:World) (e:Ending) (w':World):Prop:=Ext w w'∧∃ g1 gc r1 rc,e = .returned (.agg #[.slice g1 gl.length gc,vv,.slice r1 rl.length rc,.int .i64 uu])∧TermsIn w' (.slice g1 gl.length gc) gl∧TermsIn w' (.slice r1 rl.length rc) rl
theorem Zry (w:World) (gv vv rv hv bv nv:Value) (g0:List Sym) (gs vl rl body:List (List Sym)) (ns:Names) (u:Nat) (h1:TermsIn w gv (g0::gs)) (h2:TermsIn w vv vl) (h3:TermsIn w rv rl) (hh:∃ a n x,hv = .slice a n x) (hb:TermsIn w bv body) (hns:w.ownsRow 0 9 1 nv ns.length (strs ns))
  (hgl:(g0::gs).length≤1000) (hrl:rl.length≤1000) (hbl:body.length≤1000) (hnl:ns.length≤4000) (hu:u≤190000) (hbo:∀ l ∈ body,TmOk l) :
  Calls Tryz.prog 128 #[.agg #[gv,vv,rv,.int .i64 u],.agg #[hv,bv,nv]] w (Yht (body.map (fun l=>l.map (rn u))++gs) vl (rl++[g0]) vv (u+ns.length) w):=by
 obtain ⟨ha,hn1,hc1,rfl⟩:=hh
 obtain ⟨gus,h1⟩:=h1
 obtain ⟨rus,h3⟩:=h3
 obtain ⟨bus,hb⟩:=hb
 obtain ⟨va,vcap,rfl⟩:=h2.shape
 obtain ⟨ga,gcap,rfl⟩:=Zad h1.owns
 obtain ⟨ra,rcap,rfl⟩:=Zad h3.owns
 obtain ⟨ba,bcap,rfl⟩:=Zad hb.owns
 obtain ⟨na,ncap,rfl⟩:=Zad hns
 obtain ⟨GL,hGL⟩:∃ G,G=g0::gs:=⟨_,rfl⟩
 rw [← hGL] at h1 hgl ⊢
 have hGpos:0<GL.length:=by rw [hGL]; simp
 have H1:=Zac h1
 have H3:=Zac h3
 have Hb:=Zac hb
 have Hbo:=Zac hbo
 have HGL:=Zac hGL
 clear h1 h2 h3 hb hns hbo hGL
 obtain ⟨uu,huu⟩:∃ n,n=u+ns.length:=⟨_,rfl⟩
 have HI:Hid ((u:Int)+(ns.length:Int)=(uu:Int)):=by show _=_; omega
 have huu2:uu≤200000:=by omega
 obtain ⟨bl',hbl'⟩:∃ L,L=body.map (fun l=>l.map (rn u)):=⟨_,rfl⟩
 rw [← huu,← hbl']
 have hbn:bl'.length=body.length:=by rw [hbl']; simp
 have Hbl:=Zac hbl'
 clear huu hbl'
 go_enter Tryz.func128,Tryz.ntmps128
 go_wp2
 rw [HI.out]
 go_loopg [24] (body.length+1) (fun gk iv wr=>∃ (k:Nat) (g:Value) (xs:List Value),iv = .int .i64 k∧k≤body.length∧body.length - k<gk∧WBg w (.slice ga GL.length gcap) (.slice va vl.length vcap) (.slice ra rl.length rcap) u uu (.slice ha hn1 hc1) (.slice ba body.length bcap) (.slice na ns.length ncap) ((body.take k).map (fun l=>l.map (rn u))) g xs wr)
 case atStart=>exact ⟨0,.slice none 0 0,[],by go_num,Qm _,by omega,(Ext.of (by repeat' (first | with_reducible(first|exact Qx _ _|apply Kept.drew|apply Kept.drewN|apply Qz|refine Qy ?_ ?_ _)|exact fun h=>absurd h (by simp <;> omega)))),Zav (Zav (Zav (heap_alloc_new w _) _) _) _,Zav (Zav (Zfy (by simp) _) _) _,Zav (Zfy (by simp) _) _,Zfy (by simp) _,TermsAt.nil _ _⟩
 case round =>
  obtain ⟨k,g,xs,rfl,hk,hgk,hA⟩:=hrel
  have hlk:((body.take k).map (fun l=>l.map (rn u))).length=k:=by simp; omega
  have hrow:=hA.row.owns
  rw [hlk] at hrow
  obtain ⟨ra1,rcap1,rfl⟩:=Zad hrow
  have hsr:=hA.ext.size
  have m3:wr.cell? ⟨w.heap.size,3,none⟩=some (.int .i64 u):=Zaa hA.nb 3 _ rfl
  have m0:wr.cell? ⟨w.heap.size,0,none⟩=some (.slice ga GL.length gcap):=Zaa hA.nb 0 _ rfl
  have m2:wr.cell? ⟨w.heap.size,2,none⟩=some (.slice ra rl.length rcap):=Zaa hA.nb 2 _ rfl
  have n0:wr.cell? ⟨w.heap.size+3,0,none⟩=some (.slice ra1 k rcap1):=Zaa hA.box 0 _ rfl
  have ml:=Zab hA.nb
  have nl:=Zab hA.box
  have HA:=Zac hA
  clear hA hrow hlk
  by_cases hlt:k<body.length
  ·obtain ⟨l,hs⟩:∃ l,body[k]?=some l:=⟨_,Qb hlt⟩
   obtain ⟨x,hx,hxo⟩:=Hb.out.all _ l hs
   obtain ⟨xa,xcap,rfl⟩:=Zad hxo
   obtain ⟨bb,cap',cur,he,_,hgb,_⟩:=Zaw Hb.out.owns (by omega)
   simp only [Value.slice.injEq] at he
   obtain ⟨rfl,_,rfl⟩:=he
   have hgw:=Zab hgb
   have hgr:bb<wr.heap.size:=by omega
   have x0:wr.cell? ⟨bb,k,none⟩=some (.slice xa l.length xcap):=(HA.out.ext.cell (p:=⟨bb,k,none⟩) hgw).trans (Zag Hb.out.owns _ _ hx)
   obtain ⟨_,o2,o3⟩:=Hbo.out l (Qh hs)
   have HR:=Zac (Zhr wr.drew (.slice xa l.length xcap) l u (WordAt.ext hxo (HA.out.ext.trans ⟨rfl,rfl,rfl,Qe _,fun _ _=>rfl⟩)) o2 o3 (by omega))
   have hnx:(body.take (k+1)).map (fun l=>l.map (rn u))=(body.take k).map (fun l=>l.map (rn u))++[l.map (rn u)]:=by rw [List.take_add_one,hs]; simp
   have Hnx:=Zac hnx
   clear hs hx hxo hgb o2 o3 hnx
   go_wp2_with fail
   have HA':=HA.out.on (w1:=wr.drew) ⟨rfl,rfl,rfl,Qe _,fun _ _=>rfl⟩
   have hlk:((body.take k).map (fun l=>l.map (rn u))).length=k:=by simp; omega
   refine Zeu (by kernel_rfl) [.rd 0 3 (fun _ => .pointer (some ⟨w.heap.size+3,0,none⟩)),.rd 0 2 (fun _ => .slice ra1 k rcap1),.rd 0 3 (fun _ => .slice xa l.length xcap),.rd 0 3 (fun _ => .pointer (some ⟨w.heap.size,3,none⟩)),.rd 0 2 (fun _ => .int .i64 u),.st 0,.st 1,.st 2,.rd 0 3 (fun _ => .pointer (some ⟨w.heap.size+3,0,none⟩)),.st 3] 4 7 (by kernel_rfl)
    (CallApp wr.drew w.heap.size (l.map (rn u)) (.slice ra1 k rcap1) k xs (fun z y=>∃ xs',WBg w (.slice ga GL.length gcap) (.slice va vl.length vcap) (.slice ra rl.length rcap) u uu (.slice ha hn1 hc1) (.slice (some ⟨bb,0,none⟩) body.length bcap) (.slice na ns.length ncap) ((body.take (k+1)).map (fun l=>l.map (rn u))) z xs' y)) rfl ?_ ?_
   ·refine ⟨⟨trivial,fun vs y _ hl hS => ?_⟩,⟨trivial,fun vs y _ hl hS => ?_⟩,⟨trivial,fun vs y _ hl hS => ?_⟩,⟨trivial,fun vs y _ hl hS => ?_⟩,⟨trivial,fun vs y _ hl hS => ?_⟩,⟨trivial,fun vs y hl hS => ?_⟩,⟨trivial,fun vs y hl hS => ?_⟩,⟨trivial,fun vs y hl hS => ?_⟩,⟨trivial,fun vs y _ hl hS => ?_⟩,⟨trivial,fun vs y hl hS => ?_⟩,trivial⟩
    ·simp [phAll,phA,pa,Ph.kd,Ph.val,Kd.val,go_sem]
    ·have t1:y.cell? ⟨w.heap.size+3,0,none⟩=some (.slice ra1 k rcap1):=((hS.ext hl).cell (p:=⟨w.heap.size+3,0,none⟩) nl).trans n0
     simp [phAll,phA,pa,Ph.kd,Ph.val,Kd.val,go_sem,t1]
    ·simp [phAll,phA,pa,Ph.kd,Ph.val,Kd.val,go_sem]
    ·simp [phAll,phA,pa,Ph.kd,Ph.val,Kd.val,go_sem]
    ·have t1:y.cell? ⟨w.heap.size,3,none⟩=some (.int .i64 u):=((hS.ext hl).cell (p:=⟨w.heap.size,3,none⟩) ml).trans m3
     simp [phAll,phA,pa,Ph.kd,Ph.val,Kd.val,go_sem,t1]
    ·obtain rfl:=List.length_eq_zero_iff.1 hl
     have hy:y=wr.drew:=hS
     subst hy
     refine .call 74 #[.slice xa l.length xcap,.int .i64 u] _ (by simp [phAll,phA,pa,Ph.kd,Ph.val,Kd.val,go_sem]) (HR.out.mono ?_)
     rintro e y ⟨v,B,rfl,h⟩
     exact ⟨v,rfl,v,B,rfl,h⟩
    ·obtain ⟨x,rfl⟩:=List.length_eq_one_iff.1 hl
     have hS1:=hS
     obtain ⟨x',B',he,hB,hr,hE⟩:=hS1
     simp only [Ending.returned.injEq] at he
     subst he
     obtain ⟨xa1,xc1,rfl⟩:=Zad hr
     exact .value (.slice (some ⟨y.heap.size,0,none⟩) 1 1) (y.alloc (.cells #[.slice xa1 (l.map (rn u)).length xc1] 105)) (by simp [phAll,phA,pa,Ph.kd,Ph.val,Kd.val,go_sem]) ⟨y,hS,rfl,rfl⟩
    ·obtain ⟨x,x2,rfl⟩:∃ x y,vs=[x,y]:=by
      match vs,hl with
      | [x,y],_=>exact ⟨x,y,rfl⟩
     obtain ⟨u1,hW,rfl,rfl⟩:=hS
     have hW1:=hW
     obtain ⟨x',B',he,hB,hr,hE⟩:=hW1
     simp only [Ending.returned.injEq] at he
     subst he
     obtain ⟨xa1,xc1,rfl⟩:=Zad hr
     have hrow:u1.ownsRow w.heap.size 105 1 (.slice ra1 k rcap1) k xs:=by
      have:=(HA'.on hE).row.owns
      rw [hlk] at this
      exact this
     have hsz:=hE.size
     obtain ⟨z,w',hrun,hap⟩:=Zgo (P:=Tryz.prog) u1 85 85 w.heap.size 105 Tryz.infoSyms Tryz.underlying85 rfl (by decide) (.slice ra1 k rcap1) k xs hrow #[.slice xa1 (l.map (rn u)).length xc1] rfl (Zdm _ _ _) (by omega) (Qq hsr hsz)
     refine .value z w' (Zhq (.tmp 29) (.tmp 34) 85 rfl (by simp [phAll,phA,pa,Ph.kd,Ph.val,Kd.val,go_sem]) (by simp [phAll,phA,pa,Ph.kd,Ph.val,Kd.val,go_sem]) hrun) ⟨u1,hW,by simpa using hap⟩
    ·simp [phAll,phA,pa,Ph.kd,Ph.val,Kd.val,go_sem]
    ·obtain ⟨x,x2,z,rfl⟩:∃ x y z,vs=[x,y,z]:=by
      match vs,hl with
      | [x,y,z],_=>exact ⟨x,y,z,rfl⟩
     obtain ⟨u1,hW,hap⟩:=hS
     obtain ⟨x',B',he,hB,hr,hE⟩:=hW
     simp only [Ending.returned.injEq] at he
     subst he
     obtain ⟨za,zc,rfl⟩:=Zad hap.owns
     have hA2:=(HA'.on hE).app hlk (Zbd hr (Qm _)) hap
     rw [← Hnx.out] at hA2
     have h4:=(HA'.on hE).box
     have b4:=(hap.kept.block _ (Zab h4) (Zaf (HA'.on hE).row.owns (by decide) h4)).trans h4
     have c4:=Zaa b4 0 _ rfl
     have f4:=Zae b4 0
     exact .skip _ (by simp [phAll,phA,pa,Ph.kd,Ph.val,Kd.val,go_sem,c4,f4]) ⟨_,hA2⟩
   ·rintro vs y hl hS
    obtain ⟨x,x2,z,x3,rfl⟩:∃ x y z y',vs=[x,y,z,y']:=by
     match vs,hl with
     | [x,y,z,y'],_=>exact ⟨x,y,z,y',rfl⟩
    obtain ⟨xs',hA2⟩:=hS
    simp only [phAll,phA,paAll,pa,Ph.kd,Ph.val,Kd.val,List.map_cons,List.map_nil,if_true,Act.put,List.setIfInBounds_toArray,List.set_cons_succ,List.set_cons_zero]
    have HA2:=Zac hA2
    clear hA2
    go_wp2
    go_roundg (body.length - k)
    case measure=>omega
    case rel=>exact ⟨k+1,_,xs',by go_num,by omega,by omega,HA2.out⟩
  ·have hek:k=body.length:=by omega
   subst hek
   have HA1:Hid (WBg w (.slice ga GL.length gcap) (.slice va vl.length vcap) (.slice ra rl.length rcap) u uu (.slice ha hn1 hc1) (.slice ba body.length bcap) (.slice na ns.length ncap) (bl'++(GL.take 0).drop 1) (.slice ra1 body.length rcap1) xs wr):=by
    have:=HA.out
    rw [List.take_length,← Hbl.out] at this
    show WBg _ _ _ _ _ _ _ _ _ _ _ _ _
    simpa using this
   obtain ⟨wo,hwo⟩:∃ x,x=wr:=⟨_,rfl⟩
   subst hwo
   clear HA
   go_wp2
   go_loopg [41] (GL.length+1) (fun gk iv wr=>∃ (k:Nat) (g:Value) (xs:List Value),iv = .int .i64 k∧k≤GL.length∧GL.length - k<gk∧WBg w (.slice ga GL.length gcap) (.slice va vl.length vcap) (.slice ra rl.length rcap) u uu (.slice ha hn1 hc1) (.slice ba body.length bcap) (.slice na ns.length ncap) (bl'++(GL.take k).drop 1) g xs wr)
   case atStart=>exact ⟨0,_,xs,by go_num,Qm _,by omega,HA1.out⟩
   case round =>
    clear m0 m2 m3 n0 ml nl HA1
    obtain ⟨k,g,xs,rfl,hk,hgk,hA⟩:=hrel
    obtain ⟨N,hN⟩:∃ N,N=(bl'++(GL.take k).drop 1).length:=⟨_,rfl⟩
    have hN2:N≤4000:=by rw [hN]; simp; omega
    have hrow:=hA.row.owns
    rw [← hN] at hrow
    obtain ⟨ra1,rcap1,rfl⟩:=Zad hrow
    have hsr:=hA.ext.size
    have m0:wr.cell? ⟨w.heap.size,0,none⟩=some (.slice ga GL.length gcap):=Zaa hA.nb 0 _ rfl
    have m2:wr.cell? ⟨w.heap.size,2,none⟩=some (.slice ra rl.length rcap):=Zaa hA.nb 2 _ rfl
    have n0:wr.cell? ⟨w.heap.size+3,0,none⟩=some (.slice ra1 N rcap1):=Zaa hA.box 0 _ rfl
    have nf:=fun i=>Zae hA.box i
    have ml:=Zab hA.nb
    have nl:=Zab hA.box
    have HA:=Zac hA
    have Hrow:=Zac hrow
    have HN:=Zac hN
    clear hA hrow hN
    by_cases hlt:k<GL.length
    ·obtain ⟨l,hs⟩:∃ l,GL[k]?=some l:=⟨_,Qb hlt⟩
     obtain ⟨x,hx,hxo⟩:=H1.out.all _ l hs
     obtain ⟨xa,xcap,rfl⟩:=Zad hxo
     obtain ⟨gg,cap',cur,he,_,hgb,_⟩:=Zaw H1.out.owns (by omega)
     simp only [Value.slice.injEq] at he
     obtain ⟨rfl,_,rfl⟩:=he
     have hgw:=Zab hgb
     have hgr:gg<wr.heap.size:=by omega
     have x0:wr.cell? ⟨gg,k,none⟩=some (.slice xa l.length xcap):=(HA.out.ext.cell (p:=⟨gg,k,none⟩) hgw).trans (Zag H1.out.owns _ _ hx)
     have Hxo:Hid (WordAt wr (.slice xa l.length xcap) l):=WordAt.ext hxo HA.out.ext
     have Hs:=Zac hs
     clear hs hx hxo hgb
     by_cases hk0:k=0
     ·subst hk0
      go_wp2
      go_roundg (GL.length - 0)
      case measure=>omega
      case rel =>
       refine ⟨1,.slice ra1 N rcap1,xs,by go_num,by omega,by omega,?_⟩
       have:=HA.out
       simpa using this
     ·have hk1:(0:Int)<(k:Int):=by omega
      go_wp2_with (at_builtin; go_loud (refine Zam wr rfl (.tmp 49) (.tmp 51) 85 rfl w.heap.size 105 Tryz.infoSyms Tryz.underlying85 rfl (by decide) (.slice ra1 N rcap1) N xs rfl Hrow.out #[.slice xa l.length xcap] (N:=wr.heap.size) rfl (by simp) rfl (Zdm _ _ _) ?_ ?_ ?_))
      ·omega
      ·omega
      intro v3 w2 hap
      obtain ⟨a3,c3,rfl⟩:=Zad hap.owns
      have hA2:=HA.out.app HN.out.symm Hxo.out hap
      have hnx:(bl'++(GL.take k).drop 1)++[l]=bl'++(GL.take (k+1)).drop 1:=by
       rw [List.take_add_one,Hs.out,Qi]
       congr 1
       rw [List.drop_append_of_le_length (by simp; omega)]
       rfl
      rw [hnx] at hA2
      have b4:=(hap.kept.block _ (Zab HA.out.box) (Zaf Hrow.out (by decide) HA.out.box)).trans HA.out.box
      have m1:=Zaa b4 0 _ rfl
      have mf:=fun i=>Zae b4 i
      have mll:=Zab b4
      have HA2:=Zac hA2
      clear hap hA2 b4 hnx
      go_wp2
      go_roundg (GL.length - k)
      case measure=>omega
      case rel=>exact ⟨k+1,_,_,by go_num,by omega,by omega,HA2.out⟩
    ·have hek:k=GL.length:=by omega
     subst hek
     obtain ⟨FL,hFL⟩:∃ L,L=bl'++GL.drop 1:=⟨_,rfl⟩
     have hFN:FL.length=N:=by rw [hFL,HN.out,List.take_length]
     have hWr:WBr w wr.heap.size (.slice ga GL.length gcap) (.slice va vl.length vcap) (.slice ra rl.length rcap) u uu (.slice ha hn1 hc1) (.slice ba body.length bcap) (.slice na ns.length ncap) FL (.slice ra1 N rcap1) (rl.take 0) (.slice none 0 0) [] wr:=by
      obtain ⟨h1,h2,h3,h4,h5,h6⟩:=HA.out
      rw [List.take_length,← hFL] at h6
      exact ⟨h1,h2,h3,h4,h5,h6.inn,fun j hj=>(h6.owns.lt j hj).2,h1.size,Qe _,TermsAt.nil _ _⟩
     have HW:=Zac hWr
     have HFL:=Zac hFL
     have HFN:=Zac hFN
     obtain ⟨wp,hwp⟩:∃ x,x=wr:=⟨_,rfl⟩
     subst hwp
     clear HA hWr hFL hFN Hrow HN
     go_wp2
     go_loopg [58] (rl.length+1) (fun gk iv wr=>∃ (k:Nat) (r:Value) (ys:List Value),iv = .int .i64 k∧k≤rl.length∧rl.length - k<gk∧WBr w wp.heap.size (.slice ga GL.length gcap) (.slice va vl.length vcap) (.slice ra rl.length rcap) u uu (.slice ha hn1 hc1) (.slice ba body.length bcap) (.slice na ns.length ncap) FL (.slice ra1 N rcap1) (rl.take k) r ys wr)
     case atStart=>exact ⟨0,_,[],by go_num,Qm _,by omega,HW.out⟩
     case round =>
      clear m0 m2 n0 nf ml nl HW
      obtain ⟨k,r,ys,rfl,hk,hgk,hA⟩:=hrel
      have hlk:(rl.take k).length=k:=by simp; omega
      have hrow:=hA.row.owns
      rw [hlk] at hrow
      obtain ⟨sa,scap,rfl⟩:=Zad hrow
      have hsr:=hA.ext.size
      have hb2:=hA.b2
      have m0:wr.cell? ⟨w.heap.size,0,none⟩=some (.slice ga GL.length gcap):=Zaa hA.nb 0 _ rfl
      have m2:wr.cell? ⟨w.heap.size,2,none⟩=some (.slice ra rl.length rcap):=Zaa hA.nb 2 _ rfl
      have n2:wr.cell? ⟨w.heap.size+3,2,none⟩=some (.slice sa k scap):=Zaa hA.box 2 _ rfl
      have nf:=fun i=>Zae hA.box i
      have ml:=Zab hA.nb
      have nl:=Zab hA.box
      have HA:=Zac hA
      have Hrow:=Zac hrow
      clear hA hrow hlk
      by_cases hlt:k<rl.length
      ·obtain ⟨l,hs⟩:∃ l,rl[k]?=some l:=⟨_,Qb hlt⟩
       obtain ⟨x,hx,hxo⟩:=H3.out.all _ l hs
       obtain ⟨xa,xcap,rfl⟩:=Zad hxo
       obtain ⟨rr,cap',cur,he,_,hgb,_⟩:=Zaw H3.out.owns (by omega)
       simp only [Value.slice.injEq] at he
       obtain ⟨rfl,_,rfl⟩:=he
       have hgw:=Zab hgb
       have hgr:rr<wr.heap.size:=by omega
       have x0:wr.cell? ⟨rr,k,none⟩=some (.slice xa l.length xcap):=(HA.out.ext.cell (p:=⟨rr,k,none⟩) hgw).trans (Zag H3.out.owns _ _ hx)
       have Hxo:Hid (WordAt wr (.slice xa l.length xcap) l):=WordAt.ext hxo HA.out.ext
       have Hs:=Zac hs
       clear hs hx hxo hgb
       go_wp2_with (at_builtin; go_loud (refine Zam wr rfl (.tmp 63) (.tmp 65) 85 rfl wp.heap.size 105 Tryz.infoSyms Tryz.underlying85 rfl (by decide) (.slice sa k scap) k ys rfl Hrow.out #[.slice xa l.length xcap] (N:=wr.heap.size) rfl (by simp) rfl (Zdm _ _ _) ?_ ?_ ?_))
       ·omega
       ·omega
       intro v3 w2 hap
       obtain ⟨a3,c3,rfl⟩:=Zad hap.owns
       have hA2:=HA.out.app (by simp; omega) Hxo.out hap
       have hnx:rl.take k++[l]=rl.take (k+1):=by rw [List.take_add_one,Hs.out]; rfl
       rw [hnx] at hA2
       have b4:=(hap.kept.block _ (Zab HA.out.box) (Zaf Hrow.out (by decide) HA.out.box)).trans HA.out.box
       have m1:=Zaa b4 2 _ rfl
       have mf:=fun i=>Zae b4 i
       have mll:=Zab b4
       have HA2:=Zac hA2
       clear hap hA2 b4 hnx
       go_wp2
       go_roundg (rl.length - k)
       case measure=>omega
       case rel=>exact ⟨k+1,_,_,by go_num,by omega,by omega,HA2.out⟩
      ·have hek:k=rl.length:=by omega
       subst hek
       obtain ⟨x,hx,hxo⟩:=H1.out.all 0 g0 (by rw [HGL.out]; rfl)
       obtain ⟨xa,xcap,rfl⟩:=Zad hxo
       obtain ⟨gg,cap',cur,he,_,hgb,_⟩:=Zaw H1.out.owns (by omega)
       simp only [Value.slice.injEq] at he
       obtain ⟨rfl,_,rfl⟩:=he
       have hgw:=Zab hgb
       have hgr:gg<wr.heap.size:=by omega
       have x0:wr.cell? ⟨gg,0,none⟩=some (.slice xa g0.length xcap):=(HA.out.ext.cell (p:=⟨gg,0,none⟩) hgw).trans (Zag H1.out.owns _ _ hx)
       have Hxo:Hid (WordAt wr.drew (.slice xa g0.length xcap) g0):=WordAt.ext hxo (HA.out.ext.trans ⟨rfl,rfl,rfl,Qe _,fun _ _=>rfl⟩)
       have hGi:(0:Int)<(GL.length:Int):=by omega
       clear hx hxo hgb
       have HA':=Zac (HA.out.on (w1:=wr.drew) ⟨rfl,rfl,rfl,Qe _,fun _ _=>rfl⟩)
       rw [List.take_length] at HA'
       go_wp2_with fail
       refine Zeu (by kernel_rfl) [.rd 0 2 (fun _ => .pointer (some ⟨w.heap.size+3,2,none⟩)),.rd 0 1 (fun _ => .slice sa rl.length scap),.rd 0 0 (fun _ => .pointer (some ⟨w.heap.size,0,none⟩)),.rd 0 0 (fun _ => .slice (some ⟨gg,0,none⟩) GL.length gcap),.rd 0 0 (fun _ => .pointer (some ⟨gg,0,none⟩)),.rd 0 0 (fun _ => .slice xa g0.length xcap),.st 0,.st 1,.rd 0 2 (fun _ => .pointer (some ⟨w.heap.size+3,2,none⟩)),.st 2] 3 7 (by kernel_rfl)
        (LayApp wr.drew wp.heap.size (.slice xa g0.length xcap) (.slice sa rl.length scap) rl.length ys (fun z y=>∃ ys',WBr w wp.heap.size (.slice (some ⟨gg,0,none⟩) GL.length gcap) (.slice va vl.length vcap) (.slice ra rl.length rcap) u uu (.slice ha hn1 hc1) (.slice ba body.length bcap) (.slice na ns.length ncap) FL (.slice ra1 N rcap1) (rl++[g0]) z ys' y)) rfl ?_ ?_
       ·refine ⟨⟨trivial,fun vs y _ hl hS => ?_⟩,⟨trivial,fun vs y _ hl hS => ?_⟩,⟨trivial,fun vs y _ hl hS => ?_⟩,⟨trivial,fun vs y _ hl hS => ?_⟩,⟨trivial,fun vs y _ hl hS => ?_⟩,⟨trivial,fun vs y _ hl hS => ?_⟩,⟨trivial,fun vs y hl hS => ?_⟩,⟨trivial,fun vs y hl hS => ?_⟩,⟨trivial,fun vs y _ hl hS => ?_⟩,⟨trivial,fun vs y hl hS => ?_⟩,trivial⟩
        ·simp [phAll,phA,pa,Ph.kd,Ph.val,Kd.val,go_sem]
        ·have t1:y.cell? ⟨w.heap.size+3,2,none⟩=some (.slice sa rl.length scap):=((hS.ext hl).cell (p:=⟨w.heap.size+3,2,none⟩) nl).trans n2
         simp [phAll,phA,pa,Ph.kd,Ph.val,Kd.val,go_sem,t1]
        ·simp [phAll,phA,pa,Ph.kd,Ph.val,Kd.val,go_sem]
        ·have t1:y.cell? ⟨w.heap.size,0,none⟩=some (.slice (some ⟨gg,0,none⟩) GL.length gcap):=((hS.ext (by omega)).cell (p:=⟨w.heap.size,0,none⟩) ml).trans m0
         simp [phAll,phA,pa,Ph.kd,Ph.val,Kd.val,go_sem,t1]
        ·simp [phAll,phA,pa,Ph.kd,Ph.val,Kd.val,go_sem,hGpos]
        ·have t1:y.cell? ⟨gg,0,none⟩=some (.slice xa g0.length xcap):=((hS.ext (by omega)).cell (p:=⟨gg,0,none⟩) hgr).trans x0
         simp [phAll,phA,pa,Ph.kd,Ph.val,Kd.val,go_sem,t1]
        ·obtain rfl:=List.length_eq_zero_iff.1 hl
         have hy:y=wr.drew:=hS
         subst hy
         exact .value (.slice (some ⟨wr.drew.heap.size,0,none⟩) 1 1) (wr.drew.alloc (.cells #[.slice xa g0.length xcap] 105)) (by simp [phAll,phA,pa,Ph.kd,Ph.val,Kd.val,go_sem]) ⟨rfl,rfl⟩
        ·obtain ⟨x,rfl⟩:=List.length_eq_one_iff.1 hl
         obtain ⟨rfl,rfl⟩:=hS
         have hrow:wr.drew.ownsRow wp.heap.size 105 1 (.slice sa rl.length scap) rl.length ys:=HA'.out.row.owns
         obtain ⟨z,w',hrun,hap⟩:=Zgo (P:=Tryz.prog) wr.drew 85 85 wp.heap.size 105 Tryz.infoSyms Tryz.underlying85 rfl (by decide) (.slice sa rl.length scap) rl.length ys hrow #[.slice xa g0.length xcap] rfl (Zdm _ _ _) (by omega) HA'.out.b2
         exact .value z w' (Zhq (.tmp 74) (.tmp 79) 85 rfl (by simp [phAll,phA,pa,Ph.kd,Ph.val,Kd.val,go_sem]) (by simp [phAll,phA,pa,Ph.kd,Ph.val,Kd.val,go_sem]) hrun) (by simpa [LayApp] using hap)
        ·simp [phAll,phA,pa,Ph.kd,Ph.val,Kd.val,go_sem]
        ·obtain ⟨x,z,rfl⟩:∃ x y,vs=[x,y]:=by
          match vs,hl with
          | [x,y],_=>exact ⟨x,y,rfl⟩
         have hap:Appended _ _ _ _ _ _ _ z y:=hS
         obtain ⟨za,zc,rfl⟩:=Zad hap.owns
         have hA2:=HA'.out.app rfl Hxo.out hap
         have h4:=HA'.out.box
         have b4:=(hap.kept.block _ (Zab h4) (Zaf HA'.out.row.owns (by decide) h4)).trans h4
         have c4:=Zaa b4 2 _ rfl
         have f4:=Zae b4 2
         exact .skip _ (by simp [phAll,phA,pa,Ph.kd,Ph.val,Kd.val,go_sem,c4,f4]) ⟨_,hA2⟩
       ·rintro vs y hl hS
        obtain ⟨x,z,x3,rfl⟩:∃ x y z,vs=[x,y,z]:=by
         match vs,hl with
         | [x,y,z],_=>exact ⟨x,y,z,rfl⟩
        obtain ⟨ys',hA2⟩:=hS
        have hrow:=hA2.row.owns
        obtain ⟨ta,tcap,rfl⟩:=Zad hrow
        simp only [phAll,phA,paAll,pa,Ph.kd,Ph.val,Kd.val,List.map_cons,List.map_nil,if_true,Act.put,List.setIfInBounds_toArray,List.set_cons_succ,List.set_cons_zero]
        have q0:=Zaa hA2.box 0 _ rfl
        have q1:=Zaa hA2.box 1 _ rfl
        have q2:=Zaa hA2.box 2 _ rfl
        have q3:=Zaa hA2.box 3 _ rfl
        have ql:=Zab hA2.box
        have r0:=Zaa hA2.res 0 _ rfl
        have r1:=Zaa hA2.res 1 _ rfl
        have r2:=Zaa hA2.res 2 _ rfl
        have r3:=Zaa hA2.res 3 _ rfl
        have rf:=fun i=>Zae hA2.res i
        have rll:=Zab hA2.res
        have HA2:=Zac hA2
        clear hA2 hrow HA' HA
        go_wp2
        refine bodyPost_ret (v := .agg #[.slice ra1 N rcap1,.slice va vl.length vcap,.slice ta (rl++[g0]).length tcap,.int .i64 uu]) (by simp [results,Tryz.results128,go_sem,r0,r1,r2,r3,rf,rll]) rfl ?_
        have hK2:∀ x0 x1 x2 x3,Kept (fun j=>j=w.heap.size+2) y ((((y.setCell ⟨w.heap.size+2,0,none⟩ x0).setCell ⟨w.heap.size+2,1,none⟩ x1).setCell ⟨w.heap.size+2,2,none⟩ x2).setCell ⟨w.heap.size+2,3,none⟩ x3):=fun x0 x1 x2 x3=>((((Qx (only (w.heap.size+2)) y).put 0 _).put 1 _).put 2 _).put 3 _
        have hE:=(((HA2.out.ext.setCell (p:=⟨w.heap.size+2,0,none⟩) (by simp) (.slice ra1 N rcap1)).setCell (p:=⟨w.heap.size+2,1,none⟩) (by simp) (.slice va vl.length vcap)).setCell (p:=⟨w.heap.size+2,2,none⟩) (by simp) (.slice ta (rl++[g0]).length tcap)).setCell (p:=⟨w.heap.size+2,3,none⟩) (by simp) (.int .i64 uu)
        have hFL:FL=bl'++gs:=by rw [HFL.out,HGL.out]; rfl
        have hg:=HA2.out.goals.box HA2.out.res (by decide) (by decide) (hK2 (.slice ra1 N rcap1) (.slice va vl.length vcap) (.slice ta (rl++[g0]).length tcap) (.int .i64 uu))
        have hr:=HA2.out.row.inn.box HA2.out.res (by decide) (by decide) (hK2 (.slice ra1 N rcap1) (.slice va vl.length vcap) (.slice ta (rl++[g0]).length tcap) (.int .i64 uu))
        rw [← HFN.out] at hg hE hr ⊢
        rw [hFL] at hg hE hr ⊢
        rw [show rl.length+1=(rl++[g0]).length by simp]
        exact ⟨hE,_,_,_,_,rfl,hg,hr⟩
theorem Zmz {k V:Nat} {l:List Sym} (hw:Wf k l) (hl:l.length≤1000) (ho:∀ v,Occ v l→v<V) (hV:V≤200000):TmOk l :=
 ⟨⟨k,hw⟩,hl,fun s hs=>by
  obtain ⟨i,hi⟩:=List.mem_iff_getElem?.1 hs
  by_cases hn:s.name=[]
  ·have:=ho s.num ⟨s,hs,hn,rfl⟩
   omega
  ·rw [(Zio hw hi).2 hn]; omega⟩
theorem TmOk.rn {l:List Sym} {v:Nat} {k:Nat} (hw:Wf k l) (hl:l.length≤1000) {V:Nat} (ho:∀ u,Occ u l→u<V) (hV:V+v≤200000):TmOk (l.map (YtlmjilpjmgjjcaaGreatDoor.rn v)):=by
 rw [← Zld hw]
 have hlen:(ap (Zcb v) l).length=l.length:=by rw [Zld hw]; simp
 exact Zmz (Zhj (Zop v) hw) (by omega) (V:=V+v) (fun u hu=>by
  obtain ⟨x,hx,rfl⟩:=Zgg hu
  have:=ho x hx
  omega) hV
def TryOut (n:ND) (c:Cls) (k:Nat) (w:World) (e:Ending) (w':World):Prop:=Ext w w'∧∃ g1 g2 g3 v1 v2 v3 r1 r2 r3,∃ uu q:Nat,e = .returned (.tuple #[.agg #[.slice g1 g2 g3,.slice v1 v2 v3,.slice r1 r2 r3,.int .i64 uu],.int .i64 q]) ∧
 ((q=0∧(n.goals=[]∨Out n c k 0 n))∨(q=2∧∃ ch,Out n c k 3 ch)∨(q=1∧∃ ch qq,(qq=1∨qq=2)∧Out n c k qq ch∧NodeNew w.heap.size w' (.slice g1 g2 g3) (.slice v1 v2 v3) (.slice r1 r2 r3) ch∧uu=ch.vars∧g2=ch.goals.length))
theorem Zgz (σ:Nat→List Sym) (n:ND) (c:Cls) (hc:COk c) (k:Nat) (g:List Sym × Nat) (gs:List (List Sym × Nat)):(Zan σ n c k g gs).goals.map (·.1)=((c.body.map (fun l=>l.map (rn n.vars))++gs.map (·.1))).map (ap σ):=by
 unfold Zan
 simp only
 rw [Zoq,Qr,List.map_map]
 congr 2
 refine List.map_congr_left (fun l hl => ?_)
 exact Zld (hc.wfb l hl)
theorem Zke (σ:Nat→List Sym) (n:ND) (c:Cls) (k:Nat) (g:List Sym × Nat) (gs:List (List Sym × Nat)):(Zan σ n c k g gs).done.map (·.1)=(n.done.map (·.1)++[g.1]).map (ap σ):=by
 unfold Zan
 simp only
 rw [Zoq,Qr]
 rfl
theorem Yby {n:ND} (hn:NOk n) {c:Cls} (hc:COk c) (k:Nat) {g:List Sym × Nat} {gs:List (List Sym × Nat)} (hg:n.goals=g::gs) {σ:Nat→List Sym} (h1:Mgu σ g.1 (ap (Zcb n.vars) c.head)) {l:List Sym} (hl:l ∈ (c.body.map (fun l=>l.map (rn n.vars))++gs.map (·.1))++(n.vals++(n.done.map (·.1)++[g.1]))) (hb:30<(ap σ l).length):Zdl (Zan σ n c k g gs)=3:=by
 refine Classical.byContradiction (fun hne => ?_)
 have hok:=Zor hn hc k hg h1 hne
 have hle:(ap σ l).length≤30:=by
  rcases Qk.1 hl with hl | hl
  ·have:ap σ l ∈ (Zan σ n c k g gs).goals.map (·.1):=by rw [Zgz σ n c hc]; exact List.mem_map.2 ⟨l,hl,rfl⟩
   obtain ⟨x,hx,e⟩:=List.mem_map.1 this
   rw [← e]; exact (hok.gs x hx).1
  ·rcases Qk.1 hl with hl | hl
   ·exact hok.vsize (t:=ap σ l) (List.mem_map.2 ⟨l,hl,rfl⟩)
   ·have:ap σ l ∈ (Zan σ n c k g gs).done.map (·.1):=by rw [Zke]; exact List.mem_map.2 ⟨l,hl,rfl⟩
    obtain ⟨x,hx,e⟩:=List.mem_map.1 this
    rw [← e]; exact (hok.ds x hx).1
 omega
theorem Zyb {n:ND} {c:Cls} (k:Nat) {g:List Sym × Nat} {gs:List (List Sym × Nat)} {σ:Nat→List Sym} (h:40<c.body.length+gs.length∨100<n.used.length+1):Zdl (Zan σ n c k g gs)=3:=by
 have:Zlw (Zan σ n c k g gs)=true:=by
  unfold Zlw Zan carr
  simp only [Bool.or_eq_true,decide_eq_true_eq,Ql,Qg,Qf,Jt]
  omega
 unfold Zdl
 rw [if_pos this]
theorem Zts {n:ND} {c:Cls} (hc:COk c) (k:Nat) {g:List Sym × Nat} {gs:List (List Sym × Nat)} {σ:Nat→List Sym} (h1:¬ 40<c.body.length+gs.length) (h2:¬ 100<n.used.length+1) (h:∀ l ∈ (c.body.map (fun l=>l.map (rn n.vars))++gs.map (·.1))++(n.vals++(n.done.map (·.1)++[g.1])),(ap σ l).length≤30):Zdl (Zan σ n c k g gs)=1∨Zdl (Zan σ n c k g gs)=2:=by
 have:Zlw (Zan σ n c k g gs)=false:=by
  have hg:∀ x ∈ (Zan σ n c k g gs).goals,¬ bigG x=true:=fun x hx=>by
   have:x.1 ∈ (Zan σ n c k g gs).goals.map (·.1):=List.mem_map.2 ⟨x,hx,rfl⟩
   rw [Zgz σ n c hc] at this
   obtain ⟨l,hl,e⟩:=List.mem_map.1 this
   have:=h l (List.mem_append_left _ hl)
   unfold bigG
   rw [← e]
   simpa using this
  have hd:∀ x ∈ (Zan σ n c k g gs).done,¬ bigG x=true:=fun x hx=>by
   have:x.1 ∈ (Zan σ n c k g gs).done.map (·.1):=List.mem_map.2 ⟨x,hx,rfl⟩
   rw [Zke] at this
   obtain ⟨l,hl,e⟩:=List.mem_map.1 this
   have:=h l (List.mem_append_right _ (List.mem_append_right _ hl))
   unfold bigG
   rw [← e]
   simpa using this
  unfold Zlw
  simp only [Bool.or_eq_false_iff,decide_eq_false_iff_not]
  refine ⟨⟨⟨?_,?_⟩,List.any_eq_false.2 hg⟩,List.any_eq_false.2 hd⟩
  ·unfold Zan carr; simp; omega
  ·unfold Zan carr; simp; omega
 unfold Zdl
 rw [this]
 simp only [Bool.false_eq_true,if_false]
 split
 ·exact Or.inr rfl
 ·exact Or.inl rfl
theorem Yez (w:World) (gv vv rv hv bv nv:Value) (n:ND) (c:Cls) (k:Nat) (hn:NOk n) (hc:COk c) (h:NodeIn w gv vv rv n) (hcl:ClsIn w hv bv nv c) :
  Calls Tryz.prog 97 #[.agg #[gv,vv,rv,.int .i64 n.vars],.agg #[hv,bv,nv]] w (TryOut n c k w):=by
 obtain ⟨ga,gcap,rfl⟩:=h.goals.shape
 obtain ⟨va,vcap,rfl⟩:=h.vals.shape
 obtain ⟨ra,rcap,rfl⟩:=h.done.shape
 obtain ⟨ha,hcap,rfl⟩:=Zad hcl.head
 obtain ⟨ba,bcap,rfl⟩:=hcl.body.shape
 obtain ⟨na,ncap,rfl⟩:=Zad hcl.names
 have hgl:(n.goals.map (·.1)).length=n.goals.length:=by simp
 have hdl:(n.done.map (·.1)).length=n.done.length:=by simp
 rw [hgl,hdl] at h ⊢
 have hV:n.vars≤101000:=by have:=hn.vars; have:=hn.ul; omega
 have hcn:c.names.length≤1000:=hc.n
 have hg40:=hn.gl
 have hd100:n.done.length≤100:=by rw [hn.dl]; exact hn.ul
 have hb6:=hc.bn
 obtain ⟨W,hW⟩:∃ W,W=((w.alloc (.cells #[.slice ga n.goals.length gcap,.slice va n.vals.length vcap,.slice ra n.done.length rcap,.int .i64 n.vars] 87)).alloc (.cells #[.slice ha c.head.length hcap,.slice ba c.body.length bcap,.slice na c.names.length ncap] 107)).alloc (.cells #[.slice none 0 0,.slice none 0 0,.slice none 0 0,.int .i64 0] 87):=⟨_,rfl⟩
 have hE0:Ext w W:=by rw [hW]; exact (Ext.of (by repeat' (first | with_reducible(first|exact Qx _ _|apply Kept.drew|apply Kept.drewN|apply Qz|refine Qy ?_ ?_ _)|exact fun h=>absurd h (by simp <;> omega))))
 have hWs:W.heap.size=w.heap.size+3:=by rw [hW]; simp
 have hb0:NB W w.heap.size (.slice ga n.goals.length gcap) (.slice va n.vals.length vcap) (.slice ra n.done.length rcap) n.vars:=by rw [hW]; exact Zav (Zav (heap_alloc_new w _) _) _
 have hb1:W.heap[w.heap.size+1]?=some (.cells #[.slice ha c.head.length hcap,.slice ba c.body.length bcap,.slice na c.names.length ncap] 107 (0,0)):=by rw [hW]; exact Zav (Zfy (by simp) _) _
 have hb2:NB W (w.heap.size+2) (.slice none 0 0) (.slice none 0 0) (.slice none 0 0) 0:=by rw [hW]; exact Zfy (by simp) _
 have HB:Hid (∀ y,Ext W y→y.cell? ⟨w.heap.size,0,none⟩=some (.slice ga n.goals.length gcap)∧y.cell? ⟨w.heap.size,1,none⟩=some (.slice va n.vals.length vcap)∧y.cell? ⟨w.heap.size,2,none⟩=some (.slice ra n.done.length rcap)∧y.cell? ⟨w.heap.size,3,none⟩=some (.int .i64 n.vars) ∧
   y.cell? ⟨w.heap.size+1,0,none⟩=some (.slice ha c.head.length hcap)∧y.cell? ⟨w.heap.size+1,1,none⟩=some (.slice ba c.body.length bcap)∧y.cell? ⟨w.heap.size+1,2,none⟩=some (.slice na c.names.length ncap)∧NB y (w.heap.size+2) (.slice none 0 0) (.slice none 0 0) (.slice none 0 0) 0∧w.heap.size+2<y.heap.size):=fun y hE=>by
  have e0:=(hE.block _ (Zab hb0)).trans hb0
  have e1:=(hE.block _ (Zab hb1)).trans hb1
  have e2:=(hE.block _ (Zab hb2)).trans hb2
  exact ⟨Zaa e0 0 _ rfl,Zaa e0 1 _ rfl,Zaa e0 2 _ rfl,Zaa e0 3 _ rfl,Zaa e1 0 _ rfl,Zaa e1 1 _ rfl,Zaa e1 2 _ rfl,e2,Zab e2⟩
 have hset:Hid (∀ y x0 x1 x2 x3,Ext w y→Ext w ((((y.setCell ⟨w.heap.size+2,0,none⟩ x0).setCell ⟨w.heap.size+2,1,none⟩ x1).setCell ⟨w.heap.size+2,2,none⟩ x2).setCell ⟨w.heap.size+2,3,none⟩ x3)):=fun y x0 x1 x2 x3 hE =>
  (((hE.setCell (p:=⟨w.heap.size+2,0,none⟩) (by simp) _).setCell (p:=⟨w.heap.size+2,1,none⟩) (by simp) _).setCell (p:=⟨w.heap.size+2,2,none⟩) (by simp) _).setCell (p:=⟨w.heap.size+2,3,none⟩) (by simp) _
 have hhead:TmOk (c.head.map (rn n.vars)):=TmOk.rn hc.wfh (by have:=hc.hl; omega) hc.och (by have:=hc.n; omega)
 have hheadl:(c.head.map (rn n.vars)).length=c.head.length:=by simp
 have hhl:=hc.hl
 have HR:=Zac (Zhr W (.slice ha c.head.length hcap) c.head n.vars (WordAt.ext hcl.head hE0) (by omega) (fun s hs=>(Zmz hc.wfh (by omega) hc.och (by have:=hc.n; omega)).num s hs) (by omega))
 obtain ⟨HD,hHD⟩:∃ l,l=c.head.map (rn n.vars):=⟨_,rfl⟩
 have HHD:Hid (HD=ap (Zcb n.vars) c.head):=by show _=_; rw [hHD]; exact (Zld hc.wfh).symm
 rw [← hHD] at HR hheadl hhead
 have H:=Zac h
 have Hcl:=Zac hcl
 have Hn:=Zac hn
 have Hc:=Zac hc
 have HE0:=Zac hE0
 have Hhead:=Zac hhead
 have Hhl:=Zac hheadl
 have HW:=Zac hW
 clear h hcl hE0 hb0 hb1 hb2 hhead hHD hgl hdl hn hc hheadl
 cases hgo:n.goals with
 | nil =>
  have Hgo:=Zac hgo
  rw [hgo] at HB
  obtain ⟨c0,c1,c2,c3,c4,c5,c6,c7,c8⟩:=HB.out W (Below.refl _ _)
  have r0:=Zaa c7 0 _ rfl
  have r1:=Zaa c7 1 _ rfl
  have r2:=Zaa c7 2 _ rfl
  have r3:=Zaa c7 3 _ rfl
  have rf:=fun i=>Zae c7 i
  rw [hgo] at hW
  clear hgo c7 hg40
  go_enter Tryz.func97,Tryz.ntmps97
  go_wp2_with fail
  rw [Jt] at hW
  rw [← hW]
  refine bodyPost_ret (v := .tuple #[.agg #[.slice none 0 0,.slice none 0 0,.slice none 0 0,.int .i64 0],.int .i64 0]) (by simp [results,Tryz.results97,go_sem,r0,r1,r2,r3,rf,c8]) rfl ?_
  exact ⟨HE0.out,none,0,0,none,0,0,none,0,0,0,0,rfl,Or.inl ⟨rfl,Or.inl Hgo.out⟩⟩
 | cons g gs =>
  have hgn:n.goals.length=gs.length+1:=by rw [hgo]; simp
  have z1:((n.goals.length:Int) == 0)=false:=by rw [Qu]; omega
  obtain ⟨us,hT⟩:=H.out.goals
  obtain ⟨x,hx,hxo⟩:=hT.all 0 g.1 (by rw [hgo]; rfl)
  obtain ⟨xa,xcap,rfl⟩:=Zad hxo
  obtain ⟨gb,cap',cur,he,_,hgb,_⟩:=Zaw hT.owns (by simp; omega)
  simp only [Value.slice.injEq] at he
  obtain ⟨rfl,_,rfl⟩:=he
  have hgw:=Zab hgb
  have x0:w.cell? ⟨gb,0,none⟩=some (.slice xa g.1.length xcap):=Zag (by have:=hT.owns; rw [Ql] at this; exact this) _ _ hx
  have hgt:g.1 ∈ n.terms:=by unfold ND.terms; rw [hgo]; simp
  have hgW:=Hn.out.wf g.1 hgt
  have hg30:=(Hn.out.gs g (by rw [hgo]; simp)).1
  have hgO:=(Zmz hgW (by omega) (Hn.out.occ g.1 hgt) (by omega)).num
  have hHW:Wf 1 HD:=by rw [HHD.out]; exact Zhj (Zop _) Hc.out.wfh
  have hHl:=Hhl.out
  have HWd:Hid (∀ y hx hc,Ext w y→WordAt y (.slice hx HD.length hc) HD→Calls Tryz.prog 127 #[.slice xa g.1.length xcap,.slice hx HD.length hc] y (Ztq g.1 HD y)):=fun y hx hc hE hr =>
   Zxz y _ _ g.1 HD (WordAt.ext hxo hE) hr hgW hHW (by omega) (by omega) (fun s hs=>by
    rcases Qk.1 hs with hs | hs
    ·exact hgO s hs
    ·exact Hhead.out.num s hs)
  have Hgo:=Zac hgo
  have Hgn:=Zac hgn
  have Hg30:=Zac hg30
  clear hT hx hxo hgb hgt hgW hgO hHW hHl hgo hgn hg30
  obtain ⟨gl,hgl⟩:∃ m,m=n.goals.length:=⟨_,rfl⟩
  rw [← hgl] at HB hW z1 hg40
  rw [show (g::gs).length=gl from by rw [hgl,Hgn.out]; rfl]
  have hgp:0<gl:=by rw [hgl,Hgn.out]; omega
  have Hgl:=Zac hgl
  clear hgl
  go_enter Tryz.func97,Tryz.ntmps97
  go_wp2_with fail
  rw [← hW]
  refine HR.out.mono ?_
  rintro e w1 ⟨hv1,B1,rfl,hB1,hr1,hE1⟩
  obtain ⟨h1a,h1c,rfl⟩:=Zad hr1
  obtain ⟨c0,c1,c2,c3,c4,c5,c6,c7,c8⟩:=HB.out w1 hE1
  have hEw1:Ext w w1:=HE0.out.trans (hE1.mono (by omega))
  have hz1:=hE1.size
  have x1:w1.cell? ⟨gb,0,none⟩=some (.slice xa g.1.length xcap):=(hEw1.cell (p:=⟨gb,0,none⟩) hgw).trans x0
  have hgw1:gb<w1.heap.size:=by omega
  have HWd1:=Zac (HWd.out w1 h1a h1c hEw1 (Zbd hr1 (Qm _)))
  have HE1:=Zac hE1
  have HEw1:=Zac hEw1
  clear hr1 hE1 hEw1 HR x0 HWd hW
  go_wp2_with fail
  refine HWd1.out.mono ?_
  rintro e w2 ⟨hE2,sx,sn,sc,q,rfl,hout⟩
  obtain ⟨c0,c1,c2,c3,c4,c5,c6,c7,c8⟩:=HB.out w2 (HE1.out.trans (hE2.mono hz1))
  have hz2:=hE2.size
  have r0:=Zaa c7 0 _ rfl
  have r1:=Zaa c7 1 _ rfl
  have r2:=Zaa c7 2 _ rfl
  have r3:=Zaa c7 3 _ rfl
  have rf:=fun i=>Zae c7 i
  have hEw2:Ext w w2:=HEw1.out.trans (hE2.mono (by omega))
  have k0:w.heap.size<w2.heap.size:=by omega
  have k1:w.heap.size+1<w2.heap.size:=by omega
  have HE2:=Zac hE2
  have HEw2:=Zac hEw2
  have Hc7:=Zac c7
  clear hE2 hEw2 x1 HWd1 c7
  rcases hout with ⟨rfl,hno⟩ | ⟨rfl,hva⟩ | ⟨rfl,ts,tvs,hts,hmg,hsm,htl,ht30⟩
  ·have Hno:Hid (Out n c k 0 n):=⟨g,gs,Hgo.out,Or.inl ⟨rfl,by rw [← HHD.out]; exact hno⟩⟩
   clear hno
   go_wp2
   refine bodyPost_ret (v := .tuple #[.agg #[.slice none 0 0,.slice none 0 0,.slice none 0 0,.int .i64 0],.int .i64 0]) (by simp [results,Tryz.results97,go_sem,r0,r1,r2,r3,rf,c8]) rfl ?_
   refine ⟨(hset.out w2 (.slice none 0 0) (.slice none 0 0) (.slice none 0 0) (.int .i64 0) HEw2.out).alloc (by simp; omega) _,none,0,0,none,0,0,none,0,0,0,0,rfl,Or.inl ⟨rfl,Or.inr Hno.out⟩⟩
  ·have Hva:Hid (∃ ch,Out n c k 3 ch):=⟨n,g,gs,Hgo.out,Or.inr (Or.inl ⟨rfl,by rw [← HHD.out]; exact hva⟩)⟩
   clear hva
   go_wp2
   refine bodyPost_ret (v := .tuple #[.agg #[.slice none 0 0,.slice none 0 0,.slice none 0 0,.int .i64 0],.int .i64 2]) (by simp [results,Tryz.results97,go_sem,r0,r1,r2,r3,rf,c8]) rfl ?_
   refine ⟨(hset.out w2 (.slice none 0 0) (.slice none 0 0) (.slice none 0 0) (.int .i64 0) HEw2.out).alloc (by simp; omega) _,none,0,0,none,0,0,none,0,0,0,2,rfl,Or.inr (Or.inl ⟨rfl,Hva.out⟩)⟩
  ·rw [HHD.out] at hmg
   have Hmg:=Zac hmg
   have Hts:=Zac hts
   have Ht30:=Zac ht30
   have Hsm:=Zac hsm
   clear hmg hts ht30 hsm
   by_cases hmany:40<c.body.length+gs.length∨100<n.used.length+1
   ·have Hk:Hid (∃ ch,Out n c k 3 ch):=⟨_,g,gs,Hgo.out,Or.inr (Or.inr ⟨sbOf ts,Hmg.out,Hsm.out,(Zyb k hmany).symm,rfl⟩)⟩
    have hgl':gl=gs.length+1:=by rw [Hgl.out,Hgn.out]
    have hdu:=Hn.out.dl
    by_cases h40:40<c.body.length+gs.length
    ·have hi:(40:Int)<(c.body.length:Int)+(gl:Int) - 1:=by omega
     clear hmany h40 hgl' hdu
     go_wp2
     refine bodyPost_ret (v := .tuple #[.agg #[.slice none 0 0,.slice none 0 0,.slice none 0 0,.int .i64 0],.int .i64 2]) (by simp [results,Tryz.results97,go_sem,r0,r1,r2,r3,rf,c8]) rfl ?_
     exact ⟨(hset.out w2 (.slice none 0 0) (.slice none 0 0) (.slice none 0 0) (.int .i64 0) HEw2.out).alloc (by simp; omega) _,none,0,0,none,0,0,none,0,0,0,2,rfl,Or.inr (Or.inl ⟨rfl,Hk.out⟩)⟩
    ·have hi:¬ ((40:Int)<(c.body.length:Int)+(gl:Int) - 1):=by omega
     have hi2:(100:Int)<(n.done.length:Int)+1:=by omega
     clear hmany h40 hgl' hdu
     go_wp2
     refine bodyPost_ret (v := .tuple #[.agg #[.slice none 0 0,.slice none 0 0,.slice none 0 0,.int .i64 0],.int .i64 2]) (by simp [results,Tryz.results97,go_sem,r0,r1,r2,r3,rf,c8]) rfl ?_
     exact ⟨(hset.out w2 (.slice none 0 0) (.slice none 0 0) (.slice none 0 0) (.int .i64 0) HEw2.out).alloc (by simp; omega) _,none,0,0,none,0,0,none,0,0,0,2,rfl,Or.inr (Or.inl ⟨rfl,Hk.out⟩)⟩
   ·have hgl':gl=gs.length+1:=by rw [Hgl.out,Hgn.out]
    have hdu:=Hn.out.dl
    have hi:¬ ((40:Int)<(c.body.length:Int)+(gl:Int) - 1):=by omega
    have hi2:¬ ((100:Int)<(n.done.length:Int)+1):=by omega
    have hm1:¬ 40<c.body.length+gs.length:=fun h=>hmany (Or.inl h)
    have hm2:¬ 100<n.used.length+1:=fun h=>hmany (Or.inr h)
    obtain ⟨sl,hsl⟩:∃ m,m=sn:=⟨_,rfl⟩
    have hN:NodeIn w (.slice (some ⟨gb,0,none⟩) gl gcap) (.slice va n.vals.length vcap) (.slice ra n.done.length rcap) n:=by rw [Hgl.out]; exact H.out
    have hE3:Ext w (w2.alloc (.cells #[.slice sx sn sc] 216)):=HEw2.out.alloc (by omega) _
    have hg3:=(hN.ext hE3).goals
    rw [Hgo.out,List.map_cons] at hg3
    have HBd:=Zac (Zry (w2.alloc (.cells #[.slice sx sn sc] 216)) (.slice (some ⟨gb,0,none⟩) gl gcap) (.slice va n.vals.length vcap) (.slice ra n.done.length rcap) (.slice ha c.head.length hcap) (.slice ba c.body.length bcap) (.slice na c.names.length ncap) g.1 (gs.map (·.1)) n.vals (n.done.map (·.1)) c.body c.names n.vars
     hg3 (hN.ext hE3).vals (hN.ext hE3).done ⟨_,_,_,rfl⟩ (Hcl.out.ext hE3).body (Hcl.out.ext hE3).names (by simp; omega) (by simp; omega) (by omega) (by omega) (by omega) (fun l hl=>Zmz (Hc.out.wfb l hl) (by have:=Hc.out.bl l hl; omega) (Hc.out.ocb l hl) (by have:=Hc.out.n; omega)))
    have HN:=Zac hN
    have HE3:=Zac hE3
    clear hgl' hdu hmany hsl hN hE3 hg3
    go_wp2_with fail
    refine HBd.out.mono ?_
    rintro e w4 ⟨hE4,b1,b2,d1,d2,rfl,hbg,hbr⟩
    obtain ⟨G2,hG2⟩:∃ l,l=c.body.map (fun l=>l.map (rn n.vars))++gs.map (·.1):=⟨_,rfl⟩
    obtain ⟨R2,hR2⟩:∃ l,l=n.done.map (·.1)++[g.1]:=⟨_,rfl⟩
    rw [← hG2] at hbg ⊢
    rw [← hR2] at hbr ⊢
    have hG2l:G2.length≤1000:=by rw [hG2]; simp; omega
    have hR2l:R2.length≤1000:=by rw [hR2]; simp; omega
    have hok:∀ l ∈ G2++(n.vals++R2),TmOk l:=fun l hl=>by
     rcases Qk.1 hl with hl | hl
     ·rw [hG2] at hl
      rcases Qk.1 hl with hl | hl
      ·obtain ⟨m,hm,rfl⟩:=List.mem_map.1 hl
       exact TmOk.rn (Hc.out.wfb m hm) (by have:=Hc.out.bl m hm; omega) (Hc.out.ocb m hm) (by have:=Hc.out.n; omega)
      ·obtain ⟨m,hm,rfl⟩:=List.mem_map.1 hl
       have hmt:m.1 ∈ n.terms:=by unfold ND.terms; rw [Hgo.out]; exact List.mem_append_left _ (List.mem_map.2 ⟨m,by simp [hm],rfl⟩)
       exact Zmz (Hn.out.wf _ hmt) (by have:=(Hn.out.gs m (by rw [Hgo.out]; simp [hm])).1; omega) (Hn.out.occ _ hmt) (by omega)
     ·rcases Qk.1 hl with hl | hl
      ·have hmt:l ∈ n.terms:=by unfold ND.terms; simp [hl]
       exact Zmz (Hn.out.wf _ hmt) (by have:=Hn.out.vsize hl; omega) (Hn.out.occ _ hmt) (by omega)
      ·rw [hR2] at hl
       rcases Qk.1 hl with hl | hl
       ·obtain ⟨m,hm,rfl⟩:=List.mem_map.1 hl
        have hmt:m.1 ∈ n.terms:=by unfold ND.terms; exact List.mem_append_right _ (List.mem_append_right _ (List.mem_map.2 ⟨m,hm,rfl⟩))
        exact Zmz (Hn.out.wf _ hmt) (by have:=(Hn.out.ds m hm).1; omega) (Hn.out.occ _ hmt) (by omega)
       ·simp at hl
        subst hl
        have hmt:g.1 ∈ n.terms:=by unfold ND.terms; rw [Hgo.out]; simp
        exact Zmz (Hn.out.wf _ hmt) (by have:=Hg30.out; omega) (Hn.out.occ _ hmt) (by omega)
    have hz4:=hE4.size
    have hz4:w2.heap.size+1≤w4.heap.size:=by simpa using hz4
    have hsb:w4.heap[w2.heap.size]?=some (.cells #[.slice sx sn sc] 216 (0,0)):=(hE4.block _ (by simp)).trans (heap_alloc_new w2 _)
    have sb0:=Zaa hsb 0 _ rfl
    have hE24:Ext w2 w4:=(show Ext w2 (w2.alloc (.cells #[.slice sx sn sc] 216)) from (Ext.of (by repeat' (first | with_reducible(first|exact Qx _ _|apply Kept.drew|apply Kept.drewN|apply Qz|refine Qy ?_ ?_ _)|exact fun h=>absurd h (by simp <;> omega))))).trans (hE4.mono (by simp))
    have hEw4:Ext w w4:=HEw2.out.trans (hE24.mono (by omega))
    have c74:NB w4 (w.heap.size+2) (.slice none 0 0) (.slice none 0 0) (.slice none 0 0) 0:=(hE24.block _ c8).trans Hc7.out
    have hE45:∀ o,Ext w4 (w4.alloc o):=fun o=>(Ext.of (by repeat' (first | with_reducible(first|exact Qx _ _|apply Kept.drew|apply Kept.drewN|apply Qz|refine Qy ?_ ?_ _)|exact fun h=>absurd h (by simp <;> omega))))
    have HWt:Hid (∀ o,Calls Tryz.prog 129 #[.agg #[.slice b1 G2.length b2,.slice va n.vals.length vcap,.slice d1 R2.length d2,.int .i64 ((n.vars+c.names.length:Nat):Int)],.agg #[.slice sx sn sc]] (w4.alloc o) (Ybv ts G2 n.vals R2 (n.vars+c.names.length) (w4.alloc o))):=fun o =>
     Zps (w4.alloc o) (.slice sx sn sc) _ _ _ ts G2 n.vals R2 tvs (n.vars+c.names.length) ((Hts.out.ext hE24).ext (hE45 o)) (hbg.ext (hE45 o)) ((HN.out.vals.ext hEw4).ext (hE45 o)) (hbr.ext (hE45 o)) htl Ht30.out (by omega) (by have:=Hn.out.vl; omega) (by omega) hok (by omega)
    have HEw4:=Zac hEw4
    have Hc74:=Zac c74
    have HG2:=Zac hG2
    have HR2:=Zac hR2
    have k4:w.heap.size+2<w4.heap.size:=by omega
    have k5:w2.heap.size<w4.heap.size:=by omega
    clear hE4 hbg hbr hok hsb hE24 hEw4 c74 hE45 hG2 hR2 HBd
    go_wp2_with fail
    refine (HWt.out _).mono ?_
    rintro e w6 ⟨hE6,hout⟩
    have hz6:=hE6.size
    have hz6:w4.heap.size+1≤w6.heap.size:=by simpa using hz6
    have hE46:Ext w4 w6:=(Below.refl _ w4 |>.alloc (Qe _) _).trans (hE6.mono (by simp))
    have hEw6:Ext w w6:=HEw4.out.trans (hE46.mono (by omega))
    have c76:NB w6 (w.heap.size+2) (.slice none 0 0) (.slice none 0 0) (.slice none 0 0) 0:=(hE46.block _ k4).trans Hc74.out
    have r0:=Zaa c76 0 _ rfl
    have r1:=Zaa c76 1 _ rfl
    have r2:=Zaa c76 2 _ rfl
    have r3:=Zaa c76 3 _ rfl
    have rf:=fun i=>Zae c76 i
    have k6:w.heap.size+2<w6.heap.size:=by omega
    have HEw6:=Zac hEw6
    have Hc76:=Zac c76
    clear hE6 hE46 hEw6 c76 HWt
    rcases hout with ⟨hsmall,g1,g2,g3,v1,v2,v3,q1,q2,q3,rfl,t1,t2,t3⟩ | ⟨⟨l,hl,hbig⟩,rfl⟩
    ·have hkind:=Zts (k:=k) (g:=g) (gs:=gs) Hc.out (σ:=sbOf ts) hm1 hm2 (by rw [← HG2.out,← HR2.out]; exact hsmall)
     have hK2:∀ x0 x1 x2 x3,Kept (fun j=>j=w.heap.size+2) w6 ((((w6.setCell ⟨w.heap.size+2,0,none⟩ x0).setCell ⟨w.heap.size+2,1,none⟩ x1).setCell ⟨w.heap.size+2,2,none⟩ x2).setCell ⟨w.heap.size+2,3,none⟩ x3):=fun x0 x1 x2 x3=>((((Qx (only (w.heap.size+2)) w6).put 0 _).put 1 _).put 2 _).put 3 _
     have hout:TryOut n c k w (.returned (.tuple #[.agg #[.slice g1 g2 g3,.slice v1 v2 v3,.slice q1 q2 q3,.int .i64 ((n.vars+c.names.length:Nat):Int)],.int .i64 1])) ((((w6.setCell ⟨w.heap.size+2,0,none⟩ (.slice g1 g2 g3)).setCell ⟨w.heap.size+2,1,none⟩ (.slice v1 v2 v3)).setCell ⟨w.heap.size+2,2,none⟩ (.slice q1 q2 q3)).setCell ⟨w.heap.size+2,3,none⟩ (.int .i64 ((n.vars+c.names.length:Nat):Int))):=by
      refine ⟨hset.out w6 _ _ _ _ HEw6.out,g1,g2,g3,v1,v2,v3,q1,q2,q3,n.vars+c.names.length,1,rfl,Or.inr (Or.inr ⟨rfl,Zan (sbOf ts) n c k g gs,Zdl (Zan (sbOf ts) n c k g gs),hkind,⟨g,gs,Hgo.out,Or.inr (Or.inr ⟨sbOf ts,Hmg.out,Hsm.out,rfl,rfl⟩)⟩,⟨?_,?_,?_⟩,rfl,?_⟩)⟩
      ·rw [Zgz _ _ _ Hc.out,← HG2.out]; exact (t1.box Hc76.out (by decide) (by decide) (hK2 _ _ _ _)).mono (by simp; omega)
      ·exact (t2.box Hc76.out (by decide) (by decide) (hK2 _ _ _ _)).mono (by simp; omega)
      ·rw [Zke,← HR2.out]; exact (t3.box Hc76.out (by decide) (by decide) (hK2 _ _ _ _)).mono (by simp; omega)
      ·obtain ⟨za,zc,ze⟩:=t1.inn.shape
       simp only [Value.slice.injEq] at ze
       rw [ze.2.1,HG2.out,← Zgz (sbOf ts) n c Hc.out k g gs,Ql]
     have Hout:=Zac hout
     clear hout hsmall hkind hK2 t1 t2 t3
     go_wp2
     refine bodyPost_ret (v := .tuple #[.agg #[.slice g1 g2 g3,.slice v1 v2 v3,.slice q1 q2 q3,.int .i64 ((n.vars+c.names.length:Nat):Int)],.int .i64 1]) (by simp [results,Tryz.results97,go_sem,r0,r1,r2,r3,rf,k6]) rfl ?_
     exact Hout.out
    ·have Hk:Hid (∃ ch,Out n c k 3 ch):=⟨_,g,gs,Hgo.out,Or.inr (Or.inr ⟨sbOf ts,Hmg.out,Hsm.out,(Yby Hn.out Hc.out k Hgo.out Hmg.out (by rw [← HG2.out,← HR2.out]; exact hl) hbig).symm,rfl⟩)⟩
     clear hl hbig
     go_wp2
     refine bodyPost_ret (v := .tuple #[.agg #[.slice none 0 0,.slice none 0 0,.slice none 0 0,.int .i64 0],.int .i64 2]) (by simp [results,Tryz.results97,go_sem,r0,r1,r2,r3,rf,k6]) rfl ?_
     exact ⟨hset.out w6 _ _ _ _ HEw6.out,none,0,0,none,0,0,none,0,0,0,2,rfl,Or.inr (Or.inl ⟨rfl,Hk.out⟩)⟩
def offA (N:List (List UInt8 × Nat)) (s:Sym):Sym:=if s.name=[]∨(s.name,s.args) ∈ N then s else ⟨s.name++[0],s.num,s.args⟩
theorem Yhu {N:List (List UInt8 × Nat)}:∀ {l:List Sym} {k:Nat},Wf k l→Wf k (l.map (offA N)):=by
 intro l
 induction l with
 | nil=>intro k h; exact h
 | cons s l ih =>
  intro k h
  obtain ⟨h1,h2,h3,h4⟩:=h
  have e1:(offA N s).args=s.args:=by unfold offA; split <;> rfl
  have e2:(offA N s).name=[]↔s.name=[]:=by
   unfold offA; split
   ·exact Iff.rfl
   ·rename_i h; simp at h ⊢; exact h.1
  have e3:(offA N s).num=s.num:=by unfold offA; split <;> rfl
  refine ⟨h1,fun h=>by rw [e1]; exact h2 (e2.1 h),fun h=>by rw [e3]; exact h3 (fun h'=>h (e2.2 h')),?_⟩
  rw [e1]; exact ih h4
theorem Mgu.nma {σ:Nat→List Sym} {a b:List Sym} (h:Mgu σ a b) (n:Nat):∀ s ∈ σ n,s.name≠[]→∃ t ∈ a++b,t.name=s.name∧t.args=s.args:=by
 intro s hs hn
 refine Classical.byContradiction (fun hno => ?_)
 have hno:∀ t ∈ a++b,¬ (t.name=s.name∧t.args=s.args):=fun t ht e=>hno ⟨t,ht,e⟩
 obtain ⟨N,hN⟩:∃ N,N=(a++b).map (fun t=>(t.name,t.args)):=⟨_,rfl⟩
 have hθ:Ts (fun n=>(σ n).map (offA N)):=fun n=>Yhu (h.ts n)
 have key:∀ l:List Sym,(∀ t ∈ l,(t.name,t.args) ∈ N)→ap (fun n=>(σ n).map (offA N)) l=(ap σ l).map (offA N):=by
  intro l
  induction l with
  | nil=>intro _; rfl
  | cons t l ih =>
   intro ht
   rw [Zay,Zay,Qr,ih (fun u hu=>ht u (by simp [hu]))]
   congr 1
   unfold ap1
   split
   ·rfl
   ·have:offA N t=t:=by unfold offA; rw [if_pos (Or.inr (ht t (by simp)))]
    simp [this]
 have ha:=key a (fun t ht=>by rw [hN]; exact List.mem_map.2 ⟨t,by simp [ht],rfl⟩)
 have hb:=key b (fun t ht=>by rw [hN]; exact List.mem_map.2 ⟨t,by simp [ht],rfl⟩)
 have hw:=h.wide _ hθ (by rw [ha,hb,h.unif]) n
 have hf:=Znq hθ hw s hs hn
 have hnN:¬ (s.name=[]∨(s.name,s.args) ∈ N):=by
  rintro (h | h)
  ·exact hn h
  ·rw [hN] at h
   obtain ⟨t,ht,e⟩:=List.mem_map.1 h
   simp only [Prod.mk.injEq] at e
   exact hno t ht e
 unfold offA at hf
 rw [if_neg hnN] at hf
 have:=congrArg (fun s=>s.name.length) hf
 simp at this
def Few (l:List Sym):Prop:=∀ s ∈ l,s.args≤4
def NFew (n:ND):Prop:=∀ t ∈ n.terms,Few t
def CFew (c:Cls):Prop:=Few c.head∧∀ t ∈ c.body,Few t
theorem Ygi (n:Nat):Few (vr n):=fun s hs=>by simp [vr] at hs; subst hs; simp
theorem Few.ap {σ:Nat→List Sym} {l:List Sym} (h:Few l) (hσ:∀ n,Few (σ n)):Few (ap σ l):=by
 intro s hs
 simp only [YtlmjilpjmgjjcaaGreatDoor.ap,List.mem_flatMap] at hs
 obtain ⟨t,ht,hs⟩:=hs
 unfold ap1 at hs
 split at hs
 ·exact hσ _ s hs
 ·simp at hs; subst hs; exact h s ht
theorem Zrz (v n:Nat):Few (Zcb v n):=Ygi _
theorem Mgu.few {σ:Nat→List Sym} {a b:List Sym} (h:Mgu σ a b) (ha:Few a) (hb:Few b) (n:Nat):Few (σ n):=by
 intro s hs
 by_cases hn:s.name=[]
 ·rw [Zsx (h.ts n) s hs hn]; omega
 ·obtain ⟨t,ht,_,e⟩:=h.nma n s hs hn
  rw [← e]
  rcases Qk.1 ht with ht | ht
  ·exact ha t ht
  ·exact hb t ht
theorem Yhv {n:ND} {c:Cls} {k q:Nat} {ch:ND} (h:Out n c k q ch) (hq:q=1∨q=2) (hn:NFew n) (hc:CFew c):NFew ch:=by
 obtain ⟨g,gs,hg,h⟩:=h
 rcases h with ⟨rfl,_⟩ | ⟨rfl,_⟩ | ⟨σ,h1,_,_,rfl⟩
 ·omega
 ·omega
 ·have hgt:Few g.1:=hn g.1 (by simp [ND.terms,hg])
  have hhd:Few (ap (Zcb n.vars) c.head):=hc.1.ap (Zrz _)
  have hσ:=h1.few hgt hhd
  intro t ht
  rw [Zfg] at ht
  simp only [Qk,List.mem_map] at ht
  rcases ht with ⟨u,hu,rfl⟩ | ⟨u,hu,rfl⟩ | ⟨u,hu,rfl⟩
  ·rcases hu with ⟨b,hb,rfl⟩ | ⟨x,hx,rfl⟩
   ·exact ((hc.2 b hb).ap (Zrz _)).ap hσ
   ·exact (hn x.1 (by simp only [ND.terms,hg,List.map_cons,List.cons_append,Qp,Qk,List.mem_map]; exact Or.inr (Or.inl ⟨x,hx,rfl⟩))).ap hσ
  ·exact (hn u (by simp [ND.terms,hu])).ap hσ
  ·rcases hu with ⟨x,hx,rfl⟩ | hu
   ·exact (hn x.1 (by simp only [ND.terms,Qk,List.mem_map]; exact Or.inr (Or.inr ⟨x,hx,rfl⟩))).ap hσ
   ·simp at hu; subst hu; exact hgt.ap hσ
structure SF (st:RS):Prop where
 sb:SB st
 atom:Few st.atom
 head:Few st.head
 body:∀ l ∈ st.body,Few l
 cls:∀ c ∈ st.clauses,Few c.head∧∀ l ∈ c.body,Few l
theorem Zvj {l:List Sym} {s:Sym} (h:Few l) (hs:s.args≤4):Few (l++[s]):=fun t ht=>by
 rcases Qk.1 ht with ht | ht
 ·exact h t ht
 ·simp at ht; subst ht; exact hs
theorem Ztt:Few []:=fun s hs=>by simp at hs
theorem Zvk:∀ l ∈ ([]:List (List Sym)),Few l:=fun l hl=>by simp at hl
theorem Zvl {st:RS} (h:SF st) (hf:Zes st=false) (hn:st.next=0∨st.next=1∨st.next=2):Few (Zcf st):=by
 unfold Zcf
 cases ho:st.opn with
 | nil=>exact h.atom
 | cons n r =>
  simp only
  by_cases h2:st.next=2
  ·have ha:Zju st<4:=by
    unfold Zes at hf
    rw [if_neg (by omega),if_neg (by omega),if_pos h2] at hf
    simp at hf
    omega
   intro s hs
   obtain ⟨i,hi⟩:=List.mem_iff_getElem?.1 hs
   rw [List.getElem?_modify] at hi
   cases hx:st.atom[i]? with
   | none=>rw [hx] at hi; simp at hi
   | some x =>
    rw [hx] at hi
    simp at hi
    subst hi
    split
    ·rename_i e
     subst e
     have:Zju st=x.args:=by unfold Zju; rw [ho]; simp [hx]
     simp only
     omega
    ·exact h.atom x (Qh hx)
  ·have:=h.sb.empty h2 (by omega) (by omega)
   rw [this]
   intro s hs
   simp at hs
theorem SF.endAtom {st:RS} (h:SF st):Few (Zap st).atom∧Few (Zap st).head∧(∀ l ∈ (Zap st).body,Few l)∧∀ c ∈ (Zap st).clauses,Few c.head∧∀ l ∈ c.body,Few l:=by
 unfold Zap
 split
 ·refine ⟨fun s hs=>by simp at hs,h.head,fun l hl => ?_,h.cls⟩
  simp at hl
  rcases hl with hl | rfl
  ·exact h.body l hl
  ·exact h.atom
 ·exact ⟨fun s hs=>by simp at hs,h.atom,h.body,h.cls⟩
theorem SF.take {st:RS} {kd len:Nat} {t:List UInt8} (h:SF st) (hc:Zbs st kd len=0) (hlen:len=t.length):SF (Zbi st kd t):=by
 have hs:=Zik hc
 have hsb:=h.sb.take hc hlen
 have hfull:kd=1∨kd=2→Zes st=false:=by
  intro hk
  unfold Zbs at hc
  rw [if_neg (by simp [hs])] at hc
  split at hc
  ·omega
  ·rename_i h'
   cases hf:Zes st with
   | false=>rfl
   | true=>exact absurd ⟨hk,Or.inr hf⟩ h'
 have hnext:kd=1∨kd=2→st.next=0∨st.next=1∨st.next=2:=by
  intro hk
  unfold Zbg at hs
  split at hs
  ·omega
  ·split at hs
   ·omega
   ·split at hs
    ·rcases hk with rfl | rfl
     ·simp [Zbr] at hs
     ·simp [Zbr] at hs
    ·split at hs
     ·rcases hk with rfl | rfl
      ·simp [Zbr] at hs
      ·simp [Zbr] at hs
     ·simp at hs
 obtain ⟨e1,e2,e3,e4⟩:=h.endAtom
 refine ⟨hsb,?_,?_,?_,?_⟩
 all_goals clear hsb
 all_goals
  unfold Zbi
  split
  ·rename_i hk
   first
    | exact Zvj (Zvl h (hfull (Or.inl hk)) (hnext (Or.inl hk))) (by simp)
    | exact h.head
    | exact h.body
    | exact h.cls
  split
  ·rename_i _ hk
   first
    | exact Zvj (l:=Zcf st) (Zvl h (hfull (Or.inr hk)) (hnext (Or.inr hk))) (by simp)
    | exact h.head
    | exact h.body
    | exact h.cls
  split
  ·first | exact h.atom | exact h.head | exact h.body | exact h.cls
  split
  ·unfold Zie
   first | exact h.atom | exact h.head | exact h.body | exact h.cls
  split
  ·unfold Zfs
   split
   ·first | exact e1 | exact e2 | exact e3 | exact e4
   ·first | exact h.atom | exact h.head | exact h.body | exact h.cls
  split
  ·first | exact e1 | exact e2 | exact e3 | exact e4
  split
  ·unfold Zao
   first
    | exact e1
    | exact Ztt
    | exact Zvk
    | exact (fun c hc=>by
      simp only [Qk,List.mem_singleton] at hc
      rcases hc with hc | rfl
      ·exact e4 c hc
      ·exact ⟨e2,e3⟩)
  ·first | exact h.atom | exact h.head | exact h.body | exact h.cls
theorem SF.run {e:Nat}:∀ {ts:List Tok} {st:RS},SF st→(runT e ts st).1=0→SF (runT e ts st).2.2:=by
 intro ts
 induction ts with
 | nil=>intro st h _; unfold runT; split <;> exact h
 | cons t ts ih =>
  intro st h h0
  unfold runT at h0 ⊢
  split at h0
  ·rename_i hc; exact absurd h0 hc
  ·rename_i hc
   rw [if_neg hc]
   exact ih (h.take (len:=t.text.length) (by omega) rfl) h0
theorem SF.start (q:Bool):SF ⟨q,if q then 1 else 0,q,[],[],[],[],[],[]⟩:=⟨SB.start q,Ztt,Ztt,Zvk,fun c hc=>by simp at hc⟩
theorem Yfa {s:ByteArray} {cs:List Cls} (h:Zdb s=some cs):∀ c ∈ cs,CFew c:=by
 obtain ⟨_,h0,e,_⟩:=Zej h
 have hB:SF (runs s false).2.2:=(SF.start false).run h0
 intro c hc
 exact hB.cls c (by rw [e]; exact hc)
theorem Yhw {s:ByteArray} {a:List (List Sym) × Names} (h:Zex s=some a):NFew (topN a):=by
 obtain ⟨_,h0,e,_⟩:=Zek h
 have hB:SF (runs s true).2.2:=(SF.start true).run h0
 have hc:=(hB.cls ⟨[],a.1,a.2⟩ (by rw [e]; simp)).2
 intro t ht
 simp only [ND.terms,topN,List.map_map,List.map_nil,Qs,Qk,List.mem_map,Function.comp] at ht
 rcases ht with ⟨u,hu,rfl⟩ | ⟨i,_,rfl⟩
 ·exact hc u hu
 ·exact Ygi i
def TryX (n:ND) (c:Cls) (k:Nat) (X:Nat→Prop) (v:Value) (u:World):Prop:=∃ g1 g2 g3 v1 v2 v3 r1 r2 r3,∃ uu q:Nat,v = .tuple #[.agg #[.slice g1 g2 g3,.slice v1 v2 v3,.slice r1 r2 r3,.int .i64 uu],.int .i64 q] ∧
 ((q=0∧(n.goals=[]∨Out n c k 0 n))∨(q=2∧∃ ch,Out n c k 3 ch)∨(q=1∧∃ ch qq,(qq=1∨qq=2)∧Out n c k qq ch∧uu=ch.vars∧g2=ch.goals.length ∧
  (∃ vs,TermsAt u 0 (.slice g1 g2 g3) (ch.goals.map (·.1)) vs∧(∀ j,(Value.slice g1 g2 g3).ownBlock=some j→¬ X j)∧∀ x ∈ vs,∀ j,x.ownBlock=some j→¬ X j) ∧
  (∃ vs,TermsAt u 0 (.slice v1 v2 v3) ch.vals vs∧(∀ j,(Value.slice v1 v2 v3).ownBlock=some j→¬ X j)∧∀ x ∈ vs,∀ j,x.ownBlock=some j→¬ X j) ∧
  (∃ vs,TermsAt u 0 (.slice r1 r2 r3) (ch.done.map (·.1)) vs∧(∀ j,(Value.slice r1 r2 r3).ownBlock=some j→¬ X j)∧∀ x ∈ vs,∀ j,x.ownBlock=some j→¬ X j)))
theorem Zha {X X':Nat→Prop} {v:Value} {ls:List (List Sym)} {u u':World} (h:∃ vs,TermsAt u 0 v ls vs∧(∀ j,v.ownBlock=some j→¬ X j)∧∀ x ∈ vs,∀ j,x.ownBlock=some j→¬ X j) (hb:∀ k,k<u.heap.size→¬ X k→u'.heap[k]?=u.heap[k]?) (hX:∀ k,k<u.heap.size→X' k→X k) :
  ∃ vs,TermsAt u' 0 v ls vs∧(∀ j,v.ownBlock=some j→¬ X' j)∧∀ x ∈ vs,∀ j,x.ownBlock=some j→¬ X' j:=by
 obtain ⟨vs,h,h1,h2⟩:=h
 have hlen:vs.length=ls.length:=by have:=h.owns.1; omega
 have hin:∀ x ∈ vs,∃ l,WordAt u x l:=fun x hx=>by
  obtain ⟨i,hi⟩:=List.mem_iff_getElem?.1 hx
  have hil:=(Qa.1 hi).1
  obtain ⟨y,h3,h4⟩:=h.all i _ (Qb (by omega))
  rw [hi] at h3
  simp only [Qo] at h3
  subst h3
  exact ⟨_,h4⟩
 refine ⟨vs,⟨Zal h.owns (fun j hj=>hb j (h.owns.lt j hj).2 (h1 j hj)),fun i l hi => ?_⟩,fun j hj hx=>h1 j hj (hX j (h.owns.lt j hj).2 hx),fun x hx j hj hx' => ?_⟩
 ·obtain ⟨y,h3,h4⟩:=h.all i l hi
  exact ⟨y,h3,Zal h4 (fun j hj=>hb j (h4.lt j hj).2 (h2 y (Qh h3) j hj))⟩
 ·obtain ⟨l,hl⟩:=hin x hx
  exact h2 x hx j hj (hX j (hl.lt j hj).2 hx')
theorem TryX.stable {n:ND} {c:Cls} {k:Nat}:∀ X X' v u u',TryX n c k X v u→(∀ k,k<u.heap.size→¬ X k→u'.heap[k]?=u.heap[k]?)→u.heap.size≤u'.heap.size→(∀ k,k<u.heap.size→X' k→X k)→TryX n c k X' v u':=by
 rintro X X' v u u' ⟨g1,g2,g3,v1,v2,v3,r1,r2,r3,uu,q,rfl,h⟩ hb _ hX
 refine ⟨g1,g2,g3,v1,v2,v3,r1,r2,r3,uu,q,rfl,?_⟩
 rcases h with h | h | ⟨rfl,ch,qq,h1,h2,h3,h4,h5,h6,h7⟩
 ·exact Or.inl h
 ·exact Or.inr (Or.inl h)
 ·exact Or.inr (Or.inr ⟨rfl,ch,qq,h1,h2,h3,h4,Zha h5 hb hX,Zha h6 hb hX,Zha h7 hb hX⟩)
theorem TryOut.toX {n:ND} {c:Cls} {k:Nat} {X:Nat→Prop} {w w':World} {e:Ending} (h:TryOut n c k w e w') (hX:∀ j,X j→j<w.heap.size):∃ v,e = .returned v∧Ext w w'∧TryX n c k X v w':=by
 obtain ⟨hE,g1,g2,g3,v1,v2,v3,r1,r2,r3,uu,q,rfl,h⟩:=h
 refine ⟨_,rfl,hE,g1,g2,g3,v1,v2,v3,r1,r2,r3,uu,q,rfl,?_⟩
 have key:∀ {v:Value} {ls:List (List Sym)},TermsNew w.heap.size w' v ls→∃ vs,TermsAt w' 0 v ls vs∧(∀ j,v.ownBlock=some j→¬ X j)∧∀ x ∈ vs,∀ j,x.ownBlock=some j→¬ X j:=fun {v ls} h=>by
  obtain ⟨vs,h1,h2,h3⟩:=h
  exact ⟨vs,h1,fun j hj hx=>by have:=h2 j hj; have:=hX j hx; omega,fun x hx j hj hx'=>by have:=h3 x hx j hj; have:=hX j hx'; omega⟩
 rcases h with h | h | ⟨rfl,ch,qq,h1,h2,h3,h4,h5⟩
 ·exact Or.inl h
 ·exact Or.inr (Or.inl h)
 ·exact Or.inr (Or.inr ⟨rfl,ch,qq,h1,h2,h4,h5,key h3.goals,key h3.vals,key h3.done⟩)
theorem ProgIn.cell {w:World} {lb cap:Nat} {cs:List Cls} {xs:List (List Value)} (h:ProgIn w (.slice (some ⟨lb,0,none⟩) cs.length cap) cs xs) {k:Nat} {c:Cls} (hc:cs[k]?=some c):∃ hv bv nv,w.cell? ⟨lb,k * 3,none⟩=some hv∧w.cell? ⟨lb,k * 3+1,none⟩=some bv∧w.cell? ⟨lb,k * 3+2,none⟩=some nv∧ClsIn w hv bv nv c:=by
 obtain ⟨hv,bv,nv,hx,hcl⟩:=h.all k c hc
 have key:∀ (xs:List (List Value)) (k:Nat),(∀ x ∈ xs,x.length=3)→xs[k]?=some [hv,bv,nv]→∀ j,j<3→xs.flatten[k * 3+j]?=[hv,bv,nv][j]?:=by
  intro xs
  induction xs with
  | nil=>intro k _ h; simp at h
  | cons x xs ih =>
   intro k h3 hk j hj
   rw [List.flatten_cons]
   have hx3:=h3 x (by simp)
   cases k with
   | zero =>
    simp at hk
    subst hk
    rw [Qc (by simp; omega)]
    simp
   | succ k =>
    rw [Qd (by omega),hx3]
    have:=ih k (fun y hy=>h3 y (by simp [hy])) (by simpa using hk) j hj
    rw [← this]
    congr 1
    omega
 have k3:=key xs k h.three hx
 refine ⟨hv,bv,nv,Zag h.owns _ _ ?_,Zag h.owns _ _ ?_,Zag h.owns _ _ ?_,hcl⟩
 ·have:=k3 0 (by omega); simpa using this
 ·have:=k3 1 (by omega); simpa using this
 ·have:=k3 2 (by omega); simpa using this
end Go.Proofs.YtlmjilpjmgjjcaaGreatDoor
