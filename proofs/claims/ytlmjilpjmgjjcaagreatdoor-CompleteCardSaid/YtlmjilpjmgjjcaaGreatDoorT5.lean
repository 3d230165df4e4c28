/-
  PROVED HERE: what the reference's method 'tried' of a search leaves (the conditions stand in each statement).
-/
import Derived.Test.YtlmjilpjmgjjcaaGreatDoorT4
import Derived.BigQuiet
import Derived.Deep.QuietTactic
set_option linter.unusedSimpArgs false
set_option linter.unusedVariables false
set_option maxRecDepth 10000
set_option maxHeartbeats 4000000
namespace Go.Proofs.YtlmjilpjmgjjcaaGreatDoor
open Go.RowKit
def gv (n i:Nat):Nat:=if i=0 then n % 3 else if i=1 then n / 3 % 3 else n / 9 % 3
theorem Zmy (n i:Nat):gv n i<3:=by
 unfold gv
 split
 ·omega
 ·split
  ·omega
  ·omega
def gA (n a:Nat):Nat:=if a<3 then a else gv n (a - 3)
theorem Zgw (n a:Nat):gA n a<3:=by
 unfold gA
 split
 ·assumption
 ·exact Zmy _ _
def ixA (n:Nat) (x:At3):Nat:=x.1 * 9+gA n x.2.1 * 3+gA n x.2.2
theorem Yiz (n:Nat) {x:At3} (h:AtOk x):ixA n x<27:=by
 have:=h.1
 have:=Zgw n x.2.1
 have:=Zgw n x.2.2
 unfold ixA
 omega
def hA (m:List Bool) (n:Nat) (x:At3):Bool:=m.getD (ixA n x) false
def hAll (m:List Bool) (n:Nat) (l:List At3):Bool:=l.all (hA m n)
def putM (r:At3 × List At3) (m:List Bool) (n:Nat):List Bool:=if hAll m n r.2 then m.set (ixA n r.1) true else m
def Zjw (m:List Bool) (r:At3 × List At3):List Bool:=(List.range 27).foldl (putM r) m
def Zhe (R:List (At3 × List At3)) (m:List Bool):List Bool:=R.foldl Zjw m
def itM (R:List (At3 × List At3)):Nat→List Bool
 | 0=>List.replicate 27 false
 | k+1=>Zhe R (itM R k)
def Zdu (R:List (At3 × List At3)):List Bool:=itM R 28
def LeM (m m':List Bool):Prop:=m.length=m'.length∧∀ i:Nat,m[i]?=some true→m'[i]?=some true
theorem LeM.refl (m:List Bool):LeM m m:=⟨rfl,fun _ h=>h⟩
theorem LeM.trans {a b c:List Bool} (h:LeM a b) (k:LeM b c):LeM a c:=⟨h.1.trans k.1,fun i hi=>k.2 i (h.2 i hi)⟩
theorem Yaq:∀ (m m':List Bool),LeM m m'→m.count true≤m'.count true∧(m.count true=m'.count true→m=m'):=by
 intro m
 induction m with
 | nil =>
  intro m' h
  have:m'=[]:=List.length_eq_zero_iff.1 h.1.symm
  subst this
  exact ⟨Qe _,fun _=>rfl⟩
 | cons a m ih =>
  intro m' h
  cases m' with
  | nil=>exact absurd h.1 (by simp)
  | cons b m' =>
   have h0:=h.2 0
   simp only [List.getElem?_cons_zero,Qo] at h0
   obtain ⟨i1,i2⟩:=ih m' ⟨by simpa using h.1,fun i hi=>by simpa using h.2 (i+1) (by simpa using hi)⟩
   cases a with
   | true =>
    have:=h0 rfl
    subst this
    simp only [List.count_cons_self]
    exact ⟨by omega,fun e=>by rw [i2 (by omega)]⟩
   | false =>
    cases b with
    | true =>
     simp only [List.count_cons_self,List.count_cons_of_ne (show (false:Bool)≠true by decide)]
     exact ⟨by omega,fun e=>by omega⟩
    | false =>
     simp only [List.count_cons_of_ne (show (false:Bool)≠true by decide)]
     exact ⟨i1,fun e=>by rw [i2 e]⟩
theorem LeM.anti {a b:List Bool} (h:LeM a b) (k:LeM b a):a=b:=by
 have h1:=(Yaq a b h)
 have h2:=(Yaq b a k)
 exact h1.2 (by omega)
theorem Yar (r:At3 × List At3) (m:List Bool) (n:Nat):LeM m (putM r m n):=by
 unfold putM
 split
 ·refine ⟨by simp,fun i hi => ?_⟩
  rw [List.getElem?_set]
  split
  ·have:=(Qa.1 hi).1
   rename_i e
   rw [if_pos (by omega)]
  ·exact hi
 ·exact LeM.refl m
theorem Ztg {α:Type} {f:List Bool→α→List Bool} (hf:∀ m x,LeM m (f m x)):∀ (l:List α) (m:List Bool),LeM m (l.foldl f m):=by
 intro l
 induction l with
 | nil=>intro m; exact LeM.refl m
 | cons x l ih=>intro m; exact (hf m x).trans (ih _)
theorem Zvb {α:Type} {f:List Bool→α→List Bool} (hf:∀ m x,LeM m (f m x)):∀ (l:List α) (m:List Bool),l.foldl f m=m→∀ x ∈ l,f m x=m:=by
 intro l
 induction l with
 | nil=>intro m _ x hx; simp at hx
 | cons y l ih =>
  intro m h x hx
  have h1:LeM (f m y) m:=by
   have:=Ztg hf l (f m y)
   rw [List.foldl_cons] at h
   rw [h] at this
   exact this
  have e:=h1.anti (hf m y)
  rcases Qp.1 hx with rfl | hx
  ·exact e
  ·rw [List.foldl_cons,e] at h
   exact ih m h x hx
theorem Yas (m:List Bool) (r:At3 × List At3):LeM m (Zjw m r):=Ztg (Yar r) _ m
theorem Zvc (R:List (At3 × List At3)) (m:List Bool):LeM m (Zhe R m):=Ztg Yas R m
theorem Ygf (R:List (At3 × List At3)) (k:Nat):(itM R k).length=27:=by
 induction k with
 | zero=>simp [itM]
 | succ k ih=>rw [itM,← (Zvc R _).1,ih]
theorem Yhc (R:List (At3 × List At3)) (k:Nat):k≤(itM R k).count true∨Zhe R (itM R k)=itM R k:=by
 induction k with
 | zero=>exact Or.inl (Qm _)
 | succ k ih =>
  by_cases hf:Zhe R (itM R k)=itM R k
  ·right
   show Zhe R (Zhe R (itM R k))=Zhe R (itM R k)
   rw [hf,hf]
  ·left
   rcases ih with h | h
   ·obtain ⟨h1,h2⟩:=Yaq _ _ (Zvc R (itM R k))
    have:(itM R k).count true≠(Zhe R (itM R k)).count true:=fun e=>hf (h2 e).symm
    show k+1≤(Zhe R (itM R k)).count true
    omega
   ·exact absurd h hf
def Yat (R:List (At3 × List At3)) (m:List Bool):Prop:=∀ r ∈ R,∀ n,n<27→hAll m n r.2=true→hA m n r.1=true
theorem Zpk (R:List (At3 × List At3)) (hR:∀ r ∈ R,RlOk r):Yat R (Zdu R):=by
 have hfix:Zhe R (Zdu R)=Zdu R:=by
  rcases Yhc R 28 with h | h
  ·have h1:=List.count_le_length (a:=true) (l:=itM R 28)
   rw [Ygf] at h1
   omega
  ·exact h
 intro r hr n hn hb
 have h1:=Zvb Yas R _ hfix r hr
 have h2:=Zvb (Yar r) (List.range 27) _ h1 n (List.mem_range.2 hn)
 unfold putM at h2
 rw [if_pos hb] at h2
 have h3:(Zdu R)[ixA n r.1]?=some true:=by
  have hlt:=Yiz n (hR r hr).1
  have hl:=Ygf R 28
  rw [← h2,List.getElem?_set,if_pos rfl,if_pos (by unfold Zdu; omega)]
 unfold hA
 rw [List.getD_eq_getElem?_getD,h3]
 rfl
theorem Zdg {w w':World} (h:Ext w w') (n:Nat):Ext w (w'.drewN n):=⟨h.os,h.tape,h.output,h.size,h.block⟩
theorem Zdr {w w':World} (h:Ext w w'):Ext w w'.drew:=⟨h.os,h.tape,h.output,h.size,h.block⟩
theorem Zaj {a b c:World} (h:Ext a b) (k:Ext b c):Ext a c:=h.trans (k.mono h.size)
def gval (n:Nat):Value := .agg #[.int .i64 (gv n 0),.int .i64 (gv n 1),.int .i64 (gv n 2)]
theorem Zmi (n:Nat) (hn:n<27) (w:World):Calls Tryz.prog 27 #[.int .i64 n] w fun e w'=>e = .returned (gval n)∧Ext w w':=by
 have e0:(n:Int) % 3=(gv n 0:Int):=by unfold gv; simp
 have e1:(n:Int) / 3 % 3=(gv n 1:Int):=by unfold gv; simp
 have e2:(n:Int) / 9 % 3=(gv n 2:Int):=by unfold gv; simp
 have l0:=Zmy n 0
 have l1:=Zmy n 1
 have l2:=Zmy n 2
 go_enter Tryz.func27,Tryz.ntmps27
 go_wp2
 refine bodyPost_ret (v:=gval n) (by simp [results,Tryz.results27,go_sem,gval]) rfl ?_
 exact ⟨rfl,(Ext.of (by repeat' (first | with_reducible(first|exact Qx _ _|apply Kept.drew|apply Kept.drewN|apply Qz|refine Qy ?_ ?_ _)|exact fun h=>absurd h (by simp <;> omega))))⟩
theorem Zre (n a:Nat) (ha:a<6) (w:World):Calls Tryz.prog 44 #[gval n,.int .i64 a] w fun e w'=>e = .returned (.int .i64 (gA n a))∧Ext w w':=by
 unfold gval
 have l0:=Zmy n 0
 have l1:=Zmy n 1
 have l2:=Zmy n 2
 by_cases h:a<3
 ·have e:gA n a=a:=by unfold gA; rw [if_pos h]
  rw [e]
  go_enter Tryz.func44,Tryz.ntmps44
  go_wp2
  go_ret
  exact ⟨rfl,(Ext.of (by repeat' (first | with_reducible(first|exact Qx _ _|apply Kept.drew|apply Kept.drewN|apply Qz|refine Qy ?_ ?_ _)|exact fun h=>absurd h (by simp <;> omega))))⟩
 ·rcases (by omega:a=3∨a=4∨a=5) with rfl | rfl | rfl
  all_goals
   go_enter Tryz.func44,Tryz.ntmps44
   go_wp2
   go_ret
   exact ⟨rfl,(Ext.of (by repeat' (first | with_reducible(first|exact Qx _ _|apply Kept.drew|apply Kept.drewN|apply Qz|refine Qy ?_ ?_ _)|exact fun h=>absurd h (by simp <;> omega))))⟩
structure ModelIn (w:World) (b:Nat) (m:List Bool):Prop where
 box:w.heap[b]?=some (.cells (m.map Value.bool).toArray 99 (0,0))
 len:m.length=27
theorem ModelIn.ext {w w':World} {b:Nat} {m:List Bool} (h:ModelIn w b m) (e:Ext w w'):ModelIn w' b m:=⟨(e.block b (Zab h.box)).trans h.box,h.len⟩
theorem ModelIn.cell {w:World} {b:Nat} {m:List Bool} (h:ModelIn w b m) {i:Nat} (hi:i<27):w.cell? ⟨b,i,none⟩=some (.bool (m.getD i false)):=by
 refine Zaa h.box i _ ?_
 have hl:=h.len
 simp [List.getD_eq_getElem?_getD,Qb (show i<m.length by omega)]
theorem Yau (w:World) (b:Nat) (m:List Bool) (hm:ModelIn w b m) (P A B n:Nat) (hP:P<3) (hA:A<6) (hB:B<6):Calls Tryz.prog 47 #[.pointer (some ⟨b,0,none⟩),.agg #[.int .i64 P,.int .i64 A,.int .i64 B],gval n] w fun e w'=>e = .returned (.bool (YtlmjilpjmgjjcaaGreatDoor.hA m n (P,A,B)))∧Ext w w':=by
 have HO1:=Zac (fun u=>Zre n A hA u)
 have HO2:=Zac (fun u=>Zre n B hB u)
 have hx:=Zgw n A
 have hy:=Zgw n B
 obtain ⟨x,ex⟩:∃ x,x=gA n A:=⟨_,rfl⟩
 obtain ⟨y,ey⟩:∃ y,y=gA n B:=⟨_,rfl⟩
 obtain ⟨r,er⟩:∃ r,r=YtlmjilpjmgjjcaaGreatDoor.hA m n (P,A,B):=⟨_,rfl⟩
 rw [← er]
 rw [← ex] at HO1 hx
 rw [← ey] at HO2 hy
 have hr:m.getD (P * 9+x * 3+y) false=r:=by rw [er,ex,ey]; rfl
 have Hc:Hid (∀ u,Ext w u→u.cell? ⟨b,P * 9+x * 3+y,none⟩=some (.bool r)∧b<u.heap.size):=fun u hu=>⟨by rw [(hm.ext hu).cell (by omega),hr],Zab (hm.ext hu).box⟩
 clear ex ey er hr hm
 unfold gval
 unfold gval at HO1 HO2
 obtain ⟨W0,hW0⟩:∃ W0,W0=(w.alloc (.cells #[.int .i64 P,.int .i64 A,.int .i64 B] 45)).alloc (.cells #[.int .i64 (gv n 0),.int .i64 (gv n 1),.int .i64 (gv n 2)] 56):=⟨_,rfl⟩
 have HE0:Hid (Ext w W0):=by rw [hW0]; exact (Ext.of (by repeat' (first | with_reducible(first|exact Qx _ _|apply Kept.drew|apply Kept.drewN|apply Qz|refine Qy ?_ ?_ _)|exact fun h=>absurd h (by simp <;> omega))))
 have HB1:Hid (W0.heap[w.heap.size]?=some (.cells #[.int .i64 P,.int .i64 A,.int .i64 B] 45 (0,0))):=by rw [hW0]; exact heap_alloc2_old _ _ _
 have HB2:Hid (W0.heap[w.heap.size+1]?=some (.cells #[.int .i64 (gv n 0),.int .i64 (gv n 1),.int .i64 (gv n 2)] 56 (0,0))):=by rw [hW0]; exact heap_alloc2_new _ _ _
 have HW0:=Zac hW0
 clear hW0
 go_enter Tryz.func47,Tryz.ntmps47
 go_wp2_with fail
 rw [← HW0.out]
 refine (HO1.out W0).mono ?_
 rintro e w1 ⟨rfl,hE1⟩
 have b1:=(hE1.block _ (Zab HB1.out)).trans HB1.out
 have b2:=(hE1.block _ (Zab HB2.out)).trans HB2.out
 obtain ⟨p0,p1,p2,pf⟩:=box3 b1
 obtain ⟨q0,q1,q2,qf⟩:=box3 b2
 have l1:=Zab b1
 have l2:=Zab b2
 have HE1:Hid (Ext w w1):=HE0.out.trans (hE1.mono HE0.out.size)
 have Hb1:=Zac b1
 clear hE1 b1 b2
 go_wp2_with fail
 refine (HO2.out _).mono ?_
 rintro e w2 ⟨rfl,hE2⟩
 have b3:=(hE2.block _ (Zab Hb1.out)).trans Hb1.out
 have HE2:Hid (Ext w w2):=HE1.out.trans (hE2.mono HE1.out.size)
 obtain ⟨c0,c1⟩:=Hc.out w2 HE2.out
 clear p0 p1 p2 pf q0 q1 q2 qf l1 l2 hE2
 obtain ⟨p0,p1,p2,pf⟩:=box3 b3
 have l1:=Zab b3
 clear b3
 go_wp2_with fail
 go_quiet (fail)
 go_wp2
 go_ret
 exact ⟨rfl,Zdg HE2.out _⟩
theorem Zth (w:World) (b:Nat) (m:List Bool) (hm:ModelIn w b m) (a:Option Addr) (c:Nat) (l:List (Nat × Nat × Nat)) (h:AtomsIn w (.slice a l.length c) l) (hl:l.length≤100) (n:Nat):Calls Tryz.prog 28 #[.pointer (some ⟨b,0,none⟩),.slice a l.length c,gval n] w fun e w'=>e = .returned (.bool (hAll m n l))∧Ext w w':=by
 have HH:Hid (∀ u,Ext w u→∀ P A B:Nat,P<3→A<6→B<6→Calls Tryz.prog 47 #[.pointer (some ⟨b,0,none⟩),.agg #[.int .i64 P,.int .i64 A,.int .i64 B],gval n] u fun e w'=>e = .returned (.bool (YtlmjilpjmgjjcaaGreatDoor.hA m n (P,A,B)))∧Ext u w'):=fun u hu P A B h1 h2 h3=>Yau u b m (hm.ext hu) P A B n h1 h2 h3
 have HI:Hid (∀ u,Ext w u→AtomsIn u (.slice a l.length c) l∧b<u.heap.size):=fun u hu=>⟨h.ext hu,Zab (hm.ext hu).box⟩
 have HO:=Zac h.ok
 clear h hm
 unfold gval
 unfold gval at HH
 obtain ⟨W0,hW0⟩:∃ W0,W0=w.alloc (.cells #[.int .i64 (gv n 0),.int .i64 (gv n 1),.int .i64 (gv n 2)] 56):=⟨_,rfl⟩
 have HE0:Hid (Ext w W0):=by rw [hW0]; exact (Ext.of (by repeat' (first | with_reducible(first|exact Qx _ _|apply Kept.drew|apply Kept.drewN|apply Qz|refine Qy ?_ ?_ _)|exact fun h=>absurd h (by simp <;> omega))))
 have HB:Hid (W0.heap[w.heap.size]?=some (.cells #[.int .i64 (gv n 0),.int .i64 (gv n 1),.int .i64 (gv n 2)] 56 (0,0))):=by rw [hW0]; exact heap_alloc_new _ _
 have HW0:=Zac hW0
 clear hW0
 go_enter Tryz.func28,Tryz.ntmps28
 go_wp2
 rw [← HW0.out]
 go_loopw [7] (fun i u=>∃ k:Nat,k≤l.length∧i = .int .i64 k∧hAll m n (l.take k)=true∧Ext W0 u) (fun i _=>l.length - (intOf i).toNat)
 case atStart=>exact ⟨0,Qm _,rfl,rfl,Below.refl _ _⟩
 case round =>
  obtain ⟨k,hk,rfl,hall,hEu⟩:=hrel
  have Hall:=Zac hall
  have HEu:Hid (Ext w wr):=HE0.out.trans (hEu.mono HE0.out.size)
  have HEu0:=Zac hEu
  clear hall
  by_cases hlt:k<l.length
  ·obtain ⟨x,hx⟩:∃ x,l[k]?=some x:=⟨_,Qb hlt⟩
   obtain ⟨hAt,hbl⟩:=HI.out wr HEu.out
   obtain ⟨g,rfl,hg,d0,d1,d2⟩:=hAt.cells hx
   obtain ⟨o1,o2,o3⟩:=HO.out x (Qh hx)
   obtain ⟨P,A,B⟩:=x
   simp only at d0 d1 d2 o1 o2 o3
   have htk:hAll m n (l.take (k+1))=(hAll m n (l.take k) && YtlmjilpjmgjjcaaGreatDoor.hA m n (P,A,B)):=by rw [List.take_add_one,hx]; simp [hAll]
   have hnot:YtlmjilpjmgjjcaaGreatDoor.hA m n (P,A,B)=false→hAll m n l=false:=fun e=>by
    unfold hAll
    rw [List.all_eq_false]
    exact ⟨_,Qh hx,by simp [e]⟩
   have Htk:=Zac htk
   have Hnot:=Zac hnot
   obtain ⟨r,hr⟩:∃ r,r=YtlmjilpjmgjjcaaGreatDoor.hA m n (P,A,B):=⟨_,rfl⟩
   have HC:Hid (∀ u,Ext wr u→Calls Tryz.prog 47 #[.pointer (some ⟨b,0,none⟩),.agg #[.int .i64 P,.int .i64 A,.int .i64 B],.agg #[.int .i64 (gv n 0),.int .i64 (gv n 1),.int .i64 (gv n 2)]] u fun e w'=>e = .returned (.bool r)∧Ext u w'):=fun u hu=>by rw [hr]; exact HH.out u (HEu.out.trans (hu.mono HEu.out.size)) P A B o1 o2 o3
   have Hr:=Zac hr
   have bg:=(hEu.block _ (Zab HB.out)).trans HB.out
   obtain ⟨p0,p1,p2,pf⟩:=box3 bg
   have l1:=Zab bg
   clear hEu hx htk hnot hr hAt bg o1 o2 o3
   go_wp2_with fail
   refine Zds (by kernel_rfl) [.pur (.pointer (some ⟨b,0,none⟩)),.pur (.slice (some ⟨g,0,none⟩) l.length c),.pur (.int .i64 k),.pur (.pointer (some ⟨g,k * 3,none⟩)),.pur (.agg #[.int .i64 P,.int .i64 A,.int .i64 B]),.pur (.agg #[.int .i64 (gv n 0),.int .i64 (gv n 1),.int .i64 (gv n 2)]),.cal,.post (fun v=>v)] 6 8 (by kernel_rfl)
    (fun v u=>v = .bool r∧Ext wr u) (fun v u=>v = .bool r∧Ext wr u) 47 #[.pointer (some ⟨b,0,none⟩),.agg #[.int .i64 P,.int .i64 A,.int .i64 B],.agg #[.int .i64 (gv n 0),.int .i64 (gv n 1),.int .i64 (gv n 2)]] ?_ ?_ rfl (by decide) (Or.inr ⟨by decide,fun _ _ h=>h⟩) ?_
   ·refine (HC.out _ (Zdr (Below.refl _ _))).mono ?_
    rintro e u ⟨rfl,he⟩
    exact ⟨_,rfl,rfl,Zaj (Zdr (Below.refl _ _)) he⟩
   ·refine ⟨fun vc => ?_,fun vc => ?_,fun vc => ?_,fun vc => ?_,fun vc => ?_,fun vc => ?_,fun vc => ?_,?_,trivial⟩
    all_goals try (simp [pa,Kd.val,go_sem,p0,p1,p2,pf,l1,d0,d1,d2,hg,hlt]; done)
    all_goals
     intro vc u hR
     simp [pa,Kd.val,go_sem]
   rintro vc w2 ⟨rfl,hE2⟩
   have HE2:Hid (Ext W0 w2):=HEu0.out.trans (hE2.mono HEu0.out.size)
   clear hE2
   simp only [paAll,pa,Kd.val,if_true,Act.put]
   cases r with
   | false =>
    go_wp2
    go_ret
    exact ⟨by rw [Hnot.out Hr.out.symm]; rfl,HE0.out.trans (HE2.out.mono HE0.out.size)⟩
   | true =>
    go_wp2
    go_roundw
    case rel =>
     exact ⟨k+1,by omega,by go_num,by rw [Htk.out,Hall.out,← Hr.out]; rfl,HE2.out⟩
    case measure=>simp [intOf]; omega
  ·obtain rfl:k=l.length:=by omega
   have Hfin:Hid (hAll m n l=true):=by have:=Hall.out; rw [List.take_length] at this; exact this
   clear hEu
   go_wp2
   go_ret
   exact ⟨by rw [Hfin.out]; rfl,HEu.out⟩
theorem Yhd {a0:Act} {vc:Value} {β:Nat→Nat} {lst:Nat→Bool}:∀ {ops:List Oper} {kd:List Kd} {k:Nat},(pa a0 vc β lst k ops kd).tmps.size=a0.tmps.size:=by
 intro ops
 induction ops with
 | nil=>intro kd k; simp [pa]
 | cons o os ih =>
  intro kd k
  cases kd with
  | nil=>simp [pa]
  | cons q qs =>
   rw [pa]
   split
   ·cases o.dst <;> simp [Act.put,ih]
   ·exact ih
theorem Yja {a0:Act} {vc:Value} {β:Nat→Nat} {lst:Nat→Bool}:∀ {ops:List Oper} {kd:List Kd} {k i:Nat} {o:Oper} {q:Kd} {d:Nat},ops[i]?=some o→kd[i]?=some q→lst (k+i)=true→o.dst=some d →
  (∀ j p,ops[j]?=some p→p.dst=some d→j=i)→d<a0.tmps.size→(pa a0 vc β lst k ops kd).tmps[d]?=some (q.val vc β (k+i)):=by
 intro ops
 induction ops with
 | nil=>intro kd k i o q d h; simp at h
 | cons p os ih =>
  intro kd k i o q d ho hq hl hd hu hs
  cases kd with
  | nil=>simp at hq
  | cons r qs =>
   cases i with
   | zero =>
    simp at ho hq
    subst ho hq
    simp only [Nat.add_zero] at hl ⊢
    rw [pa,if_pos hl,hd]
    simp only [Act.put]
    rw [Array.getElem?_setIfInBounds_self_of_lt (by rw [Yhd]; exact hs)]
   | succ i =>
    have e:k+(i+1)=k+1+i:=by omega
    have ih':=ih (kd:=qs) (k:=k+1) (i:=i) (by simpa using ho) (by simpa using hq) (by rw [← e]; exact hl) hd (fun j p' hp hd'=>by
     have:=hu (j+1) p' (by simpa using hp) hd'
     omega) hs
    rw [e,pa]
    have hne:p.dst≠some d:=fun hd'=>by have:=hu 0 p rfl hd'; omega
    split
    ·cases hpd:p.dst with
     | none=>simpa [Act.put] using ih'
     | some d' =>
      have:d'≠d:=fun e'=>hne (by rw [hpd,e'])
      simp only [Act.put]
      rw [Array.getElem?_setIfInBounds_ne (by exact this)]
      exact ih'
    ·exact ih'
def Zjh (T:Nat) (ops:List Oper) (kd:List Kd) (ic fi:Nat):Bool :=
 ops.length == kd.length &&
 (List.range ops.length).all fun i=>match ops[i]?,kd[i]? with
  | some o,some q =>
   (match o.guard with
    | none=>true
    | some (j,b)=>Zcm o j && (match kd[j]?,ops[j]? with
     | some (.pur (.bool c)),some p=>c == b && (match p.dst with | some d=>decide (d<T) | none=>false)
     | _,_=>false)) && (match o.op with | .select .. => false | _=>true) &&
   (o.after.all fun e => !Region.binds .any e || e.on<i) &&
   ((List.range ops.length).all fun j=>match ops[j]? with
    | some p=>match p.dst with
     | some d=>((j == i) || (o.dst != some d)) && (!(o.looksAt ops.toArray).contains d || Zcm o j)
     | none=>true
    | none=>true) &&
   (match q with
    | .pur _=>(List.range ops.length).any fun j=>i<j && (match ops[j]?,kd[j]? with | some p,some r=>Zcm p i && Zxf r | _,_=>false)
    | .cal=>i == ic
    | .post _=>(List.range i).any fun j=>Zcm o j && (match kd[j]? with | some r=>Zco r | none=>false)
    | .alo .. => false
    | .sto _=>i == fi && o.dst.isNone && ((List.range i).any fun j=>Zcm o j && (match kd[j]? with | some r=>Zco r | none=>false)))
  | _,_=>false
structure LastAtG (T:Nat) (ops:List Oper) (kd:List Kd) (ic fi i:Nat) (o:Oper) (q:Kd):Prop where
 gd:o.guard=none∨∃ j b p d,o.guard=some (j,b)∧Zcm o j=true∧kd[j]?=some (.pur (.bool b))∧ops[j]?=some p∧p.dst=some d∧d<T
 sel:∀ cs b,o.op ≠ .select cs b
 low:∀ e ∈ o.after,Region.binds .any e=true→e.on<i
 dst:∀ j p d,ops[j]?=some p→p.dst=some d→j=i∨o.dst≠some d
 look:∀ j p d,ops[j]?=some p→p.dst=some d→d ∈ o.looksAt ops.toArray→Zcm o j=true
 pur:∀ c,q = .pur c→∃ j p r,i<j∧ops[j]?=some p∧kd[j]?=some r∧Zcm p i=true∧Zxf r=true
 cal:q = .cal→i=ic
 post:Zch q=true→∃ j r,Zcm o j=true∧kd[j]?=some r∧Zco r=true
 alo:∀ t z s cs,q ≠ .alo t z s cs
 sto:∀ k,q = .sto k→i=fi∧o.dst=none
theorem Zpl {T:Nat} {ops:List Oper} {kd:List Kd} {ic fi:Nat} (h:Zjh T ops kd ic fi=true) {i:Nat} {o:Oper} (ho:ops[i]?=some o):∃ q,kd[i]?=some q∧LastAtG T ops kd ic fi i o q:=by
 unfold Zjh at h
 simp only [Bool.and_eq_true,List.all_eq_true,List.mem_range,beq_iff_eq] at h
 obtain ⟨hl,h⟩:=h
 have hi:=(Qa.1 ho).1
 have h:=h i hi
 rw [ho] at h
 cases hq:kd[i]? with
 | none=>rw [hq] at h; simp at h
 | some q =>
  rw [hq] at h
  simp only [Bool.and_eq_true,List.all_eq_true,List.mem_range] at h
  obtain ⟨⟨⟨⟨h1,h2⟩,h3⟩,h4⟩,h5⟩:=h
  have hpost:∀ (b:Bool),((List.range i).any fun j=>Zcm o j && (match kd[j]? with | some r=>Zco r | none=>false))=true→∃ j r,Zcm o j=true∧kd[j]?=some r∧Zco r=true:=by
   intro _ h
   simp only [List.any_eq_true,List.mem_range,Bool.and_eq_true] at h
   obtain ⟨j,_,h6,h7⟩:=h
   cases hr:kd[j]? with
   | none=>rw [hr] at h7; simp at h7
   | some r=>rw [hr] at h7; exact ⟨j,r,h6,hr,h7⟩
  refine ⟨q,rfl,?_,?_,?_,?_,?_,?_,?_,?_,?_,?_⟩
  ·cases hgd:o.guard with
   | none=>exact Or.inl rfl
   | some jb =>
    obtain ⟨j,b⟩:=jb
    rw [hgd] at h1
    simp only [Bool.and_eq_true] at h1
    obtain ⟨h6,h7⟩:=h1
    cases hk:kd[j]? with
    | none=>rw [hk] at h7; simp at h7
    | some r =>
     cases hp:ops[j]? with
     | none=>rw [hk,hp] at h7; cases r <;> simp at h7
     | some p =>
      rw [hk,hp] at h7
      cases r with
      | pur c =>
       cases c with
       | bool c =>
        simp only [Bool.and_eq_true,beq_iff_eq] at h7
        obtain ⟨h8,h9⟩:=h7
        cases hd:p.dst with
        | none=>rw [hd] at h9; simp at h9
        | some d =>
         rw [hd] at h9
         subst h8
         exact Or.inr ⟨j,c,p,d,rfl,h6,hk,hp,hd,by simpa using h9⟩
       | _=>simp at h7
      | _=>simp at h7
  ·intro cs b e; rw [e] at h2; simp at h2
  ·intro e he hb
   have:=Array.all_eq_true_iff_forall_mem.1 h3 e he
   simpa [hb] using this
  ·intro j p d hp hd
   have:=h4 j (Qa.1 hp).1
   rw [hp] at this
   simp only [hd,Bool.and_eq_true,Bool.or_eq_true,beq_iff_eq,bne_iff_ne] at this
   exact this.1
  ·intro j p d hp hd hm
   have:=h4 j (Qa.1 hp).1
   rw [hp] at this
   simp only [hd,Bool.and_eq_true,Bool.or_eq_true,beq_iff_eq,bne_iff_ne] at this
   rcases this.2 with h | h
   ·simp [hm] at h
   ·exact h
  ·intro c e
   subst e
   simp only [List.any_eq_true,List.mem_range,Bool.and_eq_true] at h5
   obtain ⟨j,hj,h6,h7⟩:=h5
   have hp:ops[j]?=some ops[j]:=Qb hj
   cases hr:kd[j]? with
   | none=>rw [hp,hr] at h7; simp at h7
   | some r =>
    rw [hp,hr] at h7
    simp only [Bool.and_eq_true] at h7
    exact ⟨j,_,r,by simpa using h6,hp,hr,h7.1,h7.2⟩
  ·intro e; subst e; simpa using h5
  ·intro hp
   cases q with
   | post g=>exact hpost true h5
   | sto k =>
    simp only [Bool.and_eq_true] at h5
    exact hpost true h5.2
   | _=>simp [Zch] at hp
  ·intro t z s cs e; subst e; simp at h5
  ·intro k e
   subst e
   simp only [Bool.and_eq_true,beq_iff_eq] at h5
   exact ⟨h5.1.1,by simpa using h5.1.2⟩
theorem Zrf {P:Program} {ops:List Oper} {id:Nat} {Q:Exit→Act→World→Prop} {a0:Act} {w:World} (hm:P.follows .mixedOrders=true) (kd:List Kd) (ic fi:Nat) (hfit:Zjh a0.tmps.size ops kd ic fi=true)
  (R R':Value→World→Prop) (f:FuncId) (args:Array Value)
  (hC:Calls P f args w.drew (fun e u'=>∃ v,e = .returned v∧R v u'))
  (hob:AllObL P w.drew (fun vc=>paAll a0 ops kd vc noB) R R' f args ops kd)
  (hcal:kd[ic]?=some .cal) (hil:ic<ops.length) (hfi:(∃ k,kd[fi]?=some (.sto k))∨(ops.length≤fi∧∀ v u,R v u→R' v u))
  (hQ:∀ vc u,R' vc u→Q .normal (paAll a0 ops kd vc noB) u) :
  (Code.region id ops.toArray true).wp P Q a0 w:=by
 have hlen:ops.length=kd.length:=by
  unfold Zjh at hfit
  simp only [Bool.and_eq_true,beq_iff_eq] at hfit
  exact hfit.1
 have hkat:∀ {i':Nat} {q':Kd},kd[i']?=some q'→∃ o',ops[i']?=some o'∧LastAtG a0.tmps.size ops kd ic fi i' o' q':=fun {i' q'} h1=>by
  have ho:=Qb (l:=ops) (i:=i') (by have:=(Qa.1 h1).1; omega)
  obtain ⟨q2,hq2,hF2⟩:=Zpl hfit ho
  rw [h1] at hq2; simp at hq2; subst hq2
  exact ⟨_,ho,hF2⟩
 refine wp_region_any hm (Zjf (J:=LastPlan ops kd ic fi a0 w.drew R R') ?_ ?_ _ _ _ _ ?_ ?_)
 ·intro L a u i hr hJ
  obtain ⟨hsz,hcl,vc,rfl,hw0,hcR,hpost⟩:=hJ
  obtain ⟨h0,o,ho',_⟩:=mem_ready.1 hr
  have ho:ops[i]?=some o:=by simpa using ho'
  have hi:i<ops.length:=(Qa.1 ho).1
  have hil:i<L.size:=by omega
  have hun:L.getD i false=false:=by simp [hil] at h0 ⊢; exact h0
  obtain ⟨q,hq,hF⟩:=Zpl hfit ho
  have hOb:=hob.at ho hq
  have hexec:execOp (pa a0 vc noB (fun j=>L.getD j false) 0 ops kd).eval o=execOp (paAll a0 ops kd vc noB).eval o:=by
   refine execOp_congr o hF.sel (fun x hx=>Zpe (fun j p hp hl d hd e => ?_))
   subst e
   have hw:=hF.look j p d hp hd (List.mem_append_left _ (List.mem_filterMap.2 ⟨.tmp d,by simpa using hx,rfl⟩))
   have:=Zbp hr ho hw
   simp only [Nat.zero_add] at hl
   rw [hl] at this
   simp at this
  have hwant:Region.wanted o (yielded ops.toArray (pa a0 vc noB (fun j=>L.getD j false) 0 ops kd).tmps)=true:=by
   rcases hF.gd with hg | ⟨j,b,p,d,hg,h1,h2,h3,h4,h5⟩
   ·simp [Region.wanted,hg]
   ·obtain ⟨o',ho',hF'⟩:=hkat h2
    rw [h3] at ho'
    simp only [Qo] at ho'
    subst ho'
    have ht:=Yja (a0:=a0) (vc:=vc) (β:=noB) (lst:=fun j=>L.getD j false) (k:=0) h3 h2 (by simpa using Zbp hr ho h1) h4 (fun j' p' h6 h7=>by
     rcases hF'.dst j' p' d h6 h7 with h | h
     ·exact h
     ·exact absurd h4 h) h5
    have hy:yielded ops.toArray (pa a0 vc noB (fun j=>L.getD j false) 0 ops kd).tmps j=some b:=by
     unfold yielded
     simp only [List.getElem?_toArray,h3,Option.bind_some,h4,ht,Kd.val]
    unfold Region.wanted
    rw [hg]
    simp only
    rw [hy]
    simp
  have hL:=Zgv hil
  have hput:∀ vc',(∀ j r,kd[j]?=some r→L.getD j false=true→r.val vc noB j=r.val vc' noB j) →
    (pa a0 vc noB (fun j=>L.getD j false) 0 ops kd).put o.dst (q.val vc' noB i)=pa a0 vc' noB (fun j=>(L.setIfInBounds i true).getD j false) 0 ops kd:=by
   intro vc' hv
   have e1:pa a0 vc noB (fun j=>L.getD j false) 0 ops kd=pa a0 vc' noB (fun j=>L.getD j false) 0 ops kd:=Zdq (fun j r hr'=>by
    simp only [Nat.zero_add]
    exact ⟨trivial,fun hl=>hv j r hr' hl⟩)
   rw [e1]
   have e2:=Zuy (a0:=a0) (vc:=vc') (β:=noB) (lst:=fun j=>L.getD j false) (k:=0) ho hq (by simpa using hun) hF.dst
   simp only [Nat.zero_add] at e2
   rw [← e2]
   exact Zdq (fun j r hr'=>⟨by simp only [Nat.zero_add,hL],fun _=>rfl⟩)
  have hold:∀ j,L.getD j false=true→(L.setIfInBounds i true).getD j false=true:=fun j h=>by rw [hL,h]; rfl
  have hnew:∀ j,j≠i→(L.setIfInBounds i true).getD j false=L.getD j false:=fun j h=>by
   rw [hL]
   have:(j == i)=false:=by rw [Qu]; exact h
   simp [this]
  have hne:∀ {i':Nat} {q':Kd},kd[i']?=some q'→q'≠q→i'≠i:=fun {i' q'} h1 h2 e=>by
   subst e; rw [hq] at h1; exact h2 (Option.some.inj h1).symm
  have hcl':∀ (i':Nat) o',ops[i']?=some o'→(L.setIfInBounds i true).getD i' false=true→∀ j,Zcm o' j=true→(L.setIfInBounds i true).getD j false=true:=by
   intro i' o' h1 h2 j hj
   by_cases e:i'=i
   ·subst e
    rw [ho] at h1; simp at h1; subst h1
    exact hold _ (Zbp hr ho hj)
   ·exact hold _ (hcl i' o' h1 ((hnew i' e).symm.trans h2) j hj)
  have hpost':Zch q=false→∀ (i':Nat) q',kd[i']?=some q'→(L.setIfInBounds i true).getD i' false=true→Zch q'=true→(L.setIfInBounds i true).getD ic false=true:=fun hp i' q' h1 h2 h3 =>
   hold _ (hpost i' q' h1 ((hnew i' (hne h1 (fun e=>by rw [e,hp] at h3; simp at h3))).symm.trans h2) h3)
  have hcall:Zch q=true→L.getD ic false=true:=fun hp=>by
   obtain ⟨j,r,h1,h2,h3⟩:=hF.post hp
   have hj:=Zbp hr ho h1
   cases r with
   | post g=>exact hpost j _ h2 hj rfl
   | cal =>
    obtain ⟨o',_,hF'⟩:=hkat h2
    have:=hF'.cal rfl
    rw [← this]; exact hj
   | _=>simp [Zco] at h3
  -- the reads stand ahead of the call
  have hahead:∀ (n:Nat) (i':Nat) c,ops.length - i'≤n→kd[i']?=some (.pur c)→L.getD ic false=true→L.getD i' false=true:=by
   intro n
   induction n with
   | zero =>
    intro i' c hn h1 _
    have:=(Qa.1 h1).1
    omega
   | succ n ih =>
    intro i' c hn h1 h2
    obtain ⟨o',_,hF'⟩:=hkat h1
    obtain ⟨j,p,r,h3,h4,h5,h6,h7⟩:=hF'.pur c rfl
    have hjl:L.getD j false=true:=by
     cases r with
     | pur c'=>exact ih j c' (by omega) h5 h2
     | cal =>
      obtain ⟨o2,_,hF2⟩:=hkat h5
      rw [hF2.cal rfl]; exact h2
     | _=>simp [Zxf] at h7
    exact hcl j p h4 hjl i' h6
  unfold wpOp
  simp only [ho']
  rw [if_pos hwant]
  refine Or.inl ?_
  unfold Oper.wp
  rw [hexec]
  cases q with
  | pur c =>
   have hnc:L.getD ic false=false:=by
    cases h:L.getD ic false with
    | false=>rfl
    | true =>
     have:=hahead _ i c (Qe _) hq h
     rw [hun] at this; simp at this
   have hic:ic≠i:=hne hcal (by simp)
   have hu:=hw0 hnc
   subst hu
   rw [hOb vc]
   refine ⟨by simpa using hsz,hcl',vc,hput vc (fun _ _ _ _=>rfl),fun _=>rfl,?_,hpost' rfl⟩
   intro h
   rw [hnew ic hic,hnc] at h
   simp at h
  | post g =>
   have hic:=hcall rfl
   have hfn:fi≠i:=by
    rcases hfi with ⟨k,hk⟩ | ⟨hk,_⟩
    ·exact hne hk (by simp)
    ·omega
   have hS:R vc u∨R' vc u:=by
    cases h:L.getD fi false with
    | false=>exact Or.inl ((hcR hic).1 h)
    | true=>exact (hcR hic).2.1 h
   rw [hOb vc u hS]
   refine ⟨by simpa using hsz,hcl',vc,hput vc (fun _ _ _ _=>rfl),?_,?_,fun i' q' _ _ _=>hold _ hic⟩
   ·intro h
    have:=hold _ hic
    rw [h] at this; simp at this
   ·intro _
    rw [hnew fi hfn]
    exact hcR hic
  | cal =>
   have hie:=hF.cal rfl
   have hnc:L.getD ic false=false:=by rw [← hie]; exact hun
   have hu:=hw0 hnc
   subst hu
   rw [hOb vc]
   refine hC.mono ?_
   rintro e u' ⟨v,rfl,hr'⟩
   have hff:L.getD fi false=false:=by
    rcases hfi with ⟨k,hk⟩ | ⟨hk,_⟩
    ·cases h:L.getD fi false with
     | false=>rfl
     | true =>
      have:=hpost fi _ hk h rfl
      rw [hnc] at this; simp at this
    ·have:¬ fi<L.size:=by omega
     simp [this]
   have hfn:fi≠i:=by
    rcases hfi with ⟨k,hk⟩ | ⟨hk,_⟩
    ·exact hne hk (by simp)
    ·omega
   refine ⟨by simpa using hsz,hcl',v,hput v ?_,?_,?_,?_⟩
   ·intro j r h1 h2
    cases r with
    | post g =>
     have:=hpost j _ h1 h2 rfl
     rw [hnc] at this; simp at this
    | cal =>
     obtain ⟨o',_,hF'⟩:=hkat h1
     have:=hF'.cal rfl
     rw [this,hnc] at h2; simp at h2
    | _=>rfl
   ·intro h
    rw [← hie,hL] at h
    simp at h
   ·intro _
    rw [hnew fi hfn,hff]
    exact ⟨fun _=>hr',fun h=>by simp at h,fun h=>by simp at h⟩
   ·intro i' q' _ _ _
    rw [← hie,hL]; simp
  | alo t z s cs=>exact absurd rfl (hF.alo t z s cs)
  | sto k =>
   have hic:=hcall rfl
   obtain ⟨hif,hdn⟩:=hF.sto k rfl
   obtain ⟨w',hrun,hR'⟩:=hOb vc u ((hcR hic).1 (by rw [← hif]; exact hun))
   rw [hrun]
   refine ⟨by simpa using hsz,hcl',vc,hput vc (fun _ _ _ _=>rfl),?_,?_,fun i' q' _ _ _=>hold _ hic⟩
   ·intro h
    have:=hold _ hic
    rw [h] at this; simp at this
   ·intro _
    refine ⟨fun h => ?_,fun _=>Or.inr hR',fun _ _=>hR'⟩
    rw [← hif,hL] at h
    simp at h
 ·intro L a u hr hJ
  obtain ⟨hsz,hcl,vc,rfl,hw0,hcR,hpost⟩:=hJ
  have hall:∀ i,i<ops.length→L.getD i false=true:=by
   intro i
   induction i using Nat.strongRecOn with
   | _ i ih =>
    intro hi
    cases hl:L.getD i false with
    | true=>rfl
    | false =>
     exfalso
     have ho:ops[i]?=some ops[i]:=Qb hi
     obtain ⟨q,hq,hF⟩:=Zpl hfit ho
     have:i ∈ Region.ready .any ops.toArray L:=by
      refine mem_ready.2 ⟨?_,ops[i],by simp,fun e he hb=>ih e.on (hF.low e he hb) (by have:=hF.low e he hb; omega)⟩
      have hi':i<L.size:=by omega
      simp [hi'] at hl ⊢
      exact hl
     rw [hr] at this
     simp at this
  have e:pa a0 vc noB (fun j=>L.getD j false) 0 ops kd=paAll a0 ops kd vc noB:=Zdq (fun j r hr'=>⟨by
   simp only [Nat.zero_add]
   exact hall j (by have:=(Qa.1 hr').1; omega),fun _=>rfl⟩)
  rw [e]
  have hR:=hcR (hall ic hil)
  refine hQ vc u ?_
  rcases hfi with ⟨k,hk⟩ | ⟨hk,hRR⟩
  ·exact hR.2.2 (hall fi (by have:=(Qa.1 hk).1; omega)) ⟨k,hk⟩
  ·refine hRR _ _ (hR.1 ?_)
   have:¬ fi<L.size:=by omega
   simp [this]
 ·have:(ops.toArray).size=ops.length:=by simp
  unfold unl
  exact Qq (List.length_filter_le _ _) (by simp)
 ·have hz:∀ j,(Array.replicate ops.toArray.size false).getD j false=false:=fun j=>by
   simp only [Array.getD_eq_getD_getElem?,Array.getElem?_replicate]
   split <;> rfl
  refine ⟨by simp,?_,undef,?_,fun _=>rfl,?_,?_⟩
  ·intro i o _ h; rw [hz] at h; simp at h
  ·have:∀ (k:Nat) (os:List Oper) (qs:List Kd),pa a0 undef noB (fun j=>(Array.replicate ops.toArray.size false).getD j false) k os qs=a0:=by
    intro k os
    induction os generalizing k with
    | nil=>intro qs; simp [pa]
    | cons o os ih =>
     intro qs
     cases qs with
     | nil=>simp [pa]
     | cons q qs=>rw [pa,hz]; simp only [Bool.false_eq_true,if_false]; exact ih _ _
   exact (this _ _ _).symm
  ·intro h; rw [hz] at h; simp at h
  ·intro i q _ h; rw [hz] at h; simp at h
inductive Ph where
 | rd (lo hi:Nat) (g:List Value→Value)
 | st (p:Nat)
 | no
def Ph.val (vs:List Value):Ph→Value
 | .rd lo _ g=>g (vs.take lo)
 | .st p=>vs.getD p undef
 | .no=>undef
def Ph.due:Ph→Nat
 | .rd lo _ _=>lo
 | .st p=>p+1
 | .no=>0
def Ph.kd (vs:List Value) (q:Ph):Kd := .pur (q.val vs)
def Ph.isSt (p:Nat):Ph→Bool
 | .st r=>r == p
 | _=>false
abbrev phA (a0:Act) (vs:List Value) (lst:Nat→Bool) (ops:List Oper) (ph:List Ph):Act:=pa a0 undef noB lst 0 ops (ph.map (Ph.kd vs))
abbrev phAll (a0:Act) (ops:List Oper) (ph:List Ph) (vs:List Value):Act:=phA a0 vs (fun _=>true) ops ph
theorem Zrg {a0:Act} {lst:Nat→Bool} {f f':Ph→Kd}:∀ {ops:List Oper} {ph:List Ph} {k:Nat},(∀ j q,ph[j]?=some q→lst (k+j)=true→(f q).val undef noB (k+j)=(f' q).val undef noB (k+j)) →
  pa a0 undef noB lst k ops (ph.map f)=pa a0 undef noB lst k ops (ph.map f'):=by
 intro ops
 induction ops with
 | nil=>intro ph k _; simp [pa]
 | cons o os ih =>
  intro ph k h
  cases ph with
  | nil=>simp [pa]
  | cons q qs =>
   have h0:=h 0 q rfl
   simp only [Nat.add_zero] at h0
   have ih':=ih (ph:=qs) (k:=k+1) (fun j r hr=>by
    have:=h (j+1) r (by simpa using hr)
    have e:k+1+j=k+(j+1):=by omega
    rw [e]; exact this)
   simp only [List.map_cons]
   rw [pa,pa,ih']
   split
   ·rename_i hk; rw [h0 hk]
   ·rfl
def Zji (ops:List Oper):Nat→Nat→Nat→Bool
 | 0,_,_=>false
 | n+1,i,j=>match ops[i]? with
  | some o=>Zcm o j || (List.range i).any fun k=>Zcm o k && Zji ops n k j
  | none=>false
theorem Zkp {ops:List Oper} {L:Nat→Bool} (hcl:∀ (i:Nat) o,ops[i]?=some o→L i=true→∀ j,Zcm o j=true→L j=true):∀ (n i j:Nat),Zji ops n i j=true→L i=true→L j=true:=by
 intro n
 induction n with
 | zero=>intro i j h; simp [Zji] at h
 | succ n ih =>
  intro i j h hl
  unfold Zji at h
  cases ho:ops[i]? with
  | none=>rw [ho] at h; simp at h
  | some o =>
   rw [ho] at h
   simp only [Bool.or_eq_true,List.any_eq_true,List.mem_range,Bool.and_eq_true] at h
   rcases h with h | ⟨k,_,h1,h2⟩
   ·exact hcl i o ho hl j h
   ·exact ih k j h2 (hcl i o ho hl k h1)
theorem Zxh {ops:List Oper} {L:Nat→Bool} (hcl:∀ (i:Nat) o,ops[i]?=some o→L i=true→∀ j,Zcm o j=true→L j=true) {n i j:Nat} {o:Oper} (ho:ops[i]?=some o) (hw:∀ k,Zcm o k=true→L k=true) (h:Zji ops n i j=true):L j=true:=by
 cases n with
 | zero=>simp [Zji] at h
 | succ n =>
  unfold Zji at h
  rw [ho] at h
  simp only [Bool.or_eq_true,List.any_eq_true,List.mem_range,Bool.and_eq_true] at h
  rcases h with h | ⟨k,_,h1,h2⟩
  ·exact hw j h
  ·exact Zkp hcl n k j h2 (hw k h1)
def Zxi (ph:List Ph) (p:Nat) (f:Nat→Bool):Bool:=(List.range ph.length).any fun j=>(match ph[j]? with | some r=>r.isSt p | none=>false) && f j
theorem Zjj {ph:List Ph} {p:Nat} {f:Nat→Bool} (h:Zxi ph p f=true):∃ j,ph[j]?=some (.st p)∧f j=true:=by
 unfold Zxi at h
 simp only [List.any_eq_true,List.mem_range,Bool.and_eq_true] at h
 obtain ⟨j,_,h1,h2⟩:=h
 cases hr:ph[j]? with
 | none=>rw [hr] at h1; simp at h1
 | some r =>
  rw [hr] at h1
  cases r with
  | st q =>
   simp only [Ph.isSt,beq_iff_eq] at h1
   subst h1
   exact ⟨j,hr,h2⟩
  | _=>simp [Ph.isSt] at h1
def Zvd (T:Nat) (ops:List Oper) (ph:List Ph) (m n:Nat):Bool :=
 (ops.length == ph.length && (List.range m).all fun p=>Zxi ph p (fun _=>true)) &&
 (List.range ops.length).all fun i=>match ops[i]?,ph[i]? with
  | some o,some q =>
   (match o.guard with
    | none=>true
    | some (j,_)=>Zcm o j && (match ops[j]? with
     | some p=>match p.dst with | some d=>decide (d<T) | none=>false
     | _=>false)) && (match o.op with | .select .. => false | _=>true) &&
   (o.after.all fun e => !Region.binds .any e || e.on<i) &&
   ((List.range ops.length).all fun j=>match ops[j]? with
    | some p=>match p.dst with
     | some d=>((j == i) || (o.dst != some d)) && (!(o.looksAt ops.toArray).contains d || Zcm o j)
     | none=>true
    | none=>true) &&
   (match q with
    | .rd lo hi _=>(lo == 0 || Zxi ph (lo - 1) (fun j=>Zji ops n i j)) && (decide (m≤hi) || Zxi ph hi (fun j=>Zji ops n j i))
    | .st p=>decide (p<m) && (p == 0 || Zxi ph (p - 1) (fun j=>Zji ops n i j)) && ((List.range ops.length).all fun j=>j == i || (match ph[j]? with | some r => !r.isSt p | none=>true))
    | .no=>o.guard.isSome)
  | _,_=>false
structure PhAt (T:Nat) (ops:List Oper) (ph:List Ph) (m n i:Nat) (o:Oper) (q:Ph):Prop where
 gd:o.guard=none∨∃ j b p d,o.guard=some (j,b)∧Zcm o j=true∧ops[j]?=some p∧p.dst=some d∧d<T
 sel:∀ cs b,o.op ≠ .select cs b
 low:∀ e ∈ o.after,Region.binds .any e=true→e.on<i
 dst:∀ j p d,ops[j]?=some p→p.dst=some d→j=i∨o.dst≠some d
 look:∀ j p d,ops[j]?=some p→p.dst=some d→d ∈ o.looksAt ops.toArray→Zcm o j=true
 rdl:∀ lo hi g,q = .rd (lo+1) hi g→∃ j,ph[j]?=some (.st lo)∧Zji ops n i j=true
 rdh:∀ lo hi g,q = .rd lo hi g→m≤hi∨∃ j,ph[j]?=some (.st hi)∧Zji ops n j i=true
 stm:∀ p,q = .st p→p<m
 stl:∀ p,q = .st (p+1)→∃ j,ph[j]?=some (.st p)∧Zji ops n i j=true
 stu:∀ p,q = .st p→∀ j,ph[j]?=some (.st p)→j=i
 ng:q = .no→o.guard≠none
theorem Yeh {T:Nat} {ops:List Oper} {ph:List Ph} {m n:Nat} (h:Zvd T ops ph m n=true) {i:Nat} {o:Oper} (ho:ops[i]?=some o):∃ q,ph[i]?=some q∧PhAt T ops ph m n i o q:=by
 unfold Zvd at h
 simp only [Bool.and_eq_true,List.all_eq_true,List.mem_range,beq_iff_eq] at h
 obtain ⟨⟨hl,_⟩,h⟩:=h
 have hi:=(Qa.1 ho).1
 have h:=h i hi
 rw [ho] at h
 cases hq:ph[i]? with
 | none=>rw [hq] at h; simp at h
 | some q =>
  rw [hq] at h
  simp only [Bool.and_eq_true,List.all_eq_true,List.mem_range] at h
  obtain ⟨⟨⟨⟨h1,h2⟩,h3⟩,h4⟩,h5⟩:=h
  refine ⟨q,rfl,?_,?_,?_,?_,?_,?_,?_,?_,?_,?_,?_⟩
  ·cases hgd:o.guard with
   | none=>exact Or.inl rfl
   | some jb =>
    obtain ⟨j,b⟩:=jb
    rw [hgd] at h1
    simp only [Bool.and_eq_true] at h1
    obtain ⟨h6,h7⟩:=h1
    cases hp:ops[j]? with
    | none=>rw [hp] at h7; simp at h7
    | some p =>
     rw [hp] at h7
     simp only at h7
     cases hd:p.dst with
     | none=>rw [hd] at h7; simp at h7
     | some d =>
      rw [hd] at h7
      exact Or.inr ⟨j,b,p,d,rfl,h6,hp,hd,by simpa using h7⟩
  ·intro cs b e; rw [e] at h2; simp at h2
  ·intro e he hb
   have:=Array.all_eq_true_iff_forall_mem.1 h3 e he
   simpa [hb] using this
  ·intro j p d hp hd
   have:=h4 j (Qa.1 hp).1
   rw [hp] at this
   simp only [hd,Bool.and_eq_true,Bool.or_eq_true,beq_iff_eq,bne_iff_ne] at this
   exact this.1
  ·intro j p d hp hd hm
   have:=h4 j (Qa.1 hp).1
   rw [hp] at this
   simp only [hd,Bool.and_eq_true,Bool.or_eq_true,beq_iff_eq,bne_iff_ne] at this
   rcases this.2 with h | h
   ·simp [hm] at h
   ·exact h
  ·intro lo hi g e
   subst e
   simp only [Bool.and_eq_true,Bool.or_eq_true] at h5
   rcases h5.1 with h | h
   ·simp at h
   ·exact Zjj h
  ·intro lo hi g e
   subst e
   simp only [Bool.and_eq_true,Bool.or_eq_true,decide_eq_true_eq] at h5
   rcases h5.2 with h | h
   ·exact Or.inl h
   ·exact Or.inr (Zjj h)
  ·intro p e
   subst e
   simp only [Bool.and_eq_true,decide_eq_true_eq] at h5
   exact h5.1.1
  ·intro p e
   subst e
   simp only [Bool.and_eq_true,Bool.or_eq_true] at h5
   rcases h5.1.2 with h | h
   ·simp at h
   ·exact Zjj h
  ·intro p e j hj
   subst e
   simp only [Bool.and_eq_true,List.all_eq_true,List.mem_range,Bool.or_eq_true,beq_iff_eq] at h5
   rcases h5.2 j (by have:=(Qa.1 hj).1; omega) with h | h
   ·exact h
   ·rw [hj] at h; simp [Ph.isSt] at h
  ·intro e
   subst e
   intro hn
   rw [hn] at h5
   simp at h5
inductive StepOk (P:Program) (S:List Value→World→Prop) (vs:List Value) (u:World) (ev:Operand→Value) (o:Oper):Prop
 | value (v:Value) (w':World) (h:(execOp ev o).run P u = .ok (.value v) w') (hS:S (vs++[v]) w')
 | skip (w':World) (h:(execOp ev o).run P u = .ok .skip w') (hS:S (vs++[undef]) w')
 | call (f:FuncId) (args:Array Value) (u1:World) (h:(execOp ev o).run P u = .ok (.enter f args) u1) (hS:Calls P f args u1 (fun e u'=>∃ v,e = .returned v∧S (vs++[v]) u'))
 | row (f:String) (args:Array Value) (u1:World) (h:(execOp ev o).run P u = .ok (.row f args) u1) (hS:Rows P f args u1 (fun v u'=>S (vs++[v]) u'))
def ObP (P:Program) (S:List Value→World→Prop) (FA:List Value→Act) (ph:List Ph) (o:Oper) (q:Ph):Prop :=
 (match o.guard with
  | none=>True
  | some (j,b)=>match ph[j]? with
   | none=>False
   | some r=>∀ vs u,r.due≤vs.length→S vs u→(match q with | .no=>r.val vs ≠ .bool b | _=>r.val vs = .bool b)) ∧
 (match q with
  | .rd lo hi g=>∀ vs u,lo≤vs.length→vs.length≤hi→S vs u→(execOp (FA vs).eval o).run P u = .ok (.value (g (vs.take lo))) u
  | .st p=>∀ vs u,vs.length=p→S vs u→StepOk P S vs u (FA vs).eval o
  | .no=>True)
def AllObP (P:Program) (S:List Value→World→Prop) (FA:List Value→Act) (ph0:List Ph):List Oper→List Ph→Prop
 | o::os,q::qs=>ObP P S FA ph0 o q∧AllObP P S FA ph0 os qs
 | _,_=>True
theorem AllObP.at {P:Program} {S:List Value→World→Prop} {FA:List Value→Act} {ph0:List Ph}:∀ {ops:List Oper} {ks:List Ph},AllObP P S FA ph0 ops ks →
  ∀ {i:Nat} {o:Oper} {q:Ph},ops[i]?=some o→ks[i]?=some q→ObP P S FA ph0 o q:=by
 intro ops
 induction ops with
 | nil=>intro ks _ i o q h; simp at h
 | cons p os ih =>
  intro ks h i o q ho hq
  cases ks with
  | nil=>simp at hq
  | cons r qs =>
   cases i with
   | zero=>simp at ho hq; subst ho hq; exact h.1
   | succ i=>exact ih h.2 (i:=i) (by simpa using ho) (by simpa using hq)
structure PhPlan (ops:List Oper) (ph:List Ph) (m:Nat) (a0:Act) (S:List Value→World→Prop) (L:Array Bool) (a:Act) (w:World):Prop where
 size:L.size=ops.length
 closed:∀ (i:Nat) o,ops[i]?=some o→L.getD i false=true→∀ j,Zcm o j=true→L.getD j false=true
 st:∃ vs,a=phA a0 vs (fun j=>L.getD j false) ops ph∧S vs w∧vs.length≤m∧(∀ (i p:Nat),ph[i]?=some (Ph.st p)→(L.getD i false=true↔p<vs.length))∧(∀ (i:Nat) q,ph[i]?=some q→L.getD i false=true→q.due≤vs.length)
theorem Zeu {P:Program} {ops:List Oper} {id:Nat} {Q:Exit→Act→World→Prop} {a0:Act} {w:World} (hm:P.follows .mixedOrders=true) (ph:List Ph) (m n:Nat) (hfit:Zvd a0.tmps.size ops ph m n=true)
  (S:List Value→World→Prop) (hS0:S [] w.drew) (hob:AllObP P S (fun vs=>phAll a0 ops ph vs) ph ops ph)
  (hQ:∀ vs u,vs.length=m→S vs u→Q .normal (phAll a0 ops ph vs) u) :
  (Code.region id ops.toArray true).wp P Q a0 w:=by
 have hlen:ops.length=ph.length∧∀ p,p<m→∃ j:Nat,ph[j]?=some (Ph.st p):=by
  unfold Zvd at hfit
  simp only [Bool.and_eq_true,beq_iff_eq,List.all_eq_true,List.mem_range] at hfit
  exact ⟨hfit.1.1,fun p hp=>by obtain ⟨j,h,_⟩:=Zjj (hfit.1.2 p hp); exact ⟨j,h⟩⟩
 obtain ⟨hlen,hall⟩:=hlen
 have hkat:∀ {i':Nat} {q':Ph},ph[i']?=some q'→∃ o',ops[i']?=some o'∧PhAt a0.tmps.size ops ph m n i' o' q':=fun {i' q'} h1=>by
  have ho:=Qb (l:=ops) (i:=i') (by have:=(Qa.1 h1).1; omega)
  obtain ⟨q2,hq2,hF2⟩:=Yeh hfit ho
  rw [h1] at hq2; simp at hq2; subst hq2
  exact ⟨_,ho,hF2⟩
 refine wp_region_any hm (Zjf (J:=PhPlan ops ph m a0 S) ?_ ?_ _ _ _ _ ?_ ?_)
 ·intro L a u i hr hJ
  obtain ⟨hsz,hcl,vs,rfl,hS,hvm,hst,hdue⟩:=hJ
  obtain ⟨h0,o,ho',_⟩:=mem_ready.1 hr
  have ho:ops[i]?=some o:=by simpa using ho'
  have hi:i<ops.length:=(Qa.1 ho).1
  have hil:i<L.size:=by omega
  have hun:L.getD i false=false:=by simp [hil] at h0 ⊢; exact h0
  obtain ⟨q,hq,hF⟩:=Yeh hfit ho
  have hOb:=hob.at ho hq
  have hw1:∀ k,Zcm o k=true→L.getD k false=true:=fun k hk=>Zbp hr ho hk
  have hexec:execOp (phA a0 vs (fun j=>L.getD j false) ops ph).eval o=execOp (phAll a0 ops ph vs).eval o:=by
   refine execOp_congr o hF.sel (fun x hx=>Zpe (fun j p hp hl d hd e => ?_))
   subst e
   have hw:=hF.look j p d hp hd (List.mem_append_left _ (List.mem_filterMap.2 ⟨.tmp d,by simpa using hx,rfl⟩))
   have:=Zbp hr ho hw
   simp only [Nat.zero_add] at hl
   rw [hl] at this
   simp at this
  have hyield:∀ j b,o.guard=some (j,b)→∃ r,ph[j]?=some r∧r.due≤vs.length∧yielded ops.toArray (phA a0 vs (fun j=>L.getD j false) ops ph).tmps j=(match r.val vs with | .bool c=>some c | _=>none):=by
   intro j b hg
   rcases hF.gd with hg' | ⟨j',b',p,d,hg',h1,h3,h4,h5⟩
   ·rw [hg'] at hg; simp at hg
   ·rw [hg'] at hg
    simp only [Qo,Prod.mk.injEq] at hg
    obtain ⟨rfl,rfl⟩:=hg
    obtain ⟨r,hr',hF'⟩:=Yeh hfit h3
    have hk:(ph.map (Ph.kd vs))[j']?=some (r.kd vs):=by simp [hr']
    have ht:=Yja (a0:=a0) (vc:=undef) (β:=noB) (lst:=fun j=>L.getD j false) (k:=0) h3 hk (by simpa using hw1 j' h1) h4 (fun j2 p' h6 h7=>by
     rcases hF'.dst j2 p' d h6 h7 with h | h
     ·exact h
     ·exact absurd h4 h) h5
    refine ⟨r,hr',hdue j' r hr' (hw1 j' h1),?_⟩
    unfold yielded
    simp only [List.getElem?_toArray,h3,Option.bind_some,h4,ht,Kd.val,Ph.kd]
    cases r.val vs <;> rfl
  have hL:=Zgv hil
  have hold:∀ j,L.getD j false=true→(L.setIfInBounds i true).getD j false=true:=fun j h=>by rw [hL,h]; rfl
  have hnew:∀ j,j≠i→(L.setIfInBounds i true).getD j false=L.getD j false:=fun j h=>by
   rw [hL]
   have:(j == i)=false:=by rw [Qu]; exact h
   simp [this]
  have hput:∀ vs',(∀ j r,ph[j]?=some r→L.getD j false=true→r.val vs=r.val vs') →
    (phA a0 vs (fun j=>L.getD j false) ops ph).put o.dst (q.val vs')=phA a0 vs' (fun j=>(L.setIfInBounds i true).getD j false) ops ph:=by
   intro vs' hv
   have e1:phA a0 vs (fun j=>L.getD j false) ops ph=phA a0 vs' (fun j=>L.getD j false) ops ph:=Zrg (fun j r hr' hl=>by
    simp only [Nat.zero_add] at hl
    exact hv j r hr' hl)
   rw [e1]
   have hk:(ph.map (Ph.kd vs'))[i]?=some (q.kd vs'):=by simp [hq]
   have e2:=Zuy (a0:=a0) (vc:=undef) (β:=noB) (lst:=fun j=>L.getD j false) (k:=0) ho hk (by simpa using hun) hF.dst
   simp only [Nat.zero_add] at e2
   have e3:(q.kd vs').val undef noB i=q.val vs':=rfl
   rw [e3] at e2
   show (pa a0 undef noB (fun j=>L.getD j false) 0 ops (ph.map (Ph.kd vs'))).put o.dst (q.val vs')=_
   rw [← e2]
   exact Zdq (fun j r hr'=>⟨by simp only [Nat.zero_add,hL],fun _=>rfl⟩)
  have hcl':∀ (i':Nat) o',ops[i']?=some o'→(L.setIfInBounds i true).getD i' false=true→∀ j,Zcm o' j=true→(L.setIfInBounds i true).getD j false=true:=by
   intro i' o' h1 h2 j hj
   by_cases e:i'=i
   ·subst e
    rw [ho] at h1; simp at h1; subst h1
    exact hold _ (Zbp hr ho hj)
   ·exact hold _ (hcl i' o' h1 ((hnew i' e).symm.trans h2) j hj)
  have hreach:∀ j,Zji ops n i j=true→L.getD j false=true:=fun j h=>Zxh (L:=fun j=>L.getD j false) hcl ho hw1 h
  -- the operation turns no memory
  have hkeep:(∀ p,q ≠ .st p)→q.due≤vs.length→PhPlan ops ph m a0 S (L.setIfInBounds i true) ((phA a0 vs (fun j=>L.getD j false) ops ph).put o.dst (q.val vs)) u:=fun hns hqd=>by
   refine ⟨by simpa using hsz,hcl',vs,hput vs (fun _ _ _ _=>rfl),hS,hvm,?_,?_⟩
   ·intro i' p h1
    have hne:i'≠i:=fun e=>by subst e; rw [hq] at h1; exact hns p (Option.some.inj h1)
    rw [hnew i' hne]
    exact hst i' p h1
   ·intro i' q' h1 h2
    by_cases e:i'=i
    ·subst e; rw [hq] at h1; simp at h1; subst h1; exact hqd
    ·exact hdue i' q' h1 ((hnew i' e).symm.trans h2)
  unfold wpOp
  simp only [ho']
  by_cases hqn:q = .no
  ·subst hqn
   cases hg:o.guard with
   | none=>exact absurd hg (hF.ng rfl)
   | some jb =>
    obtain ⟨j,b⟩:=jb
    obtain ⟨r,hr',hd,hy⟩:=hyield j b hg
    have hO:=hOb.1
    rw [hg] at hO
    simp only [hr'] at hO
    have hv:=hO vs u hd hS
    have hwant:Region.wanted o (yielded ops.toArray (phA a0 vs (fun j=>L.getD j false) ops ph).tmps)=false:=by
     unfold Region.wanted
     rw [hg]
     simp only
     rw [hy]
     cases hrv:r.val vs with
     | bool c =>
      rw [hrv] at hv
      have:c≠b:=fun e=>hv (by rw [e])
      simpa using this
     | _=>simp
    rw [if_neg (by rw [hwant]; simp)]
    exact hkeep (fun p=>by simp) (Qm _)
  ·have hwant:Region.wanted o (yielded ops.toArray (phA a0 vs (fun j=>L.getD j false) ops ph).tmps)=true:=by
    cases hg:o.guard with
    | none=>simp [Region.wanted,hg]
    | some jb =>
     obtain ⟨j,b⟩:=jb
     obtain ⟨r,hr',hd,hy⟩:=hyield j b hg
     have hO:=hOb.1
     rw [hg] at hO
     simp only [hr'] at hO
     have hv:=hO vs u hd hS
     have hv':r.val vs = .bool b:=by cases q <;> first | exact hv | exact absurd rfl hqn
     unfold Region.wanted
     rw [hg]
     simp only
     rw [hy,hv']
     simp
   rw [if_pos hwant]
   refine Or.inl ?_
   unfold Oper.wp
   rw [hexec]
   cases q with
   | no=>exact absurd rfl hqn
   | rd lo hi g =>
    have hlo:lo≤vs.length:=by
     cases lo with
     | zero=>exact Qm _
     | succ lo =>
      obtain ⟨j,h1,h2⟩:=hF.rdl lo hi g rfl
      exact (hst j lo h1).1 (hreach j h2)
    have hhi:vs.length≤hi:=by
     rcases hF.rdh lo hi g rfl with h | ⟨j,h1,h2⟩
     ·omega
     ·rcases Nat.lt_or_ge hi vs.length with h | h
      ·have hj:=(hst j hi h1).2 h
       have:=Zkp (L:=fun j=>L.getD j false) hcl n j i h2 hj
       rw [hun] at this; simp at this
      ·exact h
    have hO:(execOp (phAll a0 ops ph vs).eval o).run P u=_:=hOb.2 vs u hlo hhi hS
    rw [hO]
    exact hkeep (fun p=>by simp) hlo
   | st p =>
    have hpv:vs.length=p:=by
     have h1:¬ p<vs.length:=fun h=>by
      have:=(hst i p hq).2 h
      rw [hun] at this; simp at this
     cases p with
     | zero=>omega
     | succ p =>
      obtain ⟨j,h2,h3⟩:=hF.stl p rfl
      have:=(hst j p h2).1 (hreach j h3)
      omega
    have hpm:=hF.stm p rfl
    have hstep:∀ v u',S (vs++[v]) u'→PhPlan ops ph m a0 S (L.setIfInBounds i true) ((phA a0 vs (fun j=>L.getD j false) ops ph).put o.dst v) u':=by
     intro v u' hS'
     have hval:(Ph.st p).val (vs++[v])=v:=by
      subst hpv
      simp [Ph.val]
     refine ⟨by simpa using hsz,hcl',vs++[v],?_,hS',by simp; omega,?_,?_⟩
     ·rw [← hput (vs++[v]) ?_,hval]
      intro j r h1 h2
      have hd:=hdue j r h1 h2
      cases r with
      | rd lo hi g =>
       simp only [Ph.due] at hd
       simp only [Ph.val]
       rw [List.take_append_of_le_length hd]
      | st p' =>
       simp only [Ph.due] at hd
       simp only [Ph.val,List.getD_eq_getElem?_getD]
       rw [Qc (by omega)]
      | no=>rfl
     ·intro i' p' h1
      by_cases e:i'=i
      ·subst e
       rw [hq] at h1
       simp at h1
       subst h1
       rw [hL]
       simp
       omega
      ·rw [hnew i' e,hst i' p' h1]
       have hne:p'≠p:=fun e2=>by subst e2; exact e (hF.stu p' rfl i' h1)
       simp only [Qg,Qf,Jt]
       omega
     ·intro i' q' h1 h2
      simp only [Qg,Qf,Jt]
      by_cases e:i'=i
      ·subst e
       rw [hq] at h1; simp at h1; subst h1
       simp only [Ph.due]; omega
      ·have:=hdue i' q' h1 ((hnew i' e).symm.trans h2)
       omega
    have hO:StepOk P S vs u (phAll a0 ops ph vs).eval o:=hOb.2 vs u hpv hS
    cases hO with
    | value v w' h hS'=>rw [h]; exact hstep v w' hS'
    | skip w' h hS'=>rw [h]; exact hstep undef w' hS'
    | call f args u1 h hS' =>
     rw [h]
     refine hS'.mono ?_
     rintro e u' ⟨v,rfl,hr'⟩
     exact hstep v u' hr'
    | row f args u1 h hS' =>
     rw [h]
     exact hS'.mono (fun v u' hr'=>hstep v u' hr')
 ·intro L a u hr hJ
  obtain ⟨hsz,hcl,vs,rfl,hS,hvm,hst,hdue⟩:=hJ
  have hal:∀ i,i<ops.length→L.getD i false=true:=by
   intro i
   induction i using Nat.strongRecOn with
   | _ i ih =>
    intro hi
    cases hl:L.getD i false with
    | true=>rfl
    | false =>
     exfalso
     have ho:ops[i]?=some ops[i]:=Qb hi
     obtain ⟨q,hq,hF⟩:=Yeh hfit ho
     have:i ∈ Region.ready .any ops.toArray L:=by
      refine mem_ready.2 ⟨?_,ops[i],by simp,fun e he hb=>ih e.on (hF.low e he hb) (by have:=hF.low e he hb; omega)⟩
      have hi':i<L.size:=by omega
      simp [hi'] at hl ⊢
      exact hl
     rw [hr] at this
     simp at this
  have e:phA a0 vs (fun j=>L.getD j false) ops ph=phAll a0 ops ph vs:=Zdq (fun j r hr'=>⟨by
   simp only [Nat.zero_add]
   exact hal j (by have:=(Qa.1 hr').1; simp at this; omega),fun _=>rfl⟩)
  rw [e]
  refine hQ vs u ?_ hS
  rcases Nat.lt_or_ge vs.length m with h | h
  ·obtain ⟨j,hj⟩:=hall _ h
   have:=(hst j _ hj).1 (hal j (by have:=(Qa.1 hj).1; omega))
   omega
  ·omega
 ·have:(ops.toArray).size=ops.length:=by simp
  unfold unl
  exact Qq (List.length_filter_le _ _) (by simp)
 ·have hz:∀ j,(Array.replicate ops.toArray.size false).getD j false=false:=fun j=>by
   simp only [Array.getD_eq_getD_getElem?,Array.getElem?_replicate]
   split <;> rfl
  refine ⟨by simp,?_,[],?_,hS0,Qm _,?_,?_⟩
  ·intro i o _ h; rw [hz] at h; simp at h
  ·have:∀ (k:Nat) (os:List Oper) (qs:List Kd),pa a0 undef noB (fun j=>(Array.replicate ops.toArray.size false).getD j false) k os qs=a0:=by
    intro k os
    induction os generalizing k with
    | nil=>intro qs; simp [pa]
    | cons o os ih =>
     intro qs
     cases qs with
     | nil=>simp [pa]
     | cons q qs=>rw [pa,hz]; simp only [Bool.false_eq_true,if_false]; exact ih _ _
   exact (this _ _ _).symm
  ·intro i p _
   rw [hz]
   simp
  ·intro i q _ h; rw [hz] at h; simp at h
theorem Yav (r:At3 × List At3) (m:List Bool) (n:Nat):(List.range (n+1)).foldl (putM r) m=putM r ((List.range n).foldl (putM r) m) n:=by
 rw [List.range_succ,List.foldl_append]
 rfl
theorem Yaw {R:List (At3 × List At3)} {j:Nat} {r:At3 × List At3} (h:R[j]?=some r) (m:List Bool):(R.take (j+1)).foldl Zjw m=Zjw ((R.take j).foldl Zjw m) r:=by
 rw [List.take_add_one,h,List.foldl_append]
 rfl
theorem ModelIn.put {w:World} {b:Nat} {m:List Bool} (h:ModelIn w b m) (i:Nat):ModelIn (w.setCell ⟨b,i,none⟩ (.bool true)) b (m.set i true):=by
 refine ⟨?_,by rw [List.length_set]; exact h.len⟩
 rw [Zai h.box i _]
 congr 1
 simp [List.map_set]
def StoP (w0 w1:World):List Value→World→Prop
 | [],y=>y=w0
 | _::_,y=>y=w1
theorem Yhe {w u:World} (h:Ext w u) {b:Nat} (hb:w.heap.size≤b) (i:Nat) (v:Value):Ext w (u.setCell ⟨b,i,none⟩ v):=by
 have k:Kept (only b) u (u.setCell ⟨b,i,none⟩ v):=(Qx _ _).put i v
 exact ⟨k.os.trans h.os,k.tape.trans h.tape,k.output.trans h.output,Qq h.size k.size,fun j hj=>(k.block j (by have:=h.size; omega) (fun e=>by have e:j=b:=e; omega)).trans (h.block j hj)⟩
set_option maxHeartbeats 8000000 in
theorem Zti (w:World) (a:Option Addr) (c:Nat) (R:List (At3 × List At3)) (xs:List Value) (h:RulesIn w (.slice a R.length c) R xs) (hl:R.length≤100):Calls Tryz.prog 20 #[.slice a R.length c] w fun e w'=>e = .returned (.pointer (some ⟨w.heap.size,0,none⟩))∧ModelIn w' w.heap.size (Zdu R)∧Ext w w':=by
 have HI:Hid (∀ u,Ext w u→RulesIn u (.slice a R.length c) R xs):=fun u hu=>h.ext hu
 clear h
 obtain ⟨b0,hb0⟩:∃ b0,b0=w.heap.size:=⟨_,rfl⟩
 have Hb0:=Zac hb0
 obtain ⟨W0,hW0⟩:∃ W0,W0=w.alloc (.cells #[.bool false,.bool false,.bool false,.bool false,.bool false,.bool false,.bool false,.bool false,.bool false,.bool false,.bool false,.bool false,.bool false,.bool false,.bool false,.bool false,.bool false,.bool false,.bool false,.bool false,.bool false,.bool false,.bool false,.bool false,.bool false,.bool false,.bool false] 99):=⟨_,rfl⟩
 have HE0:Hid (Ext w W0):=by rw [hW0]; exact (Ext.of (by repeat' (first | with_reducible(first|exact Qx _ _|apply Kept.drew|apply Kept.drewN|apply Qz|refine Qy ?_ ?_ _)|exact fun h=>absurd h (by simp <;> omega))))
 have HM0:Hid (ModelIn W0 b0 (itM R 0)):=⟨by rw [hW0,hb0,heap_alloc_new]; rfl,rfl⟩
 have HW0:=Zac hW0
 rw [← hb0]
 clear hW0
 go_enter Tryz.func20,Tryz.ntmps20
 go_wp2
 rw [← HW0.out,← Hb0.out]
 clear hb0
 go_loopw [4] (fun i u=>∃ k:Nat,k≤28∧i = .int .i64 k∧ModelIn u b0 (itM R k)∧Ext w u) (fun i _=>28 - (intOf i).toNat)
 case atStart=>exact ⟨0,by omega,rfl,HM0.out,HE0.out⟩
 case round =>
  obtain ⟨k,hk,rfl,hMk,hEk⟩:=hrel
  have HMk:=Zac hMk
  have HEk:=Zac hEk
  clear hMk hEk
  by_cases hk28:k<28
  ·obtain ⟨wo,hwo⟩:∃ wo,wo=wr:=⟨_,rfl⟩
   rw [← hwo] at HMk HEk ⊢
   clear hwo
   clear wr
   have hkd:decide ((k:Int)<28)=true:=by simp only [decide_eq_true_eq]; omega
   go_wp2
   go_loopw [5] (fun i u=>∃ j:Nat,j≤R.length∧i = .int .i64 j∧ModelIn u b0 ((R.take j).foldl Zjw (itM R k))∧Ext w u) (fun i _=>R.length - (intOf i).toNat)
   case atStart=>exact ⟨0,Qm _,rfl,HMk.out,HEk.out⟩
   case round =>
    obtain ⟨j,hj,rfl,hMj,hEj⟩:=hrel
    have HMj:=Zac hMj
    have HEj:=Zac hEj
    clear hMj hEj
    by_cases hjR:j<R.length
    ·obtain ⟨x,hx⟩:∃ x,R[j]?=some x:=⟨_,Qb hjR⟩
     obtain ⟨m1,hm1⟩:∃ m1,m1=(R.take j).foldl Zjw (itM R k):=⟨_,rfl⟩
     rw [← hm1] at HMj
     have Hm1:Hid ((R.take (j+1)).foldl Zjw (itM R k)=Zjw m1 x):=Zac (by rw [Yaw hx,hm1])
     have Hx:=Zac hx
     clear hx hm1
     obtain ⟨wp,hwp⟩:∃ wp,wp=wr:=⟨_,rfl⟩
     rw [← hwp] at HMj HEj ⊢
     clear hwp
     clear wr
     go_wp2
     go_loopw [6] (fun i u=>∃ n:Nat,n≤27∧i = .int .i64 n∧ModelIn u b0 ((List.range n).foldl (putM x) m1)∧Ext w u) (fun i _=>27 - (intOf i).toNat)
     case atStart=>exact ⟨0,by omega,rfl,HMj.out,HEj.out⟩
     case round =>
      obtain ⟨n,hn,rfl,hMn,hEn⟩:=hrel
      by_cases hn27:n<27
      ·obtain ⟨m2,hm2⟩:∃ m2,m2=(List.range n).foldl (putM x) m1:=⟨_,rfl⟩
       rw [← hm2] at hMn
       have Hm2:Hid ((List.range (n+1)).foldl (putM x) m1=putM x m2 n):=Zac (by rw [Yav,hm2])
       obtain ⟨⟨P,A,B⟩,xb⟩:=x
       have hRu:=HI.out wr hEn
       obtain ⟨ba,bc,y0,y1,y2,y3,hAt,⟨o1,o2,o3⟩,hb6⟩:=hRu.all j _ Hx.out
       simp only at y0 y1 y2 y3 hAt o1 o2 o3 hb6
       obtain ⟨g,hgs,hg⟩:∃ g,a=some ⟨g,0,none⟩∧g<w.heap.size:=by
        have hRw:=HI.out w (Below.refl _ _)
        rcases hRw.owns.2 with ⟨h1,h2⟩ | ⟨g,cap,cur,h1,_⟩
        ·omega
        ·simp only [Value.slice.injEq] at h1
         obtain ⟨e,_,rfl⟩:=h1
         subst e
         exact ⟨g,rfl,(hRw.owns.lt g rfl).2⟩
       subst hgs
       have hRc:Hid (∀ u,Ext w u→u.cell? ⟨g,j * 4,none⟩=some (.int .i64 P)∧u.cell? ⟨g,j * 4+1,none⟩=some (.int .i64 A)∧u.cell? ⟨g,j * 4+2,none⟩=some (.int .i64 B)∧u.cell? ⟨g,j * 4+3,none⟩=some (.slice ba xb.length bc)∧g<u.heap.size):=fun u hu=>by
        have hR2:=HI.out u hu
        exact ⟨Zag hR2.owns _ _ y0,Zag hR2.owns _ _ y1,Zag hR2.owns _ _ y2,Zag hR2.owns _ _ y3,by have:=hu.size; omega⟩
       have HGv:=Zac (Zmi n hn27 wr)
       have HAl:Hid (∀ u,Ext wr u→Calls Tryz.prog 28 #[.pointer (some ⟨b0,0,none⟩),.slice ba xb.length bc,.agg #[.int .i64 (gv n 0),.int .i64 (gv n 1),.int .i64 (gv n 2)]] u fun e w'=>e = .returned (.bool (hAll m2 n xb))∧Ext u w'):=fun u hu=>Zth u b0 m2 (hMn.ext hu) ba bc xb (hAt.ext hu) (by omega) n
       have HO1:Hid (∀ u,Calls Tryz.prog 44 #[.agg #[.int .i64 (gv n 0),.int .i64 (gv n 1),.int .i64 (gv n 2)],.int .i64 A] u fun e w'=>e = .returned (.int .i64 (gA n A))∧Ext u w'):=fun u=>Zre n A o2 u
       have HO2:Hid (∀ u,Calls Tryz.prog 44 #[.agg #[.int .i64 (gv n 0),.int .i64 (gv n 1),.int .i64 (gv n 2)],.int .i64 B] u fun e w'=>e = .returned (.int .i64 (gA n B))∧Ext u w'):=fun u=>Zre n B o3 u
       have hpx:=Zgw n A
       have hpy:=Zgw n B
       obtain ⟨px,epx⟩:∃ px,px=gA n A:=⟨_,rfl⟩
       obtain ⟨py,epy⟩:∃ py,py=gA n B:=⟨_,rfl⟩
       rw [← epx] at HO1 hpx
       rw [← epy] at HO2 hpy
       obtain ⟨r,hr⟩:∃ r,r=hAll m2 n xb:=⟨_,rfl⟩
       rw [← hr] at HAl
       have Hix:Hid (ixA n (P,A,B)=P * 9+px * 3+py):=Zac (by rw [epx,epy]; rfl)
       have Hr:=Zac hr
       have HMn:=Zac hMn
       have HEn:=Zac hEn
       clear hr epx epy y0 y1 y2 y3 hAt hRu hMn hEn hm2 hb6
       unfold gval at HGv
       go_wp2_with fail
       refine HGv.out.mono ?_
       rintro e w1 ⟨rfl,hE1⟩
       obtain ⟨U1,hU1⟩:∃ U1,U1=w1.alloc (.cells #[.int .i64 (gv n 0),.int .i64 (gv n 1),.int .i64 (gv n 2)] 56):=⟨_,rfl⟩
       have HE1:Hid (Ext wr U1):=Zaj hE1 (by rw [hU1]; exact (Ext.of (by repeat' (first | with_reducible(first|exact Qx _ _|apply Kept.drew|apply Kept.drewN|apply Qz|refine Qy ?_ ?_ _)|exact fun h=>absurd h (by simp <;> omega)))))
       have HB:Hid (U1.heap[w1.heap.size]?=some (.cells #[.int .i64 (gv n 0),.int .i64 (gv n 1),.int .i64 (gv n 2)] 56 (0,0))):=by rw [hU1]; exact heap_alloc_new _ _
       have HU1:=Zac hU1
       obtain ⟨d0,d1,d2,d3,hgl⟩:=hRc.out U1 (Zaj HEn.out HE1.out)
       obtain ⟨p0,p1,p2,pf⟩:=box3 HB.out
       have l1:=Zab HB.out
       clear hE1 hU1
       go_wp2_with fail
       rw [← HU1.out]
       refine Zds (by kernel_rfl) [.pur (.pointer (some ⟨b0,0,none⟩)),.pur (.slice (some ⟨g,0,none⟩) R.length c),.pur (.int .i64 j),.pur (.pointer (some ⟨g,j * 4,none⟩)),.pur (.pointer (some ⟨g,j * 4+3,none⟩)),.pur (.slice ba xb.length bc),.pur (.agg #[.int .i64 (gv n 0),.int .i64 (gv n 1),.int .i64 (gv n 2)]),.cal,.post (fun v=>v)] 7 9 (by kernel_rfl)
        (fun v u=>v = .bool r∧Ext U1 u) (fun v u=>v = .bool r∧Ext U1 u) 28 #[.pointer (some ⟨b0,0,none⟩),.slice ba xb.length bc,.agg #[.int .i64 (gv n 0),.int .i64 (gv n 1),.int .i64 (gv n 2)]] ?_ ?_ rfl (by decide) (Or.inr ⟨by decide,fun _ _ h=>h⟩) ?_
       ·refine (HAl.out _ (Zdr HE1.out)).mono ?_
        rintro e u ⟨rfl,he⟩
        exact ⟨_,rfl,rfl,Zaj (Zdr (Below.refl _ _)) he⟩
       ·refine ⟨fun vc => ?_,fun vc => ?_,fun vc => ?_,fun vc => ?_,fun vc => ?_,fun vc => ?_,fun vc => ?_,fun vc => ?_,?_,trivial⟩
        all_goals try (simp [pa,Kd.val,go_sem,p0,p1,p2,pf,l1,d0,d1,d2,d3,hgl,hjR]; done)
        all_goals
         intro vc u hR
         simp [pa,Kd.val,go_sem]
       rintro vc w2 ⟨rfl,hE2⟩
       have HE2:Hid (Ext wr w2):=Zaj HE1.out hE2
       have HB2:Hid (w2.heap[w1.heap.size]?=some (.cells #[.int .i64 (gv n 0),.int .i64 (gv n 1),.int .i64 (gv n 2)] 56 (0,0))):=(hE2.block _ l1).trans HB.out
       clear hE2 d0 d1 d2 d3 hgl p0 p1 p2 pf l1
       simp only [paAll,pa,Kd.val,if_true,Act.put,List.setIfInBounds_toArray,List.set_cons_succ,List.set_cons_zero]
       cases r with
       | false =>
        go_wp2
        go_roundw
        case rel =>
         refine ⟨n+1,by omega,by go_num,?_,Zaj HEn.out HE2.out⟩
         rw [Hm2.out]
         unfold putM
         rw [← Hr.out]
         exact HMn.out.ext HE2.out
        case measure=>simp [intOf]; omega
       | true =>
        obtain ⟨d0,d1,d2,d3,hgl⟩:=hRc.out w2 (Zaj HEn.out HE2.out)
        obtain ⟨p0,p1,p2,pf⟩:=box3 HB2.out
        have l1:=Zab HB2.out
        go_wp2_with fail
        refine Zds (by kernel_rfl) [.pur (.agg #[.int .i64 (gv n 0),.int .i64 (gv n 1),.int .i64 (gv n 2)]),.pur (.slice (some ⟨g,0,none⟩) R.length c),.pur (.int .i64 j),.pur (.pointer (some ⟨g,j * 4,none⟩)),.pur (.pointer (some ⟨g,j * 4,none⟩)),.pur (.pointer (some ⟨g,j * 4+1,none⟩)),.pur (.int .i64 A),.cal,.post (fun v=>v)] 7 9 (by kernel_rfl)
         (fun v u=>v = .int .i64 px∧Ext w2 u) (fun v u=>v = .int .i64 px∧Ext w2 u) 44 #[.agg #[.int .i64 (gv n 0),.int .i64 (gv n 1),.int .i64 (gv n 2)],.int .i64 A] ?_ ?_ rfl (by decide) (Or.inr ⟨by decide,fun _ _ h=>h⟩) ?_
        ·refine (HO1.out _).mono ?_
         rintro e u ⟨rfl,he⟩
         exact ⟨_,rfl,rfl,Zaj (Zdr (Below.refl _ _)) he⟩
        ·refine ⟨fun vc => ?_,fun vc => ?_,fun vc => ?_,fun vc => ?_,fun vc => ?_,fun vc => ?_,fun vc => ?_,fun vc => ?_,?_,trivial⟩
         all_goals try (simp [pa,Kd.val,go_sem,p0,p1,p2,pf,l1,d0,d1,d2,d3,hgl,hjR]; done)
         all_goals
          intro vc u hR
          simp [pa,Kd.val,go_sem]
        rintro vc w3 ⟨rfl,hE3⟩
        have HE3:Hid (Ext wr w3):=Zaj HE2.out hE3
        have HB3:Hid (w3.heap[w1.heap.size]?=some (.cells #[.int .i64 (gv n 0),.int .i64 (gv n 1),.int .i64 (gv n 2)] 56 (0,0))):=(hE3.block _ l1).trans HB2.out
        clear hE3 d0 d1 d2 d3 hgl p0 p1 p2 pf l1
        simp only [paAll,pa,Kd.val,if_true,Act.put,List.setIfInBounds_toArray,List.set_cons_succ,List.set_cons_zero]
        obtain ⟨d0,d1,d2,d3,hgl⟩:=hRc.out w3 (Zaj HEn.out HE3.out)
        obtain ⟨p0,p1,p2,pf⟩:=box3 HB3.out
        have l1:=Zab HB3.out
        go_wp2_with fail
        refine Zds (by kernel_rfl) [.pur (.agg #[.int .i64 (gv n 0),.int .i64 (gv n 1),.int .i64 (gv n 2)]),.pur (.slice (some ⟨g,0,none⟩) R.length c),.pur (.int .i64 j),.pur (.pointer (some ⟨g,j * 4,none⟩)),.pur (.pointer (some ⟨g,j * 4,none⟩)),.pur (.pointer (some ⟨g,j * 4+2,none⟩)),.pur (.int .i64 B),.cal,.post (fun v=>v)] 7 9 (by kernel_rfl)
         (fun v u=>v = .int .i64 py∧Ext w3 u) (fun v u=>v = .int .i64 py∧Ext w3 u) 44 #[.agg #[.int .i64 (gv n 0),.int .i64 (gv n 1),.int .i64 (gv n 2)],.int .i64 B] ?_ ?_ rfl (by decide) (Or.inr ⟨by decide,fun _ _ h=>h⟩) ?_
        ·refine (HO2.out _).mono ?_
         rintro e u ⟨rfl,he⟩
         exact ⟨_,rfl,rfl,Zaj (Zdr (Below.refl _ _)) he⟩
        ·refine ⟨fun vc => ?_,fun vc => ?_,fun vc => ?_,fun vc => ?_,fun vc => ?_,fun vc => ?_,fun vc => ?_,fun vc => ?_,?_,trivial⟩
         all_goals try (simp [pa,Kd.val,go_sem,p0,p1,p2,pf,l1,d0,d1,d2,d3,hgl,hjR]; done)
         all_goals
          intro vc u hR
          simp [pa,Kd.val,go_sem]
        rintro vc w4 ⟨rfl,hE4⟩
        have HE4:Hid (Ext wr w4):=Zaj HE3.out hE4
        have HB4:Hid (w4.heap[w1.heap.size]?=some (.cells #[.int .i64 (gv n 0),.int .i64 (gv n 1),.int .i64 (gv n 2)] 56 (0,0))):=(hE4.block _ l1).trans HB3.out
        clear hE4 d0 d1 d2 d3 hgl p0 p1 p2 pf l1
        simp only [paAll,pa,Kd.val,if_true,Act.put,List.setIfInBounds_toArray,List.set_cons_succ,List.set_cons_zero]
        obtain ⟨d0,d1,d2,d3,hgl⟩:=hRc.out w4 (Zaj HEn.out HE4.out)
        have hM4:=HMn.out.ext HE4.out
        have c0:=hM4.cell (i:=P * 9+px * 3+py) (by omega)
        have cf:=Zae hM4.box (P * 9+px * 3+py)
        have cl:=Zab hM4.box
        have HM4:=Zac hM4
        clear hM4
        go_wp2_with fail
        refine Zeu (by kernel_rfl) [.rd 0 0 (fun _ => .pointer (some ⟨b0,0,none⟩)),.rd 0 0 (fun _ => .slice (some ⟨g,0,none⟩) R.length c),.rd 0 0 (fun _ => .int .i64 j),.rd 0 0 (fun _ => .pointer (some ⟨g,j * 4,none⟩)),.rd 0 0 (fun _ => .pointer (some ⟨g,j * 4,none⟩)),.rd 0 0 (fun _ => .pointer (some ⟨g,j * 4,none⟩)),.rd 0 0 (fun _ => .int .i64 P),.rd 0 0 (fun _ => .int .i64 px),.rd 0 0 (fun _ => .int .i64 py),.rd 0 0 (fun _ => .pointer (some ⟨b0,0,none⟩)),.rd 0 0 (fun _ => .pointer (some ⟨b0,0,none⟩)),.rd 0 0 (fun _ => .pointer (some ⟨b0,P * 9,none⟩)),.rd 0 0 (fun _ => .pointer (some ⟨b0,P * 9+px * 3,none⟩)),.rd 0 0 (fun _ => .pointer (some ⟨b0,P * 9+px * 3+py,none⟩)),.st 0] 1 15 (by kernel_rfl) (StoP w4.drew (w4.drew.setCell ⟨b0,P * 9+px * 3+py,none⟩ (.bool true))) rfl ?_ ?_
        ·refine ⟨⟨trivial,fun vs y hlo hl hS => ?_⟩,⟨trivial,fun vs y hlo hl hS => ?_⟩,⟨trivial,fun vs y hlo hl hS => ?_⟩,⟨trivial,fun vs y hlo hl hS => ?_⟩,⟨trivial,fun vs y hlo hl hS => ?_⟩,⟨trivial,fun vs y hlo hl hS => ?_⟩,⟨trivial,fun vs y hlo hl hS => ?_⟩,⟨trivial,fun vs y hlo hl hS => ?_⟩,⟨trivial,fun vs y hlo hl hS => ?_⟩,⟨trivial,fun vs y hlo hl hS => ?_⟩,⟨trivial,fun vs y hlo hl hS => ?_⟩,⟨trivial,fun vs y hlo hl hS => ?_⟩,⟨trivial,fun vs y hlo hl hS => ?_⟩,⟨trivial,fun vs y hlo hl hS => ?_⟩,⟨trivial,fun vs y hl hS => ?_⟩,trivial⟩
         all_goals try (obtain rfl:=List.length_eq_zero_iff.1 (Nat.le_zero.1 hl); obtain rfl:y=w4.drew:=hS)
         all_goals try (simp [phAll,phA,pa,Ph.kd,Ph.val,Kd.val,go_sem,d0,hgl,hjR,cl,o1,hpx,hpy]; done)
         all_goals try (simp [phAll,phA,pa,Ph.kd,Ph.val,Kd.val,go_sem,cl]; intro hbad; exfalso; omega)
         obtain rfl:=List.length_eq_zero_iff.1 hl
         obtain rfl:y=w4.drew:=hS
         exact .skip _ (by simp [phAll,phA,pa,Ph.kd,Ph.val,Kd.val,go_sem,c0,cf,cl]) rfl
        rintro vs y hl hS
        obtain ⟨v,rfl⟩:=List.length_eq_one_iff.1 hl
        obtain rfl:y=w4.drew.setCell ⟨b0,P * 9+px * 3+py,none⟩ (.bool true):=hS
        simp only [phAll,phA,paAll,pa,Ph.kd,Ph.val,Kd.val,List.map_cons,List.map_nil,if_true,Act.put,List.setIfInBounds_toArray,List.set_cons_succ,List.set_cons_zero,List.take_succ_cons,List.take_zero,List.getD_cons_zero]
        obtain ⟨w5,hw5⟩:∃ w5,w5=w4.drew.setCell ⟨b0,P * 9+px * 3+py,none⟩ (.bool true):=⟨_,rfl⟩
        have Hend:Hid (ModelIn w5 b0 ((List.range (n+1)).foldl (putM ((P,A,B),xb)) m1)∧Ext w w5):=by
         rw [hw5]
         refine ⟨?_,Yhe (Zdr (Zaj HEn.out HE4.out)) (by rw [Hb0.out]; exact Qe _) _ _⟩
         rw [Hm2.out]
         unfold putM
         rw [← Hr.out,if_pos rfl,Hix.out]
         exact (HM4.out.ext (Zdr (Below.refl _ _))).put _
        rw [← hw5]
        clear hw5 c0 cf cl d0 d1 d2 d3 hgl
        go_wp2
        go_roundw
        case rel=>exact ⟨n+1,by omega,by go_num,Hend.out.1,Hend.out.2⟩
        case measure=>simp [intOf]; omega
      ·obtain rfl:n=27:=by omega
       have HMn:Hid (ModelIn wr b0 ((R.take (j+1)).foldl Zjw (itM R k))):=by rw [Hm1.out]; exact hMn
       have HEn:=Zac hEn
       clear hMn hEn
       go_wp2
       go_roundw
       case rel=>exact ⟨j+1,by omega,by go_num,HMn.out,HEn.out⟩
       case measure=>simp [intOf]; omega
    ·obtain rfl:j=R.length:=by omega
     have HMn:Hid (ModelIn wr b0 (itM R (k+1))):=by
      have:=HMj.out
      rw [List.take_length] at this
      exact this
     go_wp2
     go_roundw
     case rel=>exact ⟨k+1,by omega,by go_num,HMn.out,HEj.out⟩
     case measure=>simp [intOf]; omega
  ·obtain rfl:k=28:=by omega
   go_wp2
   go_ret
   exact ⟨rfl,HMk.out,HEk.out⟩
def fresh (st:List Nat):Nat:=(st.filter (fun n=>n == 0)).length
def on (st:List Nat):Nat→Prop:=fun i=>st[i]?=some 1
theorem Known.congr {G:Gr} {ρ:Nat→Nat} {D D':Nat→Prop} {T T':Nat→List Sym} (h:Known G ρ D T) (hd:∀ i,D' i↔D i) (ht:∀ i,D i→T' i=T i):Known G ρ D' T':=by
 refine ⟨fun r hr=>h.lt r ((hd r).1 hr),fun r hr => ?_,fun r hr k hk=>(hd _).2 (h.kid r ((hd r).1 hr) k hk)⟩
 have hr':=(hd r).1 hr
 rw [ht r hr',h.tm r hr']
 congr 2
 exact List.map_congr_left (fun k hk=>(ht _ (h.kid r hr' k hk)).symm)
theorem Zep {w w':World} {M:Nat} {cs:Array Value} {t:TypeId} {fr:Nat × Nat} {B:Nat} {e:TypeId} {size n:Nat} {v:Value} {xs:List Value} (h:w.ownsRow B e size v n xs) (hM:w.heap[M]?=some (.cells cs t fr)) (ht:e≠t) (hk:Kept (fun k=>k=M) w w'):w'.ownsRow B e size v n xs :=
 hk.owns h (fun k hk' e'=>by subst e'; exact Zaf h ht hM hk')
end Go.Proofs.YtlmjilpjmgjjcaaGreatDoor
namespace Go.Proofs.YtlmjilpjmgjjcaaGreatDoor
theorem Znq {τ:Nat→List Sym} (hτ:Ts τ) {φ:Sym→Sym}:∀ {l:List Sym},ap τ l=l.map φ→∀ s ∈ l,s.name≠[]→φ s=s:=by
 intro l
 induction l with
 | nil=>intro _ s hs; simp at hs
 | cons t l ih =>
  intro e s hs hn
  rw [Zay,List.map_cons] at e
  have l1:1≤(ap1 τ t).length:=by
   unfold ap1; split
   ·exact Zdy (hτ _)
   ·simp
  have l2:=Zfr hτ l
  have l3:=congrArg List.length e
  simp only [Qg,Qf,Ql] at l3
  have hh:=List.append_inj (s₁:=ap1 τ t) (s₂:=[φ t]) (t₁:=ap τ l) (t₂:=l.map φ) (by simpa using e) (by simp; omega)
  rcases Qp.1 hs with rfl | hs
  ·have:=hh.1
   unfold ap1 at this
   rw [if_neg hn] at this
   simpa using this.symm
  ·exact ih hh.2 s hs hn
def offN (N:List (List UInt8)) (s:Sym):Sym:=if s.name=[]∨s.name ∈ N then s else ⟨s.name++[0],s.num,s.args⟩
theorem Yjb {N:List (List UInt8)}:∀ {l:List Sym} {k:Nat},Wf k l→Wf k (l.map (offN N)):=by
 intro l
 induction l with
 | nil=>intro k h; exact h
 | cons s l ih =>
  intro k h
  obtain ⟨h1,h2,h3,h4⟩:=h
  have e1:(offN N s).args=s.args:=by unfold offN; split <;> rfl
  have e2:(offN N s).name=[]↔s.name=[]:=by
   unfold offN; split
   ·exact Iff.rfl
   ·rename_i h; simp at h ⊢; exact h.1
  have e3:(offN N s).num=s.num:=by unfold offN; split <;> rfl
  refine ⟨h1,fun h=>by rw [e1]; exact h2 (e2.1 h),fun h=>by rw [e3]; exact h3 (fun h'=>h (e2.2 h')),?_⟩
  rw [e1]; exact ih h4
theorem Mgu.nm {σ:Nat→List Sym} {a b:List Sym} (h:Mgu σ a b) (n:Nat):∀ s ∈ σ n,s.name≠[]→∃ t ∈ a++b,t.name=s.name:=by
 intro s hs hn
 refine Classical.byContradiction (fun hno => ?_)
 have hno:∀ t ∈ a++b,t.name≠s.name:=fun t ht e=>hno ⟨t,ht,e⟩
 obtain ⟨N,hN⟩:∃ N,N=(a++b).map (·.name):=⟨_,rfl⟩
 have hθ:Ts (fun n=>(σ n).map (offN N)):=fun n=>Yjb (h.ts n)
 have key:∀ l:List Sym,(∀ t ∈ l,t.name ∈ N)→ap (fun n=>(σ n).map (offN N)) l=(ap σ l).map (offN N):=by
  intro l
  induction l with
  | nil=>intro _; rfl
  | cons t l ih =>
   intro ht
   rw [Zay,Zay,Qr,ih (fun u hu=>ht u (by simp [hu]))]
   congr 1
   unfold ap1
   split
   ·rfl
   ·have:offN N t=t:=by unfold offN; rw [if_pos (Or.inr (ht t (by simp)))]
    simp [this]
 have ha:=key a (fun t ht=>by rw [hN]; exact List.mem_map.2 ⟨t,by simp [ht],rfl⟩)
 have hb:=key b (fun t ht=>by rw [hN]; exact List.mem_map.2 ⟨t,by simp [ht],rfl⟩)
 have hw:=h.wide _ hθ (by rw [ha,hb,h.unif]) n
 have hf:=Znq hθ hw s hs hn
 have hnN:¬ (s.name=[]∨s.name ∈ N):=by
  rintro (h | h)
  ·exact hn h
  ·rw [hN] at h
   obtain ⟨t,ht,e⟩:=List.mem_map.1 h
   exact hno t ht e
 unfold offN at hf
 rw [if_neg hnN] at hf
 have:=congrArg (fun s=>s.name.length) hf
 simp at this
def Shorts (l:List Sym):Prop:=∀ s ∈ l,s.name.length≤800
def NNm (n:ND):Prop:=∀ t ∈ n.terms,Shorts t
def CNm (c:Cls):Prop:=Shorts c.head∧∀ t ∈ c.body,Shorts t
theorem Zrh (n:Nat):Shorts (vr n):=fun s hs=>by simp [vr] at hs; subst hs; simp
theorem Shorts.ap {σ:Nat→List Sym} {l:List Sym} (h:Shorts l) (hσ:∀ n,Shorts (σ n)):Shorts (ap σ l):=by
 intro s hs
 simp only [YtlmjilpjmgjjcaaGreatDoor.ap,List.mem_flatMap] at hs
 obtain ⟨t,ht,hs⟩:=hs
 unfold ap1 at hs
 split at hs
 ·exact hσ _ s hs
 ·simp at hs; subst hs; exact h s ht
theorem Zkq (v n:Nat):Shorts (Zcb v n):=Zrh _
theorem Mgu.shorts {σ:Nat→List Sym} {a b:List Sym} (h:Mgu σ a b) (ha:Shorts a) (hb:Shorts b) (n:Nat):Shorts (σ n):=by
 intro s hs
 by_cases hn:s.name=[]
 ·rw [hn]; simp
 ·obtain ⟨t,ht,e⟩:=h.nm n s hs hn
  rw [← e]
  rcases Qk.1 ht with ht | ht
  ·exact ha t ht
  ·exact hb t ht
theorem Yjc {n:ND} {c:Cls} {k q:Nat} {ch:ND} (h:Out n c k q ch) (hq:q=1∨q=2) (hn:NNm n) (hc:CNm c):NNm ch:=by
 obtain ⟨g,gs,hg,h⟩:=h
 rcases h with ⟨rfl,_⟩ | ⟨rfl,_⟩ | ⟨σ,h1,_,_,rfl⟩
 ·omega
 ·omega
 ·have hgt:Shorts g.1:=hn g.1 (by simp [ND.terms,hg])
  have hhd:Shorts (ap (Zcb n.vars) c.head):=hc.1.ap (Zkq _)
  have hσ:=h1.shorts hgt hhd
  intro t ht
  rw [Zfg] at ht
  simp only [Qk,List.mem_map] at ht
  rcases ht with ⟨u,hu,rfl⟩ | ⟨u,hu,rfl⟩ | ⟨u,hu,rfl⟩
  ·rcases hu with ⟨b,hb,rfl⟩ | ⟨x,hx,rfl⟩
   ·exact ((hc.2 b hb).ap (Zkq _)).ap hσ
   ·exact (hn x.1 (by simp only [ND.terms,hg,List.map_cons,List.cons_append,Qp,Qk,List.mem_map]; exact Or.inr (Or.inl ⟨x,hx,rfl⟩))).ap hσ
  ·exact (hn u (by simp [ND.terms,hu])).ap hσ
  ·rcases hu with ⟨x,hx,rfl⟩ | hu
   ·exact (hn x.1 (by simp only [ND.terms,Qk,List.mem_map]; exact Or.inr (Or.inr ⟨x,hx,rfl⟩))).ap hσ
   ·simp at hu; subst hu; exact hgt.ap hσ
structure SB (st:RS):Prop where
 next:st.next≤5
 atom:st.atom.length≤30
 empty:st.next≠2→st.next≠3→st.next≠4→st.atom=[]
 head:st.head.length≤30
 body:∀ l ∈ st.body,l.length≤30
 bodyn:st.body.length≤6
 inb:st.next=2∨st.next=3∨st.next=4→st.body.length≤5
 cls:∀ c ∈ st.clauses,c.head.length≤30∧(∀ l ∈ c.body,l.length≤30)∧c.body.length≤6
 clsn:st.clauses.length≤24
 clsb:st.next≠0→st.next≠5→st.clauses.length≤23
 fresh:st.next=0→st.body=[]
 an:∀ s ∈ st.atom,s.name.length≤8
 hn:∀ s ∈ st.head,s.name.length≤8
 bn:∀ l ∈ st.body,∀ s ∈ l,s.name.length≤8
 vn:∀ x ∈ st.vars,x.length≤8
 cn:∀ c ∈ st.clauses,(∀ s ∈ c.head,s.name.length≤8)∧(∀ l ∈ c.body,∀ s ∈ l,s.name.length≤8)∧∀ x ∈ c.names,x.length≤8
theorem SB.endAtom {st:RS} (h:SB st) (h5:st.body.length≤5):(Zap st).atom=[]∧(Zap st).head.length≤30∧(∀ l ∈ (Zap st).body,l.length≤30)∧(Zap st).body.length≤6∧(Zap st).clauses=st.clauses∧(∀ s ∈ (Zap st).head,s.name.length≤8)∧(∀ l ∈ (Zap st).body,∀ s ∈ l,s.name.length≤8)∧(Zap st).vars=st.vars:=by
 unfold Zap
 split
 ·refine ⟨rfl,h.head,?_,by simp; omega,rfl,h.hn,?_,rfl⟩
  ·intro l hl
   simp at hl
   rcases hl with hl | rfl
   ·exact h.body l hl
   ·exact h.atom
  ·intro l hl
   simp at hl
   rcases hl with hl | rfl
   ·exact h.bn l hl
   ·exact h.an
 ·exact ⟨rfl,h.atom,h.body,by simpa using h.bodyn,rfl,h.an,h.bn,rfl⟩
theorem Znr (st:RS) (h:∀ s ∈ st.atom,s.name.length≤8):∀ s ∈ Zcf st,s.name.length≤8:=by
 unfold Zcf
 split
 ·exact h
 ·intro s hs
  rw [List.mem_iff_getElem?] at hs
  obtain ⟨i,hi⟩:=hs
  rw [List.getElem?_modify] at hi
  simp only [Option.map_eq_map,Option.map_eq_some_iff] at hi
  obtain ⟨t,ht,e⟩:=hi
  have:=h t (Qh ht)
  split at e
  ·rw [← e]; exact this
  ·rw [← e]; exact this
theorem SB.take {st:RS} {kd len:Nat} {t:List UInt8} (h:SB st) (hc:Zbs st kd len=0) (hlen:len=t.length):SB (Zbi st kd t):=by
 have hs:=Zik hc
 obtain ⟨k1,k7,_,_⟩:=Zil hs h.next
 have hfull:kd=1∨kd=2→Zes st=false:=by
  intro hk
  unfold Zbs at hc
  rw [if_neg (by simp [hs])] at hc
  split at hc
  ·omega
  ·rename_i h'
   cases hf:Zes st with
   | false=>rfl
   | true=>exact absurd ⟨hk,Or.inr hf⟩ h'
 have h8:kd=1∨kd=2→t.length≤8:=by
  intro hk
  unfold Zbs at hc
  rw [if_neg (by simp [hs])] at hc
  split at hc
  ·omega
  ·rename_i h'
   rcases Nat.lt_or_ge 8 len with h9 | h9
   ·exact absurd ⟨hk,Or.inl h9⟩ h'
   ·omega
 have hnext:kd=1∨kd=2→st.next=0∨st.next=1∨st.next=2:=by
  intro hk
  unfold Zbg at hs
  split at hs
  ·omega
  ·split at hs
   ·omega
   ·split at hs
    ·rcases hk with rfl | rfl
     ·simp [Zbr] at hs
     ·simp [Zbr] at hs
    ·split at hs
     ·rcases hk with rfl | rfl
      ·simp [Zbr] at hs
      ·simp [Zbr] at hs
     ·simp at hs
 have hother:¬ (kd=1∨kd=2)→st.next=3∨st.next=4:=by
  intro hk
  unfold Zbg at hs
  split at hs
  ·simp at hs; omega
  ·split at hs
   ·simp at hs; omega
   ·split at hs
    ·omega
    ·split at hs
     ·omega
     ·simp at hs
 have add:(kd=1∨kd=2)→st.atom.length+1≤30∧st.body.length≤5∧st.clauses.length≤23:=by
  intro hk
  have hf:=hfull hk
  unfold Zes at hf
  rcases hnext hk with h0 | h0 | h0
  ·rw [if_pos h0] at hf
   simp at hf
   have:=h.empty (by omega) (by omega) (by omega)
   have hb:=h.fresh h0
   exact ⟨by simp [this],by simp [hb],by omega⟩
  ·rw [if_neg (by omega),if_pos h0] at hf
   simp at hf
   have:=h.empty (by omega) (by omega) (by omega)
   exact ⟨by simp [this],by omega,h.clsb (by omega) (by omega)⟩
  ·rw [if_neg (by omega),if_neg (by omega),if_pos h0] at hf
   simp at hf
   exact ⟨by omega,h.inb (Or.inl h0),h.clsb (by omega) (by omega)⟩
 have h34:¬ (kd=1∨kd=2)→st.body.length≤5∧st.clauses.length≤23:=fun hk=>by
  have:=hother hk
  exact ⟨h.inb (by omega),h.clsb (by omega) (by omega)⟩
 unfold Zbi
 split
 ·rename_i hk
  obtain ⟨a1,a2,a3⟩:=add (Or.inl hk)
  exact ⟨by simp,by simp [addS,Zkz]; omega,fun _ h3=>absurd rfl h3,h.head,h.body,h.bodyn,fun _=>a2,h.cls,h.clsn,fun _ _=>a3,fun e=>by simp at e,fun s hs=>by
   simp only [addS,Qk,List.mem_singleton] at hs
   rcases hs with hs | rfl
   ·exact Znr st h.an s hs
   ·exact h8 (Or.inl hk),h.hn,h.bn,h.vn,h.cn⟩
 ·split
  ·rename_i hk
   obtain ⟨a1,a2,a3⟩:=add (Or.inr hk)
   have hb:(Zcf (varS st t)).length=st.atom.length:=Zkz _
   exact ⟨by simp,by simp [addS,hb]; omega,fun _ _ h4=>absurd rfl h4,h.head,h.body,h.bodyn,fun _=>a2,h.cls,h.clsn,fun _ _=>a3,fun e=>by simp at e,fun s hs=>by
    simp only [addS,Qk,List.mem_singleton] at hs
    rcases hs with hs | rfl
    ·exact Znr (varS st t) h.an s hs
    ·simp,h.hn,h.bn,fun x hx=>by
    simp only [addS,varS,Zbb] at hx
    split at hx
    ·exact h.vn x hx
    ·rcases Qk.1 hx with hx | hx
     ·exact h.vn x hx
     ·simp at hx; subst hx; exact h8 (Or.inr hk),h.cn⟩
  ·rename_i n1 n2
   obtain ⟨b1,b2⟩:=h34 (by omega)
   obtain ⟨e1,e2,e3,e4,e5,e6,e7,e8⟩:=h.endAtom b1
   split
   ·exact ⟨by simp,h.atom,fun h2=>absurd rfl h2,h.head,h.body,h.bodyn,fun _=>b1,h.cls,h.clsn,fun _ _=>b2,fun e=>by simp at e,h.an,h.hn,h.bn,h.vn,h.cn⟩
   ·split
    ·exact ⟨by simp,h.atom,fun _ _ h4=>absurd rfl h4,h.head,h.body,h.bodyn,fun _=>b1,h.cls,h.clsn,fun _ _=>b2,fun e=>by simp at e,h.an,h.hn,h.bn,h.vn,h.cn⟩
    ·split
     ·unfold Zfs
      split
      ·exact ⟨by simp,by simp [e1],fun _ _ _=>e1,e2,e3,e4,fun h=>by simp at h,by rw [e5]; exact h.cls,by rw [e5]; exact h.clsn,fun _ _=>by rw [e5]; exact b2,fun e=>by simp at e,by simp [e1],e6,e7,by rw [e8]; exact h.vn,by rw [e5]; exact h.cn⟩
      ·exact ⟨by simp,h.atom,fun h2=>absurd rfl h2,h.head,h.body,h.bodyn,fun _=>b1,h.cls,h.clsn,fun _ _=>b2,fun e=>by simp at e,h.an,h.hn,h.bn,h.vn,h.cn⟩
     ·split
      ·exact ⟨by simp,by simp [e1],fun _ _ _=>e1,e2,e3,e4,fun h=>by simp at h,by rw [e5]; exact h.cls,by rw [e5]; exact h.clsn,fun _ _=>by rw [e5]; exact b2,fun e=>by simp at e,by simp [e1],e6,e7,by rw [e8]; exact h.vn,by rw [e5]; exact h.cn⟩
      ·split
       ·have hn:(Zao (Zap st)).next=0∨(Zao (Zap st)).next=5:=by unfold Zao; simp only; split <;> simp
        refine ⟨by omega,by simp [Zao,e1],fun _ _ _=>by simp [Zao,e1],by simp [Zao],by simp [Zao],by simp [Zao],fun _=>by simp [Zao],?_,?_,fun h0 h5=>by omega,fun _=>by simp [Zao],by simp [Zao,e1],by simp [Zao],by simp [Zao],by simp [Zao],?_⟩
        ·intro c hc'
         simp only [Zao,e5,Qk,List.mem_singleton] at hc'
         rcases hc' with hc' | rfl
         ·exact h.cls c hc'
         ·exact ⟨e2,e3,e4⟩
        ·simp [Zao,e5]; omega
        ·intro c hc'
         simp only [Zao,e5,Qk,List.mem_singleton] at hc'
         rcases hc' with hc' | rfl
         ·exact h.cn c hc'
         ·exact ⟨e6,e7,by rw [e8]; exact h.vn⟩
       ·exact h
theorem SB.run {e:Nat}:∀ {ts:List Tok} {st:RS},SB st→(runT e ts st).1=0→SB (runT e ts st).2.2:=by
 intro ts
 induction ts with
 | nil=>intro st h _; unfold runT; split <;> exact h
 | cons t ts ih =>
  intro st h h0
  unfold runT at h0 ⊢
  split at h0
  ·rename_i hc; exact absurd h0 hc
  ·rename_i hc
   rw [if_neg hc]
   exact ih (h.take (len:=t.text.length) (by omega) rfl) h0
theorem SB.start (q:Bool):SB ⟨q,if q then 1 else 0,q,[],[],[],[],[],[]⟩:=by
 cases q <;> exact ⟨by simp,by simp,fun _ _ _=>rfl,by simp,by simp,by simp,fun _=>by simp,by simp,by simp,fun _ _=>by simp,fun _=>rfl,by simp,by simp,by simp,by simp,by simp⟩
theorem Zdn (s:ByteArray):Worded (Zaz s):=Zqg s
theorem Zdh (s:ByteArray) (q:Bool):(runs s q).1=(Zge (Zaz s) (Zcp q)).1∧((runs s q).1≠0→(runs s q).2.1=(Zge (Zaz s) (Zcp q)).2)∧((runs s q).1=0→(runs s q).2.2=takes (toks s.data.toList 0) (st0 q)) :=
 Zzz s.size _ _ _ (sim0 q) (Zjv _ _)
theorem Yei {ts:List Tok} {L:LookS} (hok:okk ts L) (hf:fin ts) (hw:L.want=5):∃ t r,ts=t::r∧t.kind=4:=by
 cases ts with
 | nil=>exact hf.elim
 | cons t r =>
  refine ⟨t,r,rfl,?_⟩
  apply Classical.byContradiction
  intro hk
  have h:=(Zeo hok (fun hc=>hk hc.1)).1
  unfold Zca at h
  rw [if_neg (by omega),if_pos hw] at h
  simp at h
theorem Zhz (s:ByteArray) (hs:s.size≤120) (h0:(runs s true).1=0) :
  ∃ q,Zcy 1000 1000 (Zaz s) [] []=some q∧(runs s true).2.2.clauses=[⟨[],q.1,q.2.2⟩]∧Zzx [] q.1=Zih 1000 [] q.1 []∧q.1.length≤4000∧(∀ l ∈ q.1,Ydu l)∧(Zzx [] q.1).length≤100000000:=by
 obtain ⟨r1,_,r3⟩:=Zdh s true
 have hl:=Zeg s
 have hok:okk (Zaz s) (Zcp true):=r1.symm.trans h0
 obtain ⟨q,L',i,ex,h1,h2,h3,h4,_,_,_,_,h9,h10,h11⟩:=Zqp 1000 (Zaz s) (Zcp true) [] (st0 true) (by omega) (by omega) hok (Zov _ _) rfl rfl rfl rfl rfl rfl rfl
 have hend:(Zaz s).take i=toks s.data.toList 0:=Yge (Zjv _ _) (by
  obtain ⟨t,r,e1,e2⟩:=Yei h2 h3 (by rw [h4]; rfl)
  exact ⟨t,r,by rw [← e1,h9]; rfl,e2⟩)
 rw [hend] at h11
 have h1':Zcy 1000 1000 (Zaz s) [] []=some q:=h1
 have hM:=Zlx (M:=120) 1000 (Zaz s) [] [] q (fun t ht=>Qq (Zkj s t ht) hs) (by simp) h1'
 obtain ⟨g1,g2,_⟩:=Zgi 1000 0 1000 (Zaz s) [] [] q (Zdn s) (by simp) rfl h1'
 have hfl:=Zom 1000 q.1 g1
 have hlen:q.1.flatten.length≤121:=by have:=hM.1; simp only [List.flatten_nil,Jt] at this; omega
 obtain ⟨_,b2,_⟩:=Zei _ _ _ g2
 have hw:=Zsv 1000 q.1 g1 0 _ [] g2
 simp only [List.range_zero] at hw
 have hwl:=Zsm 1000 q.1 g1 (fun x hx=>Qq (hM.2.1 x hx) (by omega)) [] [] (by simp) (by simp only [Jt]; omega)
 refine ⟨q,h1',?_,hw,by omega,Ygx 1000 q.1 0 _ g1 g2 (by omega) (by omega),?_⟩
 ·rw [r3 h0,h11,h10]
  rfl
 ·rw [hw]; omega
theorem Yax:∀ (f:Nat) {l:List Sym},IsT f l→Wf 1 l:=by
 intro f
 induction f with
 | zero=>intro l h; exact h.elim
 | succ f ih =>
  intro l h
  rcases h with ⟨n,rfl⟩ | ⟨nm,ls,h1,rfl,h2⟩
  ·exact Zmx n
  ·refine ⟨by omega,fun e=>absurd e h1,fun _=>rfl,?_⟩
   have:=Zjt (fun l hl=>ih (h2 l hl))
   simpa using this
theorem Yej:∀ (l:List Sym) (k k':Nat),scan l k=some k'→∀ i,k≤i→i<k'→Occ i l:=by
 intro l
 induction l with
 | nil=>intro k k' h i h1 h2; simp [scan] at h; omega
 | cons s l ih =>
  intro k k' h i h1 h2
  simp only [scan] at h
  have up:Occ i l→Occ i (s::l):=fun ⟨t,ht,e1,e2⟩=>⟨t,by simp [ht],e1,e2⟩
  split at h
  ·rename_i hn
   split at h
   ·exact up (ih _ _ h i h1 h2)
   ·split at h
    ·rename_i hk
     rcases Nat.lt_or_ge k i with h3 | h3
     ·exact up (ih _ _ h i h3 h2)
     ·exact ⟨s,by simp,hn,by omega⟩
    ·simp at h
  ·exact up (ih _ _ h i h1 h2)
theorem Ztj {f:Nat}:∀ {g:Nat} {ts:List Tok} {names:Names} {acc:List (List Sym)} {q},Zcy f g ts names acc=some q→acc.length<q.1.length:=by
 intro g
 induction g with
 | zero=>intro ts names acc q h; simp [Zcy] at h
 | succ g ih =>
  intro ts names acc q h
  rw [Zcy] at h
  cases hq:Zcs f ts names with
  | none=>rw [hq] at h; simp at h
  | some r =>
   rw [hq] at h
   simp only at h
   cases hr:r.2.1 with
   | nil=>rw [hr] at h; simp at h
   | cons x rest =>
    rw [hr] at h
    simp only at h
    split at h
    ·simp at h; subst h; simp
    ·have:=ih h; simp at this; omega
def Yhf (c:Cls):Prop:=∃ k1,scan c.head 0=some k1∧scan c.body.flatten k1=some c.n
theorem Zri (ts:List Tok) (c:Cls × List Tok) (hw:Worded ts) (h:Zeb ts=some c):Yhf c.1:=by
 rw [Zeb] at h
 cases hp:Zcs 1000 ts [] with
 | none=>rw [hp] at h; simp at h
 | some r =>
  rw [hp] at h
  simp only at h
  obtain ⟨i1,i2⟩:=Zmd 1000 ts [] r hw hp
  obtain ⟨n,_,_,hn,_⟩:=Zfq 1000 ts [] r hp
  have hw1:Worded r.2.1:=by rw [hn]; exact hw.drop n
  cases hr:r.2.1 with
  | nil=>rw [hr] at h; simp at h
  | cons y ys =>
   rw [hr] at h hw1
   simp only at h
   split at h
   ·rw [Option.map_eq_some_iff] at h
    obtain ⟨q,hq,rfl⟩:=h
    obtain ⟨g1,g2,g3⟩:=Zgi 1000 r.2.2.length 1000 ys r.2.2 [] q hw1.tail (by simp) rfl hq
    exact ⟨_,i2,g2⟩
   ·simp at h
    subst h
    exact ⟨_,i2,rfl⟩
theorem Zxj:∀ (g:Nat) (ts:List Tok) (acc cs:List Cls),Worded ts→(∀ c ∈ acc,Yhf c)→Zgr g ts acc=some cs→∀ c ∈ cs,Yhf c:=by
 intro g
 induction g with
 | zero=>intro ts acc cs _ _ h; simp [Zgr] at h
 | succ g ih =>
  intro ts acc cs hw ha h
  cases ts with
  | nil=>simp [Zgr] at h
  | cons t ts =>
   rw [Zgr] at h
   split at h
   ·simp at h; subst h; exact ha
   ·cases hc:Zeb (t::ts) with
    | none=>rw [hc] at h; simp at h
    | some c =>
     rw [hc] at h
     simp only at h
     obtain ⟨_,g2⟩:=Zme _ c hw hc
     have g1:=Zri _ c hw hc
     refine ih c.2 (acc++[c.1]) cs g2 ?_ h
     intro x hx
     simp at hx
     rcases hx with hx | rfl
     ·exact ha x hx
     ·exact g1
theorem Zrj (s:ByteArray) (hs:s.size≤800) (h0:(runs s false).1=0):∃ cs,Zgr 1000 (Zaz s) []=some cs∧(runs s false).2.2.clauses=cs:=by
 obtain ⟨r1,_,r3⟩:=Zdh s false
 have hl:=Zeg s
 have hok:okk (Zaz s) (Zcp false):=r1.symm.trans h0
 obtain ⟨cs,i,ex,h1,h2,h3,h4⟩:=Ydy 1000 (Zaz s) (Zcp false) [] (st0 false) (by omega) (by omega) hok (Zov _ _) rfl rfl rfl rfl ⟨rfl,rfl,rfl,rfl,rfl,rfl,rfl,rfl⟩
 rw [show (Zaz s).take i=toks s.data.toList 0 from Yge (Zjv _ _) h2] at h4
 rw [List.nil_append] at h3
 subst h3
 refine ⟨cs,h1,?_⟩
 rw [r3 h0,h4]
 rfl
theorem Zej {s:ByteArray} {cs:List Cls} (h:Zdb s=some cs):s.size≤800∧(runs s false).1=0∧(runs s false).2.2.clauses=cs∧(∀ c ∈ cs,COk c∧CNm c)∧cs.length≤24:=by
 unfold Zdb at h
 split at h
 ·simp at h
 ·split at h
  ·simp at h
  ·rename_i hs he
   have hs:s.size≤800:=by omega
   obtain ⟨r1,_,_⟩:=Zdh s false
   have h0:(runs s false).1=0:=by rw [r1]; omega
   obtain ⟨cs',e1,e2⟩:=Zrj s hs h0
   rw [e1] at h
   simp at h
   subst h
   have hB:SB (runs s false).2.2:=(SB.start false).run h0
   have hg:=Yae 1000 (Zaz s) [] cs' (Zdn s) (by simp) e1
   have hgn:=Zxj 1000 (Zaz s) [] cs' (Zdn s) (by simp) e1
   refine ⟨hs,h0,e2,fun c hc => ?_,by rw [← e2]; exact hB.clsn⟩
   obtain ⟨g1,g2,_⟩:=hg c hc
   obtain ⟨k1,n1,n2⟩:=hgn c hc
   obtain ⟨b1,b2,b3⟩:=hB.cls c (by rw [e2]; exact hc)
   obtain ⟨c1,c2,c3⟩:=hB.cn c (by rw [e2]; exact hc)
   obtain ⟨x1,x2,x3⟩:=Zei _ _ _ n1
   obtain ⟨y1,y2,y3⟩:=Zei _ _ _ n2
   have hfl:c.body.flatten.length≤180:=by
    have key:∀ ls:List (List Sym),(∀ t ∈ ls,t.length≤30)→ls.flatten.length≤30 * ls.length:=by
     intro ls
     induction ls with
     | nil=>intro _; simp
     | cons t ts ih =>
      intro h
      have h1:=h t (by simp)
      have h2:=ih (fun y hy=>h y (by simp [hy]))
      simp only [List.flatten_cons,Qg,Qf]; omega
    have:=key c.body b2
    omega
   refine ⟨⟨Yax 1000 g1,fun t ht=>Yax 1000 (g2 t ht),?_,?_,by omega,b1,b2,b3⟩,fun x hx=>Qq (c1 x hx) (by omega),fun t ht x hx=>Qq (c2 t ht x hx) (by omega)⟩
   ·rintro v ⟨x,hx,e1,e2⟩
    have:=x3 x hx e1
    omega
   ·rintro t ht v ⟨x,hx,e1,e2⟩
    have:=y3 x (List.mem_flatten.2 ⟨t,ht,hx⟩) e1
    omega
theorem Zek {s:ByteArray} {a:List (List Sym) × Names} (h:Zex s=some a):s.size≤120∧(runs s true).1=0∧(runs s true).2.2.clauses=[⟨[],a.1,a.2⟩]∧NOk (topN a)∧NNm (topN a)∧a.1.length≤6∧a.1≠[]∧a.2.length≤121∧(∀ x ∈ a.2,x.length≤8):=by
 unfold Zex at h
 split at h
 ·simp at h
 ·split at h
  ·simp at h
  ·rename_i hs he
   have hs:s.size≤120:=by omega
   obtain ⟨r1,_,_⟩:=Zdh s true
   have h0:(runs s true).1=0:=by rw [r1]; omega
   obtain ⟨q,e1,e2,_⟩:=Zhz s hs h0
   rw [e1] at h
   simp at h
   subst h
   have hB:SB (runs s true).2.2:=(SB.start true).run h0
   obtain ⟨g1,g2,_⟩:=Zgi 1000 0 1000 (Zaz s) [] [] q (Zdn s) (by simp) rfl e1
   obtain ⟨b1,b2,b3⟩:=hB.cls ⟨[],q.1,q.2.2⟩ (by rw [e2]; simp)
   obtain ⟨c1,c2,c3⟩:=hB.cn ⟨[],q.1,q.2.2⟩ (by rw [e2]; simp)
   obtain ⟨x1,x2,x3⟩:=Zei _ _ _ g2
   have hl:=Zeg s
   have hM:=Zlx (M:=120) 1000 (Zaz s) [] [] q (fun t ht=>Qq (Zkj s t ht) hs) (by simp) e1
   have hM1:=hM.1
   simp only [List.flatten_nil,Jt] at hM1
   simp only at b2 b3 c2 c3
   have hwf:∀ t ∈ q.1,Wf 1 t:=fun t ht=>Yax 1000 (g1 t ht)
   have hne:q.1≠[]:=by
    intro e
    have:=Ztj e1
    rw [e] at this
    simp at this
   refine ⟨hs,h0,e2,⟨?_,?_,?_,by simp [topN],?_,by simp [topN]; omega,by simp [topN],by simp [topN],by simp [topN]; omega,by simp [topN]; omega⟩,?_,b3,hne,by simp only; omega,c3⟩
   ·intro t ht
    simp only [ND.terms,topN,List.map_map,List.map_nil,Qs,Qk,List.mem_map,Function.comp] at ht
    rcases ht with ⟨u,hu,rfl⟩ | ⟨i,_,rfl⟩
    ·exact hwf u hu
    ·exact Zmx i
   ·intro t ht v hv
    simp only [ND.terms,topN,List.map_map,List.map_nil,Qs,Qk,List.mem_map,Function.comp,List.mem_range] at ht
    show v<q.2.2.length
    rcases ht with ⟨u,hu,rfl⟩ | ⟨i,hi,rfl⟩
    ·obtain ⟨x,hx,e3,e4⟩:=hv
     have:=x3 x (List.mem_flatten.2 ⟨_,hu,hx⟩) e3
     omega
    ·have:=Zlq.1 hv; omega
   ·intro g hg
    simp only [topN,List.mem_map] at hg
    obtain ⟨t,ht,rfl⟩:=hg
    exact ⟨b2 t ht,by simp [topN]⟩
   ·intro t ht
    simp only [topN,List.mem_map,List.mem_range] at ht
    obtain ⟨i,hi,rfl⟩:=ht
    obtain ⟨x,hx,e3,e4⟩:=Yej _ _ _ g2 i (Qm _) hi
    obtain ⟨u,hu,hxu⟩:=List.mem_flatten.1 hx
    obtain ⟨p,r,e5⟩:=List.append_of_mem hxu
    have hargs:=Zsx (hwf u hu) x hxu e3
    have ex:x=⟨[],i,0⟩:=by
     cases x
     simp only at e3 e4 hargs
     subst e3 e4 hargs
     rfl
    refine ⟨(u,0),by simp only [topN,Qs,List.mem_map]; exact ⟨u,hu,rfl⟩,p,r,?_⟩
    show u=p++vr i++r
    rw [e5,ex]; simp [vr]
   ·intro t ht
    simp only [ND.terms,topN,List.map_map,List.map_nil,Qs,Qk,List.mem_map,Function.comp] at ht
    rcases ht with ⟨u,hu,rfl⟩ | ⟨i,_,rfl⟩
    ·exact fun x hx=>Qq (c2 u hu x hx) (by omega)
    ·exact Zrh i
end Go.Proofs.YtlmjilpjmgjjcaaGreatDoor
namespace Go.Proofs.YtlmjilpjmgjjcaaGreatDoor
open Go.RowKit
theorem Zrk {l:List Sym} (hl:l.length≤1000) (hw:Wf 1 l) (hn:∀ s ∈ l,s.name.length≤4096) {seen:List Nat} (hs:seen.length+l.length≤4000) :
  (Zby (Zaq l seen).1 []).length≤4100 * l.length∧(Zaq l seen).2.length≤seen.length+l.length:=by
 have hT:=Yix 1000 hl hw
 obtain ⟨h1,h2⟩:=Zsy hT seen
 have:=Zqe 1000 l hT hn seen hs
 rw [h1,h2] at this
 omega
theorem Yay:∀ (names:Names) (ts:List (List Sym)) (sep:List UInt8) (seen:List Nat),(∀ x ∈ names,x.length≤4096)→(∀ t ∈ ts,Wf 1 t∧t.length≤1000∧∀ s ∈ t,s.name.length≤4096)→sep.length≤1→seen.length+ts.flatten.length≤4000 →
  (Zgj sep names (Zau ts seen).1).length≤4098 * names.length+4100 * ts.flatten.length:=by
 intro names
 induction names with
 | nil=>intro ts sep seen _ _ _ _; cases ts <;> simp [Zau,Zgj]
 | cons x xs ih =>
  intro ts sep seen h1 h2 h3 h4
  cases ts with
  | nil=>simp [Zau,Zgj]
  | cons t ts =>
   obtain ⟨t1,t2,t3⟩:=h2 t (by simp)
   simp only [List.flatten_cons,Qg] at h4 ⊢
   obtain ⟨c1,c2⟩:=Zrk t2 t1 t3 (seen:=seen) (by omega)
   have h:=ih ts [44] (Zaq t seen).2 (fun y hy=>h1 y (by simp [hy])) (fun y hy=>h2 y (by simp [hy])) (by simp) (by omega)
   have hx:=h1 x (by simp)
   simp only [Zau,Zgj,Qg,Qf]
   omega
theorem Yaz {n:ND} {c:Cls} {k:Nat} (h:(tryN n c k).2=1∨(tryN n c k).2=2):(tryN n c k).1.vals.length=n.vals.length:=by
 by_cases hex:∃ r:ND × Nat,∃ m,NOk m∧Same m n∧Out m c k r.2 r.1
 ·have e:tryN n c k=Classical.choose hex:=by unfold tryN; rw [dif_pos hex]
  obtain ⟨m,_,hS,g,gs,_,ho⟩:=Classical.choose_spec hex
  rw [e] at h ⊢
  rcases ho with ⟨h0,_⟩ | ⟨h0,_⟩ | ⟨σ,_,_,_,h4⟩
  ·omega
  ·omega
  ·rw [h4]; simp [Zan,hS.vl]
 ·have e:tryN n c k=(⟨[],[],[],[],0⟩,0):=by unfold tryN; rw [dif_neg hex]
  rw [e] at h
  simp at h
theorem Zfl {n:ND} {c:Cls} {k:Nat} (h:(tryN n c k).2=1∨(tryN n c k).2=2):(tryN n c k).1.used=n.used++[k]:=by
 by_cases hex:∃ r:ND × Nat,∃ m,NOk m∧Same m n∧Out m c k r.2 r.1
 ·have e:tryN n c k=Classical.choose hex:=by unfold tryN; rw [dif_pos hex]
  obtain ⟨m,_,hS,g,gs,_,ho⟩:=Classical.choose_spec hex
  rw [e] at h ⊢
  rcases ho with ⟨h0,_⟩ | ⟨h0,_⟩ | ⟨σ,_,_,_,h4⟩
  ·omega
  ·omega
  ·rw [h4]; simp [Zan,hS.used]
 ·have e:tryN n c k=(⟨[],[],[],[],0⟩,0):=by unfold tryN; rw [dif_neg hex]
  rw [e] at h
  simp at h
theorem Zxk:∀ (ks:List Nat) (sep:List UInt8),sep.length≤1→(∀ k ∈ ks,k≤99)→(Zfi sep ks).length≤101 * ks.length:=by
 intro ks
 induction ks with
 | nil=>intro sep _ _; simp [Zfi]
 | cons k ks ih =>
  intro sep hs hk
  have h1:=ih [46] (by simp) (fun j hj=>hk j (by simp [hj]))
  have h2:=hk k (by simp)
  have h3:=Zjp k
  simp only [Zfi,Qg,Qf]
  omega
mutual
inductive TreeR (cs:List Cls):ND→List UInt8→Prop
 | leaf (n:ND) (h:n.goals=[]):TreeR cs n [33]
 | node (n:ND) (t:List UInt8) (h:n.goals≠[]) (hp:Part cs n cs.length t):TreeR cs n ([40]++t++[41])
inductive Part (cs:List Cls):ND→Nat→List UInt8→Prop
 | zero (n:ND):Part cs n 0 []
 | miss (n:ND) (k:Nat) (t:List UInt8) (c:Cls) (h:Part cs n k t) (hc:cs[k]?=some c) (hq:(tryN n c k).2=0):Part cs n (k+1) t
 | kid (n:ND) (k:Nat) (t u:List UInt8) (c:Cls) (h:Part cs n k t) (hc:cs[k]?=some c) (hq:(tryN n c k).2=1∨(tryN n c k).2=2) (hu:TreeR cs (tryN n c k).1 u):Part cs n (k+1) (t++Lib.decDigits k++u)
end
structure SN where
 way:List (ND × Nat)
 tries:Nat
 status:Nat
 found:ND
 tree:List UInt8
def Zdj (cs:List Cls):List (ND × Nat)→List UInt8→List (ND × Nat) × List UInt8
 | (n,k)::r,t=>if cs.length≤k then Zdj cs r (t++[41]) else ((n,k)::r,t)
 | [],t=>([],t)
noncomputable def Zbw (s:SN) (n:ND):SN:=open Classical in if n.goals=[] then { s with tree:=s.tree++[33],status:=1,found:=n } else { s with way:=(n,0)::s.way,tree:=s.tree++[40] }
noncomputable def Zcw (cs:List Cls) (s:SN):SN := { s with way:=(Zdj cs s.way s.tree).1,tree:=(Zdj cs s.way s.tree).2 }
noncomputable def Zar (cs:List Cls) (s:SN):SN:=match s.way with
 | []=>s
 | (n,k)::r=>match cs[k]? with
  | none=>s
  | some c=>Zcw cs (if (tryN n c k).2=3 then { s with way:=(n,k+1)::r,tries:=s.tries+1,status:=3 }
    else if (tryN n c k).2=1∨(tryN n c k).2=2 then Zbw { s with way:=(n,k+1)::r,tries:=s.tries+1,tree:=s.tree++Lib.decDigits k } (tryN n c k).1
    else { s with way:=(n,k+1)::r,tries:=s.tries+1 })
def PH (cs:List Cls) (top:ND):List (ND × Nat)→ND→Nat→List UInt8→Prop
 | [],n,k,T=>n=top∧n.goals≠[]∧k≤cs.length∧∃ t,Part cs n k t∧T=[40]++t
 | x::r,n,k,T=>n.goals≠[]∧k≤cs.length∧∃ t j' c T',x.2=j'+1∧cs[j']?=some c∧((tryN x.1 c j').2=1∨(tryN x.1 c j').2=2)∧n=(tryN x.1 c j').1∧PH cs top r x.1 j' T'∧Part cs n k t∧T=T'++Lib.decDigits j'++([40]++t)
def PW (cs:List Cls) (top:ND):List (ND × Nat)→List UInt8→Prop
 | [],T=>TreeR cs top T
 | (n,k)::r,T=>PH cs top r n k T
theorem PW.part {cs:List Cls} {top n:ND} {k:Nat} {r:List (ND × Nat)} {T:List UInt8} (h:PW cs top ((n,k)::r) T):n.goals≠[]∧k≤cs.length∧∃ t0 t,Part cs n k t∧T=t0++([40]++t)∧∀ k' t',Part cs n k' t'→k'≤cs.length→PW cs top ((n,k')::r) (t0++([40]++t')):=by
 cases r with
 | nil =>
  obtain ⟨h1,h2,h3,t,h4,h5⟩:=h
  exact ⟨h2,h3,[],t,h4,by simpa using h5,fun k' t' hp hk=>⟨h1,h2,hk,t',hp,by simp⟩⟩
 | cons m r =>
  obtain ⟨m,j⟩:=m
  obtain ⟨h1,h2,t,j',c,T',h3,h4,h5,h6,h7,h8,h9⟩:=h
  exact ⟨h1,h2,T'++Lib.decDigits j',t,h8,h9,fun k' t' hp hk=>⟨h1,hk,t',j',c,T',h3,h4,h5,h6,h7,hp,rfl⟩⟩
theorem PW.miss {cs:List Cls} {top n:ND} {k:Nat} {r:List (ND × Nat)} {T:List UInt8} {c:Cls} (h:PW cs top ((n,k)::r) T) (hc:cs[k]?=some c) (hq:(tryN n c k).2=0):PW cs top ((n,k+1)::r) T:=by
 obtain ⟨h1,h2,t0,t,h3,h4,h5⟩:=h.part
 rw [h4]
 exact h5 (k+1) t (.miss n k t c h3 hc hq) (by have:=(Qa.1 hc).1; omega)
theorem PW.kid {cs:List Cls} {top n:ND} {k:Nat} {r:List (ND × Nat)} {T u:List UInt8} {c:Cls} (h:PW cs top ((n,k)::r) T) (hc:cs[k]?=some c) (hq:(tryN n c k).2=1∨(tryN n c k).2=2) (hu:TreeR cs (tryN n c k).1 u):PW cs top ((n,k+1)::r) (T++Lib.decDigits k++u):=by
 obtain ⟨h1,h2,t0,t,h3,h4,h5⟩:=h.part
 rw [h4]
 have:=h5 (k+1) (t++Lib.decDigits k++u) (.kid n k t u c h3 hc hq hu) (by have:=(Qa.1 hc).1; omega)
 simpa using this
theorem PW.down {cs:List Cls} {top n:ND} {k:Nat} {r:List (ND × Nat)} {T:List UInt8} {c:Cls} (h:PW cs top ((n,k)::r) T) (hc:cs[k]?=some c) (hq:(tryN n c k).2=1∨(tryN n c k).2=2) (hg:(tryN n c k).1.goals≠[]):PW cs top (((tryN n c k).1,0)::(n,k+1)::r) (T++Lib.decDigits k++[40]) :=
 ⟨hg,Qm _,[],k,c,T,rfl,hc,hq,rfl,h,.zero _,by simp⟩
theorem PW.up {cs:List Cls} {top n:ND} {k:Nat} {r:List (ND × Nat)} {T:List UInt8} (h:PW cs top ((n,k)::r) T) (hk:cs.length≤k):PW cs top r (T++[41]):=by
 cases r with
 | nil =>
  obtain ⟨h1,h2,h3,t,h4,h5⟩:=h
  have e:k=cs.length:=by omega
  subst e h1 h5
  exact .node n t h2 h4
 | cons m r =>
  obtain ⟨m,j⟩:=m
  obtain ⟨h1,h2,t,j',c,T',h3,h4,h5,h6,h7,h8,h9⟩:=h
  have e:k=cs.length:=by omega
  simp only at h3 h5 h6 h7
  subst e h3 h6 h9
  have h7':PW cs top ((m,j')::r) T':=h7
  have:=h7'.kid h4 h5 (.node _ t h1 h8)
  simpa using this
theorem PW.leave {cs:List Cls} {top:ND}:∀ {way:List (ND × Nat)} {T:List UInt8},PW cs top way T→PW cs top (Zdj cs way T).1 (Zdj cs way T).2:=by
 intro way
 induction way with
 | nil=>intro T h; exact h
 | cons x r ih =>
  obtain ⟨n,k⟩:=x
  intro T h
  unfold Zdj
  split
  ·rename_i hk
   exact ih (h.up hk)
  ·exact h
theorem Zhm (n:ND) (c:Cls) (k:Nat):(tryN n c k).2=0∨(tryN n c k).2=1∨(tryN n c k).2=2∨(tryN n c k).2=3:=by
 by_cases hex:∃ r:ND × Nat,∃ m,NOk m∧Same m n∧Out m c k r.2 r.1
 ·have e:tryN n c k=Classical.choose hex:=by unfold tryN; rw [dif_pos hex]
  obtain ⟨m,_,_,g,gs,_,ho⟩:=Classical.choose_spec hex
  rw [e]
  rcases ho with ⟨h0,_⟩ | ⟨h0,_⟩ | ⟨σ,_,_,h3,_⟩
  ·exact Or.inl h0
  ·exact Or.inr (Or.inr (Or.inr h0))
  ·rw [h3]
   unfold Zdl
   split
   ·simp
   ·split <;> simp
 ·have e:tryN n c k=(⟨[],[],[],[],0⟩,0):=by unfold tryN; rw [dif_neg hex]
  rw [e]; simp
theorem PW.try' {cs:List Cls} {top:ND} {s:SN} (h:PW cs top s.way s.tree) (hf:(Zar cs s).status≠3):PW cs top (Zar cs s).way (Zar cs s).tree:=by
 unfold Zar at hf ⊢
 cases hw:s.way with
 | nil=>rw [hw] at hf h; simpa [hw] using h
 | cons x r =>
  obtain ⟨n,k⟩:=x
  rw [hw] at hf h
  simp only at hf ⊢
  cases hc:cs[k]? with
  | none=>rw [hc] at hf; simp only [hw]; exact h
  | some c =>
   rw [hc] at hf
   simp only at hf ⊢
   by_cases h3:(tryN n c k).2=3
   ·rw [if_pos h3] at hf
    exact absurd rfl hf
   ·rw [if_neg h3]
    by_cases h12:(tryN n c k).2=1∨(tryN n c k).2=2
    ·rw [if_pos h12]
     by_cases hg:(tryN n c k).1.goals=[]
     ·simp only [Zbw,if_pos hg,Zcw]
      have h':PW cs top ((n,k)::r) s.tree:=h
      exact (h'.kid hc h12 (.leaf _ hg)).leave
     ·simp only [Zbw,if_neg hg,Zcw]
      have h':PW cs top ((n,k)::r) s.tree:=h
      exact (h'.down hc h12 hg).leave
    ·rw [if_neg h12]
     simp only [Zcw]
     have h0:(tryN n c k).2=0:=by have:=Zhm n c k; omega
     have h':PW cs top ((n,k)::r) s.tree:=h
     exact (h'.miss hc h0).leave
theorem Yba {w:World} {B:Nat} {e:TypeId} {s g n cap:Nat} {xs:List Value} (h:w.ownsRow B e s (.slice (some ⟨g,0,none⟩) (n+1) cap) (n+1) xs) :
  w.ownsRow B e s (.slice (some ⟨g,0,none⟩) n cap) n (xs.take (n * s)):=by
 have hm:(n+1) * s=n * s+s:=Nat.succ_mul n s
 refine ⟨by have:=h.1; rw [List.length_take]; omega,?_⟩
 rcases h.2 with ⟨h1,_⟩ | ⟨g',cap',cur,h1,hb,hg,hn,hc,hs,ht⟩
 ·simp at h1
 ·simp at h1
  obtain ⟨rfl,rfl⟩:=h1
  refine .inr ⟨g,cap,cur,rfl,hb,hg,by omega,hc,hs,?_⟩
  rw [← ht,List.take_take]
  congr 1
  omega
def Zhn (N:Nat):List (ND × Nat)→List (ND × Nat)
 | []=>[]
 | x::r=>if N≤x.2 then Zhn N r else x::r
theorem Zdv (cs:List Cls):∀ (way:List (ND × Nat)) (t:List UInt8),(Zdj cs way t).1=Zhn cs.length way:=by
 intro way
 induction way with
 | nil=>intro t; rfl
 | cons x r ih =>
  obtain ⟨n,k⟩:=x
  intro t
  simp only [Zdj,Zhn]
  split
  ·exact ih _
  ·rfl
theorem Zns {N:Nat}:∀ {way:List (ND × Nat)} {x:ND × Nat} {r:List (ND × Nat)},Zhn N way=x::r→x.2<N:=by
 intro way
 induction way with
 | nil=>intro x r h; simp [Zhn] at h
 | cons y s ih =>
  intro x r h
  simp only [Zhn] at h
  split at h
  ·exact ih h
  ·rename_i hn
   simp at h
   rw [← h.1]; omega
theorem Znt (N:Nat) (way:List (ND × Nat)):Zhn N (Zhn N way)=Zhn N way:=by
 cases h:Zhn N way with
 | nil=>rfl
 | cons x r =>
  have:=Zns h
  simp only [Zhn]
  rw [if_neg (by omega)]
noncomputable def Zcx (a:List (List Sym) × Names) (st:Nat) (found:ND) (T:List UInt8):List UInt8 × List UInt8 × List UInt8 :=
 if st=1 then (Zdf a.2 found,Zja found,[]) else if st=2 then ([],[],T) else ([],[],[])
noncomputable def Zmj (n:ND) (c:Cls) (k:Nat) (r:List (ND × Nat)):List (ND × Nat):=if (tryN n c k).2=1 then ((tryN n c k).1,0)::(n,k+1)::r else (n,k+1)::r
noncomputable def Zho (n:ND) (c:Cls) (k:Nat):Nat:=if (tryN n c k).2=2 then 1 else if (tryN n c k).2=3 then 3 else 0
end Go.Proofs.YtlmjilpjmgjjcaaGreatDoor
