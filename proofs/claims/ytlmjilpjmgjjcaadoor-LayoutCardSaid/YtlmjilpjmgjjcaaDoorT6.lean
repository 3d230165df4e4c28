/-
  PROVED HERE: what the program's 'layOut' makes of two words that lie in memory (the conditions stand in each statement).
-/
import Derived.Test.YtlmjilpjmgjjcaaDoorT5
set_option linter.unusedSimpArgs false
set_option linter.unusedVariables false
set_option maxRecDepth 10000
set_option maxHeartbeats 4000000
namespace Go.Proofs.YtlmjilpjmgjjcaaDoor
open Go.RowKit
structure RlsAt (u:World) (B0:Nat) (v:Value) (R:List (At3 × List At3)) (xs:List Value):Prop where
 owns:u.ownsRow B0 51 4 v R.length xs
 all:∀ (k:Nat) (x:At3 × List At3),R[k]?=some x→∃ (a:Option Addr) (c:Nat),xs[k * 4]?=some (.int .i64 x.1.1)∧xs[k * 4+1]?=some (.int .i64 x.1.2.1)∧xs[k * 4+2]?=some (.int .i64 x.1.2.2)∧xs[k * 4+3]?=some (.slice a x.2.length c)∧u.ownsRow B0 48 3 (.slice a x.2.length c) x.2.length (x.2.flatMap atC)∧RlOk x
theorem RlsAt.nil (u:World) (B0:Nat):RlsAt u B0 (.slice none 0 0) [] []:=⟨World.ownsRow_nil _ _ _ _,fun k x h=>by simp at h⟩
theorem RlsAt.keep {u u':World} {B0:Nat} {v:Value} {R:List (At3 × List At3)} {xs:List Value} (h:RlsAt u B0 v R xs) (hk:∀ k,B0≤k→k<u.heap.size→u'.heap[k]?=u.heap[k]?):RlsAt u' B0 v R xs :=
 ⟨Zak h.owns (fun k e=>hk k (h.owns.lt k e).1 (h.owns.lt k e).2),fun k x hx=>by
  obtain ⟨a,c,y0,y1,y2,y3,y4,y5⟩:=h.all k x hx
  exact ⟨a,c,y0,y1,y2,y3,Zak y4 (fun k e=>hk k (y4.lt k e).1 (y4.lt k e).2),y5⟩⟩
theorem RlsAt.rules {u:World} {B0:Nat} {v:Value} {R:List (At3 × List At3)} {xs:List Value} (h:RlsAt u B0 v R xs):RulesIn u v R xs :=
 ⟨Zbd h.owns (Qm _),fun k x hx=>by
  obtain ⟨a,c,y0,y1,y2,y3,y4,y5⟩:=h.all k x hx
  exact ⟨a,c,y0,y1,y2,y3,⟨Zbd y4 (Qm _),y5.2.1⟩,y5.1,by have:=y5.2.2; omega⟩⟩
theorem RlsAt.ok {u:World} {B0:Nat} {v:Value} {R:List (At3 × List At3)} {xs:List Value} (h:RlsAt u B0 v R xs):∀ x ∈ R,RlOk x:=fun x hx=>by
 obtain ⟨k,hk⟩:=List.mem_iff_getElem?.1 hx
 obtain ⟨_,_,_,_,_,_,_,y⟩:=h.all k x hk
 exact y
theorem RlsAt.more {U w':World} {B0:Nat} {v v':Value} {R:List (At3 × List At3)} {xs:List Value} {x:At3 × List At3} {a:Option Addr} {c:Nat} (h:RlsAt U B0 v R xs) (hb:U.ownsRow B0 48 3 (.slice a x.2.length c) x.2.length (x.2.flatMap atC)) (ho:RlOk x)
  (hA:Appended U B0 51 4 v (R.length+1) (xs++[.int .i64 x.1.1,.int .i64 x.1.2.1,.int .i64 x.1.2.2,.slice a x.2.length c]) v' w'):RlsAt w' B0 v' (R++[x]) (xs++[.int .i64 x.1.1,.int .i64 x.1.2.1,.int .i64 x.1.2.2,.slice a x.2.length c]):=by
 have hl:=h.owns.1
 have hkeep:∀ {vv:Value} {n:Nat} {zs:List Value},U.ownsRow B0 48 3 vv n zs→w'.ownsRow B0 48 3 vv n zs:=fun hr=>Zak hr (fun k e=>hA.kept.block k (hr.lt k e).2 (fun e2=>by
  obtain ⟨c1,h1⟩:=Zbs hr k e
  obtain ⟨c2,h2⟩:=Zbs h.owns k e2
  rw [h1] at h2
  simp at h2))
 refine ⟨by simpa using hA.owns,fun k y hy => ?_⟩
 rcases Nat.lt_or_ge k R.length with hk | hk
 ·rw [Qc hk] at hy
  obtain ⟨a',c',y0,y1,y2,y3,y4,y5⟩:=h.all k y hy
  refine ⟨a',c',?_,?_,?_,?_,hkeep y4,y5⟩
  ·rw [Qc (by omega)]; exact y0
  ·rw [Qc (by omega)]; exact y1
  ·rw [Qc (by omega)]; exact y2
  ·rw [Qc (by omega)]; exact y3
 ·obtain rfl:k=R.length:=by
   have:=(Qa.1 hy).1
   simp at this
   omega
  simp at hy
  subst hy
  refine ⟨a,c,?_,?_,?_,?_,hkeep hb,ho⟩
  ·rw [Qd (by omega),hl]; simp
  ·rw [Qd (by omega),hl,show R.length * 4+1 - R.length * 4=1 by omega]; simp
  ·rw [Qd (by omega),hl,show R.length * 4+2 - R.length * 4=2 by omega]; simp
  ·rw [Qd (by omega),hl,show R.length * 4+3 - R.length * 4=3 by omega]; simp
theorem Tryd.infoRule:(Tryd.prog.info? 51).map (fun i=>(i.zero,i.size,i.bytes))=some (some (.agg #[.int .i64 0,.int .i64 0,.int .i64 0,.slice none 0 0]),4,48):=by kernel_rfl
theorem Zpq (w:World) (B b:Nat) (ra:Option Addr) (rl rc:Nat) (h:RawIn w B b ra rl rc):Calls Tryd.prog 4 #[.pointer (some ⟨b,0,none⟩)] w fun e w'=>∃ (a:Option Addr) (c:Nat) (R:List (At3 × List At3)) (xs:List Value),1≤R.length∧R.length≤8∧e = .returned (.slice a R.length c)∧RlsAt w' w.heap.size (.slice a R.length c) R xs∧Kept (only b) w w'∧RawIn w' B b ra rl rc:=by
 have hbl:b<w.heap.size∧B≤b:=by obtain ⟨q,h⟩:=h; exact ⟨Zab h.box,h.le⟩
 have HT:=Zac (Zde w B b ra rl rc h 8 ⟨by omega,by omega⟩)
 clear h
 go_enter Tryd.func4,Tryd.ntmps4
 go_wp2_with fail
 refine HT.out.mono ?_
 rintro e w1 ⟨v,hv,rfl,hK,hR⟩
 have HK:Hid (Kept (only b) w w1∧RawIn w1 B b ra rl rc):=⟨hK,hR⟩
 obtain ⟨n,hn,hn2,hn1⟩:∃ n:Nat,(1:Int)+(v:Int)=(n:Int)∧n≤8∧1≤n:=⟨1+v,by omega,by omega,by omega⟩
 clear hK hR HT
 go_wp2
 go_loopw [3,5] (fun sv i u=>∃ (k:Nat) (a:Option Addr) (c:Nat) (R:List (At3 × List At3)) (xs:List Value),k=R.length∧R.length≤n∧i = .int .i64 k∧sv = .slice a R.length c∧RlsAt u w.heap.size (.slice a R.length c) R xs∧Kept (only b) w u∧RawIn u B b ra rl rc) (fun _ i _=>n - (intOf i).toNat)
 case atStart=>exact ⟨0,none,0,[],[],rfl,Qm _,rfl,rfl,RlsAt.nil _ _,HK.out.1,HK.out.2⟩
 case round =>
  obtain ⟨k,a,c,R,xs,hkR,hRn,rfl,rfl,hrls,hKu,hRu⟩:=hrel
  have Hrls:=Zac hrls
  have HKu:=Zac hKu
  have HkR:=Zac hkR
  have hsw:=hKu.size
  clear hrls hKu
  by_cases hlt:k<n
  ·have HT2:=Zac (Zde wr B b ra rl rc hRu 3 ⟨by omega,by omega⟩)
   clear hRu hkR
   go_wp2_with fail
   refine HT2.out.mono ?_
   rintro e w2 ⟨p,hp,rfl,hK2,hR2⟩
   have HA:=Zac (Zmi w2 B b ra rl rc hR2 p hp)
   have HK2:=Zac hK2
   clear hK2 hR2 HT2
   go_wp2_with fail
   refine HA.out.mono ?_
   rintro e w3 ⟨x,hx,hxp,rfl,hK3,hR3⟩
   have HK3:Hid (Kept (only b) wr w3):=HK2.out.trans hK3
   have hs3:=HK3.out.size
   have Hx:=Zac hx
   have hE3:Ext w3 ((w3.alloc (.cells #[.int .i64 x.1,.int .i64 x.2.1,.int .i64 x.2.2] 48)).alloc (.cells #[.int .i64 x.1,.int .i64 x.2.1,.int .i64 x.2.2,.slice none 0 0] 51)):=(Ext.of (by repeat' (first | with_reducible(first|exact Qx _ _|apply Kept.drew|apply Kept.drewN|apply Qz|refine Qy ?_ ?_ _)|exact fun h=>absurd h (by simp <;> omega))))
   have HT3:=Zac (Zde ((w3.alloc (.cells #[.int .i64 x.1,.int .i64 x.2.1,.int .i64 x.2.2] 48)).alloc (.cells #[.int .i64 x.1,.int .i64 x.2.1,.int .i64 x.2.2,.slice none 0 0] 51)) B b ra rl rc (hR3.ext hE3) 3 ⟨by omega,by omega⟩)
   have HE3:=Zac hE3
   clear hK3 hR3 HA hxp hx HK2 hE3
   go_wp2_with fail
   refine HT3.out.mono ?_
   rintro e w4 ⟨kk,hkk,rfl,hK4,hR4⟩
   have hbx:w4.heap[w3.heap.size+1]?=some (.cells #[.int .i64 x.1,.int .i64 x.2.1,.int .i64 x.2.2,.slice none 0 0] 51 (0,0)):=by
    have:=hK4.block (w3.heap.size+1) (by simp) (fun e=>by have e:w3.heap.size+1=b:=e; omega)
    rw [this]
    have:=heap_alloc_new (w3.alloc (.cells #[.int .i64 x.1,.int .i64 x.2.1,.int .i64 x.2.2] 48)) (.cells #[.int .i64 x.1,.int .i64 x.2.1,.int .i64 x.2.2,.slice none 0 0] 51)
    simpa using this
   have hs4:w3.heap.size+2≤w4.heap.size:=by
    have:=hK4.size
    simpa using this
   have HK4:Hid (Kept (only b) wr w4):=(HK3.out.trans (Zpm HE3.out)).trans hK4
   have HR4:=Zac hR4
   have Hbx:=Zac hbx
   clear hK4 hR4 HT3 HK3 HE3 hbx
   obtain ⟨wo,hwo⟩:∃ wo,wo=wr:=⟨_,rfl⟩
   subst hwo
   go_wp2
   go_loopw [10] (fun j u=>∃ (m:Nat) (y:List At3) (a':Option Addr) (c':Nat),m=y.length∧j = .int .i64 m∧y.length≤kk∧u.heap[w3.heap.size+1]?=some (.cells #[.int .i64 x.1,.int .i64 x.2.1,.int .i64 x.2.2,.slice a' y.length c'] 51 (0,0))∧u.ownsRow w4.heap.size 48 3 (.slice a' y.length c') y.length (y.flatMap atC)∧(∀ z ∈ y,AtOk z)∧Kept (fun i=>i=b∨i=w3.heap.size+1) w4 u∧RawIn u B b ra rl rc) (fun j _=>kk - (intOf j).toNat)
   case atStart=>exact ⟨0,[],none,0,rfl,rfl,Qm _,Hbx.out,World.ownsRow_nil _ _ _ _,by simp,Qx _ _,HR4.out⟩
   case round =>
    obtain ⟨m,y,a',c',hmy,rfl,hyk,hbox,hrow,hok,hKi,hRi⟩:=hrel
    have Hrow:=Zac hrow
    have Hok:=Zac hok
    have HKi:=Zac hKi
    have Hmy:=Zac hmy
    have Hbox:=Zac hbox
    have hs5:=hKi.size
    clear hrow hok hKi
    by_cases hlt2:m<kk
    ·have HT4:=Zac (Zde wr B b ra rl rc hRi 3 ⟨by omega,by omega⟩)
     clear hRi hmy hbox
     go_wp2_with fail
     refine HT4.out.mono ?_
     rintro e w5 ⟨p',hp',rfl,hK5,hR5⟩
     have HA2:=Zac (Zmi w5 B b ra rl rc hR5 p' hp')
     have HK5:=Zac hK5
     clear hK5 hR5 HT4
     go_wp2_with fail
     refine HA2.out.mono ?_
     rintro e w6 ⟨z,hz,hzp,rfl,hK6,hR6⟩
     have HK6:Hid (Kept (only b) wr w6):=HK5.out.trans hK6
     have hs6:=HK6.out.size
     have Hz:=Zac hz
     obtain ⟨U,hU⟩:∃ U,U=w6.alloc (.cells #[.int .i64 z.1,.int .i64 z.2.1,.int .i64 z.2.2] 48):=⟨_,rfl⟩
     have hEU:Ext w6 U:=by rw [hU]; exact (Ext.of (by repeat' (first | with_reducible(first|exact Qx _ _|apply Kept.drew|apply Kept.drewN|apply Qz|refine Qy ?_ ?_ _)|exact fun h=>absurd h (by simp <;> omega))))
     have hb6:w6.heap[w3.heap.size+1]?=some (.cells #[.int .i64 x.1,.int .i64 x.2.1,.int .i64 x.2.2,.slice a' y.length c'] 51 (0,0)):=(HK6.out.block _ (by omega) (fun e=>by have e:w3.heap.size+1=b:=e; omega)).trans Hbox.out
     have HbU:Hid (U.heap[w3.heap.size+1]?=some (.cells #[.int .i64 x.1,.int .i64 x.2.1,.int .i64 x.2.2,.slice a' y.length c'] 51 (0,0))):=(hEU.block _ (Zab hb6)).trans hb6
     have d3:=Zaa hb6 3 _ rfl
     have dl:=Zab hb6
     have df:=fun i=>Zae hb6 i
     have HrU:Hid (U.ownsRow w4.heap.size 48 3 (.slice a' y.length c') y.length (y.flatMap atC)):=Zak Hrow.out (fun j hj=>(hEU.block j (by have:=(Hrow.out.lt j hj).2; omega)).trans (HK6.out.block j (Hrow.out.lt j hj).2 (fun e=>by have e:j=b:=e; have:=(Hrow.out.lt j hj).1; omega)))
     have HRU:=Zac (hR6.ext hEU)
     have hsU:=hEU.size
     have HU:=Zac hU
     have HEU:=Zac hEU
     clear hK6 hR6 hEU HA2 hzp hz hb6 HK5
     go_wp2_with (at_builtin; rw [← HU.out]; go_loud (refine Zan U rfl (.tmp 41) (.tmp 43) 28 rfl w4.heap.size 48 Tryd.infoAtom Tryd.underlying28 rfl (by decide) (.slice a' y.length c') y.length (y.flatMap atC) rfl HrU.out #[.int .i64 z.1,.int .i64 z.2.1,.int .i64 z.2.2] rfl (by rw [HU.out]; simp) rfl (by simp [Value.oneCell']) ?_ ?_ ?_))
     ·omega
     ·omega
     intro v7 w7 hA7
     rw [← HU.out] at hA7
     obtain ⟨a7,c7,rfl⟩:=Zad hA7.owns
     have hb7:w7.heap[w3.heap.size+1]?=some (.cells #[.int .i64 x.1,.int .i64 x.2.1,.int .i64 x.2.2,.slice a' y.length c'] 51 (0,0)):=(hA7.kept.block _ (Zab HbU.out) (fun e=>by have:=(HrU.out.lt _ e).1; omega)).trans HbU.out
     have e3:=Zaa hb7 3 _ rfl
     have el:=Zab hb7
     have ef:=fun i=>Zae hb7 i
     have Hb7:=Zac hb7
     have HA7:=Zac hA7
     clear hA7 hb7 d3 dl df
     have Hend:Hid (∀ u:Value,u = .slice a7 (y.length+1) c7→∀ Z,Z=w7.setCell ⟨w3.heap.size+1,3,none⟩ u→Z.heap[w3.heap.size+1]?=some (.cells #[.int .i64 x.1,.int .i64 x.2.1,.int .i64 x.2.2,.slice a7 (y++[z]).length c7] 51 (0,0))∧Z.ownsRow w4.heap.size 48 3 (.slice a7 (y++[z]).length c7) (y++[z]).length ((y++[z]).flatMap atC)∧Kept (fun i=>i=b∨i=w3.heap.size+1) w4 Z∧RawIn Z B b ra rl rc):=fun u hu Z hZ=>by
      have hKz:Kept (fun i=>i=w3.heap.size+1) w7 Z:=by rw [hZ]; exact Qy (S:=fun i=>i=w3.heap.size+1) (p:=⟨w3.heap.size+1,3,none⟩) (Qx _ _) (fun _=>(rfl:w3.heap.size+1=w3.heap.size+1)) u
      have hrow7:w7.ownsRow w4.heap.size 48 3 (.slice a7 (y++[z]).length c7) (y++[z]).length ((y++[z]).flatMap atC):=by simpa [atC] using HA7.out.owns
      have hRI7:RawIn w7 B b ra rl rc:=HRU.out.keep (S:=Zbt (.slice a' y.length c')) HA7.out.kept (fun e=>by have:=(HrU.out.lt b e).1; omega) (fun j e=>by have:=(HrU.out.lt j e).1; omega)
      refine ⟨?_,Zak hrow7 (fun j hj=>hKz.block j (hrow7.lt j hj).2 (fun e=>by have:=(hrow7.lt j hj).1; omega)),?_,hRI7.keep hKz (fun e=>by omega) (fun j e=>by omega)⟩
      ·rw [hZ,hu]
       have:=Zai Hb7.out 3 (.slice a7 (y.length+1) c7)
       simpa using this
      ·exact ((((HKi.out.then HK6.out (fun i hi e=>Or.inl e)).trans (Zpm HEU.out)).then HA7.out.kept (fun i hi e=>by have:=(HrU.out.lt i e).1; omega))).then hKz (fun i hi e=>Or.inr e)
     clear HA7 Hb7
     go_wp2
     go_roundw
     case rel =>
      obtain ⟨f1,f2,f3,f4⟩:=Hend.out _ rfl _ rfl
      refine ⟨m+1,y++[z],a7,c7,by simp [Hmy.out],by go_num,by have:=Hmy.out; simp; omega,f1,f2,fun q hq => ?_,f3,f4⟩
      rcases Qk.1 hq with hq | hq
      ·exact Hok.out q hq
      ·simp at hq
       subst hq
       exact Hz.out
     case measure=>simp [intOf]; omega
    ·have hb0:=Zaa hbox 0 _ rfl
     have hb1:=Zaa hbox 1 _ rfl
     have hb2:=Zaa hbox 2 _ rfl
     have hb3:=Zaa hbox 3 _ rfl
     have hbl2:=Zab hbox
     have hbf:=fun i=>Zae hbox i
     have hrls2:RlsAt wr w.heap.size (.slice a R.length c) R xs:=Hrls.out.keep (fun i h1 h2=>by
      have e1:=HK4.out.block i h2 (fun e=>by have e:i=b:=e; omega)
      have e2:=HKi.out.block i (by omega) (fun e=>by omega)
      rw [e2,e1])
     have Hrls2:=Zac hrls2
     have HRi:=Zac hRi
     have hRl:R.length≤8:=by omega
     clear hrls2 hRi hbox hmy
     go_wp2_with (at_builtin; go_loud (refine Zan wr rfl (.tmp 46) (.tmp 48) 26 rfl w.heap.size 51 Tryd.infoRule Tryd.underlying26 rfl (by decide) (.slice a R.length c) R.length xs rfl Hrls2.out.owns #[.int .i64 x.1,.int .i64 x.2.1,.int .i64 x.2.2,.slice a' y.length c'] (N:=wr.heap.size) rfl (by simp) rfl (by simp [Value.oneCell']) ?_ ?_ ?_))
     ·omega
     ·omega
     intro v8 w8 hA8
     have Hend:Hid (∃ a8 c8,v8 = .slice a8 (R++[(x,y)]).length c8∧RlsAt w8 w.heap.size (.slice a8 (R++[(x,y)]).length c8) (R++[(x,y)]) (xs++[.int .i64 x.1,.int .i64 x.2.1,.int .i64 x.2.2,.slice a' y.length c'])∧Kept (only b) w w8∧RawIn w8 B b ra rl rc):=by
      have hm:=Hrls2.out.more (x:=(x,y)) (Zbd Hrow.out (by omega)) ⟨Hx.out,Hok.out,by simp only; omega⟩ hA8
      obtain ⟨a8,c8,e8⟩:=Zad hm.owns
      refine ⟨a8,c8,e8,e8 ▸ hm,?_,HRi.out.keep (S:=Zbt (.slice a R.length c)) hA8.kept (fun e=>by have:=(Hrls2.out.owns.lt b e).1; omega) (fun j e=>by have:=(Hrls2.out.owns.lt j e).1; omega)⟩
      exact ((HKu.out.trans HK4.out).then HKi.out (fun i hi e=>by rcases e with e | e; exact e; omega)).then hA8.kept (fun i hi e=>by have:=(Hrls2.out.owns.lt i e).1; omega)
     clear hA8 hb0 hb1 hb2 hb3 hbl2 hbf
     go_wp2
     go_roundw
     case rel =>
      obtain ⟨a8,c8,e8,f1,f2,f3⟩:=Hend.out
      exact ⟨k+1,a8,c8,R++[(x,y)],_,by simp [HkR.out],by have:=HkR.out; simp; omega,by go_num,e8,f1,f2,f3⟩
     case measure=>simp [intOf]; omega
  ·have HRu:=Zac hRu
   clear hRu hkR
   go_wp2
   go_ret
   exact ⟨a,c,R,xs,by have:=HkR.out; omega,by omega,rfl,Hrls.out,HKu.out,HRu.out⟩
end Go.Proofs.YtlmjilpjmgjjcaaDoor
namespace Go.Proofs.YtlmjilpjmgjjcaaDoor
def skip:Nat→List Sym→Nat
 | 0,_=>0
 | _+1,[]=>0
 | k+1,s::r=>skip (k+s.args) r+1
theorem Zke:∀ {a:List Sym} {j:Nat} (r:List Sym),Wf j a→skip j (a++r)=a.length:=by
 intro a
 induction a with
 | nil=>intro j r h; have h:j=0:=h; subst h; simp [skip]
 | cons s a ih =>
  intro j r h
  obtain ⟨h1,_,_,h2⟩:=h
  obtain ⟨k,rfl⟩:∃ k,j=k+1:=⟨j - 1,by omega⟩
  simp only [List.cons_append,skip,Qf]
  rw [ih r (by simpa using h2)]
theorem Ygj:∀ {l:List Sym} {k:Nat} (i:Nat),Wf k l→i≤l.length→∃ k',Wf k' (l.drop i):=by
 intro l
 induction l with
 | nil=>intro k i h hi; simp at hi; subst hi; exact ⟨k,h⟩
 | cons s l ih =>
  intro k i h hi
  cases i with
  | zero=>exact ⟨k,h⟩
  | succ i =>
   obtain ⟨_,_,_,h2⟩:=h
   simp only [List.drop_succ_cons]
   exact ih i h2 (by simpa using hi)
def Zbg (l:List Sym) (i:Nat):Nat:=i+skip 1 (l.drop i)
def tmAt (l:List Sym) (i:Nat):List Sym:=(l.drop i).take (skip 1 (l.drop i))
def Zbc (l:List Sym):Nat→Nat→List Nat
 | _,0=>[]
 | p,m+1=>p::Zbc l (Zbg l p) m
def Zar (l:List Sym):Nat→Nat→Nat
 | p,0=>p
 | p,m+1=>Zar l (Zbg l p) m
theorem Zcv (l:List Sym) (p m:Nat):(Zbc l p m).length=m:=by
 induction m generalizing p with
 | zero=>rfl
 | succ m ih=>simp [Zbc,ih]
theorem Zby (l:List Sym) (p m:Nat):Zar l p (m+1)=Zbg l (Zar l p m):=by
 induction m generalizing p with
 | zero=>rfl
 | succ m ih=>rw [Zar,ih]; rfl
theorem Zbx (l:List Sym) (p m i:Nat) (hi:i<m):(Zbc l p m)[i]?=some (Zar l p i):=by
 induction m generalizing p i with
 | zero=>omega
 | succ m ih =>
  cases i with
  | zero=>rfl
  | succ i=>simp only [Zbc,List.getElem?_cons_succ,Zar]; exact ih _ _ (by omega)
theorem Zek {l:List Sym} {k i:Nat} (h:Wf k l) (hi:i<l.length):Wf 1 (tmAt l i)∧∃ r,l.drop i=tmAt l i++r∧r=l.drop (Zbg l i)∧i<Zbg l i∧Zbg l i≤l.length∧(tmAt l i).length=skip 1 (l.drop i):=by
 obtain ⟨k',hk⟩:=Ygj i h (by omega)
 have hpos:0<k':=by
  rcases Nat.eq_zero_or_pos k' with rfl | hp
  ·cases hd:l.drop i with
   | nil=>have:=congrArg List.length hd; simp at this; omega
   | cons s r=>rw [hd] at hk; obtain ⟨h1,_⟩:=hk; omega
  ·exact hp
 obtain ⟨a,b,e,ha,hb⟩:=Zky (j:=1) (k:=k' - 1) (l:=l.drop i) (by rw [show 1+(k' - 1)=k' by omega]; exact hk)
 have hs:skip 1 (l.drop i)=a.length:=by rw [e]; exact Zke b ha
 have ht:tmAt l i=a:=by unfold tmAt; rw [hs,e]; simp
 have hl:a.length+b.length=l.length - i:=by
  have:=congrArg List.length e
  simp at this; omega
 have ha1:=Zeg ha
 refine ⟨by rw [ht]; exact ha,b,by rw [ht]; exact e,?_,by unfold Zbg; omega,by unfold Zbg; omega,by rw [ht,hs]⟩
 unfold Zbg
 rw [hs,← List.drop_drop,e]; simp
theorem Ygk {l:List Sym} {k0:Nat} (h:Wf k0 l):∀ (m:Nat) {p:Nat} {a b:List Sym},l.drop p=a++b→Wf m a→p≤l.length →
  a=((Zbc l p m).map (tmAt l)).flatten∧(∀ x ∈ Zbc l p m,p≤x∧x<p+a.length)∧Zar l p m=p+a.length:=by
 intro m
 induction m with
 | zero =>
  intro p a b e hw _
  have:a=[]:=by
   cases a with
   | nil=>rfl
   | cons s a=>obtain ⟨h1,_⟩:=hw; omega
  subst this
  exact ⟨rfl,by simp [Zbc],rfl⟩
 | succ m ih =>
  intro p a b e hw hp
  obtain ⟨a1,a2,rfl,h1,h2⟩:=Zky (j:=1) (k:=m) (l:=a) (by rw [Nat.add_comm]; exact hw)
  have hl1:=Zeg h1
  have hpl:p<l.length:=by
   have:=congrArg List.length e
   simp at this; omega
  have hs:skip 1 (l.drop p)=a1.length:=by rw [e,Qi]; exact Zke _ h1
  have ht:tmAt l p=a1:=by unfold tmAt; rw [hs,e]; simp
  have hb:Zbg l p=p+a1.length:=by unfold Zbg; rw [hs]
  have e2:l.drop (Zbg l p)=a2++b:=by rw [hb,← List.drop_drop,e]; simp
  have hbl:Zbg l p≤l.length:=by
   have:=congrArg List.length e
   simp at this; omega
  obtain ⟨g1,g2,g3⟩:=ih e2 h2 hbl
  refine ⟨?_,?_,?_⟩
  ·simp only [Zbc,List.map_cons,List.flatten_cons,ht]
   rw [← g1]
  ·intro x hx
   simp only [Zbc,Qp] at hx
   simp only [Qg]
   rcases hx with rfl | hx
   ·omega
   ·have:=g2 x hx; omega
  ·rw [Zar,g3,hb,Qg]; omega
theorem Zix:∀ {l:List Sym} {k i:Nat} {s:Sym},Wf k l→l[i]?=some s→(s.name=[]→s.args=0)∧(s.name≠[]→s.num=0):=by
 intro l
 induction l with
 | nil=>intro k i s _ hs; simp at hs
 | cons t l ih =>
  intro k i s h hs
  obtain ⟨_,h1,h2,h3⟩:=h
  cases i with
  | zero=>simp at hs; subst hs; exact ⟨h1,h2⟩
  | succ i=>exact ih h3 (by simpa using hs)
def Zau (l:List Sym) (i:Nat):Sym:=l.getD i ⟨[],0,0⟩
def grOf (l:List Sym):Gr:=⟨l.length,Zau l,fun i=>Zbc l (i+1) (Zau l i).args⟩
theorem Zhc {l:List Sym} {k i:Nat} (h:Wf k l) (hi:i<l.length):tmAt l i=Zau l i::((Zbc l (i+1) (Zau l i).args).map (tmAt l)).flatten∧(∀ x ∈ Zbc l (i+1) (Zau l i).args,i<x∧x<Zbg l i)∧Zar l (i+1) (Zau l i).args=Zbg l i:=by
 obtain ⟨hw,r,e,hr,hb1,hb2,hb3⟩:=Zek h hi
 obtain ⟨s,q,e2,hq,_⟩:=Zun hw
 have hd:l.drop i=l[i]::l.drop (i+1):=List.drop_eq_getElem_cons hi
 rw [e2] at e
 rw [hd] at e
 simp only [List.cons_append,List.cons.injEq] at e
 have hs:Zau l i=s:=by unfold Zau; simp [hi,e.1]
 obtain ⟨g1,g2,g3⟩:=Ygk h s.args e.2 hq (by omega)
 rw [e2] at hb3
 have hlen:Zbg l i=i+1+q.length:=by unfold Zbg; rw [← hb3]; simp; omega
 rw [hs]
 refine ⟨by rw [e2,← g1],fun x hx => ?_,by rw [g3,hlen]⟩
 have:=g2 x hx
 omega
theorem Zkf {a b:List Sym} (h:Wf 1 a):tmAt (a++b) 0=a:=by
 unfold tmAt; rw [List.drop_zero,Zke b h]; simp
theorem Ziy {a b:List Sym} (h:Wf 1 b):tmAt (a++b) a.length=b:=by
 unfold tmAt
 have e:(a++b).drop a.length=b++[]:=by simp
 rw [e,Zke [] h]; simp
theorem Ybl {a b:List Sym} (ha:Wf 1 a) (hb:Wf 1 b):Lay (grOf (a++b)) (tmAt (a++b)) a b:=by
 have hw:Wf 2 (a++b):=Zfm ha hb
 refine ⟨⟨?_,?_,?_,?_⟩,?_,?_⟩
 ·intro i hi x hx
  have:=(Zhc hw hi).2.1 x hx
  obtain ⟨_,_,_,_,_,h2,_⟩:=Zek hw hi
  show x<(a++b).length
  omega
 ·intro i hi; exact (Zcv _ _ _).symm
 ·intro i hi hn
  have hs:(a++b)[i]?=some (Zau (a++b) i):=by
   have hi:i<(a++b).length:=hi
   unfold Zau; simp only [List.getD_eq_getElem?_getD]; rw [Qb hi]; rfl
  have:=(Zix hw hs).1 hn
  show Zbc _ _ (Zau (a++b) i).args=[]
  rw [this]; rfl
 ·intro i hi hn
  have hs:(a++b)[i]?=some (Zau (a++b) i):=by
   have hi:i<(a++b).length:=hi
   unfold Zau; simp only [List.getD_eq_getElem?_getD]; rw [Qb hi]; rfl
  exact (Zix hw hs).2 hn
 ·intro i hi; exact (Zhc hw hi).1
 ·intro i hi hn
  have hi:i<(a++b).length:=hi
  have hm:Zau (a++b) i ∈ a++b:=by
   unfold Zau; simp only [List.getD_eq_getElem?_getD]; rw [Qb hi]; exact List.getElem_mem hi
  rcases Qk.1 hm with hm | hm
  ·exact Or.inl ⟨_,hm,hn,rfl⟩
  ·exact Or.inr ⟨_,hm,hn,rfl⟩
def Zbf (l:List Sym) (i:Nat):Nat:=if (Zau l i).name=[] then l.findIdx (fun s=>s.name.isEmpty && s.num == (Zau l i).num) else i
theorem Zjo (l:List Sym) {k:Nat} (hw:Wf k l):Firsts (grOf l) (Zbf l):=by
 have key:∀ i,i<l.length→(Zau l i).name=[]→Zbf l i<l.length∧(Zau l (Zbf l i)).name=[]∧(Zau l (Zbf l i)).num=(Zau l i).num:=by
  intro i hi hn
  unfold Zbf
  rw [if_pos hn]
  have hex:∃ x ∈ l,(x.name.isEmpty && x.num == (Zau l i).num)=true:=by
   refine ⟨Zau l i,?_,by simp [hn]⟩
   unfold Zau; simp only [List.getD_eq_getElem?_getD]; rw [Qb hi]; exact List.getElem_mem hi
  have hlt:=List.findIdx_lt_length_of_exists hex
  refine ⟨hlt,?_⟩
  have:=List.findIdx_getElem (w:=hlt)
  have e:Zau l (l.findIdx (fun s=>s.name.isEmpty && s.num == (Zau l i).num))=l[l.findIdx (fun s=>s.name.isEmpty && s.num == (Zau l i).num)]:=by
   generalize l.findIdx (fun s=>s.name.isEmpty && s.num == (Zau l i).num)=z at hlt
   unfold Zau; simp only [List.getD_eq_getElem?_getD]; rw [Qb hlt]; rfl
  rw [e]
  simpa using this
 refine ⟨⟨?_,?_⟩,?_,?_,?_⟩
 ·intro i hi
  by_cases hn:(Zau l i).name=[]
  ·exact (key i hi hn).1
  ·show Zbf l i<_
   unfold Zbf; rw [if_neg hn]; exact hi
 ·intro i hi
  by_cases hn:(Zau l i).name=[]
  ·obtain ⟨h1,h2,h3⟩:=key i hi hn
   show Zbf l (Zbf l i)=Zbf l i
   have e1:Zbf l (Zbf l i)=l.findIdx (fun s=>s.name.isEmpty && s.num == (Zau l (Zbf l i)).num):=by
    generalize Zbf l i=z at h2
    unfold Zbf; rw [if_pos h2]
   have e2:Zbf l i=l.findIdx (fun s=>s.name.isEmpty && s.num == (Zau l i).num):=by unfold Zbf; rw [if_pos hn]
   rw [e1,h3,← e2]
  ·have e:Zbf l i=i:=by unfold Zbf; rw [if_neg hn]
   rw [e,e]
 ·intro i j hi hj h1 h2 e
  show Zbf l i=Zbf l j
  have h1:(Zau l i).name=[]:=h1
  have h2:(Zau l j).name=[]:=h2
  have e:(Zau l i).num=(Zau l j).num:=e
  unfold Zbf; rw [if_pos h1,if_pos h2,e]
 ·intro i hi hn
  have hn:(Zau l i).name≠[]:=hn
  show Zbf l i=i
  unfold Zbf; rw [if_neg hn]
 ·intro i hi hn
  exact (key i hi hn).2
end Go.Proofs.YtlmjilpjmgjjcaaDoor
namespace Go.Proofs.YtlmjilpjmgjjcaaDoor
open Go.RowKit
structure GC where
 sym:Sym
 behind:Nat
 leader:Nat
 size:Int
def gcV (c:GC):List Value:=[.string ⟨c.sym.name.toArray⟩,.int .i64 c.sym.num,.int .i64 c.sym.args,.int .i64 c.behind,.int .i64 c.leader,.int .i64 c.size]
def gcs (l:List GC):List Value:=l.flatMap gcV
theorem Yhu {l:List GC} {i:Nat} {c:GC} (h:l[i]?=some c) (j:Nat) (hj:j<6):(gcs l)[i * 6+j]?=(gcV c)[j]?:=by
 induction l generalizing i with
 | nil=>simp at h
 | cons a l ih =>
  have hl:(gcV a).length=6:=rfl
  cases i with
  | zero =>
   simp at h; subst h
   show (gcV a++gcs l)[_]?=_
   rw [Qc (by omega)]
   simp
  | succ i =>
   show (gcV a++gcs l)[_]?=_
   rw [Qd (by omega),← ih (by simpa using h),hl]
   congr 1; omega
theorem Yec (l:List GC) (c:GC):gcs (l++[c])=gcs l++gcV c:=by simp [gcs]
theorem Zxs {l:List GC} {x:Nat} {c:GC} {f:GC→GC} {j:Nat} {u:Value} (h:l[x]?=some c) (hj:j<6) (hf:gcV (f c)=(gcV c).set j u):gcs (l.modify x f)=(gcs l).set (x * 6+j) u:=by
 induction l generalizing x with
 | nil=>simp at h
 | cons a l ih =>
  have hl:(gcV a).length=6:=rfl
  cases x with
  | zero =>
   simp at h; subst h
   show gcV (f a)++gcs l=(gcV a++gcs l).set _ _
   rw [List.set_append_left _ _ (by omega),hf]
   simp
  | succ x =>
   show gcV a++gcs (l.modify x f)=(gcV a++gcs l).set _ _
   rw [List.set_append_right _ _ (by omega),ih (by simpa using h),hl]
   congr 2; omega
structure GAt (w:World) (gb:Nat) (v:Value) (gs:List GC):Prop where
 box:w.heap[gb]?=some (.cells #[v] 126 (0,0))
 owns:w.ownsRow 0 137 6 v gs.length (gcs gs)
theorem Zvl {w:World} {B:Nat} {e:TypeId} {size n g cap:Nat} {xs:List Value} (h:w.ownsRow B e size (.slice (some ⟨g,0,none⟩) n cap) n xs) (i:Nat) (u:Value):(w.setCell ⟨g,i,none⟩ u).ownsRow B e size (.slice (some ⟨g,0,none⟩) n cap) n (xs.set i u):=by
 refine ⟨by simpa using h.1,?_⟩
 rcases h.2 with ⟨h1,_⟩ | ⟨g',cap',cur,h1,hb,hg,hn,hc,hs,ht⟩
 ·simp at h1
 ·simp at h1
  obtain ⟨rfl,rfl⟩:=h1
  refine .inr ⟨g,cap,cur.setIfInBounds i u,rfl,hb,Zai hg _ _,hn,hc,by simpa using hs,?_⟩
  rw [← ht]
  simp [List.take_set]
theorem GAt.shape {w:World} {gb:Nat} {v:Value} {gs:List GC} (h:GAt w gb v gs) (hi:0<gs.length):∃ cb cap,v = .slice (some ⟨cb,0,none⟩) gs.length cap∧cb<w.heap.size∧gs.length≤cap∧cb≠gb∧(∀ j,w.frozen? ⟨cb,j,none⟩=false):=by
 obtain ⟨g,cap,cur,rfl,hB,hb,hc⟩:=Zat h.owns hi
 refine ⟨g,cap,rfl,Zab hb,hc,fun e => ?_,fun j=>Zae hb j⟩
 subst e
 rw [h.box] at hb
 simp at hb
theorem GAt.cell {w:World} {gb cb cap:Nat} {gs:List GC} (h:GAt w gb (.slice (some ⟨cb,0,none⟩) gs.length cap) gs) {i:Nat} {c:GC} (hc:gs[i]?=some c) :
  w.cell? ⟨cb,i * 6,none⟩=some (.string ⟨c.sym.name.toArray⟩)∧w.cell? ⟨cb,i * 6+1,none⟩=some (.int .i64 c.sym.num)∧w.cell? ⟨cb,i * 6+2,none⟩=some (.int .i64 c.sym.args)∧w.cell? ⟨cb,i * 6+3,none⟩=some (.int .i64 c.behind)∧w.cell? ⟨cb,i * 6+4,none⟩=some (.int .i64 c.leader)∧w.cell? ⟨cb,i * 6+5,none⟩=some (.int .i64 c.size):=by
 have e:=fun j hj=>Yhu hc j hj
 refine ⟨Zag h.owns _ _ ?_,Zag h.owns _ _ (by rw [e 1 (by omega)]; rfl),Zag h.owns _ _ (by rw [e 2 (by omega)]; rfl),Zag h.owns _ _ (by rw [e 3 (by omega)]; rfl),Zag h.owns _ _ (by rw [e 4 (by omega)]; rfl),Zag h.owns _ _ (by rw [e 5 (by omega)]; rfl)⟩
 have:=e 0 (by omega)
 simp only [Nat.add_zero] at this
 rw [this]; rfl
theorem GAt.on {w w':World} {gb:Nat} {v:Value} {gs:List GC} (h:GAt w gb v gs) (hk:∀ k,k<w.heap.size→w'.heap[k]?=w.heap[k]?):GAt w' gb v gs :=
 ⟨(hk gb (Zab h.box)).trans h.box,Zak h.owns (fun k e=>hk k (h.owns.lt k e).2)⟩
theorem GAt.ext {w w':World} {gb:Nat} {v:Value} {gs:List GC} (h:GAt w gb v gs) (e:Ext w w'):GAt w' gb v gs:=h.on (fun k hk=>e.block k hk)
theorem GAt.put {w:World} {gb cb cap:Nat} {gs:List GC} (h:GAt w gb (.slice (some ⟨cb,0,none⟩) gs.length cap) gs) {x:Nat} {c:GC} (hc:gs[x]?=some c) {f:GC→GC} {j:Nat} {u:Value} (hj:j<6) (hf:gcV (f c)=(gcV c).set j u) :
  GAt (w.setCell ⟨cb,x * 6+j,none⟩ u) gb (.slice (some ⟨cb,0,none⟩) gs.length cap) (gs.modify x f):=by
 have hne:cb≠gb:=by
  obtain ⟨cb',cap',e,_,_,hne,_⟩:=h.shape (by have:=(Qa.1 hc).1; omega)
  simp at e
  rw [e.1]; exact hne
 refine ⟨(Below.heap_setCell _ _ _ _ (fun e=>hne e.symm)).trans h.box,?_⟩
 rw [Zxs hc hj hf,List.length_modify]
 exact Zvl h.owns _ _
def GC.up (c:GC):CellS:=⟨c.sym,[],c.leader⟩
def Zhj (gs:List GC) (x y:Nat):List GC:=gs.modify x (fun c => { c with leader:=y })
theorem Zvm (gs:List GC) (x y:Nat):(Zhj gs x y).map GC.up=turn (gs.map GC.up) x y:=by
 apply List.ext_getElem?
 intro i
 rw [Zpj,Qj,Zhj,List.getElem?_modify,Qj]
 cases gs[i]? with
 | none=>rfl
 | some c=>simp; split <;> simp_all [GC.up]
theorem Zht (gs:List GC) (x y:Nat):(Zhj gs x y).length=gs.length:=by simp [Zhj]
structure CellsOf (gs:List GC) (l:List Sym):Prop where
 len:gs.length=l.length
 all:∀ i c,gs[i]?=some c→c.sym=Zau l i∧c.behind=Zbg l i
theorem CellsOf.lead {gs:List GC} {l:List Sym} (h:CellsOf gs l) (x y:Nat):CellsOf (Zhj gs x y) l :=
 ⟨by rw [Zht]; exact h.len,fun i c hc=>by
  rw [Zhj,List.getElem?_modify] at hc
  cases hd:gs[i]? with
  | none=>rw [hd] at hc; simp at hc
  | some d =>
   rw [hd] at hc
   obtain ⟨h1,h2⟩:=h.all i d hd
   simp only [Option.map_eq_map,Option.map_some,Qo] at hc
   subst hc
   split <;> exact ⟨h1,h2⟩⟩
theorem Zfw (w:World) (gb:Nat) (v:Value) (gs:List GC) (ρ rk:Nat→Nat) (i:Nat) (h:GAt w gb v gs) (hu:UpOk (gs.map GC.up) ρ rk) (hi:i<gs.length) (hl:gs.length≤4000) :
  Calls Tryd.prog 84 #[.pointer (some ⟨gb,0,none⟩),.int .i64 i] w fun e w'=>e = .returned (.int .i64 (ρ i))∧w'=w:=by
 obtain ⟨cb,cap,rfl,hcb,hcap,_,_⟩:=h.shape (by omega)
 have b0:w.cell? ⟨gb,0,none⟩=some (.slice (some ⟨cb,0,none⟩) gs.length cap):=Zaa h.box 0 _ rfl
 have hgb:=Zab h.box
 have H:=Zac h
 have Hu:=Zac hu
 clear h hu
 go_enter Tryd.func84,Tryd.ntmps84
 go_wp2
 go_loopg [1] (rk i+1) (fun gk iv wr=>∃ (k:Nat),iv = .int .i64 k∧k<gs.length∧rk k<gk∧ρ k=ρ i∧wr=w)
 case atStart=>exact ⟨i,rfl,hi,by omega,rfl,rfl⟩
 case round =>
  obtain ⟨k,rfl,hk,hg,hρ,rfl⟩:=hrel
  obtain ⟨c,hc⟩:∃ c,gs[k]?=some c:=⟨_,Qb hk⟩
  obtain ⟨c0,c1,c2,c3,c4,c5⟩:=H.out.cell hc
  obtain ⟨h1,h2,h3,h4⟩:=Hu.out k c.up (by rw [Qj,hc]; rfl)
  have h1:c.leader<gs.length:=by simpa [GC.up] using h1
  have h2:ρ c.leader=ρ k:=h2
  by_cases e:c.leader=k
  ·have e':((c.leader:Int) != (k:Int))=false:=by rw [e]; simp
   have Hr:=Zac (h3 e)
   have Hρ:=Zac hρ
   clear hc h2 h3 h4 hρ
   go_wp2
   go_ret
   exact ⟨by rw [← Hρ.out,Hr.out]; rfl,rfl⟩
  ·have e':((c.leader:Int) != (k:Int))=true:=by rw [bne_iff_ne]; omega
   have Hr:=Zac (h2.trans hρ)
   have h4':=h4 e
   clear hc h2 h3 h4 hρ
   go_wp2
   go_roundg (rk k)
   case measure=>omega
   case rel=>exact ⟨c.leader,rfl,h1,h4',Hr.out,rfl⟩
theorem Zim (w:World) (gb:Nat) (v:Value) (gs:List GC) (i:Nat) (c:GC) (h:GAt w gb v gs) (hc:gs[i]?=some c) (hl:gs.length≤4000) :
  Calls Tryd.prog 85 #[.pointer (some ⟨gb,0,none⟩),.int .i64 i] w fun e w'=>e = .returned (.bool c.sym.name.isEmpty)∧w'=w:=by
 have hi:=(Qa.1 hc).1
 obtain ⟨cb,cap,rfl,hcb,hcap,_,_⟩:=h.shape (by omega)
 have b0:w.cell? ⟨gb,0,none⟩=some (.slice (some ⟨cb,0,none⟩) gs.length cap):=Zaa h.box 0 _ rfl
 have hgb:=Zab h.box
 obtain ⟨c0,c1,c2,c3,c4,c5⟩:=h.cell hc
 clear h hc
 go_enter Tryd.func85,Tryd.ntmps85
 go_wp2
 go_ret
 exact ⟨by simp,rfl⟩
def Zdw (s t:Sym):Bool:=s.name.isEmpty && (t.name.isEmpty && s.num == t.num)
theorem Zxt (w:World) (s t:Sym) :
  Calls Tryd.prog 94 #[.agg #[.string ⟨s.name.toArray⟩,.int .i64 s.num,.int .i64 s.args],.agg #[.string ⟨t.name.toArray⟩,.int .i64 t.num,.int .i64 t.args]] w fun e w'=>e = .returned (.bool (Zdw s t))∧Ext w w':=by
 have Hs:Hid (∀ a b c,a=s.name.isEmpty→b=t.name.isEmpty→c=(s.num == t.num)→Zdw s t=(a && (b && c))):=fun a b c h1 h2 h3=>by rw [h1,h2,h3]; rfl
 cases h1:s.name.isEmpty with
 | false =>
  go_enter Tryd.func94,Tryd.ntmps94
  go_wp2
  go_ret
  refine ⟨?_,(Ext.of (by repeat' (first | with_reducible(first|exact Qx _ _|apply Kept.drew|apply Kept.drewN|apply Qz|refine Qy ?_ ?_ _)|exact fun h=>absurd h (by simp <;> omega))))⟩
  rw [Hs.out false _ _ h1.symm rfl rfl]; rfl
 | true =>
  cases h2:t.name.isEmpty with
  | false =>
   go_enter Tryd.func94,Tryd.ntmps94
   go_wp2
   go_ret
   refine ⟨?_,(Ext.of (by repeat' (first | with_reducible(first|exact Qx _ _|apply Kept.drew|apply Kept.drewN|apply Qz|refine Qy ?_ ?_ _)|exact fun h=>absurd h (by simp <;> omega))))⟩
   rw [Hs.out true false _ h1.symm h2.symm rfl]; rfl
  | true =>
   have Hn:Hid (((s.num:Int) == (t.num:Int))=(s.num == t.num)):=by
    show _=_
    rw [Bool.eq_iff_iff,beq_iff_eq,beq_iff_eq]; omega
   go_enter Tryd.func94,Tryd.ntmps94
   go_wp2
   go_ret
   refine ⟨?_,(Ext.of (by repeat' (first | with_reducible(first|exact Qx _ _|apply Kept.drew|apply Kept.drewN|apply Qz|refine Qy ?_ ?_ _)|exact fun h=>absurd h (by simp <;> omega))))⟩
   rw [Hs.out true true _ h1.symm h2.symm rfl,← Hn.out]; rfl
theorem Joined.swap {G:Gr} {ρ ρ':Nat→Nat} {xs ys:List Nat} (h:Joined G ρ ρ' xs ys):Joined G ρ ρ' ys xs:=⟨h.rt,h.grow,h.eq.symm,h.cg,fun val hv hc e=>h.con val hv hc e.symm⟩
theorem Clash.swap {G:Gr} {ρ:Nat→Nat} {xs ys:List Nat} (h:Clash G ρ xs ys):Clash G ρ ys xs:=fun val hv hc e=>h val hv hc e.symm
theorem Ygl {l:List Sym} (hw:Wf 2 l):∃ a b,l=a++b∧Wf 1 a∧Wf 1 b∧Lay (grOf l) (tmAt l) a b:=by
  obtain ⟨a,b,e,ha,hb⟩:=Zky (j:=1) (k:=1) hw
  exact ⟨a,b,e,ha,hb,by rw [e]; exact Ybl ha hb⟩
theorem Yed {l:List Sym} (hw:Wf 2 l):(grOf l).Ok:=by
  obtain ⟨a,b,_,_,_,h⟩:=Ygl hw
  exact h.ok
structure JoinLeft (gb:Nat) (v:Value) (gs:List GC) (l:List Sym) (w w':World) (gs':List GC):Prop where
  at':GAt w' gb v gs'
  cells:CellsOf gs' l
  sizes:gs'.map (·.size)=gs.map (·.size)
  kept:Kept (Zbt v) w w'
  roots:Zge (gs'.map GC.up)≤Zge (gs.map GC.up)
def Ygm (gb:Nat) (v:Value) (gs:List GC) (l:List Sym) (ρ:Nat→Nat) (a b:Nat) (w:World) (e:Ending) (w':World):Prop:=∃ gs',JoinLeft gb v gs l w w' gs'∧∃ ρ' rk',UpOk (gs'.map GC.up) ρ' rk' ∧
  ((e = .returned (.bool true)∧Joined (grOf l) ρ ρ' [a] [b])∨(e = .returned (.bool false)∧Clash (grOf l) ρ [a] [b]))
def Zpr (m:Nat):Prop:=∀ (w:World) (gb:Nat) (v:Value) (gs:List GC) (l:List Sym) (ρ rk:Nat→Nat) (a b:Nat),GAt w gb v gs→CellsOf gs l→Wf 2 l→UpOk (gs.map GC.up) ρ rk→Zge (gs.map GC.up)≤m→a<gs.length→b<gs.length→gs.length≤4000 →
  Calls Tryd.prog 75 #[.pointer (some ⟨gb,0,none⟩),.int .i64 a,.int .i64 b] w fun e w'=>Ygm gb v gs l ρ a b w e w'
abbrev kidsAt (l:List Sym) (x:Nat):List Nat:=(grOf l).kids x
def Zrw (gb:Nat) (v:Value) (gs:List GC) (l:List Sym) (ρ:Nat→Nat) (x y:Nat) (w:World) (e:Ending) (w':World):Prop:=∃ gs',JoinLeft gb v gs l w w' gs'∧∃ ρ' rk',UpOk (gs'.map GC.up) ρ' rk' ∧
    ((e = .returned (.bool true)∧(Zau l x).name=(Zau l y).name∧(Zau l x).args=(Zau l y).args∧Joined (grOf l) ρ ρ' (kidsAt l x) (kidsAt l y)) ∨
     (e = .returned (.bool false)∧((Zau l x).name≠(Zau l y).name∨(Zau l x).args≠(Zau l y).args∨Clash (grOf l) ρ (kidsAt l x) (kidsAt l y))))
def Zny (m:Nat):Prop:=∀ (w:World) (gb:Nat) (v:Value) (gs:List GC) (l:List Sym) (ρ rk:Nat→Nat) (x y:Nat),GAt w gb v gs→CellsOf gs l→Wf 2 l→UpOk (gs.map GC.up) ρ rk→Zge (gs.map GC.up)≤m→x<gs.length→y<gs.length→gs.length≤4000 →
  Calls Tryd.prog 86 #[.pointer (some ⟨gb,0,none⟩),.int .i64 x,.int .i64 y] w fun e w'=>Zrw gb v gs l ρ x y w e w'
theorem JoinLeft.trans {gb:Nat} {v:Value} {gs gs1 gs2:List GC} {l:List Sym} {w w1 w2:World} (h:JoinLeft gb v gs l w w1 gs1) (k:JoinLeft gb v gs1 l w1 w2 gs2):JoinLeft gb v gs l w w2 gs2 :=
  ⟨k.at',k.cells,k.sizes.trans h.sizes,h.kept.trans k.kept,Qq k.roots h.roots⟩
theorem JoinLeft.len {gb:Nat} {v:Value} {gs:List GC} {l:List Sym} {w w':World} {gs':List GC} (h:JoinLeft gb v gs l w w' gs'):gs'.length=gs.length:=by simpa using congrArg List.length h.sizes
theorem Ybm {l:List Sym} {x k m:Nat} (h:k≤m):(Zbc l x m).take k=Zbc l x k:=by
  induction m generalizing x k with
  | zero =>
    have:k=0:=by omega
    subst this; rfl
  | succ m ih =>
    cases k with
    | zero=>rfl
    | succ k=>simp only [Zbc,List.take_succ_cons]; rw [ih (by omega)]
theorem Zrx (l:List Sym) (x k:Nat):Zbc l x (k+1)=Zbc l x k++[Zar l x k]:=by
  induction k generalizing x with
  | zero=>rfl
  | succ k ih =>
    have e:Zbc l x (k+1+1)=x::Zbc l (Zbg l x) (k+1):=rfl
    rw [e,ih]
    rfl
theorem Zmm {l:List Nat} {k n:Nat} (h:l[k]?=some n):l=l.take k++n::l.drop (k+1):=by
  obtain ⟨hk,e⟩:=Qa.1 h
  have:=List.drop_eq_getElem_cons hk
  rw [e] at this
  rw [← this,List.take_append_drop]
theorem Znz {l:List Sym} {x k m:Nat} (h:k<m):Zbc l x m=Zbc l x k++Zar l x k::(Zbc l x m).drop (k+1):=by
  have h2:=Zbx l x m k h
  have:=Zmm h2
  rw [Ybm (by omega)] at this
  exact this
theorem Ztw (m:Nat) (IH:Zpr m):Zny m:=by
  intro w gb v gs l ρ rk x y h hc hw hu hm hx hy hl
  obtain ⟨cx,hcx⟩:∃ c,gs[x]?=some c:=⟨_,Qb hx⟩
  obtain ⟨cy,hcy⟩:∃ c,gs[y]?=some c:=⟨_,Qb hy⟩
  obtain ⟨cb,cap,rfl,hcb,hcap,hne,hfz⟩:=h.shape (by omega)
  have b0:w.cell? ⟨gb,0,none⟩=some (.slice (some ⟨cb,0,none⟩) gs.length cap):=Zaa h.box 0 _ rfl
  have hgb:=Zab h.box
  obtain ⟨x0,x1,x2,_,_,_⟩:=h.cell hcx
  obtain ⟨y0,y1,y2,_,_,_⟩:=h.cell hcy
  obtain ⟨sx,_⟩:=hc.all x cx hcx
  obtain ⟨sy,_⟩:=hc.all y cy hcy
  have hlen:=hc.len
  obtain ⟨ex1,ex2,ex3⟩:=Zhc hw (i:=x) (by omega)
  obtain ⟨ey1,ey2,ey3⟩:=Zhc hw (i:=y) (by omega)
  obtain ⟨_,_,_,_,_,hbx,_⟩:=Zek hw (i:=x) (by omega)
  obtain ⟨_,_,_,_,_,hby,_⟩:=Zek hw (i:=y) (by omega)
  have hkl:∀ k,k<(Zau l x).args→Zar l (x+1) k<gs.length:=fun k hk=>by
    have:=ex2 _ (Qh (Zbx l (x+1) _ k hk))
    omega
  have hkr:∀ k,k<(Zau l y).args→Zar l (y+1) k<gs.length:=fun k hk=>by
    have:=ey2 _ (Qh (Zbx l (y+1) _ k hk))
    omega
  have hargs:(Zau l x).args≤4000:=by
    have h1:=congrArg List.length ex1
    have h2:=Zcv l (x+1) (Zau l x).args
    rcases Nat.lt_or_ge 4000 (Zau l x).args with h3 | h3
    · exfalso
      have h4:=hkl 4000 h3
      have mono:∀ k,k≤(Zau l x).args→x+1+k≤Zar l (x+1) k:=by
        intro k
        induction k with
        | zero=>intro _; simp [Zar]
        | succ k ih =>
          intro hk
          have:=ih (by omega)
          rw [Zby]
          have:=hkl k (by omega)
          obtain ⟨_,_,_,_,h6,_⟩:=Zek hw (i:=Zar l (x+1) k) (by omega)
          omega
      have:=mono 4000 (by omega)
      omega
    · exact h3
  rw [sx] at x0 x1 x2
  rw [sy] at y0 y1 y2
  obtain ⟨s,hs⟩:∃ s,s=Zau l x:=⟨_,rfl⟩
  obtain ⟨t,ht⟩:∃ t,t=Zau l y:=⟨_,rfl⟩
  rw [← hs] at x0 x1 x2 hkl hargs
  rw [← ht] at y0 y1 y2 hkr
  have Hs:=Zac hs
  have Ht:=Zac ht
  have H:=Zac h
  have Hc:=Zac hc
  have Hw:=Zac hw
  have Hu:=Zac hu
  have Hm:=Zac hm
  have Hih:=Zac IH
  have Hkl:=Zac hkl
  have Hkr:=Zac hkr
  have Hkx:Hid (kidsAt l x=Zbc l (x+1) s.args):=by show _=_; rw [hs]; rfl
  have Hky:Hid (kidsAt l y=Zbc l (y+1) t.args):=by show _=_; rw [ht]; rfl
  have hxl:x<l.length:=by omega
  have hyl:y<l.length:=by omega
  clear h hc hw hu hm IH hkl hkr hcx hcy sx sy ex1 ex2 ex3 ey1 ey2 ey3 hbx hby hlen hs ht
  have Hno:Hid (∀ w',Kept Zch w w'→(s.name≠t.name∨s.args≠t.args)→Zrw gb (.slice (some ⟨cb,0,none⟩) gs.length cap) gs l ρ x y w (.returned (.bool false)) w'):=fun w' hk hd=>by
    refine ⟨gs,⟨H.out.on (fun k hk'=>hk.block k hk' (fun h=>h)),Hc.out,rfl,hk.mono (fun _ _ h=>h.elim),Qe _⟩,ρ,rk,Hu.out,Or.inr ⟨rfl,?_⟩⟩
    rw [← Hs.out,← Ht.out]
    rcases hd with hd | hd
    · exact Or.inl hd
    · exact Or.inr (Or.inl hd)
  by_cases hnm:s.name=t.name
  · by_cases har:s.args=t.args
    · have hnb:(s.name != t.name)=false:=by rw [hnm]; simp
      have hab:((s.args:Int) != (t.args:Int))=false:=by rw [har]; simp
      have Hnm:=Zac hnm
      have Har:=Zac har
      clear hnm har
      go_enter Tryd.func86,Tryd.ntmps86
      go_wp2
      go_loopg [9,10,11] (s.args+1) (fun gk av bv nv wr=>∃ (k:Nat) (gs':List GC) (ρ' rk':Nat→Nat),av = .int .i64 (Zar l (x+1) k:Nat)∧bv = .int .i64 (Zar l (y+1) k:Nat)∧nv = .int .i64 k∧k≤s.args∧s.args - k<gk∧JoinLeft gb (.slice (some ⟨cb,0,none⟩) gs.length cap) gs l w wr gs'∧UpOk (gs'.map GC.up) ρ' rk' ∧
        Joined (grOf l) ρ ρ' (Zbc l (x+1) k) (Zbc l (y+1) k)∧wr.heap[w.heap.size]?=some (.cells #[.string ⟨t.name.toArray⟩,.int .i64 s.num,.int .i64 s.args] 87 (0,0)))
      case atStart =>
        have hrt:=Hu.out.rt
        rw [Ql,Hc.out.len] at hrt
        refine ⟨0,gs,ρ,rk,by simp [Zar],by simp [Zar],by go_num,Qm _,by omega,⟨H.out.ext (Ext.of (by repeat' (first | with_reducible(first|exact Qx _ _|apply Kept.drew|apply Kept.drewN|apply Qz|refine Qy ?_ ?_ _)|exact fun h=>absurd h (by simp <;> omega)))),Hc.out,rfl,((Qx _ w).alloc _).alloc _,Qe _⟩,Hu.out,Joined.nil hrt,?_⟩
        have:=Zas (heap_alloc_new w (.cells #[.string ⟨t.name.toArray⟩,.int .i64 s.num,.int .i64 s.args] 87)) (.cells #[.string ⟨t.name.toArray⟩,.int .i64 t.num,.int .i64 t.args] 87)
        simpa using this
      case round =>
        obtain ⟨k,gs',ρ',rk',rfl,rfl,rfl,hk,hgk,hJ,hup,hj,hbox⟩:=hrel
        obtain ⟨s0,s1,s2,sf⟩:=box3 hbox
        have hsr:=hJ.kept.size
        have hl':=hJ.len
        have b0:wr.cell? ⟨gb,0,none⟩=some (.slice (some ⟨cb,0,none⟩) gs.length cap):=Zaa hJ.at'.box 0 _ rfl
        have hgb':=Zab hJ.at'.box
        have hwb:=Zab hbox
        have HJ:=Zac hJ
        have Hup:=Zac hup
        have Hj:=Zac hj
        have Hbox:=Zac hbox
        clear hJ hup hj hbox
        by_cases hlt:k<s.args
        · have ha:=Hkl.out k hlt
          have hb:=Hkr.out k (by have:=Har.out; omega)
          obtain ⟨ak,hak⟩:∃ a,a=Zar l (x+1) k:=⟨_,rfl⟩
          obtain ⟨bk,hbk⟩:∃ b,b=Zar l (y+1) k:=⟨_,rfl⟩
          rw [← hak] at ha ⊢
          rw [← hbk] at hb ⊢
          have hna:¬ ((gs.length:Int)≤(ak:Int)):=by omega
          have hnb2:¬ ((gs.length:Int)≤(bk:Int)):=by omega
          have HI:=Zac (Hih.out wr gb (.slice (some ⟨cb,0,none⟩) gs.length cap) gs' l ρ' rk' ak bk HJ.out.at' HJ.out.cells Hw.out Hup.out (Qq HJ.out.roots Hm.out) (by omega) (by omega) (by omega))
          have Hak:=Zac hak
          have Hbk:=Zac hbk
          clear hak hbk
          go_wp2_with fail
          refine HI.out.mono ?_
          rintro e w1 ⟨gs2,hJ2,ρ2,rk2,hup2,hres⟩
          have hl2:=hJ2.len
          have hbox2:=(hJ2.kept.block _ hwb (fun e=>by
            have e:cb=w.heap.size:=by simpa [Zbt,Value.ownBlock] using e
            omega)).trans Hbox.out
          have b0:w1.cell? ⟨gb,0,none⟩=some (.slice (some ⟨cb,0,none⟩) gs.length cap):=Zaa hJ2.at'.box 0 _ rfl
          have hgb2:=Zab hJ2.at'.box
          have hs2:=hJ2.kept.size
          obtain ⟨ca,hca⟩:∃ c,gs2[ak]?=some c:=⟨_,Qb (by omega)⟩
          obtain ⟨cb2,hcb2⟩:∃ c,gs2[bk]?=some c:=⟨_,Qb (by omega)⟩
          have hat2:GAt w1 gb (.slice (some ⟨cb,0,none⟩) gs2.length cap) gs2:=by rw [hl2,hl']; exact hJ2.at'
          obtain ⟨_,_,_,a3,_,_⟩:=hat2.cell hca
          obtain ⟨_,_,_,b3,_,_⟩:=hat2.cell hcb2
          rw [(hJ2.cells.all _ _ hca).2] at a3
          rw [(hJ2.cells.all _ _ hcb2).2] at b3
          have HJ2:=Zac hJ2
          have Hup2:=Zac hup2
          have Hbox2:=Zac hbox2
          clear hJ2 hup2 hbox2 hat2 hca hcb2
          rcases hres with ⟨rfl,hj2⟩ | ⟨rfl,hcl⟩
          · have Hj2:=Zac hj2
            clear hj2
            go_wp2
            go_roundg (s.args - k)
            case measure=>omega
            case rel =>
              refine ⟨k+1,gs2,ρ2,rk2,by rw [Zby,← Hak.out],by rw [Zby,← Hbk.out],by go_num,by omega,by omega,HJ.out.trans HJ2.out,Hup2.out,?_,Hbox2.out⟩
              rw [Zrx,Zrx,← Hak.out,← Hbk.out]
              have hG:=Yed Hw.out
              refine Joined.snoc hG Hj.out Hj2.out (fun j hj => ?_) (fun j hj => ?_)
              · obtain ⟨i,hi⟩:=List.mem_iff_getElem?.1 hj
                have hi2:=(Qa.1 hi).1
                rw [Zcv] at hi2
                rw [Zbx l (x+1) k i hi2] at hi
                simp at hi
                subst hi
                have:=Hkl.out i (by omega)
                show _<l.length
                have:=Hc.out.len; omega
              · obtain ⟨i,hi⟩:=List.mem_iff_getElem?.1 hj
                have hi2:=(Qa.1 hi).1
                rw [Zcv] at hi2
                rw [Zbx l (y+1) k i hi2] at hi
                simp at hi
                subst hi
                have:=Hkr.out i (by have:=Har.out; omega)
                show _<l.length
                have:=Hc.out.len; omega
          · have Hcl:=Zac hcl
            clear hcl
            go_wp2
            go_ret
            refine ⟨gs2,HJ.out.trans HJ2.out,ρ2,rk2,Hup2.out,Or.inr ⟨rfl,Or.inr (Or.inr ?_)⟩⟩
            have hc1:=Hcl.out
            rw [Hak.out,Hbk.out] at hc1
            have:=Clash.snoc Hj.out hc1 ((Zbc l (x+1) s.args).drop (k+1)) ((Zbc l (y+1) t.args).drop (k+1))
            rw [← Znz hlt,← Znz (by have:=Har.out; omega)] at this
            rw [Hkx.out,Hky.out]; exact this
        · have hek:k=s.args:=by omega
          subst hek
          go_wp2
          go_ret
          refine ⟨gs',HJ.out,ρ',rk',Hup.out,Or.inl ⟨rfl,?_,?_,?_⟩⟩
          · rw [← Hs.out,← Ht.out]; exact Hnm.out
          · rw [← Hs.out,← Ht.out]; exact Har.out
          · rw [Hkx.out,Hky.out,← Har.out]; exact Hj.out
    · have hnb:(s.name != t.name)=false:=by rw [hnm]; simp
      have hab:((s.args:Int) != (t.args:Int))=true:=by rw [bne_iff_ne]; omega
      have Hd:=Zac har
      clear hnm har
      go_enter Tryd.func86,Tryd.ntmps86
      go_wp2
      all_goals
        go_ret
        exact Hno.out _ (((Qx _ w).alloc _).alloc _) (Or.inr Hd.out)
  · have hnb:(s.name == t.name)=false:=by simpa using hnm
    have Hd:=Zac hnm
    clear hnm
    go_enter Tryd.func86,Tryd.ntmps86
    go_wp2
    all_goals
      go_ret
      exact Hno.out _ (((Qx _ w).alloc _).alloc _) (Or.inl Hd.out)
theorem Ybn (m:Nat) (IH:∀ k,k<m→Zny k):Zpr m:=by
  intro w gb v gs l ρ rk a b h hc hw hu hm ha hb hl
  have hrt:=hu.rt
  rw [Ql] at hrt
  have hx:=hrt.lt a ha
  have hy:=hrt.lt b hb
  have rx:=hrt.idem a ha
  have ry:=hrt.idem b hb
  obtain ⟨x,hxe⟩:∃ x,x=ρ a:=⟨_,rfl⟩
  obtain ⟨y,hye⟩:∃ y,y=ρ b:=⟨_,rfl⟩
  rw [← hxe] at hx rx
  rw [← hye] at hy ry
  obtain ⟨cx,hcx⟩:∃ c,gs[x]?=some c:=⟨_,Qb hx⟩
  obtain ⟨cy,hcy⟩:∃ c,gs[y]?=some c:=⟨_,Qb hy⟩
  obtain ⟨cb,cap,rfl,hcb,hcap,hne,hfz⟩:=h.shape (by omega)
  have b0:w.cell? ⟨gb,0,none⟩=some (.slice (some ⟨cb,0,none⟩) gs.length cap):=Zaa h.box 0 _ rfl
  have hgb:=Zab h.box
  have x4:=(h.cell hcx).2.2.2.2.1
  have y4:=(h.cell hcy).2.2.2.2.1
  obtain ⟨sx,_⟩:=hc.all x cx hcx
  obtain ⟨sy,_⟩:=hc.all y cy hcy
  have hlen:=hc.len
  rw [hlen] at hrt
  have hG:=Yed hw
  have Hra:=Zac (Zfw w gb _ gs ρ rk a h hu ha hl)
  have Hrb:=Zac (Zfw w gb _ gs ρ rk b h hu hb hl)
  rw [← hxe] at Hra
  rw [← hye] at Hrb
  have HVx:=Zac (Zim w gb _ gs x cx h hcx hl)
  have hax:a<(grOf l).n:=by show a<l.length; omega
  have hbx:b<(grOf l).n:=by show b<l.length; omega
  have hul:∀ x y,x<gs.length→y<gs.length→ρ x=x→ρ y=y→x≠y→UpOk ((Zhj gs x y).map GC.up) (mg ρ x y) (fun i=>if ρ i=x then rk i+rk y+1 else rk i):=fun x y h1 h2 h3 h4 h5=>by
    rw [Zvm]
    exact hu.turn (by simpa using h1) (by simpa using h2) h3 h4 h5
  have hro:∀ x y,x<gs.length→ρ x=x→x≠y→Zge ((Zhj gs x y).map GC.up)<Zge (gs.map GC.up):=fun x y h1 h3 h5=>by
    rw [Zvm]
    obtain ⟨c',e1,e2,_⟩:=hu.root _ x _ (Qe _) (Qb (by simpa using h1))
    rw [h3] at e1 e2
    exact Zre e1 e2 h5
  have hla:∀ (x y:Nat) c,gs[x]?=some c→GAt (w.setCell ⟨cb,x * 6+4,none⟩ (.int .i64 y)) gb (.slice (some ⟨cb,0,none⟩) gs.length cap) (Zhj gs x y):=fun x y c h1=>h.put h1 (f:=fun c => { c with leader:=y }) (by omega) rfl
  have hsz:∀ x y,(Zhj gs x y).map (·.size)=gs.map (·.size):=fun x y=>by
    apply List.ext_getElem?
    intro i
    rw [Qj,Qj,Zhj,List.getElem?_modify]
    cases gs[i]? with
    | none=>rfl
    | some c=>simp; split <;> rfl
  have hkp:∀ i u,Kept (Zbt (.slice (some ⟨cb,0,none⟩) gs.length cap)) w (w.setCell ⟨cb,i,none⟩ u):=fun i u=>(Qx _ w).setCell (p:=⟨cb,i,none⟩) (fun _=>(rfl:some cb=some cb)) u
  have H:=Zac h
  have Hc:=Zac hc
  have Hw:=Zac hw
  have Hu:=Zac hu
  have Hm:=Zac hm
  have Hrt:=Zac hrt
  have HG:=Zac hG
  have Hih:=Zac IH
  have Hxe:=Zac hxe
  have Hye:=Zac hye
  have Hrx:=Zac rx
  have Hry:=Zac ry
  have Hcx:=Zac hcx
  have Hcy:=Zac hcy
  have Hul:=Zac hul
  have Hro:=Zac hro
  have Hla:=Zac hla
  have Hsz:=Zac hsz
  have Hkp:=Zac hkp
  have Hsx:=Zac sx
  have Hsy:=Zac sy
  clear h hc hw hu hm hrt hG IH hxe hye rx ry hcx hcy hul hro hla hsz hkp sx sy
  by_cases hxy:x=y
  · have hxy':((x:Int) == (y:Int))=true:=by rw [beq_iff_eq]; omega
    have Hxy:=Zac hxy
    clear hxy
    go_enter Tryd.func75,Tryd.ntmps75
    go_wp2_with fail
    refine Hra.out.mono ?_
    rintro e w1 ⟨rfl,rfl⟩
    go_wp2_with fail
    refine Hrb.out.mono ?_
    rintro e w1 ⟨rfl,rfl⟩
    go_wp2
    go_ret
    exact ⟨gs,⟨H.out,Hc.out,rfl,Qx _ _,Qe _⟩,ρ,rk,Hu.out,Or.inl ⟨rfl,Joined.same Hrt.out (Hxe.out.symm.trans (Hxy.out.trans Hye.out))⟩⟩
  · have hxy':((x:Int) == (y:Int))=false:=by rw [Qu]; omega
    have Hxy:=Zac hxy
    clear hxy
    by_cases hvx:cx.sym.name=[]
    · have hv:cx.sym.name.isEmpty=true:=by simpa using hvx
      rw [hv] at HVx
      go_enter Tryd.func75,Tryd.ntmps75
      go_wp2_with fail
      refine Hra.out.mono ?_
      rintro e w1 ⟨rfl,rfl⟩
      go_wp2_with fail
      refine Hrb.out.mono ?_
      rintro e w1 ⟨rfl,rfl⟩
      go_wp2_with fail
      refine HVx.out.mono ?_
      rintro e w1 ⟨rfl,rfl⟩
      go_wp2
      go_ret
      exact ⟨Zhj gs x y,⟨Hla.out x y cx Hcx.out,Hc.out.lead _ _,Hsz.out _ _,Hkp.out _ _,Nat.le_of_lt (Hro.out x y hx Hrx.out Hxy.out)⟩,_,_,Hul.out x y hx hy Hrx.out Hry.out Hxy.out,
        Or.inl ⟨rfl,Joined.var Hrt.out hax hbx (Or.inl ⟨Hxe.out,Hye.out⟩) Hxy.out (by show (Zau l x).name=[]; rw [← Hsx.out]; exact hvx)⟩⟩
    · have hv:cx.sym.name.isEmpty=false:=by simpa using hvx
      rw [hv] at HVx
      obtain ⟨W1,hW1⟩:∃ W,W=w.setCell ⟨cb,y * 6+4,none⟩ (.int .i64 x):=⟨_,rfl⟩
      have hA1:=Hla.out y x cy Hcy.out
      rw [← hW1] at hA1
      have hyx:y≠x:=fun e=>Hxy.out e.symm
      have hcy1:(Zhj gs y x)[y]?=some { cy with leader:=x }:=by
        rw [Zhj,List.getElem?_modify,Hcy.out]; simp
      have HVy:=Zac (Zim W1 gb _ (Zhj gs y x) y _ hA1 hcy1 (by rw [Zht]; exact hl))
      have HK1:Hid (Kept (Zbt (.slice (some ⟨cb,0,none⟩) gs.length cap)) w W1):=by rw [hW1]; exact Hkp.out _ _
      have HA1:=Zac hA1
      have HW1:=Zac hW1
      clear hA1 hW1 hcy1
      by_cases hvy:cy.sym.name=[]
      · have hv2:cy.sym.name.isEmpty=true:=by simpa using hvy
        rw [hv2] at HVy
        go_enter Tryd.func75,Tryd.ntmps75
        go_wp2_with fail
        refine Hra.out.mono ?_
        rintro e w1 ⟨rfl,rfl⟩
        go_wp2_with fail
        refine Hrb.out.mono ?_
        rintro e w1 ⟨rfl,rfl⟩
        go_wp2_with fail
        refine HVx.out.mono ?_
        rintro e w1 ⟨rfl,rfl⟩
        go_wp2_with fail
        rw [← HW1.out]
        refine HVy.out.mono ?_
        rintro e w2 ⟨rfl,rfl⟩
        go_wp2
        go_ret
        exact ⟨Zhj gs y x,⟨HA1.out,Hc.out.lead _ _,Hsz.out _ _,HK1.out,Nat.le_of_lt (Hro.out y x hy Hry.out hyx)⟩,_,_,Hul.out y x hy hx Hry.out Hrx.out hyx,
          Or.inl ⟨rfl,Joined.var Hrt.out hax hbx (Or.inr ⟨Hye.out,Hxe.out⟩) hyx (by show (Zau l y).name=[]; rw [← Hsy.out]; exact hvy)⟩⟩
      · have hv2:cy.sym.name.isEmpty=false:=by simpa using hvy
        rw [hv2] at HVy
        have hro1:=Hro.out y x hy Hry.out hyx
        have HI:=Zac (Hih.out (Zge ((Zhj gs y x).map GC.up)) (by have:=Hm.out; omega) W1 gb (.slice (some ⟨cb,0,none⟩) gs.length cap) (Zhj gs y x) l (mg ρ y x) _ x y HA1.out (Hc.out.lead _ _) Hw.out (Hul.out y x hy hx Hry.out Hrx.out hyx) (Qe _) (by rw [Zht]; exact hx) (by rw [Zht]; exact hy) (by rw [Zht]; exact hl))
        have Hnx:Hid ((Zau l x).name≠[]):=by show _≠_; rw [← Hsx.out]; exact hvx
        have Hny:Hid ((Zau l y).name≠[]):=by show _≠_; rw [← Hsy.out]; exact hvy
        have Hrl:=Zac hro1
        clear hvx hvy hro1
        go_enter Tryd.func75,Tryd.ntmps75
        go_wp2_with fail
        refine Hra.out.mono ?_
        rintro e w1 ⟨rfl,rfl⟩
        go_wp2_with fail
        refine Hrb.out.mono ?_
        rintro e w1 ⟨rfl,rfl⟩
        go_wp2_with fail
        refine HVx.out.mono ?_
        rintro e w1 ⟨rfl,rfl⟩
        go_wp2_with fail
        rw [← HW1.out]
        refine HVy.out.mono ?_
        rintro e w2 ⟨rfl,rfl⟩
        go_wp2_with fail
        refine HI.out.mono ?_
        rintro e w2 ⟨gs2,hJ2,ρ2,rk2,hup2,hres⟩
        have Hout:Hid (JoinLeft gb (.slice (some ⟨cb,0,none⟩) gs.length cap) gs l w1 w2 gs2):=⟨hJ2.at',hJ2.cells,hJ2.sizes.trans (Hsz.out _ _),HK1.out.trans hJ2.kept,Qq hJ2.roots (Nat.le_of_lt Hrl.out)⟩
        have Hup2:=Zac hup2
        clear hJ2 hup2
        rcases hres with ⟨rfl,h1,h2,h3⟩ | ⟨rfl,h1⟩
        · have Hj:Hid (Joined (grOf l) ρ ρ2 [a] [b]):=Joined.name HG.out Hrt.out hax hbx (Or.inr ⟨Hye.out,Hxe.out⟩) hyx Hny.out h1.symm h3.swap
          clear h1 h2 h3
          go_wp2
          go_ret
          exact ⟨gs2,Hout.out,ρ2,rk2,Hup2.out,Or.inl ⟨rfl,Hj.out⟩⟩
        · have Hcl:Hid (Clash (grOf l) ρ [a] [b]):=by
            by_cases hn:(Zau l x).name=(Zau l y).name
            · rcases h1 with h1 | h1 | h1
              · exact absurd hn h1
              · exact Zln HG.out Hrt.out hax hbx (Or.inr ⟨Hye.out,Hxe.out⟩) Hny.out Hnx.out (Or.inr (fun e=>h1 e.symm))
              · exact Zwi HG.out Hrt.out hax hbx (Or.inr ⟨Hye.out,Hxe.out⟩) Hny.out hn.symm h1.swap
            · exact Zln HG.out Hrt.out hax hbx (Or.inr ⟨Hye.out,Hxe.out⟩) Hny.out Hnx.out (Or.inl (fun e=>hn e.symm))
          clear h1
          go_wp2
          go_ret
          exact ⟨gs2,Hout.out,ρ2,rk2,Hup2.out,Or.inr ⟨rfl,Hcl.out⟩⟩
theorem Yee (m:Nat):Zpr m:=by
  induction m using Nat.strongRecOn with
  | _ m ih=>exact Ybn m (fun k hk=>Ztw k (ih k hk))
def Zfs (l:List Sym) (gs:List GC) (p:Nat):List GC:=gs.mapIdx (fun i c=>if p≤i then { c with behind:=Zbg l i } else c)
theorem Zfx (l:List Sym) (gs:List GC) (p i:Nat):(Zfs l gs p)[i]?=(gs[i]?).map (fun c=>if p≤i then { c with behind:=Zbg l i } else c):=by
 unfold Zfs; rw [List.getElem?_mapIdx]
theorem Zft (l:List Sym) (gs:List GC) (p:Nat):(Zfs l gs p).length=gs.length:=by simp [Zfs]
theorem Zxu {l:List Sym} {gs:List GC} {p:Nat}:(Zfs l gs (p+1)).modify p (fun c => { c with behind:=Zbg l p })=Zfs l gs p:=by
 apply List.ext_getElem?
 intro i
 rw [List.getElem?_modify,Zfx,Zfx]
 cases gs[i]? with
 | none=>rfl
 | some c =>
  simp
  by_cases e:p=i
  ·subst e
   have h1:¬ p+1≤p:=by omega
   simp [h1]
  ·rw [if_neg e]
   by_cases h:p+1≤i
   ·rw [if_pos h,if_pos (by omega)]
   ·rw [if_neg h,if_neg (by omega)]
theorem Ybo (l:List Sym) (gs:List GC) (p:Nat) (h:gs.length≤p):Zfs l gs p=gs:=by
 apply List.ext_getElem?
 intro i
 rw [Zfx]
 cases hc:gs[i]? with
 | none=>rfl
 | some c =>
  have:=(Qa.1 hc).1
  simp
  omega
theorem Zry (w:World) (gb:Nat) (v:Value) (gs:List GC) (l:List Sym) (h:GAt w gb v gs) (hlen:gs.length=l.length) (hs:∀ i c,gs[i]?=some c→c.sym=Zau l i) (hw:Wf 2 l) (hl:gs.length≤4000) :
  Calls Tryd.prog 83 #[.pointer (some ⟨gb,0,none⟩)] w fun e w'=>e = .returned (.tuple #[])∧GAt w' gb v (Zfs l gs 0)∧Kept (Zbt v) w w':=by
 have hpos:0<gs.length:=by have:=Zeg hw; omega
 obtain ⟨cb,cap,rfl,hcb,hcap,hne,hfz⟩:=h.shape hpos
 have b0:w.cell? ⟨gb,0,none⟩=some (.slice (some ⟨cb,0,none⟩) gs.length cap):=Zaa h.box 0 _ rfl
 have hgb:=Zab h.box
 have H:=Zac h
 have Hs:=Zac hs
 have Hw:=Zac hw
 have Hlen:=Zac hlen
 clear h hs hw hlen
 go_enter Tryd.func83,Tryd.ntmps83
 go_wp2
 go_loopg [2] (gs.length+1) (fun gk iv wr=>∃ (p:Nat),iv = .int .i64 ((p:Int) - 1)∧p≤gs.length∧p<gk∧GAt wr gb (.slice (some ⟨cb,0,none⟩) gs.length cap) (Zfs l gs p)∧Kept (Zbt (.slice (some ⟨cb,0,none⟩) gs.length cap)) w wr)
 case atStart=>exact ⟨gs.length,rfl,Qe _,by omega,by rw [Ybo _ _ _ (Qe _)]; exact H.out,Qx _ _⟩
 case round =>
  obtain ⟨p,rfl,hp,hgk,hG,hkp⟩:=hrel
  have hsr:=hkp.size
  have b0:wr.cell? ⟨gb,0,none⟩=some (.slice (some ⟨cb,0,none⟩) gs.length cap):=Zaa hG.box 0 _ rfl
  have hgb':=Zab hG.box
  have hcb':cb<wr.heap.size:=by omega
  have hfz':∀ j,wr.frozen? ⟨cb,j,none⟩=false:=by
   obtain ⟨cb',cap',e,_,_,_,hf⟩:=hG.shape (by rw [Zft]; exact hpos)
   simp at e
   obtain ⟨rfl,_⟩:=e
   exact hf
  have HG:=Zac hG
  have Hkp:=Zac hkp
  clear hG hkp
  cases p with
  | zero =>
   have hneg:¬ ((0:Int)≤((0:Nat):Int) - 1):=by omega
   go_wp2
   go_end0
   exact ⟨rfl,HG.out,Hkp.out⟩
  | succ p =>
   have hpi:(((p+1:Nat):Int) - 1)=(p:Int):=by omega
   have hpos':(0:Int)≤(p:Int):=by omega
   have hpl:p<gs.length:=by omega
   obtain ⟨c,hc⟩:∃ c,gs[p]?=some c:=⟨_,Qb hpl⟩
   have hcm:(Zfs l gs (p+1))[p]?=some c:=by rw [Zfx,hc]; simp; intro h; omega
   have hG':GAt wr gb (.slice (some ⟨cb,0,none⟩) (Zfs l gs (p+1)).length cap) (Zfs l gs (p+1)):=by rw [Zft]; exact HG.out
   obtain ⟨_,_,c2,c3,_,_⟩:=hG'.cell hcm
   have hsy:=Hs.out p c hc
   have hlen:=Hlen.out
   obtain ⟨ex1,ex2,ex3⟩:=Zhc Hw.out (i:=p) (by omega)
   obtain ⟨_,_,_,_,_,hbx,_⟩:=Zek Hw.out (i:=p) (by omega)
   rw [← hsy] at ex1 ex2 ex3
   have hkl:∀ k,k<c.sym.args→p<Zar l (p+1) k∧Zar l (p+1) k<gs.length:=fun k hk=>by
    have:=ex2 _ (Qh (Zbx l (p+1) _ k hk))
    omega
   have hargs:c.sym.args≤4000:=by
    rcases Nat.lt_or_ge 4000 c.sym.args with h3 | h3
    ·exfalso
     have mono:∀ k,k≤c.sym.args→p+1+k≤Zar l (p+1) k:=by
      intro k
      induction k with
      | zero=>intro _; simp [Zar]
      | succ k ih =>
       intro hk
       have:=ih (by omega)
       rw [Zby]
       have:=hkl k (by omega)
       obtain ⟨_,_,_,_,h6,_⟩:=Zek Hw.out (i:=Zar l (p+1) k) (by omega)
       omega
     have:=mono 4000 (by omega)
     have:=hkl 4000 h3
     omega
    ·exact h3
   have Hkl:=Zac hkl
   have Hex3:=Zac ex3
   have Hcm:=Zac hcm
   have Hg':=Zac hG'
   have Hbx:=Zac hbx
   clear hkl ex1 ex2 ex3 hcm hG' hbx hsy hc hlen
   obtain ⟨wo,hwo⟩:∃ x,x=wr:=⟨_,rfl⟩
   subst hwo
   rw [hpi]
   go_wp2
   go_loopg [3,4] (c.sym.args+1) (fun gk ev nv wr=>∃ (k:Nat),ev = .int .i64 (Zar l (p+1) k:Nat)∧nv = .int .i64 k∧k≤c.sym.args∧c.sym.args - k<gk∧wr=wo)
   case atStart=>exact ⟨0,by simp [Zar],by go_num,Qm _,by omega,rfl⟩
   case round =>
    obtain ⟨k,rfl,rfl,hk,hgk2,rfl⟩:=hrel
    by_cases hlt:k<c.sym.args
    ·obtain ⟨h1,h2⟩:=Hkl.out k hlt
     obtain ⟨q,hq⟩:∃ q,q=Zar l (p+1) k:=⟨_,rfl⟩
     rw [← hq] at h1 h2 ⊢
     obtain ⟨cq,hcq⟩:∃ c,(Zfs l gs (p+1))[q]?=some c:=⟨_,Qb (by rw [Zft]; exact h2)⟩
     obtain ⟨_,_,_,q3,_,_⟩:=Hg'.out.cell hcq
     have hbq:cq.behind=Zbg l q:=by
      rw [Zfx] at hcq
      cases hd:gs[q]? with
      | none=>rw [hd] at hcq; simp at hcq
      | some d =>
       rw [hd] at hcq
       simp at hcq
       rw [if_pos (by omega)] at hcq
       rw [← hcq]
     rw [hbq] at q3
     have Hq:=Zac hq
     clear hcq hbq hq
     go_wp2
     go_roundg (c.sym.args - k)
     case measure=>omega
     case rel=>exact ⟨k+1,by rw [Zby,← Hq.out],by go_num,by omega,by omega,rfl⟩
    ·have hek:k=c.sym.args:=by omega
     subst hek
     obtain ⟨q,hq⟩:∃ q,q=Zar l (p+1) c.sym.args:=⟨_,rfl⟩
     rw [← hq]
     have Hq:=Zac hq
     clear hq
     go_wp2
     go_roundg (p+1)
     case measure=>omega
     case rel =>
      refine ⟨p,by rfl,by omega,by omega,?_,Hkp.out.trans ((Qx _ wr).setCell (p:=⟨cb,p * 6+3,none⟩) (fun _=>(rfl:some cb=some cb)) _)⟩
      have:=Hg'.out.put Hcm.out (f:=fun c => { c with behind:=Zbg l p }) (j:=3) (u := .int .i64 (Zbg l p:Nat)) (by omega) rfl
      rw [Zxu,Zft] at this
      rw [Hq.out,Hex3.out]
      exact this
theorem Ygn {a0:Act} {vc:Value} {β:Nat→Nat} {lst:Nat→Bool}:∀ {ops:List Oper} {kd:List Kd} {k:Nat},(pa a0 vc β lst k ops kd).tmps.size=a0.tmps.size:=by
 intro ops
 induction ops with
 | nil=>intro kd k; simp [pa]
 | cons o os ih =>
  intro kd k
  cases kd with
  | nil=>simp [pa]
  | cons q qs =>
   rw [pa]
   split
   ·cases o.dst <;> simp [Act.put,ih]
   ·exact ih
theorem Yhv {a0:Act} {vc:Value} {β:Nat→Nat} {lst:Nat→Bool}:∀ {ops:List Oper} {kd:List Kd} {k i:Nat} {o:Oper} {q:Kd} {d:Nat},ops[i]?=some o→kd[i]?=some q→lst (k+i)=true→o.dst=some d →
  (∀ j p,ops[j]?=some p→p.dst=some d→j=i)→d<a0.tmps.size→(pa a0 vc β lst k ops kd).tmps[d]?=some (q.val vc β (k+i)):=by
 intro ops
 induction ops with
 | nil=>intro kd k i o q d h; simp at h
 | cons p os ih =>
  intro kd k i o q d ho hq hl hd hu hs
  cases kd with
  | nil=>simp at hq
  | cons r qs =>
   cases i with
   | zero =>
    simp at ho hq
    subst ho hq
    simp only [Nat.add_zero] at hl ⊢
    rw [pa,if_pos hl,hd]
    simp only [Act.put]
    rw [Array.getElem?_setIfInBounds_self_of_lt (by rw [Ygn]; exact hs)]
   | succ i =>
    have e:k+(i+1)=k+1+i:=by omega
    have ih':=ih (kd:=qs) (k:=k+1) (i:=i) (by simpa using ho) (by simpa using hq) (by rw [← e]; exact hl) hd (fun j p' hp hd'=>by
     have:=hu (j+1) p' (by simpa using hp) hd'
     omega) hs
    rw [e,pa]
    have hne:p.dst≠some d:=fun hd'=>by have:=hu 0 p rfl hd'; omega
    split
    ·cases hpd:p.dst with
     | none=>simpa [Act.put] using ih'
     | some d' =>
      have:d'≠d:=fun e'=>hne (by rw [hpd,e'])
      simp only [Act.put]
      rw [Array.getElem?_setIfInBounds_ne (by exact this)]
      exact ih'
    ·exact ih'
def Zjp (T:Nat) (ops:List Oper) (kd:List Kd) (ic fi:Nat):Bool :=
 ops.length == kd.length &&
 (List.range ops.length).all fun i=>match ops[i]?,kd[i]? with
  | some o,some q =>
   (match o.guard with
    | none=>true
    | some (j,b)=>Zdn o j && (match kd[j]?,ops[j]? with
     | some (.pur (.bool c)),some p=>c == b && (match p.dst with | some d=>decide (d<T) | none=>false)
     | _,_=>false)) && (match o.op with | .select .. => false | _=>true) &&
   (o.after.all fun e => !Region.binds .any e || e.on<i) &&
   ((List.range ops.length).all fun j=>match ops[j]? with
    | some p=>match p.dst with
     | some d=>((j == i) || (o.dst != some d)) && (!(o.looksAt ops.toArray).contains d || Zdn o j)
     | none=>true
    | none=>true) &&
   (match q with
    | .pur _=>(List.range ops.length).any fun j=>i<j && (match ops[j]?,kd[j]? with | some p,some r=>Zdn p i && Ygc r | _,_=>false)
    | .cal=>i == ic
    | .post _=>(List.range i).any fun j=>Zdn o j && (match kd[j]? with | some r=>Zep r | none=>false)
    | .alo .. => false
    | .sto _=>i == fi && o.dst.isNone && ((List.range i).any fun j=>Zdn o j && (match kd[j]? with | some r=>Zep r | none=>false)))
  | _,_=>false
structure LastAtG (T:Nat) (ops:List Oper) (kd:List Kd) (ic fi i:Nat) (o:Oper) (q:Kd):Prop where
 gd:o.guard=none∨∃ j b p d,o.guard=some (j,b)∧Zdn o j=true∧kd[j]?=some (.pur (.bool b))∧ops[j]?=some p∧p.dst=some d∧d<T
 sel:∀ cs b,o.op ≠ .select cs b
 low:∀ e ∈ o.after,Region.binds .any e=true→e.on<i
 dst:∀ j p d,ops[j]?=some p→p.dst=some d→j=i∨o.dst≠some d
 look:∀ j p d,ops[j]?=some p→p.dst=some d→d ∈ o.looksAt ops.toArray→Zdn o j=true
 pur:∀ c,q = .pur c→∃ j p r,i<j∧ops[j]?=some p∧kd[j]?=some r∧Zdn p i=true∧Ygc r=true
 cal:q = .cal→i=ic
 post:Zdg q=true→∃ j r,Zdn o j=true∧kd[j]?=some r∧Zep r=true
 alo:∀ t z s cs,q ≠ .alo t z s cs
 sto:∀ k,q = .sto k→i=fi∧o.dst=none
theorem Zps {T:Nat} {ops:List Oper} {kd:List Kd} {ic fi:Nat} (h:Zjp T ops kd ic fi=true) {i:Nat} {o:Oper} (ho:ops[i]?=some o):∃ q,kd[i]?=some q∧LastAtG T ops kd ic fi i o q:=by
 unfold Zjp at h
 simp only [Bool.and_eq_true,List.all_eq_true,List.mem_range,beq_iff_eq] at h
 obtain ⟨hl,h⟩:=h
 have hi:=(Qa.1 ho).1
 have h:=h i hi
 rw [ho] at h
 cases hq:kd[i]? with
 | none=>rw [hq] at h; simp at h
 | some q =>
  rw [hq] at h
  simp only [Bool.and_eq_true,List.all_eq_true,List.mem_range] at h
  obtain ⟨⟨⟨⟨h1,h2⟩,h3⟩,h4⟩,h5⟩:=h
  have hpost:∀ (b:Bool),((List.range i).any fun j=>Zdn o j && (match kd[j]? with | some r=>Zep r | none=>false))=true→∃ j r,Zdn o j=true∧kd[j]?=some r∧Zep r=true:=by
   intro _ h
   simp only [List.any_eq_true,List.mem_range,Bool.and_eq_true] at h
   obtain ⟨j,_,h6,h7⟩:=h
   cases hr:kd[j]? with
   | none=>rw [hr] at h7; simp at h7
   | some r=>rw [hr] at h7; exact ⟨j,r,h6,hr,h7⟩
  refine ⟨q,rfl,?_,?_,?_,?_,?_,?_,?_,?_,?_,?_⟩
  ·cases hgd:o.guard with
   | none=>exact Or.inl rfl
   | some jb =>
    obtain ⟨j,b⟩:=jb
    rw [hgd] at h1
    simp only [Bool.and_eq_true] at h1
    obtain ⟨h6,h7⟩:=h1
    cases hk:kd[j]? with
    | none=>rw [hk] at h7; simp at h7
    | some r =>
     cases hp:ops[j]? with
     | none=>rw [hk,hp] at h7; cases r <;> simp at h7
     | some p =>
      rw [hk,hp] at h7
      cases r with
      | pur c =>
       cases c with
       | bool c =>
        simp only [Bool.and_eq_true,beq_iff_eq] at h7
        obtain ⟨h8,h9⟩:=h7
        cases hd:p.dst with
        | none=>rw [hd] at h9; simp at h9
        | some d =>
         rw [hd] at h9
         subst h8
         exact Or.inr ⟨j,c,p,d,rfl,h6,hk,hp,hd,by simpa using h9⟩
       | _=>simp at h7
      | _=>simp at h7
  ·intro cs b e; rw [e] at h2; simp at h2
  ·intro e he hb
   have:=Array.all_eq_true_iff_forall_mem.1 h3 e he
   simpa [hb] using this
  ·intro j p d hp hd
   have:=h4 j (Qa.1 hp).1
   rw [hp] at this
   simp only [hd,Bool.and_eq_true,Bool.or_eq_true,beq_iff_eq,bne_iff_ne] at this
   exact this.1
  ·intro j p d hp hd hm
   have:=h4 j (Qa.1 hp).1
   rw [hp] at this
   simp only [hd,Bool.and_eq_true,Bool.or_eq_true,beq_iff_eq,bne_iff_ne] at this
   rcases this.2 with h | h
   ·simp [hm] at h
   ·exact h
  ·intro c e
   subst e
   simp only [List.any_eq_true,List.mem_range,Bool.and_eq_true] at h5
   obtain ⟨j,hj,h6,h7⟩:=h5
   have hp:ops[j]?=some ops[j]:=Qb hj
   cases hr:kd[j]? with
   | none=>rw [hp,hr] at h7; simp at h7
   | some r =>
    rw [hp,hr] at h7
    simp only [Bool.and_eq_true] at h7
    exact ⟨j,_,r,by simpa using h6,hp,hr,h7.1,h7.2⟩
  ·intro e; subst e; simpa using h5
  ·intro hp
   cases q with
   | post g=>exact hpost true h5
   | sto k =>
    simp only [Bool.and_eq_true] at h5
    exact hpost true h5.2
   | _=>simp [Zdg] at hp
  ·intro t z s cs e; subst e; simp at h5
  ·intro k e
   subst e
   simp only [Bool.and_eq_true,beq_iff_eq] at h5
   exact ⟨h5.1.1,by simpa using h5.1.2⟩
theorem Zrz {P:Program} {ops:List Oper} {id:Nat} {Q:Exit→Act→World→Prop} {a0:Act} {w:World} (hm:P.follows .mixedOrders=true) (kd:List Kd) (ic fi:Nat) (hfit:Zjp a0.tmps.size ops kd ic fi=true)
  (R R':Value→World→Prop) (f:FuncId) (args:Array Value)
  (hC:Calls P f args w.drew (fun e u'=>∃ v,e = .returned v∧R v u'))
  (hob:AllObL P w.drew (fun vc=>paAll a0 ops kd vc noB) R R' f args ops kd)
  (hcal:kd[ic]?=some .cal) (hil:ic<ops.length) (hfi:(∃ k,kd[fi]?=some (.sto k))∨(ops.length≤fi∧∀ v u,R v u→R' v u))
  (hQ:∀ vc u,R' vc u→Q .normal (paAll a0 ops kd vc noB) u) :
  (Code.region id ops.toArray true).wp P Q a0 w:=by
 have hlen:ops.length=kd.length:=by
  unfold Zjp at hfit
  simp only [Bool.and_eq_true,beq_iff_eq] at hfit
  exact hfit.1
 have hkat:∀ {i':Nat} {q':Kd},kd[i']?=some q'→∃ o',ops[i']?=some o'∧LastAtG a0.tmps.size ops kd ic fi i' o' q':=fun {i' q'} h1=>by
  have ho:=Qb (l:=ops) (i:=i') (by have:=(Qa.1 h1).1; omega)
  obtain ⟨q2,hq2,hF2⟩:=Zps hfit ho
  rw [h1] at hq2; simp at hq2; subst hq2
  exact ⟨_,ho,hF2⟩
 refine wp_region_any hm (Zmd (J:=LastPlan ops kd ic fi a0 w.drew R R') ?_ ?_ _ _ _ _ ?_ ?_)
 ·intro L a u i hr hJ
  obtain ⟨hsz,hcl,vc,rfl,hw0,hcR,hpost⟩:=hJ
  obtain ⟨h0,o,ho',_⟩:=mem_ready.1 hr
  have ho:ops[i]?=some o:=by simpa using ho'
  have hi:i<ops.length:=(Qa.1 ho).1
  have hil:i<L.size:=by omega
  have hun:L.getD i false=false:=by simp [hil] at h0 ⊢; exact h0
  obtain ⟨q,hq,hF⟩:=Zps hfit ho
  have hOb:=hob.at ho hq
  have hexec:execOp (pa a0 vc noB (fun j=>L.getD j false) 0 ops kd).eval o=execOp (paAll a0 ops kd vc noB).eval o:=by
   refine execOp_congr o hF.sel (fun x hx=>Zti (fun j p hp hl d hd e => ?_))
   subst e
   have hw:=hF.look j p d hp hd (List.mem_append_left _ (List.mem_filterMap.2 ⟨.tmp d,by simpa using hx,rfl⟩))
   have:=Zcc hr ho hw
   simp only [Nat.zero_add] at hl
   rw [hl] at this
   simp at this
  have hwant:Region.wanted o (yielded ops.toArray (pa a0 vc noB (fun j=>L.getD j false) 0 ops kd).tmps)=true:=by
   rcases hF.gd with hg | ⟨j,b,p,d,hg,h1,h2,h3,h4,h5⟩
   ·simp [Region.wanted,hg]
   ·obtain ⟨o',ho',hF'⟩:=hkat h2
    rw [h3] at ho'
    simp only [Qo] at ho'
    subst ho'
    have ht:=Yhv (a0:=a0) (vc:=vc) (β:=noB) (lst:=fun j=>L.getD j false) (k:=0) h3 h2 (by simpa using Zcc hr ho h1) h4 (fun j' p' h6 h7=>by
     rcases hF'.dst j' p' d h6 h7 with h | h
     ·exact h
     ·exact absurd h4 h) h5
    have hy:yielded ops.toArray (pa a0 vc noB (fun j=>L.getD j false) 0 ops kd).tmps j=some b:=by
     unfold yielded
     simp only [List.getElem?_toArray,h3,Option.bind_some,h4,ht,Kd.val]
    unfold Region.wanted
    rw [hg]
    simp only
    rw [hy]
    simp
  have hL:=Ziw hil
  have hput:∀ vc',(∀ j r,kd[j]?=some r→L.getD j false=true→r.val vc noB j=r.val vc' noB j) →
    (pa a0 vc noB (fun j=>L.getD j false) 0 ops kd).put o.dst (q.val vc' noB i)=pa a0 vc' noB (fun j=>(L.setIfInBounds i true).getD j false) 0 ops kd:=by
   intro vc' hv
   have e1:pa a0 vc noB (fun j=>L.getD j false) 0 ops kd=pa a0 vc' noB (fun j=>L.getD j false) 0 ops kd:=Zfd (fun j r hr'=>by
    simp only [Nat.zero_add]
    exact ⟨trivial,fun hl=>hv j r hr' hl⟩)
   rw [e1]
   have e2:=Yay (a0:=a0) (vc:=vc') (β:=noB) (lst:=fun j=>L.getD j false) (k:=0) ho hq (by simpa using hun) hF.dst
   simp only [Nat.zero_add] at e2
   rw [← e2]
   exact Zfd (fun j r hr'=>⟨by simp only [Nat.zero_add,hL],fun _=>rfl⟩)
  have hold:∀ j,L.getD j false=true→(L.setIfInBounds i true).getD j false=true:=fun j h=>by rw [hL,h]; rfl
  have hnew:∀ j,j≠i→(L.setIfInBounds i true).getD j false=L.getD j false:=fun j h=>by
   rw [hL]
   have:(j == i)=false:=by rw [Qu]; exact h
   simp [this]
  have hne:∀ {i':Nat} {q':Kd},kd[i']?=some q'→q'≠q→i'≠i:=fun {i' q'} h1 h2 e=>by
   subst e; rw [hq] at h1; exact h2 (Option.some.inj h1).symm
  have hcl':∀ (i':Nat) o',ops[i']?=some o'→(L.setIfInBounds i true).getD i' false=true→∀ j,Zdn o' j=true→(L.setIfInBounds i true).getD j false=true:=by
   intro i' o' h1 h2 j hj
   by_cases e:i'=i
   ·subst e
    rw [ho] at h1; simp at h1; subst h1
    exact hold _ (Zcc hr ho hj)
   ·exact hold _ (hcl i' o' h1 ((hnew i' e).symm.trans h2) j hj)
  have hpost':Zdg q=false→∀ (i':Nat) q',kd[i']?=some q'→(L.setIfInBounds i true).getD i' false=true→Zdg q'=true→(L.setIfInBounds i true).getD ic false=true:=fun hp i' q' h1 h2 h3 =>
   hold _ (hpost i' q' h1 ((hnew i' (hne h1 (fun e=>by rw [e,hp] at h3; simp at h3))).symm.trans h2) h3)
  have hcall:Zdg q=true→L.getD ic false=true:=fun hp=>by
   obtain ⟨j,r,h1,h2,h3⟩:=hF.post hp
   have hj:=Zcc hr ho h1
   cases r with
   | post g=>exact hpost j _ h2 hj rfl
   | cal =>
    obtain ⟨o',_,hF'⟩:=hkat h2
    have:=hF'.cal rfl
    rw [← this]; exact hj
   | _=>simp [Zep] at h3
  -- the reads stand ahead of the call
  have hahead:∀ (n:Nat) (i':Nat) c,ops.length - i'≤n→kd[i']?=some (.pur c)→L.getD ic false=true→L.getD i' false=true:=by
   intro n
   induction n with
   | zero =>
    intro i' c hn h1 _
    have:=(Qa.1 h1).1
    omega
   | succ n ih =>
    intro i' c hn h1 h2
    obtain ⟨o',_,hF'⟩:=hkat h1
    obtain ⟨j,p,r,h3,h4,h5,h6,h7⟩:=hF'.pur c rfl
    have hjl:L.getD j false=true:=by
     cases r with
     | pur c'=>exact ih j c' (by omega) h5 h2
     | cal =>
      obtain ⟨o2,_,hF2⟩:=hkat h5
      rw [hF2.cal rfl]; exact h2
     | _=>simp [Ygc] at h7
    exact hcl j p h4 hjl i' h6
  unfold wpOp
  simp only [ho']
  rw [if_pos hwant]
  refine Or.inl ?_
  unfold Oper.wp
  rw [hexec]
  cases q with
  | pur c =>
   have hnc:L.getD ic false=false:=by
    cases h:L.getD ic false with
    | false=>rfl
    | true =>
     have:=hahead _ i c (Qe _) hq h
     rw [hun] at this; simp at this
   have hic:ic≠i:=hne hcal (by simp)
   have hu:=hw0 hnc
   subst hu
   rw [hOb vc]
   refine ⟨by simpa using hsz,hcl',vc,hput vc (fun _ _ _ _=>rfl),fun _=>rfl,?_,hpost' rfl⟩
   intro h
   rw [hnew ic hic,hnc] at h
   simp at h
  | post g =>
   have hic:=hcall rfl
   have hfn:fi≠i:=by
    rcases hfi with ⟨k,hk⟩ | ⟨hk,_⟩
    ·exact hne hk (by simp)
    ·omega
   have hS:R vc u∨R' vc u:=by
    cases h:L.getD fi false with
    | false=>exact Or.inl ((hcR hic).1 h)
    | true=>exact (hcR hic).2.1 h
   rw [hOb vc u hS]
   refine ⟨by simpa using hsz,hcl',vc,hput vc (fun _ _ _ _=>rfl),?_,?_,fun i' q' _ _ _=>hold _ hic⟩
   ·intro h
    have:=hold _ hic
    rw [h] at this; simp at this
   ·intro _
    rw [hnew fi hfn]
    exact hcR hic
  | cal =>
   have hie:=hF.cal rfl
   have hnc:L.getD ic false=false:=by rw [← hie]; exact hun
   have hu:=hw0 hnc
   subst hu
   rw [hOb vc]
   refine hC.mono ?_
   rintro e u' ⟨v,rfl,hr'⟩
   have hff:L.getD fi false=false:=by
    rcases hfi with ⟨k,hk⟩ | ⟨hk,_⟩
    ·cases h:L.getD fi false with
     | false=>rfl
     | true =>
      have:=hpost fi _ hk h rfl
      rw [hnc] at this; simp at this
    ·have:¬ fi<L.size:=by omega
     simp [this]
   have hfn:fi≠i:=by
    rcases hfi with ⟨k,hk⟩ | ⟨hk,_⟩
    ·exact hne hk (by simp)
    ·omega
   refine ⟨by simpa using hsz,hcl',v,hput v ?_,?_,?_,?_⟩
   ·intro j r h1 h2
    cases r with
    | post g =>
     have:=hpost j _ h1 h2 rfl
     rw [hnc] at this; simp at this
    | cal =>
     obtain ⟨o',_,hF'⟩:=hkat h1
     have:=hF'.cal rfl
     rw [this,hnc] at h2; simp at h2
    | _=>rfl
   ·intro h
    rw [← hie,hL] at h
    simp at h
   ·intro _
    rw [hnew fi hfn,hff]
    exact ⟨fun _=>hr',fun h=>by simp at h,fun h=>by simp at h⟩
   ·intro i' q' _ _ _
    rw [← hie,hL]; simp
  | alo t z s cs=>exact absurd rfl (hF.alo t z s cs)
  | sto k =>
   have hic:=hcall rfl
   obtain ⟨hif,hdn⟩:=hF.sto k rfl
   obtain ⟨w',hrun,hR'⟩:=hOb vc u ((hcR hic).1 (by rw [← hif]; exact hun))
   rw [hrun]
   refine ⟨by simpa using hsz,hcl',vc,hput vc (fun _ _ _ _=>rfl),?_,?_,fun i' q' _ _ _=>hold _ hic⟩
   ·intro h
    have:=hold _ hic
    rw [h] at this; simp at this
   ·intro _
    refine ⟨fun h => ?_,fun _=>Or.inr hR',fun _ _=>hR'⟩
    rw [← hif,hL] at h
    simp at h
 ·intro L a u hr hJ
  obtain ⟨hsz,hcl,vc,rfl,hw0,hcR,hpost⟩:=hJ
  have hall:∀ i,i<ops.length→L.getD i false=true:=by
   intro i
   induction i using Nat.strongRecOn with
   | _ i ih =>
    intro hi
    cases hl:L.getD i false with
    | true=>rfl
    | false =>
     exfalso
     have ho:ops[i]?=some ops[i]:=Qb hi
     obtain ⟨q,hq,hF⟩:=Zps hfit ho
     have:i ∈ Region.ready .any ops.toArray L:=by
      refine mem_ready.2 ⟨?_,ops[i],by simp,fun e he hb=>ih e.on (hF.low e he hb) (by have:=hF.low e he hb; omega)⟩
      have hi':i<L.size:=by omega
      simp [hi'] at hl ⊢
      exact hl
     rw [hr] at this
     simp at this
  have e:pa a0 vc noB (fun j=>L.getD j false) 0 ops kd=paAll a0 ops kd vc noB:=Zfd (fun j r hr'=>⟨by
   simp only [Nat.zero_add]
   exact hall j (by have:=(Qa.1 hr').1; omega),fun _=>rfl⟩)
  rw [e]
  have hR:=hcR (hall ic hil)
  refine hQ vc u ?_
  rcases hfi with ⟨k,hk⟩ | ⟨hk,hRR⟩
  ·exact hR.2.2 (hall fi (by have:=(Qa.1 hk).1; omega)) ⟨k,hk⟩
  ·refine hRR _ _ (hR.1 ?_)
   have:¬ fi<L.size:=by omega
   simp [this]
 ·have:(ops.toArray).size=ops.length:=by simp
  unfold unl
  exact Qq (List.length_filter_le _ _) (by simp)
 ·have hz:∀ j,(Array.replicate ops.toArray.size false).getD j false=false:=fun j=>by
   simp only [Array.getD_eq_getD_getElem?,Array.getElem?_replicate]
   split <;> rfl
  refine ⟨by simp,?_,undef,?_,fun _=>rfl,?_,?_⟩
  ·intro i o _ h; rw [hz] at h; simp at h
  ·have:∀ (k:Nat) (os:List Oper) (qs:List Kd),pa a0 undef noB (fun j=>(Array.replicate ops.toArray.size false).getD j false) k os qs=a0:=by
    intro k os
    induction os generalizing k with
    | nil=>intro qs; simp [pa]
    | cons o os ih =>
     intro qs
     cases qs with
     | nil=>simp [pa]
     | cons q qs=>rw [pa,hz]; simp only [Bool.false_eq_true,if_false]; exact ih _ _
   exact (this _ _ _).symm
  ·intro h; rw [hz] at h; simp at h
  ·intro i q _ h; rw [hz] at h; simp at h
theorem Tryd.infoGC:(Tryd.prog.info? 137).map (fun i=>(i.zero,i.size,i.bytes))=some (some (.agg #[.string ⟨#[]⟩,.int .i64 0,.int .i64 0,.int .i64 0,.int .i64 0,.int .i64 0]),6,56):=by kernel_rfl
def Zjq (gs:List GC) (s:Sym):Nat:=gs.findIdx (fun c=>Zdw c.sym s)
theorem Zxv {gs:List GC} {s:Sym} {k:Nat} {c:GC} (hc:gs[k]?=some c) (h:Zdw c.sym s=true) (hb:∀ i d,i<k→gs[i]?=some d→Zdw d.sym s=false):Zjq gs s=k:=by
 unfold Zjq
 obtain ⟨hk,rfl⟩:=Qa.1 hc
 rw [List.findIdx_eq hk]
 exact ⟨h,fun j hj=>hb j _ hj (Qb (by omega))⟩
theorem Ztx {gs:List GC} {s:Sym} (hb:∀ i d,i<gs.length→gs[i]?=some d→Zdw d.sym s=false):Zjq gs s=gs.length:=by
 unfold Zjq
 rw [List.findIdx_eq_length]
 intro c hc
 obtain ⟨i,hi,rfl⟩:=List.getElem_of_mem hc
 exact hb i _ hi (Qb hi)
theorem Yfj {s:ByteArray} {a b c d e:Int}:∀ u ∈ (#[Value.string s,.int .i64 a,.int .i64 b,.int .i64 c,.int .i64 d,.int .i64 e]:Array Value).toList,u.oneCell'=true:=by
 intro u hu
 simp at hu
 rcases hu with rfl | rfl | rfl | rfl | rfl | rfl <;> rfl
def notV:Value→Value
 | .bool b => .bool (!b)
 | v=>v
theorem Zhu {P:Program} {W w':World} {a:Act} {o:Oper} {v x' v':Value} (s x:Operand) (t:TypeId) (ho:o.op = .call { callee := .builtin .append,args:=#[s,x],argTypes:=#[t,t] }) (hs:a.eval s=v) (hx:a.eval x=x') (hr:(Builtin.append_ #[t,t] o.type #[v,x']).run P W = .ok v' w'):(execOp a.eval o).run P W = .ok (.value v') w':=by
 unfold execOp
 simp only [ho,resolve,invoke,builtin,Sem.run_bind,Sem.run_pure,Result.andThen_ok,List.map_toArray,List.map_cons,List.map_nil,hs,hx,hr]
def Ybp (gb:Nat) (v:Value) (gs:List GC) (s:Sym) (w w':World):Prop:=∃ v',GAt w' gb v' (gs++[⟨s,0,Zjq gs s,0⟩])∧Kept (fun k=>k=gb∨Zbt v k) w w'∧∀ k,Zbt v' k→Zbt v k∨w.heap.size≤k
theorem Zmn (w:World) (gb:Nat) (v:Value) (gs:List GC) (s:Sym) (h:GAt w gb v gs) (hl:gs.length≤4000) :
  Calls Tryd.prog 82 #[.pointer (some ⟨gb,0,none⟩),.agg #[.string ⟨s.name.toArray⟩,.int .i64 s.num,.int .i64 s.args]] w fun e w'=>e = .returned (.tuple #[])∧Ybp gb v gs s w w':=by
 obtain ⟨va,vcap,rfl⟩:=Zad h.owns
 have hgb:=Zab h.box
 have H:=Zac h
 clear h
 go_enter Tryd.func82,Tryd.ntmps82
 go_wp2
 go_loopg [4] (gs.length+1) (fun gk iv wr=>∃ (k:Nat),iv = .int .i64 k∧k≤gs.length∧gs.length - k<gk∧Ext w wr∧wr.heap[w.heap.size]?=some (.cells #[.string ⟨s.name.toArray⟩,.int .i64 s.num,.int .i64 s.args] 87 (0,0))∧∀ i d,i<k→gs[i]?=some d→Zdw d.sym s=false)
 case atStart=>exact ⟨0,by go_num,Qm _,by omega,(Ext.of (by repeat' (first | with_reducible(first|exact Qx _ _|apply Kept.drew|apply Kept.drewN|apply Qz|refine Qy ?_ ?_ _)|exact fun h=>absurd h (by simp <;> omega)))),heap_alloc_new w _,fun i d h=>by omega⟩
 case round =>
  obtain ⟨k,rfl,hk,hgk,hext,hbox,hbef⟩:=hrel
  have hsr:=hext.size
  have hG:=H.out.ext hext
  have b0:wr.cell? ⟨gb,0,none⟩=some (.slice va gs.length vcap):=Zaa hG.box 0 _ rfl
  have hgb':=Zab hG.box
  obtain ⟨s0,s1,s2,sf⟩:=box3 hbox
  have hwb:=Zab hbox
  have gf:=fun i=>Zae hG.box i
  have HG:=Zac hG
  have Hext:=Zac hext
  have Hbox:=Zac hbox
  have Hbef:=Zac hbef
  clear hG hext hbox hbef
  have Hdone:Hid (∀ (u:World) (v':Value) (w2:World),Ext wr u→Zjq gs s=k→Appended u 0 137 6 (.slice va gs.length vcap) (gs.length+1) (gcs gs++[.string ⟨s.name.toArray⟩,.int .i64 s.num,.int .i64 s.args,.int .i64 0,.int .i64 k,.int .i64 0]) v' w2→Ybp gb (.slice va gs.length vcap) gs s w (w2.setCell ⟨gb,0,none⟩ v')):=fun u v' w2 hu hpl hap=>by
   have hGu:=HG.out.ext hu
   have hsu:=hu.size
   have hblk:=(hap.kept.block gb (Zab hGu.box) (Zaf hGu.owns (by decide) hGu.box)).trans hGu.box
   have hK:Kept (fun j=>j=gb) w2 (w2.setCell ⟨gb,0,none⟩ v'):=(Qx (only gb) w2).put 0 _
   refine ⟨v',⟨Zai hblk 0 _,?_⟩,?_,fun j hj => ?_⟩
   ·have:=Zeq hap.owns hblk (by decide) hK
    rw [Yec,hpl]
    simpa [gcV] using this
   ·have k1:Kept (fun k=>k=gb∨Zbt (.slice va gs.length vcap) k) w u:=(Kept.of_below (Hext.out.trans (hu.mono hsr))).mono (fun i hi h=>by omega)
    exact (k1.then hap.kept (fun i _ h=>Or.inr h)).then hK (fun i _ h=>Or.inl h)
   ·rcases hap.where_ with hw | ⟨g,hw,hg⟩
    ·exact Or.inl (hw.symm.trans hj)
    ·have:some g=some j:=hw.symm.trans hj
     simp at this
     exact Or.inr (by omega)
  by_cases hlt:k<gs.length
  ·obtain ⟨c,hc⟩:∃ c,gs[k]?=some c:=⟨_,Qb hlt⟩
   obtain ⟨cb,cap',he,hcb,hcap,_,_⟩:=HG.out.shape (by omega)
   simp only [Value.slice.injEq] at he
   obtain ⟨rfl,_,rfl⟩:=he
   obtain ⟨c0,c1,c2,_,_,_⟩:=HG.out.cell hc
   have HS:=Zac (Zxt wr.drew c.sym s)
   have Hc:=Zac hc
   clear hc
   go_wp2_with fail
   refine Zrz (by kernel_rfl) [.pur (.int .i64 k),.pur (.pointer (some ⟨gb,0,none⟩)),.pur (.pointer (some ⟨gb,0,none⟩)),.pur (.pointer (some ⟨gb,0,none⟩)),.pur (.slice (some ⟨cb,0,none⟩) gs.length vcap),.pur (.int .i64 gs.length),.pur (.bool true),.pur (.bool true),
    .pur (.pointer (some ⟨gb,0,none⟩)),.pur (.pointer (some ⟨gb,0,none⟩)),.pur (.pointer (some ⟨gb,0,none⟩)),.pur (.slice (some ⟨cb,0,none⟩) gs.length vcap),.pur (.int .i64 k),.pur (.pointer (some ⟨cb,k * 6,none⟩)),.pur (.pointer (some ⟨cb,k * 6,none⟩)),.pur (.agg #[.string ⟨c.sym.name.toArray⟩,.int .i64 c.sym.num,.int .i64 c.sym.args]),.pur (.agg #[.string ⟨s.name.toArray⟩,.int .i64 s.num,.int .i64 s.args]),
    .cal,.post notV,.post notV] 17 20 (by kernel_rfl)
    (fun r u=>r = .bool (Zdw c.sym s)∧Ext wr u) (fun r u=>r = .bool (Zdw c.sym s)∧Ext wr u) 94
    #[.agg #[.string ⟨c.sym.name.toArray⟩,.int .i64 c.sym.num,.int .i64 c.sym.args],.agg #[.string ⟨s.name.toArray⟩,.int .i64 s.num,.int .i64 s.args]] ?_ ?_ rfl (by decide) (Or.inr ⟨by decide,fun _ _ h=>h⟩) ?_
   ·refine HS.out.mono ?_
    rintro e u ⟨rfl,he⟩
    exact ⟨_,rfl,rfl,he.undrew⟩
   ·refine ⟨fun vc => ?_,fun vc => ?_,fun vc => ?_,fun vc => ?_,fun vc => ?_,fun vc => ?_,fun vc => ?_,fun vc => ?_,fun vc => ?_,fun vc => ?_,fun vc => ?_,fun vc => ?_,fun vc => ?_,fun vc => ?_,fun vc => ?_,fun vc => ?_,fun vc => ?_,fun vc => ?_,?_,?_,trivial⟩
    all_goals try (simp [pa,Kd.val,go_sem,b0,s0,s1,s2,c0,c1,c2,hlt]; done)
    all_goals
     rintro vc u (⟨rfl,_⟩ | ⟨rfl,_⟩) <;> simp [pa,Kd.val,go_sem,notV]
   rintro vc u ⟨rfl,hu⟩
   simp only [paAll,pa,Kd.val,if_true,Act.put,notV]
   have hsu:=hu.size
   have hgu0:=HG.out.ext hu
   have hbu:=(hu.block _ hwb).trans Hbox.out
   obtain ⟨s0,s1,s2,sf⟩:=box3 hbu
   have b0:u.cell? ⟨gb,0,none⟩=some (.slice (some ⟨cb,0,none⟩) gs.length vcap):=Zaa hgu0.box 0 _ rfl
   have hgu:gb<u.heap.size:=Zab hgu0.box
   have HGu:Hid (GAt (u.drewN 1) gb (.slice (some ⟨cb,0,none⟩) gs.length vcap) gs):=hgu0.on (fun _ _=>rfl)
   have Hrow:Hid ((u.drewN 1).ownsRow 0 137 6 (.slice (some ⟨cb,0,none⟩) gs.length vcap) gs.length (gcs gs)):=HGu.out.owns
   have Hu:=Zac hu
   have Hbu:=Zac hbu
   clear hu hgu0 hbu c0 c1 c2
   cases hsv:Zdw c.sym s with
   | false =>
    have Hsv:=Zac hsv
    clear hsv
    simp only [List.setIfInBounds_toArray,Bool.not_false,Bool.not_true,List.set_cons_succ,List.set_cons_zero]
    go_wp2
    go_roundg (gs.length - k)
    case measure=>omega
    case rel =>
     refine ⟨k+1,by go_num,by omega,by omega,Hext.out.trans (Hu.out.mono hsr),Hbu.out,fun i d hi hd => ?_⟩
     by_cases e:i=k
     ·subst e
      rw [Hc.out] at hd
      simp at hd
      subst hd
      exact Hsv.out
     ·exact Hbef.out i d (by omega) hd
   | true =>
    have Hpl:=Zac (Zxv Hc.out hsv Hbef.out)
    clear hsv
    simp only [List.setIfInBounds_toArray,Bool.not_false,Bool.not_true,List.set_cons_succ,List.set_cons_zero]
    go_wp2_with fail
    have Hu':Hid (Ext wr u.drew):=Hu.out.trans ⟨rfl,rfl,rfl,Qe _,fun _ _=>rfl⟩
    have hwu:w.heap.size<u.heap.size:=by omega
    go_region_law (refine Zcw (u.drewN 1) rfl (.tmp 31) (.tmp 35) 124 rfl 0 137 Tryd.infoGC Tryd.underlying124 rfl (by decide) (.slice (some ⟨cb,0,none⟩) gs.length vcap) gs.length (gcs gs) rfl Hrow.out #[.string ⟨s.name.toArray⟩,.int .i64 s.num,.int .i64 s.args,.int .i64 0,.int .i64 k,.int .i64 0] rfl (by simp) rfl Yfj (by omega) (Qm _) rfl ?_; intro v' w2 hap; obtain ⟨va2,vc2,rfl⟩:=Zad hap.owns; have hblk2:=(hap.kept.block gb hgu (Zaf Hrow.out (by decide) HGu.out.box)).trans HGu.out.box; have d0:=Zaa hblk2 0 _ rfl; have df:=fun i=>Zae hblk2 i; have Hout:=Zac (Hdone.out (u.drewN 1) _ w2 Hu'.out Hpl.out (by simpa using hap)); clear hap hblk2)
    all_goals
     go_wp2
     go_end0
     exact ⟨rfl,Hout.out⟩
  ·have hek:k=gs.length:=by omega
   subst hek
   have hd:decide (((gs.length:Nat):Int)<((gs.length:Nat):Int))=false:=by simp
   have Hpl:=Zac (Ztx (fun i d hi hd'=>Hbef.out i d hi hd'))
   have HGu:Hid (∀ n,GAt (wr.drewN n) gb (.slice va gs.length vcap) gs):=fun n=>HG.out.on (fun _ _=>rfl)
   go_wp2_with fail
   go_quiet (fail)
   obtain ⟨u,hqu⟩:∃ u,u=wr.drewN nq:=⟨_,rfl⟩
   rw [← hqu]
   have b0:u.cell? ⟨gb,0,none⟩=some (.slice va gs.length vcap):=by rw [hqu]; exact b0
   have s0:u.cell? ⟨w.heap.size,0,none⟩=some (.string ⟨s.name.toArray⟩):=by rw [hqu]; exact s0
   have s1:u.cell? ⟨w.heap.size,1,none⟩=some (.int .i64 s.num):=by rw [hqu]; exact s1
   have s2:u.cell? ⟨w.heap.size,2,none⟩=some (.int .i64 s.args):=by rw [hqu]; exact s2
   have hgu:gb<u.heap.size:=by rw [hqu]; exact hgb'
   have hwu:w.heap.size<u.heap.size:=by rw [hqu]; exact hwb
   have HGu:Hid (GAt u.drew gb (.slice va gs.length vcap) gs):=by rw [hqu]; exact HGu.out (nq+1)
   have Hrow:Hid (u.drew.ownsRow 0 137 6 (.slice va gs.length vcap) gs.length (gcs gs)):=HGu.out.owns
   have Hu:Hid (Ext wr u):=by rw [hqu]; exact ⟨rfl,rfl,rfl,Qe _,fun _ _=>rfl⟩
   clear hqu
   go_wp2_with fail
   have Hu':Hid (Ext wr u.drew):=Hu.out.trans ⟨rfl,rfl,rfl,Qe _,fun _ _=>rfl⟩
   have hwu:w.heap.size<u.heap.size:=by omega
   go_region_law (refine Zcw u.drew rfl (.tmp 31) (.tmp 35) 124 rfl 0 137 Tryd.infoGC Tryd.underlying124 rfl (by decide) (.slice va gs.length vcap) gs.length (gcs gs) rfl Hrow.out #[.string ⟨s.name.toArray⟩,.int .i64 s.num,.int .i64 s.args,.int .i64 0,.int .i64 gs.length,.int .i64 0] rfl (by simp) rfl Yfj (by omega) (Qm _) rfl ?_; intro v' w2 hap; obtain ⟨va2,vc2,rfl⟩:=Zad hap.owns; have hblk2:=(hap.kept.block gb hgu (Zaf Hrow.out (by decide) HGu.out.box)).trans HGu.out.box; have d0:=Zaa hblk2 0 _ rfl; have df:=fun i=>Zae hblk2 i; have Hout:=Zac (Hdone.out u.drew _ w2 Hu'.out Hpl.out (by simpa using hap)); clear hap hblk2)
   all_goals
    go_wp2
    go_end0
    exact ⟨rfl,Hout.out⟩
def Zdo (l:List Sym):List GC:=(List.range l.length).map (fun i=>⟨Zau l i,0,Zbf l i,0⟩)
theorem Zbn (l:List Sym):(Zdo l).length=l.length:=by simp [Zdo]
theorem Zfy {l:List Sym} {i:Nat} (h:i<l.length):(Zdo l)[i]?=some ⟨Zau l i,0,Zbf l i,0⟩:=by
 simp [Zdo,h]
theorem Zxw (l:List Sym):(Zdo l).map GC.sym=l:=by
 apply List.ext_getElem?
 intro i
 rw [Qj]
 by_cases h:i<l.length
 ·rw [Zfy h]; simp [Zau,h]
 ·rw [List.getElem?_eq_none (by rw [Zbn]; omega),List.getElem?_eq_none (by omega)]; rfl
theorem Zoa {l:List Sym} {i:Nat} (r:List Sym) (h:i<l.length):Zau (l++r) i=Zau l i:=by
 simp [Zau,List.getD_eq_getElem?_getD,Qc h]
theorem Zsa {l:List Sym} {i:Nat} (s:Sym) (h:i<l.length):Zbf (l++[s]) i=Zbf l i:=by
 unfold Zbf
 rw [Zoa _ h]
 split
 ·rename_i hn
  rw [List.findIdx_append,if_pos]
  rw [List.findIdx_lt_length]
  refine ⟨Zau l i,?_,by simp [hn]⟩
  simp only [Zau,List.getD_eq_getElem?_getD,Qb h,Option.getD_some]
  exact List.getElem_mem h
 ·rfl
theorem Zsb (l:List Sym) (s:Sym):Zbf (l++[s]) l.length=Zjq (Zdo l) s:=by
 have h1:Zjq (Zdo l) s=l.findIdx (fun t=>Zdw t s):=by
  have:=List.findIdx_map (Zdo l) GC.sym (fun t=>Zdw t s)
  rw [Zxw] at this
  exact this.symm
 have h2:Zau (l++[s]) l.length=s:=by simp [Zau]
 rw [h1]
 unfold Zbf
 rw [h2]
 split
 ·rename_i hn
  have hp:(fun t:Sym=>Zdw t s)=(fun t=>t.name.isEmpty && t.num == s.num):=by
   funext t; simp [Zdw,hn]
  rw [hp,List.findIdx_append]
  split
  ·rfl
  ·rename_i hh
   have:=List.findIdx_le_length (p:=fun t:Sym=>t.name.isEmpty && t.num == s.num) (xs:=l)
   have h0:[s].findIdx (fun t:Sym=>t.name.isEmpty && t.num == s.num)=0:=by simp [List.findIdx_cons,hn]
   omega
 ·rename_i hn
  refine (List.findIdx_eq_length.2 ?_).symm
  intro t _
  have:s.name.isEmpty=false:=by
   cases h:s.name with
   | nil=>exact absurd h hn
   | cons _ _=>rfl
  simp [Zdw,this]
theorem Zxx (l:List Sym) (s:Sym):Zdo (l++[s])=Zdo l++[⟨s,0,Zjq (Zdo l) s,0⟩]:=by
 apply List.ext_getElem?
 intro i
 by_cases h:i<l.length
 ·rw [Qc (by rw [Zbn]; exact h),Zfy h,Zfy (by simp; omega),Zoa _ h,Zsa _ h]
 ·by_cases e:i=l.length
  ·subst e
   rw [Zfy (by simp),Qd (by rw [Zbn]; omega),Zbn,Zsb]
   simp [Zau]
  ·rw [List.getElem?_eq_none (by rw [Zbn]; simp; omega),List.getElem?_eq_none (by simp [Zbn]; omega)]
def LayAt (w:World) (l:List Sym) (wr:World):Prop:=∃ v,GAt wr (w.heap.size+1) v (Zdo l)∧Ext w wr∧(∀ j,Zbt v j→w.heap.size≤j)∧wr.heap[w.heap.size]?=some (.cells #[.slice none 0 0] 126 (0,0))
theorem LayAt.add {w wr w1:World} {l:List Sym} {s:Sym} {v:Value} (h1:GAt wr (w.heap.size+1) v (Zdo l)) (h2:Ext w wr) (h3:∀ j,Zbt v j→w.heap.size≤j) (h4:wr.heap[w.heap.size]?=some (.cells #[.slice none 0 0] 126 (0,0))) (ha:Ybp (w.heap.size+1) v (Zdo l) s wr w1):LayAt w (l++[s]) w1:=by
 obtain ⟨v',g1,g2,g3⟩:=ha
 have hs:=h2.size
 refine ⟨v',by rw [Zxx]; exact g1,h2.trans (g2.below hs (fun k hk => ?_)),fun j hj => ?_,(g2.block _ (Zab h4) ?_).trans h4⟩
 ·rcases hk with rfl | hk
  ·omega
  ·exact h3 k hk
 ·rcases g3 j hj with h | h
  ·exact h3 j h
  ·omega
 ·rintro (h | h)
  ·omega
  ·exact Zaf h1.owns (by decide) h4 h
def LaidG (w:World) (l:List Sym) (e:Ending) (w':World):Prop:=∃ v,e = .returned (.agg #[v])∧w'.ownsRow 0 137 6 v l.length (gcs (Zfs l (Zdo l) 0))∧Ext w w'∧∀ j,Zbt v j→w.heap.size≤j
theorem Zxy (w:World) (v1 v2:Value) (a b:List Sym) (h1:w.ownsRow 0 87 3 v1 a.length (Zah a)) (h2:w.ownsRow 0 87 3 v2 b.length (Zah b)) (ha:Wf 1 a) (hb:Wf 1 b) (hal:a.length≤1000) (hbl:b.length≤1000) :
  Calls Tryd.prog 74 #[v1,v2] w (LaidG w (a++b)):=by
 have hapos:=Zeg ha
 have hbpos:=Zeg hb
 obtain ⟨g1,cap1,cur1,rfl,_,hg1,hc1⟩:=Zat h1 (by omega)
 obtain ⟨g2,cap2,cur2,rfl,_,hg2,hc2⟩:=Zat h2 (by omega)
 have hgl1:=Zab hg1
 have hgl2:=Zab hg2
 have H1:=Zac h1
 have H2:=Zac h2
 have Ha:=Zac ha
 have Hb:=Zac hb
 clear h1 h2 ha hb hg1 hg2
 go_enter Tryd.func74,Tryd.ntmps74
 go_wp2
 go_loopg [12] (a.length+1) (fun gk iv wr=>∃ (k:Nat),iv = .int .i64 k∧k≤a.length∧a.length - k<gk∧LayAt w (a.take k) wr)
 case atStart=>exact ⟨0,by go_num,Qm _,by omega,.slice none 0 0,⟨by have:=heap_alloc_new (w.alloc (.cells #[.slice none 0 0] 126)) (.cells #[.slice none 0 0] 126); simpa using this,World.ownsRow_nil _ _ _ _⟩,(Ext.of (by repeat' (first | with_reducible(first|exact Qx _ _|apply Kept.drew|apply Kept.drewN|apply Qz|refine Qy ?_ ?_ _)|exact fun h=>absurd h (by simp <;> omega)))),fun j hj=>by simp [Zbt,Value.ownBlock] at hj,(Below.heap_alloc _ _ _ (by simp)).trans (heap_alloc_new w _)⟩
 case round =>
  obtain ⟨k,rfl,hk,hgk,hL⟩:=hrel
  obtain ⟨v,hG,hext,hown,hblk⟩:=hL
  have hsr:=hext.size
  have hgb:=Zab hG.box
  have HG:=Zac hG
  have Hext:=Zac hext
  have Hown:=Zac hown
  have Hblk:=Zac hblk
  clear hG hext hown hblk
  by_cases hlt:k<a.length
  ·obtain ⟨s,hs⟩:∃ s,a[k]?=some s:=⟨_,Qb hlt⟩
   have ho:=Zak H1.out (fun j hj=>Hext.out.block j (H1.out.lt j hj).2)
   have hgr:g1<wr.heap.size:=by omega
   have e0:wr.cell? ⟨g1,k * 3,none⟩=some (.string ⟨s.name.toArray⟩):=Zag ho _ _ (by have:=Zaz a k s hs 0 (by omega); rw [Nat.add_zero] at this; rw [this]; rfl)
   have e1:wr.cell? ⟨g1,k * 3+1,none⟩=some (.int .i64 s.num):=Zag ho _ _ (by rw [Zaz a k s hs 1 (by omega)]; rfl)
   have e2:wr.cell? ⟨g1,k * 3+2,none⟩=some (.int .i64 s.args):=Zag ho _ _ (by rw [Zaz a k s hs 2 (by omega)]; rfl)
   have hnx:a.take (k+1)=a.take k++[s]:=by rw [List.take_add_one,hs]; rfl
   have Hnx:=Zac hnx
   clear hs ho hnx
   go_wp2_with fail
   have hE:Ext wr (wr.alloc (.cells #[.string ⟨s.name.toArray⟩,.int .i64 s.num,.int .i64 s.args] 87)):=(Ext.of (by repeat' (first | with_reducible(first|exact Qx _ _|apply Kept.drew|apply Kept.drewN|apply Qz|refine Qy ?_ ?_ _)|exact fun h=>absurd h (by simp <;> omega))))
   refine (Zmn _ (w.heap.size+1) v (Zdo (a.take k)) s (HG.out.ext hE) (by rw [Zbn]; simp; omega)).mono ?_
   rintro e w1 ⟨rfl,hout⟩
   have hL1:=LayAt.add (HG.out.ext hE) (Hext.out.trans (hE.mono hsr)) Hown.out ((hE.block _ (Zab Hblk.out)).trans Hblk.out) hout
   have HL1:=Zac hL1
   clear hout hL1 hE
   go_wp2
   go_roundg (a.length - k)
   case measure=>omega
   case rel=>exact ⟨k+1,by go_num,by omega,by omega,by rw [Hnx.out]; exact HL1.out⟩
  ·have hek:k=a.length:=by omega
   subst hek
   rw [List.take_length] at HG
   have HLa:Hid (LayAt w a wr):=⟨v,HG.out,Hext.out,Hown.out,Hblk.out⟩
   clear HG Hext Hown Hblk
   go_wp2
   go_loopg [21] (b.length+1) (fun gk iv wr=>∃ (k:Nat),iv = .int .i64 k∧k≤b.length∧b.length - k<gk∧LayAt w ((a++b.take k)) wr)
   case atStart=>exact ⟨0,by go_num,Qm _,by omega,by have:=HLa.out; simpa using this⟩
   case round =>
    obtain ⟨k,rfl,hk,hgk,hL⟩:=hrel
    obtain ⟨v,hG,hext,hown,hblk⟩:=hL
    have hsr:=hext.size
    have hgb:=Zab hG.box
    have HG:=Zac hG
    have Hext:=Zac hext
    have Hown:=Zac hown
    have Hblk:=Zac hblk
    clear hG hext hown hblk
    by_cases hlt:k<b.length
    ·obtain ⟨s,hs⟩:∃ s,b[k]?=some s:=⟨_,Qb hlt⟩
     have ho:=Zak H2.out (fun j hj=>Hext.out.block j (H2.out.lt j hj).2)
     have hgr:g2<wr.heap.size:=by omega
     have e0:wr.cell? ⟨g2,k * 3,none⟩=some (.string ⟨s.name.toArray⟩):=Zag ho _ _ (by have:=Zaz b k s hs 0 (by omega); rw [Nat.add_zero] at this; rw [this]; rfl)
     have e1:wr.cell? ⟨g2,k * 3+1,none⟩=some (.int .i64 s.num):=Zag ho _ _ (by rw [Zaz b k s hs 1 (by omega)]; rfl)
     have e2:wr.cell? ⟨g2,k * 3+2,none⟩=some (.int .i64 s.args):=Zag ho _ _ (by rw [Zaz b k s hs 2 (by omega)]; rfl)
     have hnx:b.take (k+1)=b.take k++[s]:=by rw [List.take_add_one,hs]; rfl
     have Hnx:=Zac hnx
     clear hs ho hnx
     go_wp2_with fail
     have hE:Ext wr (wr.alloc (.cells #[.string ⟨s.name.toArray⟩,.int .i64 s.num,.int .i64 s.args] 87)):=(Ext.of (by repeat' (first | with_reducible(first|exact Qx _ _|apply Kept.drew|apply Kept.drewN|apply Qz|refine Qy ?_ ?_ _)|exact fun h=>absurd h (by simp <;> omega))))
     refine (Zmn _ (w.heap.size+1) v (Zdo ((a++b.take k))) s (HG.out.ext hE) (by rw [Zbn]; simp; omega)).mono ?_
     rintro e w1 ⟨rfl,hout⟩
     have hL1:=LayAt.add (HG.out.ext hE) (Hext.out.trans (hE.mono hsr)) Hown.out ((hE.block _ (Zab Hblk.out)).trans Hblk.out) hout
     have HL1:=Zac hL1
     clear hout hL1 hE
     go_wp2
     go_roundg (b.length - k)
     case measure=>omega
     case rel=>exact ⟨k+1,by go_num,by omega,by omega,by rw [Hnx.out,← Qi]; exact HL1.out⟩
    ·have hek:k=b.length:=by omega
     subst hek
     rw [List.take_length] at HG
     obtain ⟨cb,cap,rfl,hcb,hcap,hne,hfz⟩:=HG.out.shape (by rw [Zbn]; simp; omega)
     have HG2:=Zac HG.out
     have hll:(Zdo (a++b)).length=a.length+b.length:=by rw [Zbn]; simp
     have Hll:=Zac hll
     clear hll
     go_wp2_with fail
     refine (Zry wr (w.heap.size+1) _ (Zdo (a++b)) (a++b) HG.out (Zbn _) (fun i c hc => ?_) (Zfm Ha.out Hb.out) (by rw [Zbn]; simp; omega)).mono ?_
     ·have hi:=(Qa.1 hc).1
      rw [Zbn] at hi
      rw [Zfy hi] at hc
      simp at hc
      rw [← hc]
     rintro e w1 ⟨rfl,hG1,hk1⟩
     have hblk1:=(hk1.block _ (Zab Hblk.out) (Zaf HG2.out.owns (by decide) Hblk.out)).trans Hblk.out
     have b1:w1.cell? ⟨w.heap.size+1,0,none⟩=some (.slice (some ⟨cb,0,none⟩) (Zdo (a++b)).length cap):=Zaa hG1.box 0 _ rfl
     have b2:w1.cell? ⟨w.heap.size,0,none⟩=some (.slice none 0 0):=Zaa hblk1 0 _ rfl
     have bf:=fun i=>Zae hblk1 i
     have hs1:=hk1.size
     have HG1:=Zac hG1
     have Hk1:=Zac hk1
     have Hblk1:=Zac hblk1
     clear hG1 hk1 hblk1
     go_wp2
     have hK:Kept (fun j=>j=w.heap.size) w1 (w1.setCell ⟨w.heap.size,0,none⟩ (.slice (some ⟨cb,0,none⟩) (Zdo (a++b)).length cap)):=(Qx (only w.heap.size) w1).put 0 _
     have h0:(w1.setCell ⟨w.heap.size,0,none⟩ (.slice (some ⟨cb,0,none⟩) (Zdo (a++b)).length cap)).cell? ⟨w.heap.size,0,none⟩=some (.slice (some ⟨cb,0,none⟩) (Zdo (a++b)).length cap):=Zaa (Zai Hblk1.out 0 _) 0 _ rfl
     refine bodyPost_ret (v := .agg #[.slice (some ⟨cb,0,none⟩) (Zdo (a++b)).length cap]) (by simp [results,Tryd.results74,go_sem,h0]) rfl ⟨_,rfl,?_,?_,Hown.out⟩
     ·have:=Zeq HG1.out.owns Hblk1.out (by decide) hK
      rw [Zft,Zbn] at this
      rw [Zbn]
      exact this
     ·exact (Hext.out.trans (Hk1.out.below hsr Hown.out)).trans (hK.below (by omega) (fun k hk=>by omega))
end Go.Proofs.YtlmjilpjmgjjcaaDoor
