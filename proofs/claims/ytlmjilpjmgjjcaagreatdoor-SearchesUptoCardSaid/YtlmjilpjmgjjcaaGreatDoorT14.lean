/-
  PROVED HERE: a step of a search, of the program's and of the document's at once (the conditions stand in each statement).
-/
import Derived.Test.YtlmjilpjmgjjcaaGreatDoorT13
set_option linter.unusedSimpArgs false
set_option linter.unusedVariables false
set_option maxRecDepth 20000
set_option maxHeartbeats 16000000
namespace Go.Proofs.YtlmjilpjmgjjcaaGreatDoor
open Go.RowKit
structure SRefN (w:World) (s:SC) (cs:List Cls) (a:List (List Sym) × Names) (D:List (ND × Nat)) (m:SN):Prop where
 ref:SRef w s cs a D m.status m.found
 trim:m.status≠3->Zeo cs.length D=m.way
 len:D.length<=1+m.tries
 next:∀ x ∈ D,x.2<=cs.length
theorem SRefN.ext {w w':World} {s:SC} {cs:List Cls} {a:List (List Sym) × Names} {D:List (ND × Nat)} {m:SN} (h:SRefN w s cs a D m) (e:Ext w w'):SRefN w' s cs a D m:=⟨h.ref.ext e,h.trim,h.len,h.next⟩
theorem SRefN.keep {S:Nat->Prop} {w w':World} {s:SC} {cs:List Cls} {a:List (List Sym) × Names} {D:List (ND × Nat)} {m:SN} (h:SRefN w s cs a D m) (hk:Kept S w w') (hS:OffRef S w):SRefN w' s cs a D m:=⟨h.ref.keep hk hS,h.trim,h.len,h.next⟩
def SC.cells (s:SC) (cl al nl wl:Nat) (st tr:Int):Array Value:=#[.slice s.la cl s.lc,.slice s.aa al s.ac,.slice s.na nl s.nc,.slice s.da wl s.dc,.int .i64 st,.int .i64 tr,.slice s.f0a s.f0l s.f0c,.slice s.f1a s.f1l s.f1c,.slice s.f2a s.f2l s.f2c,.slice s.f3a s.f3l s.f3c,.int .i64 s.f4]
theorem Zpe {w:World} {b:Nat} {c1:Array Value} {f1:Nat × Nat} (h1:w.heap[b]?=some (.cells c1 154 f1)):OffRef (only b) w:=fun k hk=>by
 have:k=b:=hk;subst this;exact ⟨_,_,_,h1,by simp [Znp]⟩
theorem SRefN.tried {w:World} {s:SC} {cs:List Cls} {a:List (List Sym) × Names} {m:SN} {n:ND} {k:Nat} {r:List (ND × Nat)} {c:Cls} {L T:Nat} (hw:m.way=(n,k)::r) (hc:cs[k]?=some c) (h0:m.status=0) (hr:∀ x ∈ r,x.2<=cs.length) (hl:r.length+1<=1+m.tries)
  (h:SRef w s cs a (Zcj n c k r) (Zck n c k) (tryN n c k).1):SRefN w s cs a (Zcj n c k r) (Zbd cs m):=by
 obtain ⟨e1,e2,e3,e4⟩:=Zft hw hc h0;have hk:=(List.getElem?_eq_some_iff.1 hc).1;refine ⟨⟨h.cls,h.ask,h.dues,fun h1 => ?_⟩,fun _=>e1.symm,?_,?_⟩
 ·rw [e2] at h1;rw [e4 h1];exact h.found h1
 ·rw [e3];unfold Zcj;split <;> simp <;> omega
 ·intro x hx;unfold Zcj at hx;split at hx
  ·rcases List.mem_cons.1 hx with rfl | hx
   ·exact Nat.zero_le _
   ·rcases List.mem_cons.1 hx with rfl | hx
    ·exact hk
    ·exact hr x hx
  ·rcases List.mem_cons.1 hx with rfl | hx
   ·exact hk
   ·exact hr x hx
theorem Zng {w:World} {b:Nat} {c0 c1 c2 c3 c4 c5 c6 c7 c8 c9 c10:Value} {t:TypeId} (h:w.heap[b]?=some (.cells #[c0,c1,c2,c3,c4,c5,c6,c7,c8,c9,c10] t (0,0))) (v0 v1 v2 v3 v4 v5 v6 v7 v8 v9 v10:Value):(((((((((((w.setCell ⟨b,0,none⟩ v0).setCell ⟨b,1,none⟩ v1).setCell ⟨b,2,none⟩ v2).setCell ⟨b,3,none⟩ v3).setCell ⟨b,4,none⟩ v4).setCell ⟨b,5,none⟩ v5).setCell ⟨b,6,none⟩ v6).setCell ⟨b,7,none⟩ v7).setCell ⟨b,8,none⟩ v8).setCell ⟨b,9,none⟩ v9).setCell ⟨b,10,none⟩ v10).heap[b]?=some (.cells #[v0,v1,v2,v3,v4,v5,v6,v7,v8,v9,v10] t (0,0)):=by
 have h0:(w.setCell ⟨b,0,none⟩ v0).heap[b]?=some (.cells #[v0,c1,c2,c3,c4,c5,c6,c7,c8,c9,c10] t (0,0)):=Zag h 0 _;have h1:((w.setCell ⟨b,0,none⟩ v0).setCell ⟨b,1,none⟩ v1).heap[b]?=some (.cells #[v0,v1,c2,c3,c4,c5,c6,c7,c8,c9,c10] t (0,0)):=Zag h0 1 _;have h2:(((w.setCell ⟨b,0,none⟩ v0).setCell ⟨b,1,none⟩ v1).setCell ⟨b,2,none⟩ v2).heap[b]?=some (.cells #[v0,v1,v2,c3,c4,c5,c6,c7,c8,c9,c10] t (0,0)):=Zag h1 2 _;have h3:((((w.setCell ⟨b,0,none⟩ v0).setCell ⟨b,1,none⟩ v1).setCell ⟨b,2,none⟩ v2).setCell ⟨b,3,none⟩ v3).heap[b]?=some (.cells #[v0,v1,v2,v3,c4,c5,c6,c7,c8,c9,c10] t (0,0)):=Zag h2 3 _;have h4:(((((w.setCell ⟨b,0,none⟩ v0).setCell ⟨b,1,none⟩ v1).setCell ⟨b,2,none⟩ v2).setCell ⟨b,3,none⟩ v3).setCell ⟨b,4,none⟩ v4).heap[b]?=some (.cells #[v0,v1,v2,v3,v4,c5,c6,c7,c8,c9,c10] t (0,0)):=Zag h3 4 _;have h5:((((((w.setCell ⟨b,0,none⟩ v0).setCell ⟨b,1,none⟩ v1).setCell ⟨b,2,none⟩ v2).setCell ⟨b,3,none⟩ v3).setCell ⟨b,4,none⟩ v4).setCell ⟨b,5,none⟩ v5).heap[b]?=some (.cells #[v0,v1,v2,v3,v4,v5,c6,c7,c8,c9,c10] t (0,0)):=Zag h4 5 _;have h6:(((((((w.setCell ⟨b,0,none⟩ v0).setCell ⟨b,1,none⟩ v1).setCell ⟨b,2,none⟩ v2).setCell ⟨b,3,none⟩ v3).setCell ⟨b,4,none⟩ v4).setCell ⟨b,5,none⟩ v5).setCell ⟨b,6,none⟩ v6).heap[b]?=some (.cells #[v0,v1,v2,v3,v4,v5,v6,c7,c8,c9,c10] t (0,0)):=Zag h5 6 _;have h7:((((((((w.setCell ⟨b,0,none⟩ v0).setCell ⟨b,1,none⟩ v1).setCell ⟨b,2,none⟩ v2).setCell ⟨b,3,none⟩ v3).setCell ⟨b,4,none⟩ v4).setCell ⟨b,5,none⟩ v5).setCell ⟨b,6,none⟩ v6).setCell ⟨b,7,none⟩ v7).heap[b]?=some (.cells #[v0,v1,v2,v3,v4,v5,v6,v7,c8,c9,c10] t (0,0)):=Zag h6 7 _;have h8:(((((((((w.setCell ⟨b,0,none⟩ v0).setCell ⟨b,1,none⟩ v1).setCell ⟨b,2,none⟩ v2).setCell ⟨b,3,none⟩ v3).setCell ⟨b,4,none⟩ v4).setCell ⟨b,5,none⟩ v5).setCell ⟨b,6,none⟩ v6).setCell ⟨b,7,none⟩ v7).setCell ⟨b,8,none⟩ v8).heap[b]?=some (.cells #[v0,v1,v2,v3,v4,v5,v6,v7,v8,c9,c10] t (0,0)):=Zag h7 8 _;have h9:((((((((((w.setCell ⟨b,0,none⟩ v0).setCell ⟨b,1,none⟩ v1).setCell ⟨b,2,none⟩ v2).setCell ⟨b,3,none⟩ v3).setCell ⟨b,4,none⟩ v4).setCell ⟨b,5,none⟩ v5).setCell ⟨b,6,none⟩ v6).setCell ⟨b,7,none⟩ v7).setCell ⟨b,8,none⟩ v8).setCell ⟨b,9,none⟩ v9).heap[b]?=some (.cells #[v0,v1,v2,v3,v4,v5,v6,v7,v8,v9,c10] t (0,0)):=Zag h8 9 _;have h10:(((((((((((w.setCell ⟨b,0,none⟩ v0).setCell ⟨b,1,none⟩ v1).setCell ⟨b,2,none⟩ v2).setCell ⟨b,3,none⟩ v3).setCell ⟨b,4,none⟩ v4).setCell ⟨b,5,none⟩ v5).setCell ⟨b,6,none⟩ v6).setCell ⟨b,7,none⟩ v7).setCell ⟨b,8,none⟩ v8).setCell ⟨b,9,none⟩ v9).setCell ⟨b,10,none⟩ v10).heap[b]?=some (.cells #[v0,v1,v2,v3,v4,v5,v6,v7,v8,v9,v10] t (0,0)):=Zag h9 10 _;exact h10
theorem Ztb (n:ND) (c:Cls) (k:Nat):Zck n c k≠2:=by
 unfold Zck;split
 ·omega
 ·split <;> omega
theorem Zcq {cs:List Cls} {n:Nat} {s:SN} (h:n=0\/s.status≠0\/s.way=[]\/3000<=s.tries):Zfb cs n s=(s,0):=by
 cases n with
 | zero=>rfl
 | succ n =>
  unfold Zfb;rw [if_neg];rintro ⟨h1,h2,h3⟩;rcases h with h | h | h | h
  ·omega
  ·exact h h1
  ·exact h2 h
  ·omega
theorem Zwv {cs:List Cls} {n:Nat} {s:SN} (h1:s.status=0) (h2:s.way≠[]) (h3:s.tries<3000):Zfb cs (n+1) s=((Zfb cs n (Zbd cs s)).1,(Zfb cs n (Zbd cs s)).2+1):=by
 rw [Zfb,if_pos ⟨h1,h2,h3⟩]
theorem Zgu {cs:List Cls} {n j:Nat} {m m':SN} (h:m.status≠2/\m.status≠3) (hl:Zfb cs n { m with status:=0 }=((Zfb cs (n - j) m').1,(Zfb cs (n - j) m').2+j)) (hs:Zfb cs (n - j) m'=(m',0)):Zdf cs n m=(endN m',j):=by
 unfold Zdf;rw [if_neg (by omega),hl,hs];simp
theorem SRefN.end_ne {w:World} {s:SC} {cs:List Cls} {a:List (List Sym) × Names} {D:List (ND × Nat)} {m:SN} (h:SRefN w s cs a D m) (h0:m.status≠0):SRefN w s cs a D (endN m)/\(endN m).status=m.status/\(endN m).tries=m.tries:=by
 unfold endN;split
 ·rename_i h3;exact ⟨⟨⟨h.ref.cls,h.ref.ask,h.ref.dues,fun h1=>by simp [Zkb] at h1⟩,fun h=>absurd rfl h,h.len,h.next⟩,h3.symm,rfl⟩
 ·exact ⟨h,rfl,rfl⟩
theorem SRefN.end_no {w:World} {s:SC} {cs:List Cls} {a:List (List Sym) × Names} {D:List (ND × Nat)} {m:SN} (h:SRefN w s cs a D m) (h0:m.status=0) (hw:m.way=[]):SRefN w s cs a D (endN m)/\(endN m).status=2/\(endN m).tries=m.tries:=by
 have e:endN m = { m with status:=2 }:=by unfold endN; rw [if_neg (by omega),if_pos h0,if_pos hw]
 rw [e];exact ⟨⟨⟨h.ref.cls,h.ref.ask,h.ref.dues,fun h1=>by simp at h1⟩,fun _=>h.trim (by omega),h.len,h.next⟩,rfl,rfl⟩
theorem SRefN.end_full {w:World} {s:SC} {cs:List Cls} {a:List (List Sym) × Names} {D:List (ND × Nat)} {m:SN} (h:SRefN w s cs a D m) (h0:m.status=0) (hw:m.way≠[]) (ht:3000<=m.tries):SRefN w s cs a D (endN m)/\(endN m).status=3/\(endN m).tries=m.tries:=by
 have e:endN m=Zkb m:=by unfold endN; rw [if_neg (by omega),if_pos h0,if_neg hw,if_pos ht]
 rw [e];exact ⟨⟨⟨h.ref.cls,h.ref.ask,h.ref.dues,fun h1=>by simp [Zkb] at h1⟩,fun h=>absurd rfl h,h.len,h.next⟩,rfl,rfl⟩
theorem SRefN.end_on {w:World} {s:SC} {cs:List Cls} {a:List (List Sym) × Names} {D:List (ND × Nat)} {m:SN} (h:SRefN w s cs a D m) (h0:m.status=0) (hw:m.way≠[]) (ht:¬ 3000<=m.tries):SRefN w s cs a D (endN m)/\(endN m).status=0/\(endN m).tries=m.tries:=by
 have e:endN m=m:=by unfold endN; rw [if_neg (by omega),if_pos h0,if_neg hw,if_neg ht]
 rw [e];exact ⟨h,h0,rfl⟩
theorem Zzn (w:World) (s:SC) (cs:List Cls) (a:List (List Sym) × Names) (D:List (ND × Nat)) (m:SN) (n:Nat) (h:SRefN w s cs a D m) (hI:InvN cs a m) (hcs:∀ c ∈ cs,COk c/\CNm c) (hcl:cs.length<=24) (hn:n<=3000) (hm:m.status≠2/\m.status≠3) :
  Calls Tryz.prog 89 #[s.val cs.length a.1.length a.2.length D.length m.status m.tries,.int .i64 n] w fun e w'=>∃ (s':SC) (D':List (ND × Nat)),e = .returned (.tuple #[s'.val cs.length a.1.length a.2.length D'.length (Zdf cs n m).1.status (Zdf cs n m).1.tries,.int .i64 (Zdf cs n m).2,.int .i64 0])/\Ext w w'/\SRefN w' s' cs a D' (Zdf cs n m).1:=by
 obtain ⟨st0,hst0⟩:∃ x,x=m.status:=⟨_,rfl⟩;obtain ⟨tr0,htr0⟩:∃ x,x=m.tries:=⟨_,rfl⟩;have hm2:((st0:Int) == 2)=false:=by rw [beq_eq_false_iff_ne]; omega
 have hm3:((st0:Int) == 3)=false:=by rw [beq_eq_false_iff_ne]; omega
 have Hm:Hid (m.status≠2/\m.status≠3):=hm;have hSR0:SRefN w s cs a D { m with status:=0 }:=⟨⟨h.ref.cls,h.ref.ask,h.ref.dues,fun h1=>by simp at h1⟩,fun _=>h.trim hm.2,h.len,h.next⟩;have hI0:=hI.seek hm.2;rw [<- hst0,<- htr0];have hT0:=hI.tries;have Htr0:=Zaa htr0;clear hst0 htr0 h hI;obtain ⟨W0,hW0⟩:∃ W0,W0=(w.alloc (.cells (s.cells cs.length a.1.length a.2.length D.length 0 tr0) 154)).alloc (.cells #[.slice none 0 0,.slice none 0 0,.slice none 0 0,.slice none 0 0,.int .i64 0,.int .i64 0,.slice none 0 0,.slice none 0 0,.slice none 0 0,.slice none 0 0,.int .i64 0] 154):=⟨_,rfl⟩;have hE0:Ext w W0:=by rw [hW0]; exact Mxt
 have hs0:W0.heap.size=w.heap.size+2:=by rw [hW0]; simp
 have hB0:W0.heap[w.heap.size]?=some (.cells (s.cells cs.length a.1.length a.2.length D.length 0 tr0) 154 (0,0)):=by rw [hW0]; exact heap_alloc2_old w _ _
 have hB1:W0.heap[w.heap.size+1]?=some (.cells #[.slice none 0 0,.slice none 0 0,.slice none 0 0,.slice none 0 0,.int .i64 0,.int .i64 0,.slice none 0 0,.slice none 0 0,.slice none 0 0,.slice none 0 0,.int .i64 0] 154 (0,0)):=by rw [hW0]; exact heap_alloc2_new w _ _
 have HS0:=Zaa (hSR0.ext hE0);have HB0:=Zaa hB0;have HB1:=Zaa hB1;have HE0:=Zaa hE0;have HI0:=Zaa hI0;have HW0:=Zaa hW0;have Hcs:=Zaa hcs;clear hE0 hB0 hB1 hW0 hSR0 hI0 hcs hm;obtain ⟨la,lc,aa,ac,na,nc,da,dc,f0a,f0l,f0c,f1a,f1l,f1c,f2a,f2l,f2c,f3a,f3l,f3c,f4⟩:=s;simp only [SC.val,SC.cells] at *;go_enter Tryz.func89,Tryz.ntmps89;go_wp2;rw [<- HW0.out]
 go_loopg [7] (n+1) (fun gk mv wr=>∃ (j:Nat) (s':SC) (D':List (ND × Nat)) (m':SN),mv = .int .i64 j/\j<=n/\n - j<gk/\Ext w wr/\wr.heap[w.heap.size]?=some (.cells (s'.cells cs.length a.1.length a.2.length D'.length m'.status m'.tries) 154 (0,0))/\wr.heap[w.heap.size+1]?=some (.cells #[.slice none 0 0,.slice none 0 0,.slice none 0 0,.slice none 0 0,.int .i64 0,.int .i64 0,.slice none 0 0,.slice none 0 0,.slice none 0 0,.slice none 0 0,.int .i64 0] 154 (0,0))/\SRefN wr s' cs a D' m'/\InvN cs a m'/\Zfb cs n { m with status:=0 }=((Zfb cs (n - j) m').1,(Zfb cs (n - j) m').2+j)/\m'.status≠2)
 case atStart=>exact ⟨0,⟨la,lc,aa,ac,na,nc,da,dc,f0a,f0l,f0c,f1a,f1l,f1c,f2a,f2l,f2c,f3a,f3l,f3c,f4⟩,D,{ m with status:=0 },by go_num,by omega,by omega,HE0.out,by rw [<- Htr0.out]; exact HB0.out,HB1.out,HS0.out,HI0.out,by simp,by simp⟩
 case round =>
  clear HB0 HB1 HE0 HS0 HI0 HW0 Htr0;obtain ⟨j,⟨la,lc,aa,ac,na,nc,da,dc,f0a,f0l,f0c,f1a,f1l,f1c,f2a,f2l,f2c,f3a,f3l,f3c,f4⟩,D',m',rfl,hjn,hgk,hE,hb,hz,hS,hI,hloop,hst2⟩:=hrel;obtain ⟨st,hst⟩:∃ x,x=m'.status:=⟨_,rfl⟩;obtain ⟨tr,htr⟩:∃ x,x=m'.tries:=⟨_,rfl⟩;have hst3:=hI.st;have hT:=hI.tries;have hlen:=hS.len;have hnx:=hS.next;rw [<- hst,<- htr] at hb;simp only [SC.cells] at hb;obtain ⟨b0,b1,b2,b3,b4,b5,b6,b7,b8,b9,b10,bf⟩:=Zfp hb;obtain ⟨z0,z1,z2,z3,z4,z5,z6,z7,z8,z9,z10,zf⟩:=Zfp hz;have hme1:w.heap.size+1<wr.heap.size:=Zac hz;have Hm':Hid (st=m'.status/\tr=m'.tries):=⟨hst,htr⟩;have hstv:st=0\/st=1\/st=3:=by omega
  have hT':tr<=3000:=by omega
  have hD':D'.length<=4000:=by omega
  have HE:=Zaa hE;have Hb:=Zaa hb;have Hz:=Zaa hz;have HS:=Zaa hS;have HI:=Zaa hI;have Hloop:=Zaa hloop;have Hnx:=Zaa hnx;clear hE hb hz hS hI hloop hst2 hst htr hst3 hT hlen hnx
  by_cases hne:st=0
  ·subst hne;have hM0:m'.status=0:=Hm'.out.1.symm;have HM0:=Zaa hM0;obtain ⟨zl,hzl⟩:∃ x,x=m'.way.length:=⟨_,rfl⟩;have Hzl:=Zaa hzl;obtain ⟨ys,hD⟩:=HS.out.ref.dues;have htrim:=HS.out.trim (by rw [hM0]; decide);have HTr:Hid (∀ u,Ext wr u->Calls Tryz.prog 112 #[.agg #[.slice la cs.length lc,.slice aa a.1.length ac,.slice na a.2.length nc,.slice da D'.length dc,.int .i64 0,.int .i64 tr,.slice f0a f0l f0c,.slice f1a f1l f1c,.slice f2a f2l f2c,.slice f3a f3l f3c,.int .i64 f4]] u fun e u'=>∃ ta tc,e = .returned (.slice ta zl tc)/\Ext u u'):=fun u hu=>(Znf u (fun _=>False) la cs.length lc aa a.1.length ac na a.2.length nc (.slice da D'.length dc) 0 tr f0a f0l f0c f1a f1l f1c f2a f2l f2c f3a f3l f3c f4 D' ys (hD.ext (Y:=fun _=>False) (B':=0) hu (fun _ _ h=>h) (Nat.le_refl _)) hD' (fun x hx=>Nat.le_trans (Hnx.out x hx) (by omega)) (by omega)).mono (by
    rintro e u' ⟨dv,xs',rfl,hE,hrow⟩;obtain ⟨ta,tc,rfl⟩:=Zad hrow.owns;exact ⟨ta,tc,by rw [htrim,List.length_reverse,<- Hzl.out],hE⟩)
   have Htrim:=Zaa htrim;clear hM0 hzl hD htrim
   by_cases hlt:j<n
   ·by_cases ht3:tr<3000
    ·have hgT:(tr:Int)<3000:=by omega
     have HT3:=Zaa ht3;clear ht3 hT';go_wp2_with fail;refine (HTr.out _ (Ext.of (Kept.refl _ _))).mono ?_;rintro e w5 ⟨ta,tc,rfl,hE5⟩;have hs5:=hE5.size;have hb5:=(hE5.block _ (by omega)).trans Hb.out;have hz5:=(hE5.block _ hme1).trans Hz.out;obtain ⟨b0,b1,b2,b3,b4,b5,b6,b7,b8,b9,b10,bf⟩:=Zfp hb5;have hme5:w.heap.size+1<w5.heap.size:=by omega
     have HE5:=Zaa hE5;have Hb5:=Zaa hb5;have Hz5:=Zaa hz5;clear hE5 hb5 hz5 z0 z1 z2 z3 z4 z5 z6 z7 z8 z9 z10 zf
     by_cases hz0:zl=0
     ·have hw0:m'.way=[]:=List.eq_nil_of_length_eq_zero (by rw [<- Hzl.out]; exact hz0);have Hw0:=Zaa hw0;clear hw0;subst hz0;go_wp2_with fail;refine (HTr.out _ HE5.out).mono ?_;rintro e w6 ⟨ta6,tc6,rfl,hE6⟩;have hs6:=hE6.size;have hb6:=(hE6.block _ (by omega)).trans Hb5.out;have hz6:=(hE6.block _ (by omega)).trans Hz5.out;obtain ⟨b0,b1,b2,b3,b4,b5,b6,b7,b8,b9,b10,bf⟩:=Zfp hb6;obtain ⟨z0,z1,z2,z3,z4,z5,z6,z7,z8,z9,z10,zf⟩:=Zfp hz6;have hme6:w.heap.size+1<w6.heap.size:=by omega
      have HEw6:=Zaa ((HE.out.trans (HE5.out.mono HE.out.size)).trans (hE6.mono (HE.out.trans (HE5.out.mono HE.out.size)).size));have HSw6:=Zaa (HS.out.ext (HE5.out.trans (hE6.mono HE5.out.size)));have Hb6:=Zaa hb6;have Hz6:=Zaa hz6;clear hE6 hb6 hz6;have Hout:Hid (∀ w',Kept (fun k=>w.heap.size<=k/\k<=w.heap.size+1) w6 w'->∃ (s':SC) (D'':List (ND × Nat)),(Ending.returned (.tuple #[.agg #[.slice la cs.length lc,.slice aa a.1.length ac,.slice na a.2.length nc,.slice da D'.length dc,.int .i64 2,.int .i64 tr,.slice f0a f0l f0c,.slice f1a f1l f1c,.slice f2a f2l f2c,.slice f3a f3l f3c,.int .i64 f4],.int .i64 j,.int .i64 0])) = .returned (.tuple #[s'.val cs.length a.1.length a.2.length D''.length (Zdf cs n m).1.status (Zdf cs n m).1.tries,.int .i64 (Zdf cs n m).2,.int .i64 0])/\Ext w w'/\SRefN w' s' cs a D'' (Zdf cs n m).1):=fun w' hk=>by
       have hst:=Zgu (n:=n) (j:=j) Hm.out Hloop.out (Zcq (Or.inr (Or.inr (Or.inl Hw0.out))));obtain ⟨g1,g2,g3⟩:=HSw6.out.end_no HM0.out Hw0.out;refine ⟨⟨la,lc,aa,ac,na,nc,da,dc,f0a,f0l,f0c,f1a,f1l,f1c,f2a,f2l,f2c,f3a,f3l,f3c,f4⟩,D',?_,?_,?_⟩
       ·rw [hst]; simp only [g2,g3,SC.val]; rw [<- Hm'.out.2]; try rfl
       ·exact HEw6.out.trans (hk.below HEw6.out.size (fun _ h=>h.1))
       ·rw [hst]; exact g1.keep hk (Zeu Hb6.out Hz6.out)
      clear HS HI Hloop Hnx Hm' HSw6
      try clear ht3
      try clear hT'
      go_wp2;refine bodyPost_ret (v := .tuple #[.agg #[.slice la cs.length lc,.slice aa a.1.length ac,.slice na a.2.length nc,.slice da D'.length dc,.int .i64 2,.int .i64 tr,.slice f0a f0l f0c,.slice f1a f1l f1c,.slice f2a f2l f2c,.slice f3a f3l f3c,.int .i64 f4],.int .i64 j,.int .i64 0]) (by simp [results,Tryz.results89,go_sem,z0,z1,z2,z3,z4,z5,z6,z7,z8,z9,z10,zf,b0,b1,b2,b3,b4,b5,b6,b7,b8,b9,b10,bf,hme1]) rfl ?_;exact Hout.out _ Mst
     ·have hz1:((zl:Int) == 0)=false:=by rw [beq_eq_false_iff_ne]; omega
      have hway:m'.way≠[]:=fun e=>hz0 (by rw [Hzl.out,e]; rfl);obtain ⟨n',k,r,c,hw1,hw2,hw3⟩:=HI.out.head hway;have Htd:=Zaa (Ydf w5 ⟨la,lc,aa,ac,na,nc,da,dc,f0a,f0l,f0c,f1a,f1l,f1c,f2a,f2l,f2c,f3a,f3l,f3c,f4⟩ cs a D' tr m'.found n' k r c (by have:=HS.out.ref.ext HE5.out; rw [HM0.out] at this; exact this) Hcs.out hcl (by rw [Htrim.out,hw1]) hw2 hw3 hD' (fun x hx=>Nat.le_trans (Hnx.out x hx) (by omega)) (Nat.le_trans (Nat.le_of_lt HT3.out) (by decide)));obtain ⟨e1,e2,e3,e4⟩:=Zft hw1 hw2 HM0.out;have hlr:r.length+1<=1+m'.tries:=by
       have h1:=Zsw cs.length D';rw [Htrim.out,hw1] at h1;have h2:=HS.out.len;simp at h1;omega
      have Hnext:Hid (∀ u s'',SRef u s'' cs a (Zcj n' c k r) (Zck n' c k) (tryN n' c k).1->SRefN u s'' cs a (Zcj n' c k r) (Zbd cs m')):=fun u s'' hu=>SRefN.tried (L:=0) (T:=0) hw1 hw2 HM0.out (fun x hx=>(HI.out.way x (by rw [hw1]; simp [hx])).2.2.1) hlr hu;have Hinv:Hid (InvN cs a (Zbd cs m')):=HI.out.try' hcl HM0.out hw1 hw2 (by rw [<- Hm'.out.2]; exact HT3.out);have Hsd:Hid ((Zbd cs m').status=Zck n' c k/\(Zbd cs m').tries=tr+1/\(Zbd cs m').status≠2):=⟨e2,by rw [e3,<- Hm'.out.2],by rw [e2]; exact Ztb _ _ _⟩;have Hlp:Hid (Zfb cs n { m with status:=0 }=((Zfb cs (n - (j+1)) (Zbd cs m')).1,(Zfb cs (n - (j+1)) (Zbd cs m')).2+(j+1))):=by
       have h1:=Hloop.out;rw [show n - j=(n - (j+1))+1 by omega,Zwv HM0.out hway (by rw [<- Hm'.out.2]; exact HT3.out)] at h1;show _=_;rw [h1];simp; omega
      clear e1 e2 e3 e4 hlr hw1 hw2 hw3 hway hz0;simp only [SC.val] at Htd;go_wp2_with fail;refine Htd.out.mono ?_;obtain ⟨tr1,htr1⟩:∃ x:Nat,x=tr+1:=⟨_,rfl⟩;obtain ⟨st1,hst1⟩:∃ x:Nat,x=Zck n' c k:=⟨_,rfl⟩;obtain ⟨L1,hL1⟩:∃ x:Nat,x=(Zcj n' c k r).length:=⟨_,rfl⟩;have HX:Hid (tr1=tr+1/\st1=Zck n' c k/\L1=(Zcj n' c k r).length):=⟨htr1,hst1,hL1⟩;rw [<- htr1,<- hst1,<- hL1];clear htr1 hst1 hL1;rintro e w6 ⟨s6,rfl,hE6,hS6⟩;obtain ⟨la6,lc6,aa6,ac6,na6,nc6,da6,dc6,g0a,g0l,g0c,g1a,g1l,g1c,g2a,g2l,g2c,g3a,g3l,g3c,g4⟩:=s6;have hs6:=hE6.size;have hb6:=(hE6.block _ (by omega)).trans Hb5.out;have hz6:=(hE6.block _ (by omega)).trans Hz5.out;obtain ⟨b0,b1,b2,b3,b4,b5,b6,b7,b8,b9,b10,bf⟩:=Zfp hb6;have HE6:=Zaa hE6;have Hb6:=Zaa hb6;have Hz6:=Zaa hz6;have HS6:=Zaa (Hnext.out _ _ (by rw [<- HX.out.2.1]; exact hS6));clear hE6 hb6 hz6 hS6 Hnext Htd;simp only [SC.val];go_wp2
      go_roundg (n - j)
      case measure=>omega
      case rel =>
       have hK:Kept (only w.heap.size) w6 _:=(((((((((((Kept.refl (only w.heap.size) w6).put 0 (.slice la6 cs.length lc6)).put 1 (.slice aa6 a.1.length ac6)).put 2 (.slice na6 a.2.length nc6)).put 3 (.slice da6 L1 dc6)).put 4 (.int .i64 st1)).put 5 (.int .i64 tr1)).put 6 (.slice g0a g0l g0c)).put 7 (.slice g1a g1l g1c)).put 8 (.slice g2a g2l g2c)).put 9 (.slice g3a g3l g3c)).put 10 (.int .i64 g4);have hwr:Ext w w6:=(HE.out.trans (HE5.out.mono HE.out.size)).trans (HE6.out.mono (by omega));refine ⟨j+1,⟨la6,lc6,aa6,ac6,na6,nc6,da6,dc6,g0a,g0l,g0c,g1a,g1l,g1c,g2a,g2l,g2c,g3a,g3l,g3c,g4⟩,Zcj n' c k r,Zbd cs m',by go_num,by omega,by omega,hwr.trans (hK.below hwr.size (fun i hi=>by have:i=w.heap.size:=hi; omega)),?_,?_,HS6.out.keep hK (Zpe Hb6.out),Hinv.out,Hlp.out,Hsd.out.2.2⟩
       ·rw [Hsd.out.1,Hsd.out.2.1,<- HX.out.1,<- HX.out.2.1,<- HX.out.2.2];exact Zng Hb6.out _ _ _ _ _ _ _ _ _ _ _
       ·exact (hK.block _ (by omega) (fun e=>by have:w.heap.size+1=w.heap.size:=e; omega)).trans Hz6.out
    ·have ht3':(3000:Int)<=(tr:Int):=by omega
     have hgT:¬ (tr:Int)<3000:=by omega
     clear ht3 hT';go_wp2_with fail;refine (HTr.out _ (Ext.of (Kept.refl _ _))).mono ?_;rintro e w6 ⟨ta6,tc6,rfl,hE6⟩;have hs6:=hE6.size;have hb6:=(hE6.block _ (by omega)).trans Hb.out;have hz6:=(hE6.block _ (by omega)).trans Hz.out;obtain ⟨b0,b1,b2,b3,b4,b5,b6,b7,b8,b9,b10,bf⟩:=Zfp hb6;obtain ⟨z0,z1,z2,z3,z4,z5,z6,z7,z8,z9,z10,zf⟩:=Zfp hz6;have hme6:w.heap.size+1<w6.heap.size:=by omega
     have HEw6:=Zaa (HE.out.trans (hE6.mono HE.out.size));have HSw6:=Zaa (HS.out.ext (hE6));have Hb6:=Zaa hb6;have Hz6:=Zaa hz6;clear hE6 hb6 hz6
     by_cases hz0:zl=0
     ·have hw0:m'.way=[]:=List.eq_nil_of_length_eq_zero (by rw [<- Hzl.out]; exact hz0);have Hw0:=Zaa hw0;clear hw0;subst hz0;have Hout:Hid (∀ w',Kept (fun k=>w.heap.size<=k/\k<=w.heap.size+1) w6 w'->∃ (s':SC) (D'':List (ND × Nat)),(Ending.returned (.tuple #[.agg #[.slice la cs.length lc,.slice aa a.1.length ac,.slice na a.2.length nc,.slice da D'.length dc,.int .i64 2,.int .i64 tr,.slice f0a f0l f0c,.slice f1a f1l f1c,.slice f2a f2l f2c,.slice f3a f3l f3c,.int .i64 f4],.int .i64 j,.int .i64 0])) = .returned (.tuple #[s'.val cs.length a.1.length a.2.length D''.length (Zdf cs n m).1.status (Zdf cs n m).1.tries,.int .i64 (Zdf cs n m).2,.int .i64 0])/\Ext w w'/\SRefN w' s' cs a D'' (Zdf cs n m).1):=fun w' hk=>by
       have hst:=Zgu (n:=n) (j:=j) Hm.out Hloop.out (Zcq (Or.inr (Or.inr (Or.inr (by rw [<- Hm'.out.2]; omega)))));obtain ⟨g1,g2,g3⟩:=HSw6.out.end_no HM0.out Hw0.out;refine ⟨⟨la,lc,aa,ac,na,nc,da,dc,f0a,f0l,f0c,f1a,f1l,f1c,f2a,f2l,f2c,f3a,f3l,f3c,f4⟩,D',?_,?_,?_⟩
       ·rw [hst]; simp only [g2,g3,SC.val]; rw [<- Hm'.out.2]; try rfl
       ·exact HEw6.out.trans (hk.below HEw6.out.size (fun _ h=>h.1))
       ·rw [hst]; exact g1.keep hk (Zeu Hb6.out Hz6.out)
      clear HS HI Hloop Hnx Hm' HSw6
      try clear ht3
      try clear hT'
      go_wp2;refine bodyPost_ret (v := .tuple #[.agg #[.slice la cs.length lc,.slice aa a.1.length ac,.slice na a.2.length nc,.slice da D'.length dc,.int .i64 2,.int .i64 tr,.slice f0a f0l f0c,.slice f1a f1l f1c,.slice f2a f2l f2c,.slice f3a f3l f3c,.int .i64 f4],.int .i64 j,.int .i64 0]) (by simp [results,Tryz.results89,go_sem,z0,z1,z2,z3,z4,z5,z6,z7,z8,z9,z10,zf,b0,b1,b2,b3,b4,b5,b6,b7,b8,b9,b10,bf,hme1]) rfl ?_;exact Hout.out _ Mst
     ·have hz1:((zl:Int) == 0)=false:=by rw [beq_eq_false_iff_ne]; omega
      have hwn:m'.way≠[]:=fun e=>hz0 (by rw [Hzl.out,e]; rfl);have Hout:Hid (∀ w',Kept (fun k=>w.heap.size<=k/\k<=w.heap.size+1) w6 w'->∃ (s':SC) (D'':List (ND × Nat)),(Ending.returned (.tuple #[.agg #[.slice la cs.length lc,.slice aa a.1.length ac,.slice na a.2.length nc,.slice da D'.length dc,.int .i64 3,.int .i64 tr,.slice f0a f0l f0c,.slice f1a f1l f1c,.slice f2a f2l f2c,.slice f3a f3l f3c,.int .i64 f4],.int .i64 j,.int .i64 0])) = .returned (.tuple #[s'.val cs.length a.1.length a.2.length D''.length (Zdf cs n m).1.status (Zdf cs n m).1.tries,.int .i64 (Zdf cs n m).2,.int .i64 0])/\Ext w w'/\SRefN w' s' cs a D'' (Zdf cs n m).1):=fun w' hk=>by
       have hst:=Zgu (n:=n) (j:=j) Hm.out Hloop.out (Zcq (Or.inr (Or.inr (Or.inr (by rw [<- Hm'.out.2]; omega)))));obtain ⟨g1,g2,g3⟩:=HSw6.out.end_full HM0.out hwn (by rw [<- Hm'.out.2]; omega);refine ⟨⟨la,lc,aa,ac,na,nc,da,dc,f0a,f0l,f0c,f1a,f1l,f1c,f2a,f2l,f2c,f3a,f3l,f3c,f4⟩,D',?_,?_,?_⟩
       ·rw [hst]; simp only [g2,g3,SC.val]; rw [<- Hm'.out.2]; try rfl
       ·exact HEw6.out.trans (hk.below HEw6.out.size (fun _ h=>h.1))
       ·rw [hst]; exact g1.keep hk (Zeu Hb6.out Hz6.out)
      clear HS HI Hloop Hnx Hm' HSw6
      try clear ht3
      try clear hT'
      go_wp2;refine bodyPost_ret (v := .tuple #[.agg #[.slice la cs.length lc,.slice aa a.1.length ac,.slice na a.2.length nc,.slice da D'.length dc,.int .i64 3,.int .i64 tr,.slice f0a f0l f0c,.slice f1a f1l f1c,.slice f2a f2l f2c,.slice f3a f3l f3c,.int .i64 f4],.int .i64 j,.int .i64 0]) (by simp [results,Tryz.results89,go_sem,z0,z1,z2,z3,z4,z5,z6,z7,z8,z9,z10,zf,b0,b1,b2,b3,b4,b5,b6,b7,b8,b9,b10,bf,hme1]) rfl ?_;exact Hout.out _ Mst
   ·go_wp2_with fail;refine (HTr.out _ (Ext.of (Kept.refl _ _))).mono ?_;rintro e w6 ⟨ta6,tc6,rfl,hE6⟩;have hs6:=hE6.size;have hb6:=(hE6.block _ (by omega)).trans Hb.out;have hz6:=(hE6.block _ (by omega)).trans Hz.out;obtain ⟨b0,b1,b2,b3,b4,b5,b6,b7,b8,b9,b10,bf⟩:=Zfp hb6;obtain ⟨z0,z1,z2,z3,z4,z5,z6,z7,z8,z9,z10,zf⟩:=Zfp hz6;have hme6:w.heap.size+1<w6.heap.size:=by omega
    have HEw6:=Zaa (HE.out.trans (hE6.mono HE.out.size));have HSw6:=Zaa (HS.out.ext (hE6));have Hb6:=Zaa hb6;have Hz6:=Zaa hz6;clear hE6 hb6 hz6
    by_cases hz0:zl=0
    ·have hw0:m'.way=[]:=List.eq_nil_of_length_eq_zero (by rw [<- Hzl.out]; exact hz0);have Hw0:=Zaa hw0;clear hw0;subst hz0;have Hout:Hid (∀ w',Kept (fun k=>w.heap.size<=k/\k<=w.heap.size+1) w6 w'->∃ (s':SC) (D'':List (ND × Nat)),(Ending.returned (.tuple #[.agg #[.slice la cs.length lc,.slice aa a.1.length ac,.slice na a.2.length nc,.slice da D'.length dc,.int .i64 2,.int .i64 tr,.slice f0a f0l f0c,.slice f1a f1l f1c,.slice f2a f2l f2c,.slice f3a f3l f3c,.int .i64 f4],.int .i64 j,.int .i64 0])) = .returned (.tuple #[s'.val cs.length a.1.length a.2.length D''.length (Zdf cs n m).1.status (Zdf cs n m).1.tries,.int .i64 (Zdf cs n m).2,.int .i64 0])/\Ext w w'/\SRefN w' s' cs a D'' (Zdf cs n m).1):=fun w' hk=>by
      have hst:=Zgu (n:=n) (j:=j) Hm.out Hloop.out (Zcq (Or.inl (by omega)));obtain ⟨g1,g2,g3⟩:=HSw6.out.end_no HM0.out Hw0.out;refine ⟨⟨la,lc,aa,ac,na,nc,da,dc,f0a,f0l,f0c,f1a,f1l,f1c,f2a,f2l,f2c,f3a,f3l,f3c,f4⟩,D',?_,?_,?_⟩
      ·rw [hst]; simp only [g2,g3,SC.val]; rw [<- Hm'.out.2]; try rfl
      ·exact HEw6.out.trans (hk.below HEw6.out.size (fun _ h=>h.1))
      ·rw [hst]; exact g1.keep hk (Zeu Hb6.out Hz6.out)
     clear HS HI Hloop Hnx Hm' HSw6
     try clear ht3
     try clear hT'
     go_wp2;refine bodyPost_ret (v := .tuple #[.agg #[.slice la cs.length lc,.slice aa a.1.length ac,.slice na a.2.length nc,.slice da D'.length dc,.int .i64 2,.int .i64 tr,.slice f0a f0l f0c,.slice f1a f1l f1c,.slice f2a f2l f2c,.slice f3a f3l f3c,.int .i64 f4],.int .i64 j,.int .i64 0]) (by simp [results,Tryz.results89,go_sem,z0,z1,z2,z3,z4,z5,z6,z7,z8,z9,z10,zf,b0,b1,b2,b3,b4,b5,b6,b7,b8,b9,b10,bf,hme1]) rfl ?_;exact Hout.out _ Mst
    ·have hz1:((zl:Int) == 0)=false:=by rw [beq_eq_false_iff_ne]; omega
     have hwn:m'.way≠[]:=fun e=>hz0 (by rw [Hzl.out,e]; rfl)
     by_cases ht3:3000<=tr
     ·have ht3':(3000:Int)<=(tr:Int):=by omega
      have Hout:Hid (∀ w',Kept (fun k=>w.heap.size<=k/\k<=w.heap.size+1) w6 w'->∃ (s':SC) (D'':List (ND × Nat)),(Ending.returned (.tuple #[.agg #[.slice la cs.length lc,.slice aa a.1.length ac,.slice na a.2.length nc,.slice da D'.length dc,.int .i64 3,.int .i64 tr,.slice f0a f0l f0c,.slice f1a f1l f1c,.slice f2a f2l f2c,.slice f3a f3l f3c,.int .i64 f4],.int .i64 j,.int .i64 0])) = .returned (.tuple #[s'.val cs.length a.1.length a.2.length D''.length (Zdf cs n m).1.status (Zdf cs n m).1.tries,.int .i64 (Zdf cs n m).2,.int .i64 0])/\Ext w w'/\SRefN w' s' cs a D'' (Zdf cs n m).1):=fun w' hk=>by
       have hst:=Zgu (n:=n) (j:=j) Hm.out Hloop.out (Zcq (Or.inl (by omega)));obtain ⟨g1,g2,g3⟩:=HSw6.out.end_full HM0.out hwn (by rw [<- Hm'.out.2]; omega);refine ⟨⟨la,lc,aa,ac,na,nc,da,dc,f0a,f0l,f0c,f1a,f1l,f1c,f2a,f2l,f2c,f3a,f3l,f3c,f4⟩,D',?_,?_,?_⟩
       ·rw [hst]; simp only [g2,g3,SC.val]; rw [<- Hm'.out.2]; try rfl
       ·exact HEw6.out.trans (hk.below HEw6.out.size (fun _ h=>h.1))
       ·rw [hst]; exact g1.keep hk (Zeu Hb6.out Hz6.out)
      clear HS HI Hloop Hnx Hm' HSw6
      try clear ht3
      try clear hT'
      go_wp2;refine bodyPost_ret (v := .tuple #[.agg #[.slice la cs.length lc,.slice aa a.1.length ac,.slice na a.2.length nc,.slice da D'.length dc,.int .i64 3,.int .i64 tr,.slice f0a f0l f0c,.slice f1a f1l f1c,.slice f2a f2l f2c,.slice f3a f3l f3c,.int .i64 f4],.int .i64 j,.int .i64 0]) (by simp [results,Tryz.results89,go_sem,z0,z1,z2,z3,z4,z5,z6,z7,z8,z9,z10,zf,b0,b1,b2,b3,b4,b5,b6,b7,b8,b9,b10,bf,hme1]) rfl ?_;exact Hout.out _ Mst
     ·have ht3':¬ (3000:Int)<=(tr:Int):=by omega
      have Hout:Hid (∀ w',Kept (fun k=>w.heap.size<=k/\k<=w.heap.size+1) w6 w'->∃ (s':SC) (D'':List (ND × Nat)),(Ending.returned (.tuple #[.agg #[.slice la cs.length lc,.slice aa a.1.length ac,.slice na a.2.length nc,.slice da D'.length dc,.int .i64 0,.int .i64 tr,.slice f0a f0l f0c,.slice f1a f1l f1c,.slice f2a f2l f2c,.slice f3a f3l f3c,.int .i64 f4],.int .i64 j,.int .i64 0])) = .returned (.tuple #[s'.val cs.length a.1.length a.2.length D''.length (Zdf cs n m).1.status (Zdf cs n m).1.tries,.int .i64 (Zdf cs n m).2,.int .i64 0])/\Ext w w'/\SRefN w' s' cs a D'' (Zdf cs n m).1):=fun w' hk=>by
       have hst:=Zgu (n:=n) (j:=j) Hm.out Hloop.out (Zcq (Or.inl (by omega)));obtain ⟨g1,g2,g3⟩:=HSw6.out.end_on HM0.out hwn (by rw [<- Hm'.out.2]; omega);refine ⟨⟨la,lc,aa,ac,na,nc,da,dc,f0a,f0l,f0c,f1a,f1l,f1c,f2a,f2l,f2c,f3a,f3l,f3c,f4⟩,D',?_,?_,?_⟩
       ·rw [hst]; simp only [g2,g3,SC.val]; rw [<- Hm'.out.2]; try rfl
       ·exact HEw6.out.trans (hk.below HEw6.out.size (fun _ h=>h.1))
       ·rw [hst]; exact g1.keep hk (Zeu Hb6.out Hz6.out)
      clear HS HI Hloop Hnx Hm' HSw6
      try clear ht3
      try clear hT'
      go_wp2;refine bodyPost_ret (v := .tuple #[.agg #[.slice la cs.length lc,.slice aa a.1.length ac,.slice na a.2.length nc,.slice da D'.length dc,.int .i64 0,.int .i64 tr,.slice f0a f0l f0c,.slice f1a f1l f1c,.slice f2a f2l f2c,.slice f3a f3l f3c,.int .i64 f4],.int .i64 j,.int .i64 0]) (by simp [results,Tryz.results89,go_sem,z0,z1,z2,z3,z4,z5,z6,z7,z8,z9,z10,zf,b0,b1,b2,b3,b4,b5,b6,b7,b8,b9,b10,bf,hme1]) rfl ?_;exact Hout.out _ Mst
  ·have hk0:((st:Int) == 0)=false:=by rw [beq_eq_false_iff_ne]; omega
   have hk1:((st:Int) != 0)=true:=by rw [bne_iff_ne]; omega
   have hne':m'.status≠0:=by rw [<- Hm'.out.1]; exact hne
   have Hout:Hid (∀ w',Kept (fun k=>w.heap.size<=k/\k<=w.heap.size+1) wr w'->∃ (s':SC) (D'':List (ND × Nat)),(Ending.returned (.tuple #[.agg #[.slice la cs.length lc,.slice aa a.1.length ac,.slice na a.2.length nc,.slice da D'.length dc,.int .i64 st,.int .i64 tr,.slice f0a f0l f0c,.slice f1a f1l f1c,.slice f2a f2l f2c,.slice f3a f3l f3c,.int .i64 f4],.int .i64 j,.int .i64 0])) = .returned (.tuple #[s'.val cs.length a.1.length a.2.length D''.length (Zdf cs n m).1.status (Zdf cs n m).1.tries,.int .i64 (Zdf cs n m).2,.int .i64 0])/\Ext w w'/\SRefN w' s' cs a D'' (Zdf cs n m).1):=fun w' hk=>by
    have hst:=Zgu (n:=n) (j:=j) Hm.out Hloop.out (Zcq (Or.inr (Or.inl hne')));obtain ⟨g1,g2,g3⟩:=(HS.out.end_ne hne');refine ⟨⟨la,lc,aa,ac,na,nc,da,dc,f0a,f0l,f0c,f1a,f1l,f1c,f2a,f2l,f2c,f3a,f3l,f3c,f4⟩,D',?_,?_,?_⟩
    ·rw [hst]; simp only [g2,g3,SC.val]; rw [<- Hm'.out.1,<- Hm'.out.2]; try rfl
    ·exact HE.out.trans (hk.below HE.out.size (fun _ h=>h.1))
    ·rw [hst]; exact g1.keep hk (Zeu Hb.out Hz.out)
   clear hne hne' HS HI Hloop Hnx Hm'
   by_cases hlt:j<n
   ·go_wp2;refine bodyPost_ret (v := .tuple #[.agg #[.slice la cs.length lc,.slice aa a.1.length ac,.slice na a.2.length nc,.slice da D'.length dc,.int .i64 st,.int .i64 tr,.slice f0a f0l f0c,.slice f1a f1l f1c,.slice f2a f2l f2c,.slice f3a f3l f3c,.int .i64 f4],.int .i64 j,.int .i64 0]) (by simp [results,Tryz.results89,go_sem,z0,z1,z2,z3,z4,z5,z6,z7,z8,z9,z10,zf,b0,b1,b2,b3,b4,b5,b6,b7,b8,b9,b10,bf,hme1]) rfl ?_;exact Hout.out _ Mst
   ·go_wp2;refine bodyPost_ret (v := .tuple #[.agg #[.slice la cs.length lc,.slice aa a.1.length ac,.slice na a.2.length nc,.slice da D'.length dc,.int .i64 st,.int .i64 tr,.slice f0a f0l f0c,.slice f1a f1l f1c,.slice f2a f2l f2c,.slice f3a f3l f3c,.int .i64 f4],.int .i64 j,.int .i64 0]) (by simp [results,Tryz.results89,go_sem,z0,z1,z2,z3,z4,z5,z6,z7,z8,z9,z10,zf,b0,b1,b2,b3,b4,b5,b6,b7,b8,b9,b10,bf,hme1]) rfl ?_;exact Hout.out _ Mst
noncomputable def sweN (m:SN):Nat:=open Classical in if m.way=[] then 2 else if 3000<=m.tries then 3 else 0
theorem Yht (w:World) (b:Nat) (x:CX) (cs:List Cls) (a:List (List Sym) × Names) (m:SN) (h:CSr w b x cs a m) :
  Calls Tryz.prog 77 #[.pointer (some ⟨b,0,none⟩)] w fun e w'=>e = .returned (.int .i64 (sweN m))/\w'=w:=by
 have hbx:=h.box;obtain ⟨ca,cc,na,nc,wa,wc,va,vl,vc,fa,fl,fc⟩:=x;simp only [CX.cells] at hbx;obtain ⟨b0,b1,b2,b3,b4,b5,b6,b7,bf⟩:=box8 hbx;obtain ⟨z,hz⟩:∃ z,z=m.way.length:=⟨_,rfl⟩;obtain ⟨tr,htr⟩:∃ z,z=m.tries:=⟨_,rfl⟩;rw [<- hz] at b2;rw [<- htr] at b3;have hbl:=Zac hbx
 by_cases hz0:z=0
 ·have hs:sweN m=2:=by unfold sweN; rw [if_pos (List.eq_nil_of_length_eq_zero (by omega))]
  rw [hs];subst hz0;clear h hbx hz htr hs;go_enter Tryz.func77,Tryz.ntmps77;go_wp2;go_ret;exact ⟨rfl,rfl⟩
 ·have hw:m.way≠[]:=fun e=>hz0 (by rw [hz,e]; rfl);have hz1:((z:Int) == 0)=false:=by rw [beq_eq_false_iff_ne]; omega
  by_cases ht:3000<=tr
  ·have hs:sweN m=3:=by unfold sweN; rw [if_neg hw,if_pos (by omega)]
   have ht':(3000:Int)<=(tr:Int):=by omega
   rw [hs];clear h hbx hz htr hs hw ht hz0;go_enter Tryz.func77,Tryz.ntmps77;go_wp2;go_ret;exact ⟨rfl,rfl⟩
  ·have hs:sweN m=0:=by unfold sweN; rw [if_neg hw,if_neg (by omega)]
   have ht':¬ (3000:Int)<=(tr:Int):=by omega
   rw [hs];clear h hbx hz htr hs hw ht hz0;go_enter Tryz.func77,Tryz.ntmps77;go_wp2;go_ret;exact ⟨rfl,rfl⟩
theorem CSr.full {w w':World} {b:Nat} {x:CX} {cs:List Cls} {a:List (List Sym) × Names} {m:SN} (h:CSr w b x cs a m) (hk:Kept (only b) w w') (hb:w'.heap[b]?=some (.cells #[.slice x.ca cs.length x.cc,.slice x.na a.2.length x.nc,.slice none 0 0,.int .i64 m.tries,.int .i64 3,.slice x.va x.vl x.vc,.slice x.fa x.fl x.fc,.string ⟨#[]⟩] 112 (0,0))):CSr w' b { x with wa:=none,wc:=0 } cs a (Zkb m) :=
 h.upd hk hb ⟨rfl,rfl,rfl,rfl⟩ ⟨[],RowL.nil _⟩ (fun h=>by simp [Zkb] at h)
theorem CSr.stat {w w':World} {b:Nat} {x:CX} {cs:List Cls} {a:List (List Sym) × Names} {m:SN} (h:CSr w b x cs a m) (st:Nat) (hst:st≠1) (hk:Kept (only b) w w') (hb:w'.heap[b]?=some (.cells (x.cells cs.length a.2.length m.way.length m.tries st m.tree) 112 (0,0))):CSr w' b x cs a { m with status:=st } :=
 h.upd hk hb ⟨rfl,rfl,rfl,rfl⟩ h.way (fun h=>absurd h hst)
theorem Zzo {m:SN} (h:m.status=0):m = { m with status:=0 }:=by
 obtain ⟨p1,p2,p3,p4,p5⟩:=m;simp only at h;subst h;rfl
theorem Yhu {w:World} {b:Nat} {x x':CX} (h:Ziq w x x') {i:Nat} (hi:i<w.heap.size) (ho:ownS b x' i):ownS b x i:=by
 rcases ho with rfl | ho
 ·exact Or.inl rfl
 ·rcases h i ho with h | h
  ·exact Or.inr h
  ·omega
theorem Zzp (w:World) (b:Nat) (x:CX) (cs:List Cls) (a:List (List Sym) × Names) (m:SN) (n:Nat) (h:CSr w b x cs a m) (hn:n<=3000) (hm:m.status=2\/m.status=3) :
  Calls Tryz.prog 54 #[.pointer (some ⟨b,0,none⟩),.int .i64 n] w fun e w'=>e = .returned (.tuple #[.int .i64 0,.int .i64 0])/\w'=w:=by
 have hbx:=h.box;obtain ⟨ca,cc,na,nc,wa,wc,va,vl,vc,fa,fl,fc⟩:=x;simp only [CX.cells] at hbx;obtain ⟨b0,b1,b2,b3,b4,b5,b6,b7,bf⟩:=box8 hbx;have hbl:=Zac hbx;clear h hbx;rcases hm with hm | hm
 all_goals
  rw [hm] at b4;clear hm;go_enter Tryz.func54,Tryz.ntmps54;go_wp2;go_ret2;exact ⟨rfl,rfl⟩
theorem Ydi (w:World) (b:Nat) (n:Int) (hn:n<0\/3000<n) (hi : -9223372036854775808<=n/\n<9223372036854775808) :
  Calls Tryz.prog 54 #[.pointer (some ⟨b,0,none⟩),.int .i64 n] w fun e w'=>e = .returned (.tuple #[.int .i64 0,.int .i64 8])/\w'=w:=by
 by_cases h0:n<0
 ·clear hn;go_enter Tryz.func54,Tryz.ntmps54;go_wp2;go_ret2;exact ⟨rfl,rfl⟩
 ·have h3:3000<n:=by omega
  clear hn;go_enter Tryz.func54,Tryz.ntmps54;go_wp2;go_ret2;exact ⟨rfl,rfl⟩
theorem Yfm (w:World) (b:Nat) (x:CX) (cs:List Cls) (a:List (List Sym) × Names) (m:SN) (n:Nat) (h:CSr w b x cs a m) (hI:InvN cs a m) (hcs:∀ c ∈ cs,COk c/\CNm c) (hcf:∀ c ∈ cs,CFew c) (hcl:cs.length<=24) (hn:n<=3000) (hm:m.status≠2/\m.status≠3) :
  Calls Tryz.prog 54 #[.pointer (some ⟨b,0,none⟩),.int .i64 n] w fun e w'=>e = .returned (.tuple #[.int .i64 (Zdf cs n m).2,.int .i64 0])/\∃ x',Kept (ownS b x) w w'/\CSr w' b x' cs a (Zdf cs n m).1/\Ziq w x x':=by
 obtain ⟨st0,hst0⟩:∃ z,z=m.status:=⟨_,rfl⟩;have hm2:((st0:Int) == 2)=false:=by rw [beq_eq_false_iff_ne]; omega
 have hm3:((st0:Int) == 3)=false:=by rw [beq_eq_false_iff_ne]; omega
 have hbx:=h.box;obtain ⟨ca,cc,na,nc,wa,wc,va,vl,vc,fa,fl,fc⟩:=x;simp only [CX.cells] at hbx;rw [<- hst0] at hbx;obtain ⟨b0,b1,b2,b3,b4,b5,b6,b7,bf⟩:=box8 hbx;have hbl:=Zac hbx;obtain ⟨W0,hW0⟩:∃ W0,W0=((w.setCell ⟨b,4,none⟩ (.int .i64 0)).setCell ⟨b,5,none⟩ (.slice none 0 0)).setCell ⟨b,6,none⟩ (.slice none 0 0):=⟨_,rfl⟩;have hK0:Kept (only b) w W0:=by rw [hW0]; exact (((Kept.refl _ _).put 4 _).put 5 _).put 6 _
 have hC0:CSr W0 b ⟨ca,cc,na,nc,wa,wc,none,0,0,none,0,0⟩ cs a { m with status:=0 }:=h.upd hK0 (by rw [hW0]; exact Zag (Zag (Zag hbx 4 _) 5 _) 6 _) ⟨rfl,rfl,rfl,rfl⟩ h.way (fun h=>by simp at h);have HK0:=Zaa (hK0.mono (S':=ownS b ⟨ca,cc,na,nc,wa,wc,va,vl,vc,fa,fl,fc⟩) (fun i _ e=>Or.inl e));have HC0:=Zaa hC0;have HI0:=Zaa (hI.seek hm.2);have HW0:=Zaa hW0;have Hcs:=Zaa hcs;have Hcf:=Zaa hcf;have Hm:=Zaa hm;clear h hI hcs hcf hm hbx hK0 hC0 hW0 hst0;go_enter Tryz.func54,Tryz.ntmps54;go_wp2;rw [<- HW0.out]
 go_loopg [6] (n+1) (fun gk mv wr=>∃ (j:Nat) (x':CX) (m':SN),mv = .int .i64 j/\j<=n/\n - j<gk/\Kept (ownS b ⟨ca,cc,na,nc,wa,wc,va,vl,vc,fa,fl,fc⟩) w wr/\CSr wr b x' cs a m'/\Ziq w ⟨ca,cc,na,nc,wa,wc,va,vl,vc,fa,fl,fc⟩ x'/\InvN cs a m'/\Zfb cs n { m with status:=0 }=((Zfb cs (n - j) m').1,(Zfb cs (n - j) m').2+j)/\m'.status≠2)
 case atStart=>exact ⟨0,_,{ m with status:=0 },by go_num,by omega,by omega,HK0.out,HC0.out,fun k hk=>Or.inl hk,HI0.out,by simp,by simp⟩
 case round =>
  clear b0 b1 b2 b3 b4 b5 b6 b7 bf HK0 HC0 HI0 HW0;obtain ⟨j,⟨ca1,cc1,na1,nc1,wa1,wc1,va1,vl1,vc1,fa1,fl1,fc1⟩,m',rfl,hjn,hgk,hK,hC,hN,hI,hloop,hst2⟩:=hrel;obtain ⟨st,hst⟩:∃ z,z=m'.status:=⟨_,rfl⟩;obtain ⟨tr,htr⟩:∃ z,z=m'.tries:=⟨_,rfl⟩;obtain ⟨zl,hzl⟩:∃ z,z=m'.way.length:=⟨_,rfl⟩;have hst3:=hI.st;have hT:=hI.tries;have hbx:=hC.box;simp only [CX.cells] at hbx;rw [<- hst,<- htr,<- hzl] at hbx;obtain ⟨b0,b1,b2,b3,b4,b5,b6,b7,bf⟩:=box8 hbx;have hbl1:=Zac hbx;have Hm':Hid (st=m'.status/\tr=m'.tries/\zl=m'.way.length):=⟨hst,htr,hzl⟩;have hstv:st=0\/st=1\/st=3:=by omega
  have hzlb:zl<=100000:=by have:=hI.len; omega
  have HK:=Zaa hK;have HC:=Zaa hC;have HN:=Zaa hN;have HI:=Zaa hI;have Hloop:=Zaa hloop;have Hbx:=Zaa hbx;have Hend:Hid (Zfb cs (n - j) m'=(m',0)->∀ w',(∃ x',Kept (only b) wr w'/\CSr w' b x' cs a (endN m')/\(x'.wa=wa1\/x'.wa=none))->(Ending.returned (.tuple #[.int .i64 j,.int .i64 0])) = .returned (.tuple #[.int .i64 (Zdf cs n m).2,.int .i64 0])/\∃ x',Kept (ownS b ⟨ca,cc,na,nc,wa,wc,va,vl,vc,fa,fl,fc⟩) w w'/\CSr w' b x' cs a (Zdf cs n m).1/\Ziq w ⟨ca,cc,na,nc,wa,wc,va,vl,vc,fa,fl,fc⟩ x'):=fun hl w' ⟨x',h1,h2,h3⟩=>by
   rw [Zgu (n:=n) (j:=j) Hm.out hloop hl];refine ⟨rfl,x',hK.trans (h1.mono (fun i _ e=>Or.inl e)),h2,fun k hk => ?_⟩;rcases h3 with h3 | h3
   ·rw [h3] at hk; exact hN k hk
   ·rw [h3] at hk; obtain ⟨p,hp,_⟩:=hk; simp at hp
  clear hK hC hN hI hloop hbx hst htr hzl hst2 hst3 hT
  by_cases hs0:st=0
  ·subst hs0;have HM0:Hid (m'.status=0):=Hm'.out.1.symm;have HSw:=Zaa (Yht wr b ⟨ca1,cc1,na1,nc1,wa1,wc1,va1,vl1,vc1,fa1,fl1,fc1⟩ cs a m' HC.out)
   by_cases hlt:j<n
   ·by_cases hz0:zl=0
    ·have HW:Hid (m'.way=[]):=List.eq_nil_of_length_eq_zero (by rw [<- Hm'.out.2.2]; exact hz0);subst hz0;have hl0:=Zcq (cs:=cs) (n:=n - j) (s:=m') (Or.inr (Or.inr (Or.inl HW.out)));have hsw:sweN m'=2:=by unfold sweN; rw [if_pos HW.out]
     rw [hsw] at HSw;have hK5:Kept (only b) wr (wr.setCell ⟨b,4,none⟩ (.int .i64 2)):=(Kept.refl _ _).put 4 _;have Hfin:Hid (_/\_):=Hend.out hl0 _ ⟨⟨ca1,cc1,na1,nc1,wa1,wc1,va1,vl1,vc1,fa1,fl1,fc1⟩,hK5,by
      have e:endN m' = { m' with status:=2 }:=by unfold endN; rw [if_neg (by rw [HM0.out]; decide),if_pos HM0.out,if_pos HW.out]
      rw [e];exact HC.out.stat 2 (by decide) hK5 (by rw [<- Hm'.out.2.1,<- Hm'.out.2.2]; exact Zag Hbx.out 4 _),Or.inl rfl⟩
     clear hl0 hsw hK5 Hend HC HI HN Hloop Hm';go_wp2_with fail;refine HSw.out.mono ?_;rintro e w1 ⟨rfl,rfl⟩;go_wp2;go_ret2;exact Hfin.out
    ·have hwn:m'.way≠[]:=fun e=>hz0 (by rw [Hm'.out.2.2,e]; rfl);have hzi:(0:Int)<(zl:Int):=by omega
     have hz1:((zl:Int) == 0)=false:=by rw [beq_eq_false_iff_ne]; omega
     have Hwn:=Zaa hwn;clear hwn hz0
     by_cases ht3:tr<3000
     ·have hgT:(tr:Int)<3000:=by omega
      have HMk:=Zaa (Zve wr b ⟨ca1,cc1,na1,nc1,wa1,wc1,va1,vl1,vc1,fa1,fl1,fc1⟩ cs a m' HC.out HI.out HM0.out Hwn.out (by rw [<- Hm'.out.2.1]; exact ht3) Hcs.out Hcf.out hcl);obtain ⟨n',k,r,c,hw1,hw2,hw3⟩:=HI.out.head Hwn.out;obtain ⟨e1,e2,e3,e4⟩:=Zft hw1 hw2 HM0.out;have Hinv:Hid (InvN cs a (Zbd cs m')/\(Zbd cs m').status≠2):=⟨HI.out.try' hcl HM0.out hw1 hw2 (by rw [<- Hm'.out.2.1]; exact ht3),by rw [e2]; exact Ztb _ _ _⟩;have Hlp:Hid (Zfb cs n { m with status:=0 }=((Zfb cs (n - (j+1)) (Zbd cs m')).1,(Zfb cs (n - (j+1)) (Zbd cs m')).2+(j+1))):=by
       have h1:=Hloop.out;rw [show n - j=(n - (j+1))+1 by omega,Zwv HM0.out Hwn.out (by rw [<- Hm'.out.2.1]; exact ht3)] at h1;show _=_;rw [h1];simp; omega
      clear ht3 hw1 hw2 hw3 e1 e2 e3 e4;go_wp2_with fail;refine HMk.out.mono ?_;rintro e w1 ⟨rfl,x1,hK1,hC1,hN1⟩;have HK1:=Zaa hK1;have HC1:=Zaa hC1;have HN1:=Zaa hN1;clear hK1 hC1 hN1 b0 b1 b2 b3 b4 b5 b6 b7 bf;go_wp2
      go_roundg (n - j)
      case measure=>omega
      case rel =>
       refine ⟨j+1,x1,Zbd cs m',by go_num,by omega,by omega,HK.out.then HK1.out (fun i hi ho=>Yhu HN.out hi ho),HC1.out,fun i hi => ?_,Hinv.out.1,Hlp.out,Hinv.out.2⟩;rcases HN1.out i hi with h | h
       ·exact HN.out i h
       ·exact Or.inr (Nat.le_trans HK.out.size h)
     ·have hgT:¬ (tr:Int)<3000:=by omega
      have ht3':3000<=tr:=by omega
      clear ht3;have hl0:=Zcq (cs:=cs) (n:=n - j) (s:=m') (Or.inr (Or.inr (Or.inr (by rw [<- Hm'.out.2.1]; exact ht3'))));have hsw:sweN m'=3:=by unfold sweN; rw [if_neg Hwn.out,if_pos (by rw [<- Hm'.out.2.1]; exact ht3')]
      rw [hsw] at HSw;have hK5:Kept (only b) wr (((wr.setCell ⟨b,4,none⟩ (.int .i64 3)).setCell ⟨b,2,none⟩ (.slice none 0 0)).setCell ⟨b,7,none⟩ (.string ⟨#[]⟩)):=(((Kept.refl _ _).put 4 _).put 2 _).put 7 _;have Hfin:Hid (_/\_):=Hend.out hl0 _ ⟨_,hK5,by
       have e:endN m'=Zkb m':=by unfold endN; rw [if_neg (by rw [HM0.out]; decide),if_pos HM0.out,if_neg Hwn.out,if_pos (by rw [<- Hm'.out.2.1]; exact ht3')]
       rw [e];exact HC.out.full hK5 (by rw [<- Hm'.out.2.1]; exact Zag (Zag (Zag Hbx.out 4 _) 2 _) 7 _),Or.inr rfl⟩
      clear hl0 hsw hK5 Hend HC HI HN Hloop Hm' ht3';go_wp2_with fail;refine HSw.out.mono ?_;rintro e w1 ⟨rfl,rfl⟩;go_wp2;go_ret2;exact Hfin.out
   ·by_cases hz0:zl=0
    ·have HW:Hid (m'.way=[]):=List.eq_nil_of_length_eq_zero (by rw [<- Hm'.out.2.2]; exact hz0);subst hz0;have hl0:=Zcq (cs:=cs) (n:=n - j) (s:=m') (Or.inl (by omega));have hsw:sweN m'=2:=by unfold sweN; rw [if_pos HW.out]
     rw [hsw] at HSw;have hK5:Kept (only b) wr (wr.setCell ⟨b,4,none⟩ (.int .i64 2)):=(Kept.refl _ _).put 4 _;have Hfin:Hid (_/\_):=Hend.out hl0 _ ⟨⟨ca1,cc1,na1,nc1,wa1,wc1,va1,vl1,vc1,fa1,fl1,fc1⟩,hK5,by
      have e:endN m' = { m' with status:=2 }:=by unfold endN; rw [if_neg (by rw [HM0.out]; decide),if_pos HM0.out,if_pos HW.out]
      rw [e];exact HC.out.stat 2 (by decide) hK5 (by rw [<- Hm'.out.2.1,<- Hm'.out.2.2]; exact Zag Hbx.out 4 _),Or.inl rfl⟩
     clear hl0 hsw hK5 Hend HC HI HN Hloop Hm';go_wp2_with fail;refine HSw.out.mono ?_;rintro e w1 ⟨rfl,rfl⟩;go_wp2;go_ret2;exact Hfin.out
    ·have hwn:m'.way≠[]:=fun e=>hz0 (by rw [Hm'.out.2.2,e]; rfl);have Hwn:=Zaa hwn;clear hwn hz0
     by_cases ht3':3000<=tr
     ·have hl0:=Zcq (cs:=cs) (n:=n - j) (s:=m') (Or.inl (by omega));have hsw:sweN m'=3:=by unfold sweN; rw [if_neg Hwn.out,if_pos (by rw [<- Hm'.out.2.1]; exact ht3')]
      rw [hsw] at HSw;have hK5:Kept (only b) wr (((wr.setCell ⟨b,4,none⟩ (.int .i64 3)).setCell ⟨b,2,none⟩ (.slice none 0 0)).setCell ⟨b,7,none⟩ (.string ⟨#[]⟩)):=(((Kept.refl _ _).put 4 _).put 2 _).put 7 _;have Hfin:Hid (_/\_):=Hend.out hl0 _ ⟨_,hK5,by
       have e:endN m'=Zkb m':=by unfold endN; rw [if_neg (by rw [HM0.out]; decide),if_pos HM0.out,if_neg Hwn.out,if_pos (by rw [<- Hm'.out.2.1]; exact ht3')]
       rw [e];exact HC.out.full hK5 (by rw [<- Hm'.out.2.1]; exact Zag (Zag (Zag Hbx.out 4 _) 2 _) 7 _),Or.inr rfl⟩
      clear hl0 hsw hK5 Hend HC HI HN Hloop Hm' ht3';go_wp2_with fail;refine HSw.out.mono ?_;rintro e w1 ⟨rfl,rfl⟩;go_wp2;go_ret2;exact Hfin.out
     ·have hl0:=Zcq (cs:=cs) (n:=n - j) (s:=m') (Or.inl (by omega));have hsw:sweN m'=0:=by unfold sweN; rw [if_neg Hwn.out,if_neg (by rw [<- Hm'.out.2.1]; exact ht3')]
      rw [hsw] at HSw;have hK5:Kept (only b) wr (wr.setCell ⟨b,4,none⟩ (.int .i64 0)):=(Kept.refl _ _).put 4 _;have Hfin:Hid (_/\_):=Hend.out hl0 _ ⟨⟨ca1,cc1,na1,nc1,wa1,wc1,va1,vl1,vc1,fa1,fl1,fc1⟩,hK5,by
       have e:endN m' = { m' with status:=0 }:=by
        unfold endN;rw [if_neg (by rw [HM0.out]; decide),if_pos HM0.out,if_neg Hwn.out,if_neg (by rw [<- Hm'.out.2.1]; exact ht3')];exact Zzo HM0.out
       rw [e];exact HC.out.stat 0 (by decide) hK5 (by rw [<- Hm'.out.2.1,<- Hm'.out.2.2]; exact Zag Hbx.out 4 _),Or.inl rfl⟩
      clear hl0 hsw hK5 Hend HC HI HN Hloop Hm' ht3';go_wp2_with fail;refine HSw.out.mono ?_;rintro e w1 ⟨rfl,rfl⟩;go_wp2;go_ret2;exact Hfin.out
  ·have hne':m'.status≠0:=by rw [<- Hm'.out.1]; exact hs0
   have hl0:=Zcq (cs:=cs) (n:=n - j) (s:=m') (Or.inr (Or.inl hne'));rcases hstv with rfl | rfl | rfl
   ·exact absurd rfl hs0
   ·have Hfin:Hid (_/\_):=Hend.out hl0 wr ⟨⟨ca1,cc1,na1,nc1,wa1,wc1,va1,vl1,vc1,fa1,fl1,fc1⟩,Kept.refl _ _,by
     have e:endN m'=m':=by simp [endN,show m'.status=1 from Hm'.out.1.symm]
     rw [e]; exact HC.out,Or.inl rfl⟩
    clear hs0 hne' hl0 Hend HC HI HN Hloop Hm'
    by_cases hlt:j<n
    all_goals
     go_wp2;go_ret2;exact Hfin.out
   ·have hK5:Kept (only b) wr ((wr.setCell ⟨b,2,none⟩ (.slice none 0 0)).setCell ⟨b,7,none⟩ (.string ⟨#[]⟩)):=((Kept.refl _ _).put 2 _).put 7 _;have Hfin:Hid (_/\_):=Hend.out hl0 _ ⟨_,hK5,by
     have e:endN m'=Zkb m':=by unfold endN; rw [if_pos Hm'.out.1.symm]
     rw [e];exact HC.out.full hK5 (by rw [<- Hm'.out.2.1]; exact Zag (Zag Hbx.out 2 _) 7 _),Or.inr rfl⟩
    clear hs0 hne' hl0 hK5 Hend HC HI HN Hloop Hm'
    by_cases hlt:j<n
    all_goals
     go_wp2;go_ret2;exact Hfin.out
theorem Yfn (w:World) (ua:Option Addr) (uc:Nat) (ks:List Nat) (h:w.ownsRow 0 3 1 (.slice ua ks.length uc) ks.length (ints ks)) (hl:ks.length<=1000) (hk:∀ k ∈ ks,k<24) :
  Calls Tryz.prog 78 #[.slice ua ks.length uc] w fun e w'=>e = .returned (.string ⟨(Zel [] ks).toArray⟩)/\w'=w:=by
 obtain ⟨F,hF⟩:∃ F,F=Zel [] ks:=⟨_,rfl⟩;rw [<- hF];have hFl:F.length<=200000:=by
  have:=Zoy ks [] (by simp) (fun k hk'=>by have:=hk k hk'; omega);rw [<- hF] at this;omega
 obtain ⟨L,hL⟩:∃ L,L=ks.length:=⟨_,rfl⟩;rw [<- hL] at h hl ⊢;have HU:=Zaa h;have HF:=Zaa hF;have Hk:=Zaa hk;have HL:=Zaa hL;clear h hF hk hL;go_enter Tryz.func78,Tryz.ntmps78;go_wp2
 go_loopg [3,8] (L+1) (fun gk tx i wr=>∃ (j:Nat) (dt:List UInt8),i = .int .i64 j/\j<=L/\L - j<gk/\tx = .string ⟨dt.toArray⟩/\wr=w /\
  dt++Zel (if j=0 then [] else [46]) (ks.drop j)=F)
 case atStart=>exact ⟨0,[],by go_num,Nat.zero_le _,by omega,rfl,rfl,by simp [HF.out]⟩
 case round =>
  obtain ⟨j,dt,rfl,hj,hgk,rfl,rfl,hdt⟩:=hrel;have hdl:dt.length<=200000:=by
   have h1:=congrArg List.length hdt;simp only [List.length_append] at h1;omega
  have Hdt:=Zaa hdt;clear hdt
  by_cases hlt:j<L
  ·have hlt':j<ks.length:=by rw [<- HL.out]; exact hlt
   obtain ⟨u,hu⟩:∃ u,ks[j]?=some u:=⟨_,List.getElem?_eq_getElem hlt'⟩;have hdu:ks.drop j=u::ks.drop (j+1):=by
    rw [List.drop_eq_getElem_cons hlt',(List.getElem?_eq_some_iff.1 hu).2]
   obtain ⟨ub,ucap',ucur,hue,hBu,hub,hucp⟩:=Zal HU.out (by omega);simp only [Value.slice.injEq] at hue;obtain ⟨rfl,_,rfl⟩:=hue;have z0:wr.cell? ⟨ub,j,none⟩=some (.int .i64 u):=Zaf HU.out j _ (by simp only [ints,List.getElem?_map,hu,Option.map_some]);have hu24:=Hk.out u (List.mem_of_getElem? hu);have HD:=Zaa (Zpy u wr (by omega));obtain ⟨X,hX⟩:∃ X,X=Lib.decDigits u:=⟨_,rfl⟩;rw [<- hX] at HD;have hul1:X.length<=30:=by rw [hX]; have:=Zgv u; omega
   by_cases h0:j=0
   ·have hk0:¬ (0:Int)<(j:Int):=by omega
    have Hd0:Hid ((dt++X)++Zel [46] (ks.drop (j+1))=F):=by
     have h1:=Hdt.out;rw [hdu,if_pos h0] at h1;simp only [Zel] at h1;show _=_;rw [<- h1,hX]; simp
    have Hstr:=Zaa (Zbk dt X);clear h0 hu hdu hub Hdt hX hlt';go_wp2_with fail;refine HD.out.mono ?_;rintro e w1 ⟨rfl,rfl⟩;go_wp2
    go_roundg (L - j)
    case measure=>omega
    case rel=>exact ⟨j+1,dt++X,by go_num,by omega,by omega,by rw [<- Hstr.out],rfl,by simpa using Hd0.out⟩
   ·have hk0:(0:Int)<(j:Int):=by omega
    have Hd0:Hid ((dt++[46]++X)++Zel [46] (ks.drop (j+1))=F):=by
     have h1:=Hdt.out;rw [hdu,if_neg h0] at h1;simp only [Zel] at h1;show _=_;rw [<- h1,hX]; simp
    have Hstr:=Zaa (Zbk (dt++[46]) X);have Hstr1:=Zaa (Zbk dt [46]);clear h0 hu hdu hub Hdt hX hlt';go_wp2_with fail;refine HD.out.mono ?_;rintro e w1 ⟨rfl,rfl⟩;go_wp2
    go_roundg (L - j)
    case measure=>omega
    case rel=>exact ⟨j+1,dt++[46]++X,by go_num,by omega,by omega,by rw [<- Hstr.out,<- Hstr1.out],rfl,by simpa using Hd0.out⟩
  ·have he:j=L:=by omega
   have Hfin:Hid (dt=F):=by
    have h1:=Hdt.out;rw [he,HL.out,List.drop_length] at h1;show _=_;simpa [Zel] using h1
   clear Hdt he;go_wp2;go_ret;rw [Hfin.out];exact ⟨rfl,rfl⟩
theorem Zvf (w:World) (b:Nat) (x:CX) (cs:List Cls) (a:List (List Sym) × Names) (m:SN) (h:CSr w b x cs a m) :
  Calls Tryz.prog 55 #[.pointer (some ⟨b,0,none⟩)] w fun e w'=>e = .returned (.int .i64 m.status)/\w'=w:=by
 have hbx:=h.box;obtain ⟨ca,cc,na,nc,wa,wc,va,vl,vc,fa,fl,fc⟩:=x;simp only [CX.cells] at hbx;obtain ⟨b0,b1,b2,b3,b4,b5,b6,b7,bf⟩:=box8 hbx;have hbl:=Zac hbx;clear h hbx;go_enter Tryz.func55,Tryz.ntmps55;go_wp2;go_ret;exact ⟨rfl,rfl⟩
theorem Ydj (w:World) (b:Nat) (x:CX) (cs:List Cls) (a:List (List Sym) × Names) (m:SN) (h:CSr w b x cs a m) :
  Calls Tryz.prog 58 #[.pointer (some ⟨b,0,none⟩)] w fun e w'=>e = .returned (.string ⟨(Zfq a m.status m.found m.tree).2.2.toArray⟩)/\w'=w:=by
 have hbx:=h.box;obtain ⟨ca,cc,na,nc,wa,wc,va,vl,vc,fa,fl,fc⟩:=x;simp only [CX.cells] at hbx;obtain ⟨b0,b1,b2,b3,b4,b5,b6,b7,bf⟩:=box8 hbx;have hbl:=Zac hbx;obtain ⟨st,hst⟩:∃ z,z=m.status:=⟨_,rfl⟩;rw [<- hst] at b4 ⊢;clear h hbx hst
 by_cases h2:st=2
 ·subst h2;have Ht:Hid ((Zfq a 2 m.found m.tree).2.2=m.tree):=by show _=_; simp [Zfq]
  rw [Ht.out];go_enter Tryz.func58,Tryz.ntmps58;go_wp2;go_ret;exact ⟨rfl,rfl⟩
 ·have Ht:Hid ((Zfq a st m.found m.tree).2.2=[]):=by
   show _=_;unfold Zfq;split
   ·rfl
   ·rfl
  rw [Ht.out];have hb:((st:Int) != 2)=true:=by rw [bne_iff_ne]; omega
  clear h2 Ht;go_enter Tryz.func58,Tryz.ntmps58;go_wp2;go_ret;exact ⟨rfl,rfl⟩
theorem Ztc (w:World) (b:Nat) (x:CX) (cs:List Cls) (a:List (List Sym) × Names) (m:SN) (h:CSr w b x cs a m) (hI:InvN cs a m) (hcl:cs.length<=24) :
  Calls Tryz.prog 57 #[.pointer (some ⟨b,0,none⟩)] w fun e w'=>e = .returned (.string ⟨(Zfq a m.status m.found m.tree).2.1.toArray⟩)/\w'=w:=by
 have hbx:=h.box;obtain ⟨ca,cc,na,nc,wa,wc,va,vl,vc,fa,fl,fc⟩:=x;simp only [CX.cells] at hbx;obtain ⟨b0,b1,b2,b3,b4,b5,b6,b7,bf⟩:=box8 hbx;have hbl:=Zac hbx
 by_cases h1:m.status=1
 ·obtain ⟨⟨n,_,hOk,_,hS⟩,ho⟩:=h.found h1;have hu:=(hI.found h1).2.2;have hul:m.found.used.length<=1000:=by rw [<- hS.used]; have:=hOk.ul; omega
  obtain ⟨g1,g2,he⟩:=Zad ho;simp only [Value.slice.injEq] at he;obtain ⟨rfl,hfl,rfl⟩:=he;rw [hfl] at ho b6;have HX:=Zaa (Yfn w fa fc m.found.used ho hul (fun k hk=>by have:=hu k hk; omega));have Ht:Hid ((Zfq a m.status m.found m.tree).2.1=Zel [] m.found.used):=by show _=_; simp [Zfq,h1,Zhm]
  rw [Ht.out];rw [h1] at b4;clear h hI hbx h1 ho hu hul hOk hS Ht;go_enter Tryz.func57,Tryz.ntmps57;go_wp2_with fail;refine HX.out.mono ?_;rintro e w1 ⟨rfl,rfl⟩;go_wp2;go_ret;exact ⟨rfl,rfl⟩
 ·obtain ⟨st,hst⟩:∃ z,z=m.status:=⟨_,rfl⟩;rw [<- hst] at b4 h1 ⊢;have Ht:Hid ((Zfq a st m.found m.tree).2.1=[]):=by
   show _=_;unfold Zfq;rw [if_neg h1];split <;> rfl
  rw [Ht.out];have hb:((st:Int) != 1)=true:=by rw [bne_iff_ne]; omega
  clear h hI hbx h1 Ht hst;go_enter Tryz.func57,Tryz.ntmps57;go_wp2;go_ret;exact ⟨rfl,rfl⟩
def OnePh (W:World) (A:Value):List Value->World->Prop
 | [],y=>y=W
 | [v],y=>v=A/\Ext W y
 | _,_=>False
theorem OnePh.at {W:World} {A:Value} {vs:List Value} {y:World} (h:OnePh W A vs y):vs.length<=0->y=W:=by
 match vs,h with
 | [],h=>exact fun _=>h
 | [v],h=>exact fun h=>by simp at h
theorem Zvg (w:World) (b:Nat) (x:CX) (cs:List Cls) (q:ByteArray) (a:List (List Sym) × Names) (m:SN) (h:CSr w b x cs a m) (hI:InvN cs a m) (hask:Zfe q=some a) :
  Calls Tryz.prog 56 #[.pointer (some ⟨b,0,none⟩)] w fun e w'=>e = .returned (.string ⟨(Zfq a m.status m.found m.tree).1.toArray⟩)/\Ext w w':=by
 have hbx:=h.box;obtain ⟨ca,cc,na,nc,wa,wc,va,vl,vc,fa,fl,fc⟩:=x;simp only [CX.cells] at hbx;obtain ⟨b0,b1,b2,b3,b4,b5,b6,b7,bf⟩:=box8 hbx;have hbl:=Zac hbx
 by_cases h1:m.status=1
 ·obtain ⟨⟨n,hv,hOk,hNm,hS⟩,ho⟩:=h.found h1;obtain ⟨_,hvl,_⟩:=hI.found h1;obtain ⟨_,_,_,_,_,_,_,_,ha8⟩:=Zfw hask;have ha6:=Yda hask;have hnl:n.vals.length=a.2.length:=by rw [hS.vl,hvl]
  have hnm:=h.names;simp only at hnm hv;have hans:Zdu a.2 n=Zdu a.2 m.found:=by unfold Zdu; rw [hS.valsC hOk]
  have HA:Hid (Calls Tryz.prog 70 #[.slice na a.2.length nc,.slice va vl vc] w.drew fun e w'=>Ext w.drew w'/\e = .returned (.string ⟨(Zdu a.2 n).toArray⟩)):=by
   have hE:Ext w w.drew:=⟨rfl,rfl,rfl,Nat.le_refl _,fun _ _=>rfl⟩;exact Znn _ _ _ a.2 n.vals (Zan hnm (fun j hj=>hE.block j (hnm.lt j hj).2)) (hv.ext hE) (Yhs hOk hNm (by omega)) hnl.symm (Zzl hOk hNm (by omega) ha6 ha8)
  have Ht:Hid ((Zfq a m.status m.found m.tree).1=Zdu a.2 m.found):=by show _=_; simp [Zfq,h1]
  rw [Ht.out,<- hans];obtain ⟨Y,hY⟩:∃ Y,Y=Zdu a.2 n:=⟨_,rfl⟩;rw [<- hY] at HA ⊢;rw [h1] at b4;clear h hI hbx h1 ho hOk hNm hS hv hvl ha8 ha6 hnl hnm hans Ht hY hask;go_enter Tryz.func56,Tryz.ntmps56;go_wp2_with fail;refine Zen (by kernel_rfl) [.rd 0 1 (fun _ => .pointer (some ⟨b,0,none⟩)),.rd 0 1 (fun _ => .pointer (some ⟨b,0,none⟩)),.rd 0 1 (fun _ => .pointer (some ⟨b,1,none⟩)),.rd 0 0 (fun _ => .slice na a.2.length nc),.rd 0 1 (fun _ => .pointer (some ⟨b,0,none⟩)),.rd 0 1 (fun _ => .pointer (some ⟨b,0,none⟩)),.rd 0 1 (fun _ => .pointer (some ⟨b,5,none⟩)),.rd 0 0 (fun _ => .slice va vl vc),.st 0,.rd 1 1 (fun _ => .string ⟨Y.toArray⟩)] 1 7 (by kernel_rfl) (OnePh w.drew (.string ⟨Y.toArray⟩)) rfl ?_ ?_
  ·refine ⟨⟨trivial,fun vs y _ hl hS => ?_⟩,⟨trivial,fun vs y _ hl hS => ?_⟩,⟨trivial,fun vs y _ hl hS => ?_⟩,⟨trivial,fun vs y _ hl hS => ?_⟩,⟨trivial,fun vs y _ hl hS => ?_⟩,⟨trivial,fun vs y _ hl hS => ?_⟩,⟨trivial,fun vs y _ hl hS => ?_⟩,⟨trivial,fun vs y _ hl hS => ?_⟩,⟨trivial,fun vs y hl hS => ?_⟩,⟨trivial,fun vs y hl0 hl hS => ?_⟩,trivial⟩
   ·simp [phAll,phA,pa,Ph.kd,Ph.val,Kd.val,go_sem]
   ·simp [phAll,phA,pa,Ph.kd,Ph.val,Kd.val,go_sem]
   ·simp [phAll,phA,pa,Ph.kd,Ph.val,Kd.val,go_sem]
   ·obtain rfl:=hS.at hl;simp [phAll,phA,pa,Ph.kd,Ph.val,Kd.val,go_sem,b1]
   ·simp [phAll,phA,pa,Ph.kd,Ph.val,Kd.val,go_sem]
   ·simp [phAll,phA,pa,Ph.kd,Ph.val,Kd.val,go_sem]
   ·simp [phAll,phA,pa,Ph.kd,Ph.val,Kd.val,go_sem]
   ·obtain rfl:=hS.at hl;simp [phAll,phA,pa,Ph.kd,Ph.val,Kd.val,go_sem,b5]
   ·obtain rfl:=List.length_eq_zero_iff.1 hl;obtain rfl:y=w.drew:=hS;refine .call 70 #[.slice na a.2.length nc,.slice va vl vc] _ (by simp [phAll,phA,pa,Ph.kd,Ph.val,Kd.val,go_sem]) (HA.out.mono ?_);rintro e u ⟨hE,rfl⟩;exact ⟨_,rfl,rfl,hE⟩
   ·obtain ⟨v,rfl⟩:=List.length_eq_one_iff.1 (show vs.length=1 by omega);obtain ⟨rfl,_⟩:=hS;simp [phAll,phA,pa,Ph.kd,Ph.val,Kd.val,go_sem]
  rintro vs y hl hS;obtain ⟨v,rfl⟩:=List.length_eq_one_iff.1 hl;obtain ⟨hv,hy⟩:=hS;have Hy:=Zaa hy;simp only [phAll,phA,paAll,pa,Ph.kd,Ph.val,Kd.val,List.map_cons,List.map_nil,if_true,Act.put,List.setIfInBounds_toArray,List.set_cons_succ,List.set_cons_zero];clear hv hy b0 b1 b2 b3 b4 b5 b6 b7 bf;go_wp2;go_ret;exact ⟨rfl,Hy.out.undrew⟩
 ·obtain ⟨st,hst⟩:∃ z,z=m.status:=⟨_,rfl⟩;rw [<- hst] at b4 h1 ⊢;have Ht:Hid ((Zfq a st m.found m.tree).1=[]):=by
   show _=_;unfold Zfq;rw [if_neg h1];split <;> rfl
  rw [Ht.out];have hb:((st:Int) != 1)=true:=by rw [bne_iff_ne]; omega
  clear h hI hbx h1 Ht hst;go_enter Tryz.func56,Tryz.ntmps56;go_wp2;go_ret;exact ⟨rfl,Ext.of (Kept.refl _ _)⟩
def NewC (p q:ByteArray) (w:World) (e:Ending) (w':World):Prop:=Ext w w' /\
 ((Zcy p=none/\e = .returned (.tuple #[.pointer none,.int .i64 4])) \/
 ((∃ cs,Zcy p=some cs)/\Zfe q=none/\e = .returned (.tuple #[.pointer none,.int .i64 5])) \/
 (∃ cs a b,∃ x:CX,Zcy p=some cs/\Zfe q=some a/\e = .returned (.tuple #[.pointer (some ⟨b,0,none⟩),.int .i64 0])/\(∀ k,ownS b x k->w.heap.size<=k)/\CSr w' b x cs a (newN cs a)))
theorem Yin {a:List (List Sym) × Names} (hN:NOk (topN a)) (han:a.2.length<=121):∀ l ∈ a.1,TmOk l:=fun l hl=>by
 have hlt:l ∈ (topN a).terms:=by
  unfold ND.terms topN;refine List.mem_append_left _ ?_;simp;exact hl
 have hg:=(hN.gs (l,0) (by unfold topN; simp; exact hl)).1;exact Znm (hN.wf l hlt) (by have h':l.length<=30:=hg; omega) (hN.occ l hlt) (by have:(topN a).vars=a.2.length:=rfl; omega)
theorem Yfo (p q:ByteArray) (w:World) (hp:p.size<=maxLen) (hq:q.size<=maxLen):Calls Tryz.prog 32 #[.string p,.string q] w (NewC p q w):=by
 have HB:=Zaa (Yct p q w hp hq);clear hp hq;go_enter Tryz.func32,Tryz.ntmps32;go_wp2_with fail;refine HB.out.mono ?_;rintro e w1 ⟨hE1,hB⟩;have HE1:=Zaa hE1;have hs1:=hE1.size;clear hE1;rcases hB with ⟨hno,rfl⟩ | ⟨⟨cs,hsome⟩,hno,rfl⟩ | ⟨cs,a,l1,lc,xs,h1,h2,h3,b1,bc,n1,nc,hsome,hask,rfl,hP,hT,hns⟩
 ·have Hno:=Zaa hno;clear hno;go_wp2;go_ret2;exact ⟨HE1.out.trans ((Mxt:Ext w1 (w1.alloc _)).mono hs1),Or.inl ⟨Hno.out,rfl⟩⟩
 ·have Hno:=Zaa hno;have Hsome:=Zaa hsome;clear hno hsome;go_wp2;go_ret2;exact ⟨HE1.out.trans ((Mxt:Ext w1 (w1.alloc _)).mono hs1),Or.inr (Or.inl ⟨⟨cs,Hsome.out⟩,Hno.out,rfl⟩)⟩
 ·obtain ⟨_,_,_,hcs,hcl⟩:=Zgh hsome;obtain ⟨_,_,_,hOk,hNm,ha1,ha2,ha3,_⟩:=Zfw hask;have hFw:=Yhp hask;obtain ⟨W2,hW2⟩:∃ W2,W2=(w1.alloc (.cells #[.slice h1 h2 h3,.slice b1 a.1.length bc,.slice n1 a.2.length nc] 107)).alloc (.cells #[.slice l1 cs.length lc,.slice n1 a.2.length nc,.slice none 0 0,.int .i64 0,.int .i64 0,.slice none 0 0,.slice none 0 0,.string ⟨#[]⟩] 112):=⟨_,rfl⟩;have hE12:Ext w1 W2:=by rw [hW2]; exact Mxt
  have hs2:W2.heap.size=w1.heap.size+2:=by rw [hW2]; simp
  have hbx:W2.heap[w1.heap.size+1]?=some (.cells #[.slice l1 cs.length lc,.slice n1 a.2.length nc,.slice none 0 0,.int .i64 0,.int .i64 0,.slice none 0 0,.slice none 0 0,.string ⟨#[]⟩] 112 (0,0)):=by rw [hW2]; exact heap_alloc2_new w1 _ _
  have hC2:CSr W2 (w1.heap.size+1) ⟨l1,lc,n1,nc,none,0,none,0,0,none,0,0⟩ cs a ⟨[],0,0,⟨[],[],[],[],0⟩,[]⟩:=⟨hbx,⟨xs,hP.ext hE12⟩,Zan hns (fun j hj=>hE12.block j (hns.lt j hj).2),⟨[],RowL.nil _⟩,fun h=>by simp at h⟩;have HTop:=Zaa (Yez W2 (.slice h1 h2 h3) (.slice b1 a.1.length bc) (.slice n1 a.2.length nc) a.1 a.2 ⟨_,_,_,rfl⟩ (hT.ext hE12) (Zan hns (fun j hj=>hE12.block j (hns.lt j hj).2)) (by omega) (by omega) (Yin hOk ha3));have Hst:Hid (∀ w3 g1 gc v1 vc,Ext W2 w3->TermsIn w3 (.slice g1 a.1.length gc) a.1->TermsIn w3 (.slice v1 a.2.length vc) ((List.range a.2.length).map vr)->∀ o,CSr (w3.alloc o) (w1.heap.size+1) ⟨l1,lc,n1,nc,none,0,none,0,0,none,0,0⟩ cs a ⟨[],0,0,⟨[],[],[],[],0⟩,[]⟩/\Ext w (w3.alloc o)/\Calls Tryz.prog 52 #[.pointer (some ⟨w1.heap.size+1,0,none⟩),.agg #[.slice g1 a.1.length gc,.slice v1 a.2.length vc,.slice none 0 0,.int .i64 a.2.length]] (w3.alloc o) fun e w'=>e = .returned (.tuple #[])/\∃ x',Kept (ownS (w1.heap.size+1) ⟨l1,lc,n1,nc,none,0,none,0,0,none,0,0⟩) (w3.alloc o) w'/\CSr w' (w1.heap.size+1) x' cs a (Zdd ⟨[],0,0,⟨[],[],[],[],0⟩,[]⟩ (topN a))/\Ziq (w3.alloc o) ⟨l1,lc,n1,nc,none,0,none,0,0,none,0,0⟩ x'):=fun w3 g1 gc v1 vc hE3 hg hv o=>by
   have hE34:Ext w3 (w3.alloc o):=Mxt;have hE24:Ext W2 (w3.alloc o):=hE3.trans (hE34.mono hE3.size);have hC:=hC2.ext hE24;have hEw:Ext w (w3.alloc o):=(HE1.out.trans (hE12.mono HE1.out.size)).trans (hE24.mono (by omega));have hCN:CNode (w3.alloc o) (.slice g1 a.1.length gc) (.slice v1 a.2.length vc) (.slice none 0 0) (.int .i64 a.2.length) (topN a):=by
    refine ⟨topN a,⟨?_,hv.ext hE34,⟨[],TermsAt.nil _ _⟩⟩,rfl,hOk,hNm,hFw,Same.refl hOk⟩;have:(topN a).goals.map (·.1)=a.1:=by unfold topN; rw [List.map_map]; exact (List.map_congr_left (fun _ _=>rfl)).trans (List.map_id _)
    rw [this]; exact hg.ext hE34
   exact ⟨hC,hEw,Zpd (w3.alloc o) _ _ cs a _ _ _ _ _ _ hC hCN (by simp) (Zjc ha2) (by simp)⟩
  have HL:Hid (∀ u (xx:CX),CSr u (w1.heap.size+1) xx cs a (Zdd ⟨[],0,0,⟨[],[],[],[],0⟩,[]⟩ (topN a))->Calls Tryz.prog 53 #[.pointer (some ⟨w1.heap.size+1,0,none⟩)] u fun e w'=>e = .returned (.tuple #[])/\Kept (only (w1.heap.size+1)) u w'/\CSr w' (w1.heap.size+1) xx cs a (newN cs a)):=fun u xx h1=>by
   have e:Zdd ⟨[],0,0,⟨[],[],[],[],0⟩,[]⟩ (topN a)=(⟨[(topN a,0)],0,0,⟨[],[],[],[],0⟩,[40]⟩:SN):=by unfold Zdd; rw [if_neg (Zjc ha2)]; rfl
   refine Zta u _ xx cs a _ h1 (by rw [e]; simp) (by rw [e]; intro y hy; simp at hy; subst hy; exact Nat.zero_le _) hcl (by rw [e]; simp)
  have HW2:=Zaa hW2;have Hsome:=Zaa hsome;have Hask:=Zaa hask;clear hsome hask hP hT hns hcs hOk hNm ha1 ha2 ha3 hFw hE12 hbx hC2 hW2;go_wp2_with fail;rw [<- HW2.out];refine HTop.out.mono ?_;rintro e w3 ⟨hE3,g1,gc,v1,vc,rfl,hg,hv⟩;have hs3:=hE3.size;have H3:=Zaa (Hst.out w3 g1 gc v1 vc hE3 hg hv);clear hE3 hg hv HTop Hst;go_wp2_with fail;refine (H3.out _).2.2.mono ?_;rintro e w4 ⟨rfl,x4,hK4,hC4,hN4⟩;have H4:=Zaa (HL.out w4 x4 hC4);have hs4:=hK4.size;simp at hs4;have HK4:=Zaa hK4;have HN4:=Zaa hN4;clear hK4 hC4 hN4 HL;go_wp2_with fail;refine H4.out.mono ?_;rintro e w5 ⟨rfl,hK5,hC5⟩;have HK5:=Zaa hK5;have HC5:=Zaa hC5;clear hK5 hC5;go_wp2;go_ret2;refine ⟨?_,Or.inr (Or.inr ⟨cs,a,w1.heap.size+1,x4,Hsome.out,Hask.out,rfl,fun k hk => ?_,HC5.out⟩)⟩
  ·have h1:=(H3.out (.cells #[.slice g1 a.1.length gc,.slice v1 a.2.length vc,.slice none 0 0,.int .i64 a.2.length] 87)).2.1;refine h1.trans ((HK4.out.below h1.size (fun k hk => ?_)).trans (HK5.out.below (Nat.le_trans h1.size HK4.out.size) (fun k hk => ?_)))
   ·rcases hk with rfl | ⟨p,hp,_⟩
    ·omega
    ·simp at hp
   ·have:k=w1.heap.size+1:=hk;omega
  ·rcases hk with rfl | hk
   ·omega
   ·rcases HN4.out k hk with ⟨p,hp,_⟩ | h
    ·simp at hp
    ·simp at h;omega
def NewR (p q:ByteArray) (e:Ending) (w':World):Prop :=
 (Zcy p=none/\e = .returned (.tuple #[.agg #[.slice none 0 0,.slice none 0 0,.slice none 0 0,.slice none 0 0,.int .i64 0,.int .i64 0,.slice none 0 0,.slice none 0 0,.slice none 0 0,.slice none 0 0,.int .i64 0],.int .i64 4])) \/
 ((∃ cs,Zcy p=some cs)/\Zfe q=none/\e = .returned (.tuple #[.agg #[.slice none 0 0,.slice none 0 0,.slice none 0 0,.slice none 0 0,.int .i64 0,.int .i64 0,.slice none 0 0,.slice none 0 0,.slice none 0 0,.slice none 0 0,.int .i64 0],.int .i64 5])) \/
 (∃ cs a,∃ s:SC,Zcy p=some cs/\Zfe q=some a/\e = .returned (.tuple #[s.val cs.length a.1.length a.2.length 1 0 0,.int .i64 0])/\SRefN w' s cs a [(topN a,0)] (newN cs a))
theorem RowD.single {X:Nat->Prop} {w:World} {g:Nat} {m0 m1 m2 m3 m4:Value} {n:ND} (hb:w.heap[g]?=some (.cells #[m0,m1,m2,m3,m4,.int .i64 0] 250 (0,0))) (hn:NodeAt X w m0 m1 m2 m3 m4 n):RowD X w 0 (.slice (some ⟨g,0,none⟩) 1 1) [(n,0)] [m0,m1,m2,m3,m4,.int .i64 0]:=by
 refine ⟨⟨rfl,.inr ⟨g,1,_,rfl,Nat.zero_le _,hb,Nat.le_refl _,by decide,rfl,rfl⟩⟩,fun i d hd => ?_⟩;have e:i=0:=by
  have:=(List.getElem?_eq_some_iff.1 hd).1;simp at this; exact this
 subst e;simp at hd;subst hd;exact ⟨m0,m1,m2,m3,m4,rfl,rfl,rfl,rfl,rfl,rfl,hn⟩
theorem Ztd {cs:List Cls} {a:List (List Sym) × Names} (ha:a.1≠[]):(newN cs a).status=0/\(newN cs a).tries=0/\(newN cs a).way=Zeo cs.length [(topN a,0)]:=by
 unfold newN Zdd;rw [if_neg (Zjc ha)];simp [Zev,Zeb]
theorem Zzq (p q:ByteArray) (w:World) (hp:p.size<=maxLen) (hq:q.size<=maxLen):Calls Tryz.prog 111 #[.string p,.string q] w fun e w'=>Ext w w'/\NewR p q e w':=by
 have HB:=Zaa (fun u=>Zuw p q u hp hq);clear hp hq;go_enter Tryz.func111,Tryz.ntmps111;go_wp2_with fail;refine (HB.out _).mono ?_;rintro e w1 ⟨hE1,hB⟩;have hs1:=hE1.size;simp at hs1;have hz1:w1.heap[w.heap.size]?=some (.cells #[.slice none 0 0,.slice none 0 0,.slice none 0 0,.slice none 0 0,.int .i64 0,.int .i64 0,.slice none 0 0,.slice none 0 0,.slice none 0 0,.slice none 0 0,.int .i64 0] 154 (0,0)):=(hE1.block _ (by simp)).trans (heap_alloc_new w _);obtain ⟨z0,z1,z2,z3,z4,z5,z6,z7,z8,z9,z10,zf⟩:=Zfp hz1;have hEw1:Ext w w1:=(Mxt:Ext w (w.alloc _)).trans (hE1.mono (by simp));have HEw1:=Zaa hEw1;have Hz1:=Zaa hz1;have hme:w.heap.size<w1.heap.size:=by omega
 clear hE1 hz1 hEw1;rcases hB with ⟨hno,rfl⟩ | ⟨⟨cs,hsome⟩,hno,rfl⟩ | ⟨cs,a,lv,av,nv,xs,hsome,hask,rfl,hrow,hA⟩
 ·have Hno:=Zaa hno;clear hno;go_wp2;refine bodyPost_ret (v := .tuple #[.agg #[.slice none 0 0,.slice none 0 0,.slice none 0 0,.slice none 0 0,.int .i64 0,.int .i64 0,.slice none 0 0,.slice none 0 0,.slice none 0 0,.slice none 0 0,.int .i64 0],.int .i64 4]) (by simp [results,Tryz.results111,go_sem,z0,z1,z2,z3,z4,z5,z6,z7,z8,z9,z10,zf,hme]) rfl ?_;exact ⟨HEw1.out.trans (Kept.below (S:=fun i=>w.heap.size<=i) Mst (by omega) (fun i e=>e)),Or.inl ⟨Hno.out,rfl⟩⟩
 ·have Hno:=Zaa hno;have Hsome:=Zaa hsome;clear hno hsome;go_wp2;refine bodyPost_ret (v := .tuple #[.agg #[.slice none 0 0,.slice none 0 0,.slice none 0 0,.slice none 0 0,.int .i64 0,.int .i64 0,.slice none 0 0,.slice none 0 0,.slice none 0 0,.slice none 0 0,.int .i64 0],.int .i64 5]) (by simp [results,Tryz.results111,go_sem,z0,z1,z2,z3,z4,z5,z6,z7,z8,z9,z10,zf,hme]) rfl ?_;exact ⟨HEw1.out.trans (Kept.below (S:=fun i=>w.heap.size<=i) Mst (by omega) (fun i e=>e)),Or.inr (Or.inl ⟨⟨cs,Hsome.out⟩,Hno.out,rfl⟩)⟩
 ·obtain ⟨ax,hA0⟩:=hA.atoms;obtain ⟨la,lcap,rfl⟩:=Zad hrow.owns;obtain ⟨aa,acap,rfl⟩:=Zad hA0.1;obtain ⟨na,ncap,rfl⟩:=Zad hA.names;obtain ⟨_,_,_,hOk,hNm,ha1,ha2,ha3,_⟩:=Zfw hask;have HT:=Zaa (fun u (hu:Ext w1 u)=>by
   obtain ⟨ax,g⟩:=(hA.ext hu).atoms;exact Zwq u _ (.slice na a.2.length ncap) a ax g ⟨_,_,rfl⟩ hOk hNm ha1 ha3)
  have Hrow:=Zaa hrow;have HA:=Zaa hA;have Ha2:=Zaa ha2;have Hsome:=Zaa hsome;have Hask:=Zaa hask;clear hrow hA hA0 hOk hNm hsome hask ha2 ha1 ha3;go_wp2_with fail;refine (HT.out _ Mxt).mono ?_;rintro e w2 ⟨m0,m1,m2,m3,m4,rfl,hE2,hnode⟩;obtain ⟨g0a,g0c,g1a,g1l,g1c,g2a,g2l,g2c,g3a,g3l,g3c,g4,rfl,rfl,rfl,rfl,rfl⟩:=hnode.len;have hs2:=hE2.size;simp at hs2;have hE12:Ext w1 w2:=(Mxt:Ext w1 (w1.alloc _)).trans (hE2.mono (by simp));have hq2:w2.heap[w1.heap.size]?=some (.cells #[.slice aa a.1.length acap,.slice na a.2.length ncap] 148 (0,0)):=(hE2.block _ (by simp)).trans (heap_alloc_new w1 _);obtain ⟨q0,q1,qf⟩:=box2 hq2;have hz2:=(hE12.block _ hme).trans Hz1.out;obtain ⟨z0,z1,z2,z3,z4,z5,z6,z7,z8,z9,z10,zf⟩:=Zfp hz2;have hme2:w.heap.size<w2.heap.size:=by omega
  have hme3:w1.heap.size<w2.heap.size:=by omega
  have hS2:=Zpe hz2;have Hfin:Hid (∀ U,Kept (only w.heap.size) w2 U->U.heap.size=w2.heap.size->Ext w ((U.alloc (.cells #[.slice g0a (topN a).goals.length g0c,.slice g1a g1l g1c,.slice g2a g2l g2c,.slice g3a g3l g3c,.int .i64 g4] 152)).alloc (.cells #[.slice g0a (topN a).goals.length g0c,.slice g1a g1l g1c,.slice g2a g2l g2c,.slice g3a g3l g3c,.int .i64 g4,.int .i64 0] 250))/\NewR p q (.returned (.tuple #[.agg #[.slice la cs.length lcap,.slice aa a.1.length acap,.slice na a.2.length ncap,.slice (some ⟨w2.heap.size+1,0,none⟩) 1 1,.int .i64 0,.int .i64 0,.slice none 0 0,.slice none 0 0,.slice none 0 0,.slice none 0 0,.int .i64 0],.int .i64 0])) ((U.alloc (.cells #[.slice g0a (topN a).goals.length g0c,.slice g1a g1l g1c,.slice g2a g2l g2c,.slice g3a g3l g3c,.int .i64 g4] 152)).alloc (.cells #[.slice g0a (topN a).goals.length g0c,.slice g1a g1l g1c,.slice g2a g2l g2c,.slice g3a g3l g3c,.int .i64 g4,.int .i64 0] 250))):=fun U hk hU=>by
   have hEw2:Ext w w2:=HEw1.out.trans (hE12.mono HEw1.out.size);have hEwU:Ext w U:=hEw2.trans (hk.below hEw2.size (fun k e=>by have:k=w.heap.size:=e; omega));have hEU:Ext U ((U.alloc (.cells #[.slice g0a (topN a).goals.length g0c,.slice g1a g1l g1c,.slice g2a g2l g2c,.slice g3a g3l g3c,.int .i64 g4] 152)).alloc (.cells #[.slice g0a (topN a).goals.length g0c,.slice g1a g1l g1c,.slice g2a g2l g2c,.slice g3a g3l g3c,.int .i64 g4,.int .i64 0] 250)):=Mxt;refine ⟨hEwU.trans (hEU.mono hEwU.size),Or.inr (Or.inr ⟨cs,a,⟨la,lcap,aa,acap,na,ncap,some ⟨w2.heap.size+1,0,none⟩,1,none,0,0,none,0,0,none,0,0,none,0,0,0⟩,Hsome.out,Hask.out,rfl,?_⟩)⟩;obtain ⟨n1,n2,n3⟩:=Ztd (cs:=cs) Ha2.out;have hd3:((U.alloc (.cells #[.slice g0a (topN a).goals.length g0c,.slice g1a g1l g1c,.slice g2a g2l g2c,.slice g3a g3l g3c,.int .i64 g4] 152)).alloc (.cells #[.slice g0a (topN a).goals.length g0c,.slice g1a g1l g1c,.slice g2a g2l g2c,.slice g3a g3l g3c,.int .i64 g4,.int .i64 0] 250)).heap[w2.heap.size+1]?=some (.cells #[.slice g0a (topN a).goals.length g0c,.slice g1a g1l g1c,.slice g2a g2l g2c,.slice g3a g3l g3c,.int .i64 g4,.int .i64 0] 250 (0,0)):=by rw [<- hU]; exact heap_alloc2_new U _ _
   have hnd:=(hS2.node hk hnode).ext (Y:=fun _=>False) hEU (fun _ _ h=>h);have hrC:=((Hrow.out.ext (Y:=fun _=>False) hE12 (fun _ _ h=>h)).keep hk hS2).ext (Y:=fun _=>False) hEU (fun _ _ h=>h);have hrA:AskAt U (.slice aa a.1.length acap) (.slice na a.2.length ncap) a:=(HA.out.ext hE12).keep hk (fun k hs=>by
    obtain ⟨cl,t,fr,g1,g2⟩:=hS2 k hs;exact ⟨cl,t,fr,g1,fun e=>g2 (Or.inl e),fun e=>g2 (Or.inr (Or.inr (Or.inr (Or.inr (Or.inr e)))))⟩)
   exact ⟨⟨⟨xs,hrC⟩,hrA.ext hEU,⟨_,RowD.single hd3 hnd⟩,fun h1=>by rw [n1] at h1; simp at h1⟩,fun _=>n3.symm,by rw [n2]; simp,fun x hx=>by simp at hx; subst hx; exact Nat.zero_le _⟩
  clear hE2 hE12 hq2 hz2 hnode hS2;go_wp2;refine bodyPost_ret (v := .tuple #[.agg #[.slice la cs.length lcap,.slice aa a.1.length acap,.slice na a.2.length ncap,.slice (some ⟨w2.heap.size+1,0,none⟩) 1 1,.int .i64 0,.int .i64 0,.slice none 0 0,.slice none 0 0,.slice none 0 0,.slice none 0 0,.int .i64 0],.int .i64 0]) (by simp [results,Tryz.results111,go_sem,z0,z1,z2,z3,z4,z5,z6,z7,z8,z9,z10,zf,hme2]) rfl ?_;exact Hfin.out _ ((((((((((((Kept.refl (only w.heap.size) w2).put 0 _).put 1 _).put 2 _).put 3 _).put 4 _).put 5 _).put 6 _).put 7 _).put 8 _).put 9 _).put 10 _) (by simp)
theorem Zte (w:World) (s:SC) (cl al nl dl:Nat) (st:Nat) (tr:Int) (n:Nat) (hn:n<=3000) (hm:st=2\/st=3) :
  Calls Tryz.prog 89 #[s.val cl al nl dl st tr,.int .i64 n] w fun e w'=>e = .returned (.tuple #[s.val cl al nl dl st tr,.int .i64 0,.int .i64 0])/\Ext w w':=by
 obtain ⟨la,lc,aa,ac,na,nc,da,dc,f0a,f0l,f0c,f1a,f1l,f1c,f2a,f2l,f2c,f3a,f3l,f3c,f4⟩:=s;simp only [SC.val];rcases hm with rfl | rfl
 ·go_enter Tryz.func89,Tryz.ntmps89;go_wp2;refine bodyPost_ret (v := .tuple #[.agg #[.slice la cl lc,.slice aa al ac,.slice na nl nc,.slice da dl dc,.int .i64 2,.int .i64 tr,.slice f0a f0l f0c,.slice f1a f1l f1c,.slice f2a f2l f2c,.slice f3a f3l f3c,.int .i64 f4],.int .i64 0,.int .i64 0]) (by simp [results,Tryz.results89,go_sem]) rfl ?_;exact ⟨rfl,Mxt⟩
 ·go_enter Tryz.func89,Tryz.ntmps89;go_wp2;refine bodyPost_ret (v := .tuple #[.agg #[.slice la cl lc,.slice aa al ac,.slice na nl nc,.slice da dl dc,.int .i64 3,.int .i64 tr,.slice f0a f0l f0c,.slice f1a f1l f1c,.slice f2a f2l f2c,.slice f3a f3l f3c,.int .i64 f4],.int .i64 0,.int .i64 0]) (by simp [results,Tryz.results89,go_sem]) rfl ?_;exact ⟨rfl,Mxt⟩
theorem Zvh (w:World) (s:SC) (cl al nl dl:Nat) (st:Nat) (tr n:Int) (hn:n<0\/3000<n) (hi : -9223372036854775808<=n/\n<9223372036854775808) :
  Calls Tryz.prog 89 #[s.val cl al nl dl st tr,.int .i64 n] w fun e w'=>e = .returned (.tuple #[s.val cl al nl dl st tr,.int .i64 0,.int .i64 8])/\Ext w w':=by
 obtain ⟨la,lc,aa,ac,na,nc,da,dc,f0a,f0l,f0c,f1a,f1l,f1c,f2a,f2l,f2c,f3a,f3l,f3c,f4⟩:=s;simp only [SC.val]
 by_cases h0:n<0
 ·clear hn;go_enter Tryz.func89,Tryz.ntmps89;go_wp2;refine bodyPost_ret (v := .tuple #[.agg #[.slice la cl lc,.slice aa al ac,.slice na nl nc,.slice da dl dc,.int .i64 st,.int .i64 tr,.slice f0a f0l f0c,.slice f1a f1l f1c,.slice f2a f2l f2c,.slice f3a f3l f3c,.int .i64 f4],.int .i64 0,.int .i64 8]) (by simp [results,Tryz.results89,go_sem]) rfl ?_;exact ⟨rfl,Mxt⟩
 ·have h3:3000<n:=by omega
  clear hn;go_enter Tryz.func89,Tryz.ntmps89;go_wp2;refine bodyPost_ret (v := .tuple #[.agg #[.slice la cl lc,.slice aa al ac,.slice na nl nc,.slice da dl dc,.int .i64 st,.int .i64 tr,.slice f0a f0l f0c,.slice f1a f1l f1c,.slice f2a f2l f2c,.slice f3a f3l f3c,.int .i64 f4],.int .i64 0,.int .i64 8]) (by simp [results,Tryz.results89,go_sem]) rfl ?_;exact ⟨rfl,Mxt⟩
structure Ent where
 b:Nat
 x:CX
 s:SC
 D:List (ND × Nat)
 p:ByteArray
 q:ByteArray
 cs:List Cls
 a:List (List Sym) × Names
 m:SN
def Ent.row (e:Ent):List Value := .pointer (some ⟨e.b,0,none⟩)::(e.s.cells e.cs.length e.a.1.length e.a.2.length e.D.length e.m.status e.m.tries).toList
theorem Ent.row_len (e:Ent):e.row.length=12:=rfl
def Zep:List Ent->List Value
 | []=>[]
 | e::es=>e.row++Zep es
theorem Zzr (es fs:List Ent):Zep (es++fs)=Zep es++Zep fs:=by
 induction es with
 | nil=>rfl
 | cons e es ih=>simp [Zep,ih]
theorem Zkw:∀ {es:List Ent} {i:Nat} {e:Ent},es[i]?=some e->∀ j,j<12->(Zep es)[i * 12+j]?=e.row[j]?:=by
 intro es
 induction es with
 | nil=>intro i e h; simp at h
 | cons f es ih =>
  intro i e h j hj
  cases i with
  | zero =>
   simp at h;subst h;unfold Zep;rw [List.getElem?_append_left (by rw [Ent.row_len]; omega)];simp
  | succ i =>
   unfold Zep;rw [List.getElem?_append_right (by rw [Ent.row_len]; omega),Ent.row_len,show (i+1) * 12+j - 12=i * 12+j by omega];exact ih (by simpa using h) j hj
def Zpf (l:List Value) (i:Nat):List Value->List Value
 | []=>l
 | v::vs=>Zpf (l.set i v) (i+1) vs
theorem Zzs:∀ (vs r l:List Value) (i:Nat),Zpf (r++l) (r.length+i) vs=r++Zpf l i vs:=by
 intro vs
 induction vs with
 | nil=>intro r l i; rfl
 | cons v vs ih =>
  intro r l i;simp only [Zpf];rw [List.set_append_right _ _ (by omega),show r.length+i - r.length=i by omega,show r.length+i+1=r.length+(i+1) by omega];exact ih r _ _
theorem Zzt:∀ {es:List Ent} {i:Nat} {e e':Ent},es[i]?=some e->e'.b=e.b->Zep (es.set i e')=Zpf (Zep es) (i * 12+1) (e'.row.drop 1):=by
 intro es
 induction es with
 | nil=>intro i e e' h; simp at h
 | cons f es ih =>
  intro i e e' h hb
  cases i with
  | zero =>
   simp at h;subst h;simp only [List.set_cons_zero,Zep,Ent.row,SC.cells,hb];rfl
  | succ i =>
   simp only [List.set_cons_succ,Zep];rw [ih (by simpa using h) hb,show (i+1) * 12+1=f.row.length+(i * 12+1) by rw [Ent.row_len]; omega,Zzs]
structure EntOk (w:World) (B:Nat) (e:Ent):Prop where
 code:CSr w e.b e.x e.cs e.a e.m
 ref:SRefN w e.s e.cs e.a e.D e.m
 inv:InvN e.cs e.a e.m
 prog:Zcy e.p=some e.cs
 ask:Zfe e.q=some e.a
 low:∀ k,ownS e.b e.x k->B<=k
theorem CSr.own_lt {w:World} {b:Nat} {x:CX} {cs:List Cls} {a:List (List Sym) × Names} {m:SN} (h:CSr w b x cs a m) {k:Nat} (hk:ownS b x k):k<w.heap.size:=by
 rcases hk with rfl | hk
 ·exact Zac h.box
 ·obtain ⟨ys,h2⟩:=h.way;exact (h2.owns.lt k (Zkd.2 hk)).2
theorem CSr.own_ty {w:World} {b:Nat} {x:CX} {cs:List Cls} {a:List (List Sym) × Names} {m:SN} (h:CSr w b x cs a m) {k:Nat} (hk:ownS b x k):∃ cl t fr,w.heap[k]?=some (.cells cl t fr)/\(t=112\/t=135):=by
 rcases hk with rfl | hk
 ·exact ⟨_,_,_,h.box,Or.inl rfl⟩
 ·obtain ⟨ys,h2⟩:=h.way;have hj:(Value.slice x.wa m.way.length x.wc).ownBlock=some k:=Zkd.2 hk;rcases h2.owns.2 with ⟨e,_⟩ | ⟨g,cap,cur,e,_,hg,_⟩
  ·rw [e] at hj; simp [Value.ownBlock] at hj
  ·rw [e] at hj;simp [Value.ownBlock] at hj;subst hj;exact ⟨_,_,_,hg,Or.inr rfl⟩
theorem EntOk.ext {w w':World} {B:Nat} {e:Ent} (h:EntOk w B e) (hE:Ext w w'):EntOk w' B e:=⟨h.code.ext hE,h.ref.ext hE,h.inv,h.prog,h.ask,h.low⟩
theorem EntOk.keep {S:Nat->Prop} {w w':World} {B:Nat} {e:Ent} (h:EntOk w B e) (hk:Kept S w w') (h1:OffRef S w) (h2:OffCode S w) (h3:∀ k,ownS e.b e.x k->¬ S k):EntOk w' B e:=⟨h.code.keep hk h2 h3,h.ref.keep hk h1,h.inv,h.prog,h.ask,h.low⟩
structure LawAt (w:World) (B bW:Nat) (es:List Ent) (la:Option Addr) (lc:Nat):Prop where
 box:w.heap[bW]?=some (.cells #[.slice la es.length lc,.slice none 0 0,.slice none 0 0] 76 (0,0))
 row:w.ownsRow B 156 12 (.slice la es.length lc) es.length (Zep es)
 all:∀ (i:Nat) (e:Ent),es[i]?=some e->EntOk w B e
 apart:∀ (i j:Nat) (e f:Ent),i≠j->es[i]?=some e->es[j]?=some f->∀ k,ownS e.b e.x k->¬ ownS f.b f.x k
theorem LawAt.ext {w w':World} {B bW:Nat} {es:List Ent} {la:Option Addr} {lc:Nat} (h:LawAt w B bW es la lc) (e:Ext w w'):LawAt w' B bW es la lc :=
 ⟨(e.block _ (Zac h.box)).trans h.box,Zan h.row (fun k hk=>e.block k (h.row.lt k hk).2),fun i f hf=>(h.all i f hf).ext e,h.apart⟩
theorem LawAt.nil {w:World} {B bW:Nat} (h:w.heap[bW]?=some (.cells #[.slice none 0 0,.slice none 0 0,.slice none 0 0] 76 (0,0))):LawAt w B bW [] none 0 :=
 ⟨h,World.ownsRow_nil _ _ _ _,fun i e h=>by simp at h,fun i j e f _ h=>by simp at h⟩
def Ydk (t:TypeId):Prop:=t=76\/t=156
theorem Zvi {S:Nat->Prop} {w:World} (h:∀ k,S k->∃ cl t fr,w.heap[k]?=some (.cells cl t fr)/\Ydk t):OffRef S w/\OffCode S w/\∀ {b x cs a m},CSr w b x cs a m->∀ k,ownS b x k->¬ S k:=by
 refine ⟨fun k hk => ?_,fun k hk => ?_,fun {b x cs a m} hc k ho hk => ?_⟩
 ·obtain ⟨cl,t,fr,h1,h2⟩:=h k hk;exact ⟨cl,t,fr,h1,by rcases h2 with rfl | rfl <;> simp [Znp]⟩
 ·obtain ⟨cl,t,fr,h1,h2⟩:=h k hk;exact ⟨cl,t,fr,h1,by rcases h2 with rfl | rfl <;> simp [Zdr]⟩
 ·obtain ⟨cl,t,fr,h1,h2⟩:=h k hk;obtain ⟨cl',t',fr',h3,h4⟩:=hc.own_ty ho;rw [h1] at h3;simp at h3;obtain ⟨_,rfl,_⟩:=h3;rcases h2 with rfl | rfl <;> simp at h4
theorem Tryz.infoLs:(Tryz.prog.info? 156).map (fun i=>(i.zero,i.size,i.bytes))=some (some (.agg #[.pointer none,.slice none 0 0,.slice none 0 0,.slice none 0 0,.slice none 0 0,.int .i64 0,.int .i64 0,.slice none 0 0,.slice none 0 0,.slice none 0 0,.slice none 0 0,.int .i64 0]),12,224):=by kernel_rfl
theorem Yio (p:Option Addr) (s:SC) (cl al nl wl:Nat) (st tr:Int):∀ u ∈ (#[Value.pointer p,.slice s.la cl s.lc,.slice s.aa al s.ac,.slice s.na nl s.nc,.slice s.da wl s.dc,.int .i64 st,.int .i64 tr,.slice s.f0a s.f0l s.f0c,.slice s.f1a s.f1l s.f1c,.slice s.f2a s.f2l s.f2c,.slice s.f3a s.f3l s.f3c,.int .i64 s.f4]:Array Value).toList,u.oneCell'=true:=by
 intro u hu;simp at hu;rcases hu with rfl | rfl | rfl | rfl | rfl | rfl | rfl | rfl | rfl | rfl | rfl | rfl <;> rfl
def LawOut (w:World) (B bW N:Nat) (e:Ending) (w':World):Prop:=e = .returned (.bool true)/\Below B w w'/\∃ (es:List Ent) (la:Option Addr) (lc:Nat),es.length<=N/\LawAt w' B bW es la lc
theorem LawAt.more {w w':World} {B bW:Nat} {es:List Ent} {la la':Option Addr} {lc lc':Nat} {e:Ent} (h:LawAt w B bW es la lc) (hB:B<=bW) (he:EntOk w B e) (hn:∀ (i:Nat) (f:Ent),es[i]?=some f->∀ k,ownS f.b f.x k->¬ ownS e.b e.x k)
  (ha:Appended w B 156 12 (.slice la es.length lc) (es.length+1) (Zep es++e.row) (.slice la' (es.length+1) lc') w'):Below B w (w'.setCell ⟨bW,0,none⟩ (.slice la' (es.length+1) lc'))/\LawAt (w'.setCell ⟨bW,0,none⟩ (.slice la' (es.length+1) lc')) B bW (es++[e]) la' lc':=by
 have hbl:=Zac h.box;have hap:¬ Zas (.slice la es.length lc) bW:=fun hj=>by
  rcases h.row.2 with ⟨e,_⟩ | ⟨g,cap,cur,e,_,hg,_⟩
  ·rw [Zas,e] at hj; simp [Value.ownBlock] at hj
  ·rw [Zas,e] at hj;simp [Value.ownBlock] at hj;subst hj;rw [h.box] at hg;simp at hg
 have hb1:=(ha.kept.block bW hbl hap).trans h.box;have hS1:∀ k,Zas (.slice la es.length lc) k->∃ cl t fr,w.heap[k]?=some (.cells cl t fr)/\Ydk t:=fun k hj=>by
  rcases h.row.2 with ⟨e,_⟩ | ⟨g,cap,cur,e,_,hg,_⟩
  ·rw [Zas,e] at hj; simp [Value.ownBlock] at hj
  ·rw [Zas,e] at hj;simp [Value.ownBlock] at hj;subst hj;exact ⟨_,_,_,hg,Or.inr rfl⟩
 obtain ⟨o1,o2,o3⟩:=Zvi hS1;have hS2:∀ k,only bW k->∃ cl t fr,w'.heap[k]?=some (.cells cl t fr)/\Ydk t:=fun k hj=>by
  have hj:k=bW:=hj;subst hj;exact ⟨_,_,_,hb1,Or.inl rfl⟩
 obtain ⟨p1,p2,p3⟩:=Zvi hS2;have hK2:Kept (only bW) w' (w'.setCell ⟨bW,0,none⟩ (.slice la' (es.length+1) lc')):=(Kept.refl _ _).put 0 _;have key:∀ f,EntOk w B f->EntOk (w'.setCell ⟨bW,0,none⟩ (.slice la' (es.length+1) lc')) B f:=fun f hf=>by
  have h1:=hf.keep ha.kept o1 o2 (o3 hf.code);exact h1.keep hK2 p1 p2 (p3 h1.code)
 have hlen:(es++[e]).length=es.length+1:=by simp
 have hrow:w'.ownsRow B 156 12 (.slice la' (es.length+1) lc') (es.length+1) (Zep (es++[e])):=by
  rw [Zzr];simpa [Zep] using ha.owns
 refine ⟨(ha.kept.below (by have:=hbl; omega) (fun k hk=>(h.row.lt k hk).1)).trans (hK2.below (by have:=ha.kept.size; omega) (fun k hk=>by have:k=bW:=hk; omega)),?_,?_,?_,?_⟩
 ·rw [hlen]; exact Zag hb1 0 _
 ·rw [hlen];refine Zan hrow (fun k hj=>hK2.block k (hrow.lt k hj).2 (fun hk => ?_));have hk:k=bW:=hk;subst hk;rcases hrow.2 with ⟨e,_⟩ | ⟨g,cap,cur,e,_,hg,_⟩
  ·rw [e] at hj; simp [Value.ownBlock] at hj
  ·rw [e] at hj;simp [Value.ownBlock] at hj;subst hj;rw [hb1] at hg;simp at hg
 ·intro i f hf;rcases Nat.lt_or_ge i es.length with hi | hi
  ·rw [List.getElem?_append_left hi] at hf;exact key f (h.all i f hf)
  ·rw [List.getElem?_append_right hi] at hf;have:i - es.length=0:=by
    have:=(List.getElem?_eq_some_iff.1 hf).1;simp at this; omega
   rw [this] at hf;simp at hf;subst hf;exact key e he
 ·intro i j f g hij hf hg k hk;have get:∀ (i:Nat) (f:Ent),(es++[e])[i]?=some f->(i<es.length/\es[i]?=some f)\/(i=es.length/\f=e):=fun i f hf=>by
   rcases Nat.lt_or_ge i es.length with hi | hi
   ·rw [List.getElem?_append_left hi] at hf;exact Or.inl ⟨hi,hf⟩
   ·rw [List.getElem?_append_right hi] at hf;have hl:=(List.getElem?_eq_some_iff.1 hf).1;simp at hl;have:i - es.length=0:=by omega
    rw [this] at hf;simp at hf;exact Or.inr ⟨by omega,hf.symm⟩
  rcases get i f hf with ⟨hi,hf'⟩ | ⟨hi,ef⟩
  ·rcases get j g hg with ⟨hj,hg'⟩ | ⟨hj,eg⟩
   ·exact h.apart i j f g hij hf' hg' k hk
   ·rw [eg]; exact hn i f hf' k hk
  ·rw [ef] at hk;rcases get j g hg with ⟨hj,hg'⟩ | ⟨hj,eg⟩
   ·exact fun hk2=>hn j g hg' k hk2 hk
   ·omega
theorem Zzu (w:World) (B bW:Nat) (es:List Ent) (la:Option Addr) (lc:Nat) (h:LawAt w B bW es la lc) (hB:B<=bW) (hlen:es.length<=2000000) (kd n m:Int) (p q x:ByteArray) (hp:p.size<=maxLen) (hq:q.size<=maxLen) :
  Calls Tryz.prog 87 #[.pointer (some ⟨bW,0,none⟩),.agg #[.int .i64 kd,.int .i64 n,.int .i64 m,.string p,.string q,.string x]] w (LawOut w B bW (es.length+1)):=by
 have hbl:=Zac h.box;obtain ⟨W0,hW0⟩:∃ W0,W0=w.alloc (.cells #[.int .i64 kd,.int .i64 n,.int .i64 m,.string p,.string q,.string x] 78):=⟨_,rfl⟩;have hE0:Ext w W0:=by rw [hW0]; exact Mxt
 have hs0:W0.heap.size=w.heap.size+1:=by rw [hW0]; simp
 have hB0:W0.heap[w.heap.size]?=some (.cells #[.int .i64 kd,.int .i64 n,.int .i64 m,.string p,.string q,.string x] 78 (0,0)):=by rw [hW0]; exact heap_alloc_new w _
 have HC:=Zaa (Yfo p q W0 hp hq);have HR:=Zaa (fun u=>Zzq p q u hp hq);have HE0:=Zaa hE0;have HB0:=Zaa hB0;have HW0:=Zaa hW0;have H:=Zaa h;clear h hE0 hB0 hW0 hp hq;go_enter Tryz.func87,Tryz.ntmps87;go_wp2_with fail;rw [<- HW0.out];refine HC.out.mono ?_;rintro e w1 ⟨hE1,hcode⟩;have hs1:=hE1.size;obtain ⟨k0,k1,k2,k3,k4,k5,kf⟩:=box6 ((hE1.block _ (by omega)).trans HB0.out);have hEw1:Ext w w1:=HE0.out.trans (hE1.mono (by omega));have HEw1:=Zaa hEw1;have Hcode:=Zaa hcode;clear hE1 hEw1;rcases hcode with ⟨hno,rfl⟩ | ⟨⟨cs,hsome⟩,hno,rfl⟩ | ⟨cs,a,b,x0,hsome,hask,rfl,hnew,hC⟩
 ·clear Hcode;have Hno:=Zaa hno;clear hno;go_wp2_with fail;refine (HR.out _).mono ?_;rintro e w2 ⟨hE2,href⟩;have HE2:=Zaa hE2;clear hE2;rcases href with ⟨hno2,rfl⟩ | ⟨⟨cs2,hs2⟩,hno2,rfl⟩ | ⟨cs2,a2,s2,hs2,_,rfl,_⟩
  ·clear hno2;go_wp2;go_ret;have hE:Ext w (w2.alloc (.cells #[.slice none 0 0,.slice none 0 0,.slice none 0 0,.slice none 0 0,.int .i64 0,.int .i64 0,.slice none 0 0,.slice none 0 0,.slice none 0 0,.slice none 0 0,.int .i64 0] 154)):=(HEw1.out.trans (HE2.out.mono HEw1.out.size)).trans ((Mxt:Ext w2 (w2.alloc _)).mono (by have:=HEw1.out.size; have:=HE2.out.size; omega));exact ⟨rfl,hE.mono (by omega),es,la,lc,by omega,H.out.ext hE⟩
  ·have:=Hno.out; rw [this] at hs2; simp at hs2
  ·have:=Hno.out; rw [this] at hs2; simp at hs2
 ·clear Hcode;have Hno:=Zaa hno;have Hsome:=Zaa hsome;clear hno hsome;go_wp2_with fail;refine (HR.out _).mono ?_;rintro e w2 ⟨hE2,href⟩;have HE2:=Zaa hE2;clear hE2;rcases href with ⟨hno2,rfl⟩ | ⟨⟨cs2,hs2⟩,hno2,rfl⟩ | ⟨cs2,a2,s2,hs2,ha2,rfl,_⟩
  ·have:=Hsome.out; rw [this] at hno2; simp at hno2
  ·clear hno2 hs2;go_wp2;go_ret;have hE:Ext w (w2.alloc (.cells #[.slice none 0 0,.slice none 0 0,.slice none 0 0,.slice none 0 0,.int .i64 0,.int .i64 0,.slice none 0 0,.slice none 0 0,.slice none 0 0,.slice none 0 0,.int .i64 0] 154)):=(HEw1.out.trans (HE2.out.mono HEw1.out.size)).trans ((Mxt:Ext w2 (w2.alloc _)).mono (by have:=HEw1.out.size; have:=HE2.out.size; omega));exact ⟨rfl,hE.mono (by omega),es,la,lc,by omega,H.out.ext hE⟩
  ·have:=Hno.out; rw [this] at ha2; simp at ha2
 ·clear Hcode;have Hsome:=Zaa hsome;have Hask:=Zaa hask;have Hnew:=Zaa hnew;have HCc:=Zaa hC;clear hsome hask hnew hC;go_wp2_with fail;refine (HR.out _).mono ?_;rintro e w2 ⟨hE2,href⟩;have hs2':=hE2.size;rcases href with ⟨hno2,rfl⟩ | ⟨⟨cs2,hs2⟩,hno2,rfl⟩ | ⟨cs2,a2,s2,hs2,ha2,rfl,hR⟩
  ·have:=Hsome.out; rw [this] at hno2; simp at hno2
  ·have:=Hask.out; rw [this] at hno2; simp at hno2
  ·obtain rfl:cs2=cs:=by have:=Hsome.out; rw [this] at hs2; simpa using hs2.symm
   obtain rfl:a2=a:=by have:=Hask.out; rw [this] at ha2; simpa using ha2.symm
   obtain ⟨la1,lc1,aa1,ac1,na1,nc1,da1,dc1,f0a,f0l,f0c,f1a,f1l,f1c,f2a,f2l,f2c,f3a,f3l,f3c,f4⟩:=s2;obtain ⟨_,_,_,_,_,_,ha0,_,_⟩:=Zfw Hask.out;obtain ⟨n1,n2,n3⟩:=Ztd (cs:=cs2) ha0;obtain ⟨U,hU⟩:∃ U,U=w2.alloc (.cells #[.slice la1 cs2.length lc1,.slice aa1 a2.1.length ac1,.slice na1 a2.2.length nc1,.slice da1 1 dc1,.int .i64 0,.int .i64 0,.slice f0a f0l f0c,.slice f1a f1l f1c,.slice f2a f2l f2c,.slice f3a f3l f3c,.int .i64 f4] 154):=⟨_,rfl⟩;have hE2U:Ext w2 U:=by rw [hU]; exact Mxt
   have hsU:U.heap.size=w2.heap.size+1:=by rw [hU]; simp
   have hBU:U.heap[w2.heap.size]?=some (.cells #[.slice la1 cs2.length lc1,.slice aa1 a2.1.length ac1,.slice na1 a2.2.length nc1,.slice da1 1 dc1,.int .i64 0,.int .i64 0,.slice f0a f0l f0c,.slice f1a f1l f1c,.slice f2a f2l f2c,.slice f3a f3l f3c,.int .i64 f4] 154 (0,0)):=by rw [hU]; exact heap_alloc_new w2 _
   have hE1U:Ext w1 U:=hE2.trans (hE2U.mono hs2');have hEwU:Ext w U:=HEw1.out.trans (hE1U.mono HEw1.out.size);have hLU:=H.out.ext hEwU;have hEnt:EntOk U B ⟨b,x0,⟨la1,lc1,aa1,ac1,na1,nc1,da1,dc1,f0a,f0l,f0c,f1a,f1l,f1c,f2a,f2l,f2c,f3a,f3l,f3c,f4⟩,[(topN a2,0)],p,q,cs2,a2,newN cs2 a2⟩:=⟨HCc.out.ext hE1U,hR.ext hE2U,InvN.new cs2 ha0,Hsome.out,Hask.out,fun k hk=>by have:=Hnew.out k hk; omega⟩;have hrowE:(⟨b,x0,⟨la1,lc1,aa1,ac1,na1,nc1,da1,dc1,f0a,f0l,f0c,f1a,f1l,f1c,f2a,f2l,f2c,f3a,f3l,f3c,f4⟩,[(topN a2,0)],p,q,cs2,a2,newN cs2 a2⟩:Ent).row=[.pointer (some ⟨b,0,none⟩),.slice la1 cs2.length lc1,.slice aa1 a2.1.length ac1,.slice na1 a2.2.length nc1,.slice da1 1 dc1,.int .i64 0,.int .i64 0,.slice f0a f0l f0c,.slice f1a f1l f1c,.slice f2a f2l f2c,.slice f3a f3l f3c,.int .i64 f4]:=by simp [Ent.row,SC.cells,n1,n2]
   have Hfin:Hid (∀ w3 la3 lc3,Appended (U.drewN 1) B 156 12 (.slice la es.length lc) (es.length+1) (Zep es++[.pointer (some ⟨b,0,none⟩),.slice la1 cs2.length lc1,.slice aa1 a2.1.length ac1,.slice na1 a2.2.length nc1,.slice da1 1 dc1,.int .i64 0,.int .i64 0,.slice f0a f0l f0c,.slice f1a f1l f1c,.slice f2a f2l f2c,.slice f3a f3l f3c,.int .i64 f4]) (.slice la3 (es.length+1) lc3) w3->(w3.heap[bW]?=some (.cells #[.slice la es.length lc,.slice none 0 0,.slice none 0 0] 76 (0,0)))/\LawOut w B bW (es.length+1) (.returned (.bool true)) (w3.setCell ⟨bW,0,none⟩ (.slice la3 (es.length+1) lc3))):=fun w3 la3 lc3 hap=>by
    have hap':Appended U B 156 12 (.slice la es.length lc) (es.length+1) (Zep es++(⟨b,x0,⟨la1,lc1,aa1,ac1,na1,nc1,da1,dc1,f0a,f0l,f0c,f1a,f1l,f1c,f2a,f2l,f2c,f3a,f3l,f3c,f4⟩,[(topN a2,0)],p,q,cs2,a2,newN cs2 a2⟩:Ent).row) (.slice la3 (es.length+1) lc3) w3:=⟨by rw [hrowE]; exact hap.owns,⟨hap.kept.os,hap.kept.tape,hap.kept.output,hap.kept.size,hap.kept.block⟩,hap.where_⟩;obtain ⟨g1,g2⟩:=hLU.more hB hEnt (fun i f hf k hk hk2=>by
     have h1:=(H.out.all i f hf).code.own_lt hk;have h2:=Hnew.out k hk2;omega) hap'
    refine ⟨?_,rfl,(hEwU.mono (by omega)).trans g1,_,la3,lc3,by simp,g2⟩;refine (hap'.kept.block bW (Zac hLU.box) (fun hj => ?_)).trans hLU.box;rcases hLU.row.2 with ⟨e,_⟩ | ⟨g,cap,cur,e,_,hg,_⟩
    ·rw [Zas,e] at hj; simp [Value.ownBlock] at hj
    ·rw [Zas,e] at hj;simp [Value.ownBlock] at hj;subst hj;rw [hLU.box] at hg;simp at hg
   have HrU:=Zaa hLU.row;have c0:=Zab hLU.box 0 _ rfl;have cf:=fun i=>Zae hLU.box i;obtain ⟨z0,z1,z2,z3,z4,z5,z6,z7,z8,z9,z10,zf⟩:=Zfp hBU;have HU:=Zaa hU;obtain ⟨L,hL⟩:∃ L,L=es.length:=⟨_,rfl⟩;rw [<- hL] at Hfin HrU c0 hlen;have HL:=Zaa hL;have hBU2:B<=U.heap.size:=by omega
   have hbWU:bW<w2.heap.size:=by omega
   clear hE2 hR hE2U hBU hE1U hEwU hLU hEnt hrowE hU n1 n2 n3 ha0 hs2 ha2 hL k0 k1 k2 k3 k4 k5 kf;simp only [SC.val];go_wp2_with fail;rw [<- HU.out]
   go_region_law (refine Zca (U.drewN 1) rfl (.tmp 41) (.tmp 45) 73 rfl B 156 Tryz.infoLs Tryz.underlying73 rfl (by decide) (.slice la L lc) L (Zep es) rfl HrU.out #[.pointer (some ⟨b,0,none⟩),.slice la1 cs2.length lc1,.slice aa1 a2.1.length ac1,.slice na1 a2.2.length nc1,.slice da1 1 dc1,.int .i64 0,.int .i64 0,.slice f0a f0l f0c,.slice f1a f1l f1c,.slice f2a f2l f2c,.slice f3a f3l f3c,.int .i64 f4] rfl (by show _=U.heap.size; omega) rfl (Yio _ ⟨la1,lc1,aa1,ac1,na1,nc1,da1,dc1,f0a,f0l,f0c,f1a,f1l,f1c,f2a,f2l,f2c,f3a,f3l,f3c,f4⟩ _ _ _ _ _ _) (by omega) (by show B<=U.heap.size; omega) rfl ?_; intro v' w3 hap; obtain ⟨la3,lc3,rfl⟩:=Zad hap.owns; obtain ⟨hb3,hfin⟩:=Hfin.out _ _ _ hap; have d0:=Zab hb3 0 _ rfl; have df:=fun i=>Zae hb3 i; have H3:=Zaa hfin; clear hap hb3 hfin)
   all_goals
    go_wp2;go_ret;rw [<- HL.out];exact H3.out
theorem Zqt (c n:Int) (w:World) (hc : -9223372036854775808<=c/\c<9223372036854775808) (hn:0<n/\n<9223372036854775808) :
  Calls Tryz.prog 88 #[.int .i64 c,.int .i64 n] w fun e w'=>∃ r:Nat,(r:Int)<n/\e = .returned (.int .i64 r)/\w'=w:=by
 have hn0:¬ n=0:=by omega
 obtain ⟨hc1,hc2⟩:=hc;obtain ⟨hn1,hn2⟩:=hn
 by_cases h0:c<0
 ·go_enter Tryz.func88,Tryz.ntmps88;go_wp2;go_ret;have e : -((c+1).tmod n)=(-(c+1)) % n:=by rw [<- Int.neg_tmod,Int.tmod_eq_emod_of_nonneg (by omega)]
  have h1:=Int.emod_nonneg (-(c+1)) hn0;have h2:=Int.emod_lt_of_pos (-(c+1)) hn1;refine ⟨((-(c+1)) % n).toNat,by omega,?_,rfl⟩;rw [Int.toNat_of_nonneg h1,<- e];rfl
 ·go_enter Tryz.func88,Tryz.ntmps88;go_wp2;go_ret;have h1:=Int.emod_nonneg c hn0;have h2:=Int.emod_lt_of_pos c hn1;refine ⟨(c % n).toNat,by omega,?_,rfl⟩;rw [Int.toNat_of_nonneg h1];rfl
theorem LawAt.cell {w:World} {B bW:Nat} {es:List Ent} {la:Option Addr} {lc:Nat} (h:LawAt w B bW es la lc) {k:Nat} {e:Ent} (he:es[k]?=some e):∃ lb,la=some ⟨lb,0,none⟩/\lb<w.heap.size/\(∀ i,w.frozen? ⟨lb,i,none⟩=false)/\w.cell? ⟨lb,k * 12,none⟩=some (.pointer (some ⟨e.b,0,none⟩)) /\
  ∀ j v,(e.s.cells e.cs.length e.a.1.length e.a.2.length e.D.length e.m.status e.m.tries).toList[j]?=some v->w.cell? ⟨lb,k * 12+(j+1),none⟩=some v:=by
 have hk:=(List.getElem?_eq_some_iff.1 he).1;obtain ⟨lb,lcap,lcur,hle,_,hlb,_⟩:=Zal h.row (by omega);simp only [Value.slice.injEq] at hle;obtain ⟨rfl,_,rfl⟩:=hle;refine ⟨lb,rfl,Zac hlb,fun i=>Zae hlb i,?_,fun j v hv => ?_⟩
 ·have:=Zaf h.row (k * 12+0) _ ((Zkw he 0 (by omega)).trans rfl);simpa using this
 ·have hj:j<11:=by
   have:=(List.getElem?_eq_some_iff.1 hv).1;simpa [SC.cells] using this
  exact Zaf h.row _ _ ((Zkw he (j+1) (by omega)).trans (by simpa [Ent.row] using hv))
theorem EntOk.inv1 {w:World} {B:Nat} {e:Ent} (h:EntOk w B e):(e.m.status=1->e.m.found.vals.length=e.a.2.length/\∀ k ∈ e.m.found.used,k<24)/\(e.m.status=2->TreeR e.cs (topN e.a) e.m.tree/\e.m.tree.length<=1000000):=by
 obtain ⟨_,_,_,_,hcl⟩:=Zgh h.prog;refine ⟨fun h1=>⟨(h.inv.found h1).2.1,fun k hk=>by have:=(h.inv.found h1).2.2 k hk; omega⟩,fun h2=>⟨?_,?_⟩⟩
 ·have h3:=h.inv.tree (by omega);rw [h.inv.no h2] at h3;exact h3
 ·have:=h.inv.len;have:=h.inv.tries;omega
theorem Zvj (w:World) (B bW:Nat) (es:List Ent) (la:Option Addr) (lc:Nat) (h:LawAt w B bW es la lc) (hB:B<=bW) (k:Nat) (hk:k<es.length) (n:Int) (hn : -9223372036854775808<=n/\n<9223372036854775808) (hL4:es.length<=2000000) :
  Calls Tryz.prog 90 #[.pointer (some ⟨bW,0,none⟩),.int .i64 k,.int .i64 n] w fun e w'=>e = .returned (.bool true)/\Ext w w':=by
 obtain ⟨ee,hee⟩:∃ ee,es[k]?=some ee:=⟨_,List.getElem?_eq_getElem hk⟩;obtain ⟨lb,rfl,hlb,hlf,c0,hcell⟩:=h.cell hee;have hE:=h.all k ee hee;obtain ⟨_,_,_,hcs,hcl⟩:=Zgh hE.prog;obtain ⟨hi1,hi2⟩:=hE.inv1;have hbx:=h.box;have w0:=Zab hbx 0 _ rfl;have hbl:=Zac hbx;have hCd:=hE.code;have hIn:=hE.inv;have hRf:=hE.ref.ref;have hAsk:=hE.ask;clear hE;obtain ⟨b,xx,ss,D,p,q,cs,a,m⟩:=ee;simp only at *;obtain ⟨TT,hTT⟩:∃ TT,TT=Zfq a m.status m.found m.tree:=⟨_,rfl⟩;have HT:=Zaa (fun u (hu:Ext w u)=>Yfl u ss cs q a D m.status m.tries m.found m.tree (hRf.ext hu) hcs hcl hAsk hi1 hi2);have HSt:=Zaa (fun u (hu:Ext w u)=>Zvf u b xx cs a m (hCd.ext hu));have HAn:=Zaa (fun u (hu:Ext w u)=>Zvg u b xx cs q a m (hCd.ext hu) hIn hAsk);have HWa:=Zaa (fun u (hu:Ext w u)=>Ztc u b xx cs a m (hCd.ext hu) hIn hcl);have HTr:=Zaa (fun u (hu:Ext w u)=>Ydj u b xx cs a m (hCd.ext hu));rw [<- hTT] at HT HAn HWa HTr;obtain ⟨A1,hA1⟩:∃ A1,A1=TT.1:=⟨_,rfl⟩;obtain ⟨A2,hA2⟩:∃ A2,A2=TT.2.1:=⟨_,rfl⟩;obtain ⟨A3,hA3⟩:∃ A3,A3=TT.2.2:=⟨_,rfl⟩;rw [<- hA1,<- hA2,<- hA3] at HT;rw [<- hA1] at HAn;rw [<- hA2] at HWa;rw [<- hA3] at HTr;obtain ⟨la1,lc1,aa1,ac1,na1,nc1,da1,dc1,f0a,f0l,f0c,f1a,f1l,f1c,f2a,f2l,f2c,f3a,f3l,f3c,f4⟩:=ss;simp only [SC.val] at HT;simp only [SC.cells] at hcell;obtain ⟨st,hst⟩:∃ z,z=m.status:=⟨_,rfl⟩;obtain ⟨tr,htr⟩:∃ z,z=m.tries:=⟨_,rfl⟩;obtain ⟨cl,hcl'⟩:∃ z,z=cs.length:=⟨_,rfl⟩;obtain ⟨al,hal'⟩:∃ z,z=a.1.length:=⟨_,rfl⟩;obtain ⟨nl,hnl'⟩:∃ z,z=a.2.length:=⟨_,rfl⟩;obtain ⟨dl,hdl'⟩:∃ z,z=D.length:=⟨_,rfl⟩;rw [<- hst,<- htr,<- hcl',<- hal',<- hnl',<- hdl'] at HT hcell;rw [<- hst] at HSt;have c1:=hcell 0 _ rfl;have c2:=hcell 1 _ rfl;have c3:=hcell 2 _ rfl;have c4:=hcell 3 _ rfl;have c5:=hcell 4 _ rfl;have c6:=hcell 5 _ rfl;have c7:=hcell 6 _ rfl;have c8:=hcell 7 _ rfl;have c9:=hcell 8 _ rfl;have c10:=hcell 9 _ rfl;have c11:=hcell 10 _ rfl;have HPk:=Zaa (fun u=>Zqt n 5 u hn ⟨by decide,by decide⟩);obtain ⟨L,hL⟩:∃ L,L=es.length:=⟨_,rfl⟩;rw [<- hL] at w0 hk hL4;have hki:(k:Int)<(L:Int):=by omega
 clear h hee hcell hbx hCd hIn hRf hAsk hcs hi1 hi2 hTT hA1 hA2 hA3 hst htr hcl' hal' hnl' hdl' hL hcl;go_enter Tryz.func90,Tryz.ntmps90;go_wp2_with fail;refine (HT.out _ Mxt).mono ?_;rintro e w1 ⟨rfl,hE1⟩;have hs1:=hE1.size;simp at hs1;have hB1:w1.heap[w.heap.size]?=some (.cells #[.slice la1 cl lc1,.slice aa1 al ac1,.slice na1 nl nc1,.slice da1 dl dc1,.int .i64 st,.int .i64 tr,.slice f0a f0l f0c,.slice f1a f1l f1c,.slice f2a f2l f2c,.slice f3a f3l f3c,.int .i64 f4] 154 (0,0)):=(hE1.block _ (by simp)).trans (heap_alloc_new w _);obtain ⟨z0,z1,z2,z3,z4,z5,z6,z7,z8,z9,z10,zf⟩:=Zfp hB1;have HE1:Hid (Ext w w1):=(Mxt:Ext w (w.alloc _)).trans (hE1.mono (by simp));have hme:w.heap.size<w1.heap.size:=by omega
 have HB1:=Zaa hB1;clear hE1 hB1 c0 c1 c2 c3 c4 c5 c6 c7 c8 c9 c10 c11 w0;go_wp2_with fail;refine (HPk.out _).mono ?_;rintro e w2 ⟨r,hr,rfl,rfl⟩;have hrv:r=0\/r=1\/r=2\/r=3\/r=4:=by omega
 clear hr;rcases hrv with rfl | rfl | rfl | rfl | rfl
 ·go_wp2_with fail;refine (HSt.out _ HE1.out).mono ?_;rintro e w3 ⟨rfl,rfl⟩;go_wp2;go_ret;exact ⟨rfl,HE1.out⟩
 ·go_wp2_with fail;refine (HAn.out _ HE1.out).mono ?_;rintro e w3 ⟨rfl,hE3⟩;have HE3:=Zaa hE3;clear hE3;go_wp2;go_ret;exact ⟨rfl,HE1.out.trans (HE3.out.mono HE1.out.size)⟩
 ·go_wp2_with fail;refine (HWa.out _ HE1.out).mono ?_;rintro e w3 ⟨rfl,rfl⟩;go_wp2;go_ret;exact ⟨rfl,HE1.out⟩
 ·go_wp2_with fail;refine (HTr.out _ HE1.out).mono ?_;rintro e w3 ⟨rfl,rfl⟩;go_wp2;go_ret;exact ⟨rfl,HE1.out⟩
 ·go_wp2_with fail;refine (HSt.out _ HE1.out).mono ?_;rintro e w3 ⟨rfl,rfl⟩;go_wp2_with fail;refine (HAn.out _ HE1.out).mono ?_;rintro e w4 ⟨rfl,hE4⟩;have HE4:=Zaa (HE1.out.trans (hE4.mono HE1.out.size));clear hE4;go_wp2_with fail;refine (HWa.out _ HE4.out).mono ?_;rintro e w5 ⟨rfl,rfl⟩;go_wp2_with fail;refine (HTr.out _ HE4.out).mono ?_;rintro e w6 ⟨rfl,rfl⟩;go_wp2;go_ret;exact ⟨rfl,HE4.out⟩
def Yfp (cs:List Cls) (a:List (List Sym) × Names) (m:SN) (n:Int) (made err:Nat) (m':SN):Prop:=InvN cs a m' /\
 (∀ (u:World) (b:Nat) (x:CX),CSr u b x cs a m->Calls Tryz.prog 54 #[.pointer (some ⟨b,0,none⟩),.int .i64 n] u fun e u'=>e = .returned (.tuple #[.int .i64 made,.int .i64 err])/\∃ x',Kept (ownS b x) u u'/\CSr u' b x' cs a m'/\Ziq u x x') /\
 (∀ (u:World) (s:SC) (D:List (ND × Nat)),SRefN u s cs a D m->Calls Tryz.prog 89 #[s.val cs.length a.1.length a.2.length D.length m.status m.tries,.int .i64 n] u fun e u'=>∃ (s':SC) (D':List (ND × Nat)),e = .returned (.tuple #[s'.val cs.length a.1.length a.2.length D'.length m'.status m'.tries,.int .i64 made,.int .i64 err])/\Ext u u'/\SRefN u' s' cs a D' m')
theorem Ydl {cs:List Cls} {a:List (List Sym) × Names} {m:SN} {p:ByteArray} (hI:InvN cs a m) (hp:Zcy p=some cs) (n:Int) (hn : -9223372036854775808<=n/\n<9223372036854775808):∃ made err m',Yfp cs a m n made err m':=by
 obtain ⟨_,_,_,hcs,hcl⟩:=Zgh hp;have hcf:=Yff hp
 by_cases hb:n<0\/3000<n
 ·refine ⟨0,8,m,hI,fun u b x h => ?_,fun u s D h => ?_⟩
  ·refine (Ydi u b n hb hn).mono ?_;rintro e u' ⟨rfl,rfl⟩;exact ⟨rfl,x,Kept.refl _ _,h,fun k hk=>Or.inl hk⟩
  ·refine (Zvh u s _ _ _ _ _ _ n hb hn).mono ?_;rintro e u' ⟨rfl,hE⟩;exact ⟨s,D,rfl,hE,h.ext hE⟩
 ·obtain ⟨k,hk⟩:∃ k:Nat,n=(k:Int):=⟨n.toNat,by omega⟩;subst hk;have hk3:k<=3000:=by omega
  by_cases hs:m.status=2\/m.status=3
  ·refine ⟨0,0,m,hI,fun u b x h => ?_,fun u s D h => ?_⟩
   ·refine (Zzp u b x cs a m k h hk3 hs).mono ?_;rintro e u' ⟨rfl,rfl⟩;exact ⟨rfl,x,Kept.refl _ _,h,fun k hk=>Or.inl hk⟩
   ·refine (Zte u s _ _ _ _ _ _ k hk3 hs).mono ?_;rintro e u' ⟨rfl,hE⟩;exact ⟨s,D,rfl,hE,h.ext hE⟩
  ·have hs':m.status≠2/\m.status≠3:=⟨fun h=>hs (Or.inl h),fun h=>hs (Or.inr h)⟩;exact ⟨(Zdf cs k m).2,0,(Zdf cs k m).1,hI.step hcl,fun u b x h=>Yfm u b x cs a m k h hI hcs hcf hcl hk3 hs',fun u s D h=>Zzn u s cs a D m k h hI hcs hcl hk3 hs'⟩
theorem SRefN.on_heap {w w':World} {s:SC} {cs:List Cls} {a:List (List Sym) × Names} {D:List (ND × Nat)} {m:SN} (h:SRefN w s cs a D m) (he:∀ k,k<w.heap.size->w'.heap[k]?=w.heap[k]?):SRefN w' s cs a D m:=by
 obtain ⟨xs,h1⟩:=h.ref.cls;obtain ⟨ys,h2⟩:=h.ref.dues;obtain ⟨zs,h3⟩:=h.ref.ask.atoms;have hT:∀ k,k<w.heap.size->¬ (fun _:Nat=>False) k->Zef w k->w'.heap[k]?=w.heap[k]?/\¬ (fun _:Nat=>False) k:=fun k hk _ _=>⟨he k hk,fun h=>h⟩;have hN:∀ {m0 m1 m2 m3 m4:Value} {n0:ND},NodeAt (fun _=>False) w m0 m1 m2 m3 m4 n0->NodeAt (fun _=>False) w' m0 m1 m2 m3 m4 n0:=fun h=>h.on (fun k hk _=>he k hk) (fun _ _ h=>h);refine ⟨⟨⟨xs,Zan h1.owns (fun k hk=>he k (h1.owns.lt k hk).2),fun i c hc => ?_⟩,⟨⟨zs,h3.on hT⟩,Zan h.ref.ask.names (fun k hk=>he k (h.ref.ask.names.lt k hk).2)⟩,⟨ys,Zan h2.owns (fun k hk=>he k (h2.owns.lt k hk).2),fun i d hd => ?_⟩,fun hs=>hN (h.ref.found hs)⟩,h.trim,h.len,h.next⟩
 ·obtain ⟨a,b,d,bv,ys,x0,x1,x2,x3,x4,g1,g2⟩:=h1.all i c hc;exact ⟨a,b,d,bv,ys,x0,x1,x2,x3,x4,g1.on hT,g2.on hT⟩
 ·obtain ⟨m0,m1,m2,m3,m4,x0,x1,x2,x3,x4,x5,g⟩:=h2.all i d hd;exact ⟨m0,m1,m2,m3,m4,x0,x1,x2,x3,x4,x5,hN g⟩
theorem SRefN.off_heap {X:Nat->Prop} {u y:World} {s:SC} {cs:List Cls} {a:List (List Sym) × Names} {D:List (ND × Nat)} {m:SN} (h:SRefN u s cs a D m) (hX:OffRef X u) (he:∀ k,k<u.heap.size->¬ X k->y.heap[k]?=u.heap[k]?) (hs:u.heap.size<=y.heap.size):SRefN y s cs a D m:=by
 have hk:Kept X u { y with os:=u.os,tape:=u.tape,output:=u.output }:=⟨rfl,rfl,rfl,hs,he⟩;exact (h.keep hk hX).on_heap (fun _ _=>rfl)
def StepR (cs:List Cls) (a:List (List Sym) × Names) (m':SN) (made err:Nat) (X:Nat->Prop) (v:Value) (u:World):Prop:=∃ (s':SC) (D':List (ND × Nat)),v = .tuple #[s'.val cs.length a.1.length a.2.length D'.length m'.status m'.tries,.int .i64 made,.int .i64 err]/\∀ y:World,(∀ k,k<u.heap.size->¬ X k->y.heap[k]?=u.heap[k]?)->u.heap.size<=y.heap.size->SRefN y s' cs a D' m'
theorem StepR.stable {cs:List Cls} {a:List (List Sym) × Names} {m':SN} {made err:Nat}:∀ X X' v u u',StepR cs a m' made err X v u->(∀ k,k<u.heap.size->¬ X k->u'.heap[k]?=u.heap[k]?)->u.heap.size<=u'.heap.size->(∀ k,k<u.heap.size->X' k->X k)->StepR cs a m' made err X' v u':=by
 rintro X X' v u u' ⟨s',D',rfl,h⟩ hb hs hx;refine ⟨s',D',rfl,fun y hy hsy=>h y (fun k hk hn => ?_) (Nat.le_trans hs hsy)⟩;exact (hy k (by omega) (fun h'=>hn (hx k hk h'))).trans (hb k hk hn)
def OneP (W:World) (V:Value->Prop) (Q:Value->World->Prop):List Value->World->Prop
 | [],y=>y=W
 | [v],y=>V v/\Q v y
 | _,_=>False
theorem OneP.at {W:World} {V:Value->Prop} {Q:Value->World->Prop} {vs:List Value} {y:World} (h:OneP W V Q vs y):vs.length<=0->y=W:=by
 match vs,h with
 | [],h=>exact fun _=>h
 | [v],h=>exact fun h=>by simp at h
end Go.Proofs.YtlmjilpjmgjjcaaGreatDoor
