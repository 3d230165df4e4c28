/-
  PROVED HERE: plain facts on the rows of a node in memory, and how an append to one of them goes (the conditions stand in each statement).
-/
import Derived.Test.YtlmjilpjmgjjcaaGreatDoorT6
set_option linter.unusedSimpArgs false
set_option linter.unusedVariables false
set_option maxRecDepth 10000
set_option maxHeartbeats 4000000
namespace Go.Proofs.YtlmjilpjmgjjcaaGreatDoor
open Go.RowKit
def sz (gs:List GC) (f:Nat→Int):List GC:=gs.mapIdx (fun i c => { c with size:=f i })
def upd (f:Nat→Int) (x:Nat) (u:Int):Nat→Int:=fun j=>if j=x then u else f j
theorem Zed (gs:List GC) (f:Nat→Int):(sz gs f).length=gs.length:=by simp [sz]
theorem Zrv {gs:List GC} {f:Nat→Int} {i:Nat} {c:GC} (h:gs[i]?=some c):(sz gs f)[i]?=some { c with size:=f i }:=by
 unfold sz; rw [List.getElem?_mapIdx,h]; rfl
theorem Yje (gs:List GC) (f:Nat→Int):(sz gs f).map GC.up=gs.map GC.up:=by
 apply List.ext_getElem?
 intro i
 rw [Qj,Qj]
 cases h:gs[i]? with
 | none=>rw [List.getElem?_eq_none (by rw [Zed]; exact List.getElem?_eq_none_iff.1 h)]
 | some c=>rw [Zrv h]; rfl
theorem Ygh (gs:List GC) (f:Nat→Int) (x:Nat) (u:Int):(sz gs f).modify x (fun c => { c with size:=u })=sz gs (upd f x u):=by
 apply List.ext_getElem?
 intro i
 rw [List.getElem?_modify]
 cases h:gs[i]? with
 | none =>
  rw [List.getElem?_eq_none (by rw [Zed]; exact List.getElem?_eq_none_iff.1 h),List.getElem?_eq_none (by rw [Zed]; exact List.getElem?_eq_none_iff.1 h)]; rfl
 | some c =>
  rw [Zrv h,Zrv h]
  by_cases e:x=i
  ·subst e; simp [upd]
  ·have e':¬ i=x:=fun h=>e h.symm
   simp [e,upd,e']
def Zgm:Nat→(Nat→Int)→Nat
 | 0,_=>0
 | n+1,f=>Zgm n f+if f n=0 then 1 else 0
theorem Znz (f:Nat→Int) (x:Nat) {u:Int} (hu:u≠0):∀ n,Zgm n (upd f x u)≤Zgm n f∧(x<n→f x=0→Zgm n (upd f x u)<Zgm n f):=by
 intro n
 induction n with
 | zero=>exact ⟨Qe _,fun h=>by omega⟩
 | succ n ih =>
  obtain ⟨h1,h2⟩:=ih
  by_cases e:n=x
  ·subst e
   have:upd f n u n=u:=by simp [upd]
   simp only [Zgm,this,if_neg hu]
   refine ⟨by omega,fun _ h => ?_⟩
   rw [if_pos h]; omega
  ·have:upd f x u n=f n:=by simp [upd,e]
   simp only [Zgm,this]
   exact ⟨by omega,fun h h0=>by have:=h2 (by omega) h0; omega⟩
def dnF (n:Nat) (f:Nat→Int) (j:Nat):Prop:=j<n∧0<f j
def Ybk (n:Nat) (f:Nat→Int) (T:Nat→List Sym):Prop:=∀ j,j<n→f j=0∨f j = -1∨(0<f j∧f j=((min 31 (T j).length:Nat):Int))
def sumM (T:Nat→List Sym) (ρ:Nat→Nat) (ks:List Nat):Nat:=(ks.map (fun k=>min 31 (T (ρ k)).length)).sum
theorem Yhl (T:Nat→List Sym) (ρ:Nat→Nat) (ks:List Nat):sumM T ρ ks≤31 * ks.length:=by
 induction ks with
 | nil=>simp [sumM]
 | cons k ks ih=>simp only [sumM,List.map_cons,List.sum_cons,Qf] at ih ⊢; omega
theorem Ybl (T:Nat→List Sym) (ρ:Nat→Nat) (ks:List Nat) (k:Nat):sumM T ρ (ks++[k])=sumM T ρ ks+min 31 (T (ρ k)).length:=by simp [sumM]
theorem Zxx {T T':Nat→List Sym} {ρ:Nat→Nat} {ks:List Nat} (h:∀ k ∈ ks,T' (ρ k)=T (ρ k)):sumM T' ρ ks=sumM T ρ ks:=by
 unfold sumM; congr 1; exact List.map_congr_left (fun k hk=>by rw [h k hk])
theorem Yeq (T:Nat→List Sym) (ρ:Nat→Nat) (ks:List Nat):min 31 (1+sumM T ρ ks)=min 31 (1+((ks.map (fun k=>T (ρ k))).flatten).length):=by
 induction ks with
 | nil=>rfl
 | cons k ks ih=>simp only [sumM,List.map_cons,List.sum_cons,List.flatten_cons,Qg] at ih ⊢; omega
theorem Ztp {l:List Sym} {n i:Nat} (hw:Wf n l) (hi:i<l.length):(Zat l i).args≤l.length:=by
 obtain ⟨_,e2,_⟩:=Zgy hw hi
 obtain ⟨_,_,_,_,_,hb,_⟩:=Zem hw hi
 have hkl:∀ k,k<(Zat l i).args→i<Zas l (i+1) k∧Zas l (i+1) k<l.length:=fun k hk=>by
  have:=e2 _ (Qh (Zbx l (i+1) _ k hk))
  omega
 have mono:∀ k,k≤(Zat l i).args→i+1+k≤Zas l (i+1) k:=by
  intro k
  induction k with
  | zero=>intro _; simp [Zas]
  | succ k ih =>
   intro hk
   have:=ih (by omega)
   rw [Zbz]
   have:=hkl k (by omega)
   obtain ⟨_,_,_,_,h6,_⟩:=Zem hw (i:=Zas l (i+1) k) (by omega)
   omega
 rcases Nat.lt_or_ge l.length (Zat l i).args with h | h
 ·exfalso
  have:=mono l.length (by omega)
  have:=hkl l.length h
  omega
 ·exact h
def Ybm (gb:Nat) (v:Value) (gs:List GC) (l:List Sym) (ρ:Nat→Nat) (f:Nat→Int) (T:Nat→List Sym) (i:Nat) (w:World) (e:Ending) (w':World):Prop:=∃ f',GAt w' gb v (sz gs f')∧Kept (Zbl v) w w' ∧
 ((∃ T',e = .returned (.int .i64 ((min 31 (T' (ρ i)).length:Nat):Int))∧Ybk gs.length f' T'∧Zgm gs.length f'≤Zgm gs.length f∧Known (grOf l) ρ (dnF gs.length f') T'∧dnF gs.length f' (ρ i)∧(∀ j,f' j = -1↔f j = -1)∧(∀ j,dnF gs.length f j→dnF gs.length f' j∧T' j=T j)) ∨
  (e = .returned (.int .i64 (-1))∧Stuck (grOf l) ρ (fun r=>f r = -1) i))
def Zpq (m:Nat):Prop:=∀ (w:World) (gb:Nat) (v:Value) (gs:List GC) (l:List Sym) (ρ rk:Nat→Nat) (f:Nat→Int) (T:Nat→List Sym) (i:Nat),GAt w gb v (sz gs f)→CellsOf gs l→Wf 2 l→UpOk (gs.map GC.up) ρ rk→Ybk gs.length f T→Zgm gs.length f≤m→i<gs.length→gs.length≤4000→Known (grOf l) ρ (dnF gs.length f) T →
 Calls Tryz.prog 159 #[.pointer (some ⟨gb,0,none⟩),.int .i64 i] w (Ybm gb v gs l ρ f T i w)
theorem Ybn (m:Nat) (IH:∀ k,k<m→Zpq k):Zpq m:=by
 intro w gb v gs l ρ rk f T i h hc hw hu hS hm hi hl hK
 have hrt:=hu.rt
 have hx:=hrt.lt i (by simpa using hi)
 have rx:=hrt.idem i (by simpa using hi)
 rw [Ql] at hx
 obtain ⟨x,hxe⟩:∃ x,x=ρ i:=⟨_,rfl⟩
 rw [← hxe] at hx rx
 obtain ⟨cb,cap,rfl,hcb,hcap,hne,hfz⟩:=h.shape (by rw [Zed]; omega)
 have hszl:(sz gs f).length=gs.length:=Zed gs f
 rw [hszl] at h hcap ⊢
 obtain ⟨cx,hcx⟩:∃ c,gs[x]?=some c:=⟨_,Qb hx⟩
 obtain ⟨hsy,hbe⟩:=hc.all x cx hcx
 have Hr:=Zac (Zfv w gb (.slice (some ⟨cb,0,none⟩) gs.length cap) (sz gs f) ρ rk i h (by rw [Yje]; exact hu) (by rw [Zed]; exact hi) (by rw [Zed]; exact hl))
 rw [← hxe] at Hr
 have hgat:∀ f' w',GAt w' gb (.slice (some ⟨cb,0,none⟩) gs.length cap) (sz gs f')→∀ j c,gs[j]?=some c→w'.cell? ⟨cb,j * 6+2,none⟩=some (.int .i64 c.sym.args)∧w'.cell? ⟨cb,j * 6+3,none⟩=some (.int .i64 c.behind)∧w'.cell? ⟨cb,j * 6+5,none⟩=some (.int .i64 (f' j)):=fun f' w' hg j c hj=>by
  have hg':GAt w' gb (.slice (some ⟨cb,0,none⟩) (sz gs f').length cap) (sz gs f'):=by rw [Zed]; exact hg
  obtain ⟨_,_,c2,c3,_,c5⟩:=hg'.cell (Zrv (f:=f') hj)
  exact ⟨c2,c3,c5⟩
 have Hgat:=Zac hgat
 have b0:w.cell? ⟨gb,0,none⟩=some (.slice (some ⟨cb,0,none⟩) gs.length cap):=Zaa h.box 0 _ rfl
 have hgb:=Zab h.box
 obtain ⟨x2,x3,x5⟩:=hgat f w h x cx hcx
 have hcase:=hS x hx
 have harg:cx.sym.args≤4000:=by
  have:=Ztp hw (i:=x) (by rw [← hc.len]; exact hx)
  rw [← hsy,← hc.len] at this
  omega
 have H:=Zac h
 have Hu:=Zac hu
 have Hc:=Zac hc
 have Hw:=Zac hw
 have HS:=Zac hS
 have Hm:=Zac hm
 have HK:=Zac hK
 have Hih:=Zac IH
 have Hxe:=Zac hxe
 have Hrx:=Zac rx
 have Hcx:=Zac hcx
 have Hsy:=Zac hsy
 clear h hu hc hw hS hm hK IH hxe rx hcx hsy hrt hgat hbe hszl
 rcases hcase with h0 | h0 | ⟨h0,h00⟩
 ·have H0:=Zac h0
  rw [h0] at x5
  clear h0
  go_enter Tryz.func159,Tryz.ntmps159
  go_wp2_with fail
  refine Hr.out.mono ?_
  rintro e w1 ⟨rfl,rfl⟩
  go_wp2
  obtain ⟨KS,hKS⟩:∃ K,K=Zba l (x+1) cx.sym.args:=⟨_,rfl⟩
  have HKS:=Zac hKS
  have hKl:KS.length=cx.sym.args:=by rw [hKS,Zcr]
  have HKl:=Zac hKl
  have Hkids:Hid ((grOf l).kids x=KS):=by show Zba l (x+1) (Zat l x).args=KS; rw [hKS,← Hsy.out]
  have hkat:∀ k,k<cx.sym.args→KS[k]?=some (Zas l (x+1) k):=fun k hk=>by rw [hKS]; exact Zbx l (x+1) _ k hk
  have hknx:∀ k,k<cx.sym.args→Zas l (x+1) k<gs.length:=fun k hk=>by
   have hxl:x<l.length:=by rw [← Hc.out.len]; exact hx
   obtain ⟨_,ex2,_⟩:=Zgy Hw.out hxl
   obtain ⟨_,_,_,_,_,hbx,_⟩:=Zem Hw.out hxl
   have:=ex2 _ (Qh (by rw [← Hsy.out]; exact Zbx l (x+1) _ k hk))
   have:=Hc.out.len
   omega
  have Hkat:=Zac hkat
  have Hknx:=Zac hknx
  clear hKS hKl hkat hknx
  go_loopg [6,7,8] (cx.sym.args+1) (fun gk tv av nv wr=>∃ (k:Nat) (f':Nat→Int) (T':Nat→List Sym),tv = .int .i64 ((1+sumM T' ρ (KS.take k):Nat):Int)∧av = .int .i64 (Zas l (x+1) k:Nat)∧nv = .int .i64 k∧k≤cx.sym.args∧cx.sym.args - k<gk∧GAt wr gb (.slice (some ⟨cb,0,none⟩) gs.length cap) (sz gs f')∧Kept (Zbl (.slice (some ⟨cb,0,none⟩) gs.length cap)) w1 wr ∧
    Ybk gs.length f' T'∧Zgm gs.length f'<Zgm gs.length f∧Known (grOf l) ρ (dnF gs.length f') T'∧(∀ j ∈ KS.take k,dnF gs.length f' (ρ j))∧(∀ j,f' j = -1↔f j = -1∨j=x)∧(∀ j,dnF gs.length f j→dnF gs.length f' j∧T' j=T j))
  case atStart =>
   have hon:∀ j,upd f x (-1) j = -1↔f j = -1∨j=x:=fun j=>by
    unfold upd
    by_cases e:j=x
    ·simp [e]
    ·simp [e]
   have hdn:∀ j,dnF gs.length (upd f x (-1)) j↔dnF gs.length f j:=fun j=>by
    unfold dnF upd
    by_cases e:j=x
    ·subst e; simp [H0.out]
    ·simp [e]
   refine ⟨0,upd f x (-1),T,by simp [sumM],by simp [Zas],by go_num,Qm _,by omega,?_,(Qx _ w1).setCell (p:=⟨cb,x * 6+5,none⟩) (fun _=>(rfl:some cb=some cb)) _,?_,(Znz f x (by omega) gs.length).2 hx H0.out,HK.out.congr hdn (fun _ _=>rfl),by simp,hon,fun j hj=>⟨(hdn j).2 hj,rfl⟩⟩
   ·have hg':GAt w1 gb (.slice (some ⟨cb,0,none⟩) (sz gs f).length cap) (sz gs f):=by rw [Zed]; exact H.out
    have:=hg'.put (Zrv (f:=f) Hcx.out) (f:=fun c => { c with size := -1 }) (j:=5) (u := .int .i64 (-1)) (by omega) rfl
    rw [Ygh,Zed] at this
    exact this
   ·intro j hj
    unfold upd
    by_cases e:j=x
    ·simp [e]
    ·simp only [if_neg e]; exact HS.out j hj
  case round =>
   obtain ⟨k,f',T',rfl,rfl,rfl,hk,hgk,hG,hkp,hS',hfr,hkn,hkd,hon,hold⟩:=hrel
   have hsr:=hkp.size
   have b0:wr.cell? ⟨gb,0,none⟩=some (.slice (some ⟨cb,0,none⟩) gs.length cap):=Zaa hG.box 0 _ rfl
   have hgb':=Zab hG.box
   have hcb':cb<wr.heap.size:=by omega
   have hfz':∀ j,wr.frozen? ⟨cb,j,none⟩=false:=by
    obtain ⟨cb',cap',e,_,_,_,hf⟩:=hG.shape (by rw [Zed]; omega)
    simp at e
    obtain ⟨rfl,_⟩:=e
    exact hf
   obtain ⟨y2,y3,y5⟩:=Hgat.out f' wr hG x cx Hcx.out
   have hsum:sumM T' ρ (KS.take k)≤31 * 4000:=Qq (Yhl _ _ _) (by simp; omega)
   obtain ⟨S,hSe⟩:∃ S,S=sumM T' ρ (KS.take k):=⟨_,rfl⟩
   rw [← hSe] at hsum ⊢
   have HSe:=Zac hSe
   have HG:=Zac hG
   have Hkp:=Zac hkp
   have HS':=Zac hS'
   have Hfr:=Zac hfr
   have Hkn:=Zac hkn
   have Hkd:=Zac hkd
   have Hon:=Zac hon
   have Hold:=Zac hold
   clear hSe hG hkp hS' hfr hkn hkd hon hold x2 x3 x5
   by_cases hlt:k<cx.sym.args
   ·obtain ⟨nx,hnx⟩:∃ n,n=Zas l (x+1) k:=⟨_,rfl⟩
    have hnxl:=Hknx.out k hlt
    have hnxa:=Hkat.out k hlt
    rw [← hnx] at hnxl hnxa ⊢
    obtain ⟨cn,hcn⟩:∃ c,gs[nx]?=some c:=⟨_,Qb hnxl⟩
    have hbn:=(Hc.out.all nx cn hcn).2
    have Hmem:Hid (nx ∈ (grOf l).kids (ρ i)):=by show _ ∈ _; rw [← Hxe.out,Hkids.out]; exact Qh hnxa
    have HI:=Zac (Hih.out (Zgm gs.length f') (by have:=Hm.out; have:=Hfr.out; omega) wr gb (.slice (some ⟨cb,0,none⟩) gs.length cap) gs l ρ rk f' T' nx HG.out Hc.out Hw.out Hu.out HS'.out (Qe _) hnxl hl Hkn.out)
    have Hnx:=Zac hnx
    have Hnxa:=Zac hnxa
    have Hcn:=Zac hcn
    have Hbn:=Zac hbn
    clear hnx hnxa hcn hbn
    go_wp2_with fail
    refine HI.out.mono ?_
    rintro e w2 ⟨f2,h1,h2,⟨T2,rfl,h3,h4,h5,h6,h7,h8⟩ | ⟨rfl,h3⟩⟩
    ·have hs2:=h2.size
     obtain ⟨_,z3,_⟩:=Hgat.out f2 w2 h1 nx cn Hcn.out
     rw [Hbn.out] at z3
     have b0:w2.cell? ⟨gb,0,none⟩=some (.slice (some ⟨cb,0,none⟩) gs.length cap):=Zaa h1.box 0 _ rfl
     have hgb2:=Zab h1.box
     obtain ⟨M,hM⟩:∃ M,M=min 31 (T2 (ρ nx)).length:=⟨_,rfl⟩
     rw [← hM]
     have hMl:M≤31:=by rw [hM]; omega
     have hMn:¬ ((M:Int) = -1):=by omega
     obtain ⟨bn,hbn⟩:∃ q,q=Zbf l nx:=⟨_,rfl⟩
     rw [← hbn] at z3
     have J:=Zac (And.intro h1 (And.intro h2 (And.intro h3 (And.intro h4 (And.intro h5 (And.intro h6 (And.intro h7 (And.intro h8 (And.intro hM hbn)))))))))
     clear h1 h2 h3 h4 h5 h6 h7 h8 y2 y3 y5 hM hbn
     go_wp2
     go_roundg (cx.sym.args - k)
     case measure=>omega
     case rel =>
      obtain ⟨h1,h2,h3,h4,h5,h6,h7,h8,hM,hbn⟩:=J.out
      have ht:=Zrb Hnxa.out
      refine ⟨k+1,f2,T2,?_,?_,by go_num,by omega,by omega,h1,Hkp.out.trans h2,h3,by have:=Hfr.out; omega,h5,?_,fun j=>(h7 j).trans (Hon.out j),fun j hj=>⟨(h8 j (Hold.out j hj).1).1,(h8 j (Hold.out j hj).1).2.trans (Hold.out j hj).2⟩⟩
      ·rw [ht,Ybl,Zxx (fun j hj=>(h8 _ (Hkd.out j hj)).2),← HSe.out,← hM]
       congr 1
       omega
      ·rw [Zbz,← Hnx.out,← hbn]
      ·intro j hj
       rw [ht] at hj
       rcases Qk.1 hj with hj | hj
       ·exact (h8 _ (Hkd.out j hj)).1
       ·simp at hj; subst hj; exact h6
    ·have J:=Zac (And.intro h1 (And.intro h2 h3))
     clear h1 h2 h3 y2 y3 y5
     go_wp2
     go_ret
     obtain ⟨h1,h2,h3⟩:=J.out
     have hst:Stuck (grOf l) ρ (fun r=>f r = -1) i:=Stuck.up (Yeo Hw.out) (by show _<l.length; rw [← Hc.out.len]; exact hi) (by rw [← Hxe.out]; show _<l.length; rw [← Hc.out.len]; exact hx) Hmem.out (fun val hv hc=>by
      obtain ⟨r,hr,hle⟩:=h3 val hv hc
      exact ⟨r,by rw [← Hxe.out]; exact (Hon.out r).1 hr,hle⟩)
     exact ⟨f2,h1,Hkp.out.trans h2,Or.inr ⟨rfl,hst⟩⟩
   ·have hek:k=cx.sym.args:=by omega
    subst hek
    have hnd:Hid (¬ dnF gs.length f' x):=fun hd=>by
     have:=(Hon.out x).2 (Or.inr rfl)
     have:=hd.2
     omega
    have hkd:Hid (∀ j ∈ KS,dnF gs.length f' (ρ j)):=by
     have:=Hkd.out
     rw [← HKl.out,List.take_length] at this
     exact this
    have HSe:Hid (S=sumM T' ρ KS):=by
     have:=HSe.out
     rw [← HKl.out,List.take_length] at this
     exact this
    have Hend:Hid (∀ (w3:World) (n:Nat),n=min 31 (1+S)→w3=wr.setCell ⟨cb,x * 6+5,none⟩ (.int .i64 n)→Ybm gb (.slice (some ⟨cb,0,none⟩) gs.length cap) gs l ρ f T i w1 (.returned (.int .i64 n)) w3):=fun w3 n hn hw3=>by
     subst hw3
     have hKn:=Hkn.out.more (r:=x) (by show _<l.length; rw [← Hc.out.len]; exact hx) Hrx.out hnd.out (by rw [Hkids.out]; exact hkd.out)
     rw [Hkids.out] at hKn
     have hTx:n=min 31 ((grOf l).hd x::(KS.map (fun k=>T' (ρ k))).flatten).length:=by
      rw [hn,HSe.out,Yeq,Qf,Nat.add_comm]
     have hn0:(n:Int)≠0:=by omega
     have hdn:∀ j,dnF gs.length (upd f' x n) j↔dnF gs.length f' j∨j=x:=fun j=>by
      unfold dnF upd
      by_cases e:j=x
      ·subst e; simp only [if_true,or_true,iff_true]; exact ⟨hx,by omega⟩
      ·simp [e]
     refine ⟨upd f' x n,?_,Hkp.out.trans ((Qx _ wr).setCell (p:=⟨cb,x * 6+5,none⟩) (fun _=>(rfl:some cb=some cb)) _),Or.inl ⟨_,?_,?_,Qq (Znz f' x hn0 gs.length).1 (Nat.le_of_lt Hfr.out),hKn.congr hdn (fun _ _=>rfl),by rw [← Hxe.out]; exact (hdn x).2 (Or.inr rfl),?_,?_⟩⟩
     ·have hg':GAt wr gb (.slice (some ⟨cb,0,none⟩) (sz gs f').length cap) (sz gs f'):=by rw [Zed]; exact HG.out
      have:=hg'.put (Zrv (f:=f') Hcx.out) (f:=fun c => { c with size:=n }) (j:=5) (u := .int .i64 n) (by omega) rfl
      rw [Ygh,Zed] at this
      exact this
     ·rw [← Hxe.out]
      simp only [if_true]
      rw [← hTx]
     ·intro j hj
      unfold upd
      by_cases e:j=x
      ·subst e
       simp only [if_true]
       exact Or.inr (Or.inr ⟨by omega,by rw [← hTx]⟩)
      ·simp only [if_neg e]; exact HS'.out j hj
     ·intro j
      unfold upd
      by_cases e:j=x
      ·subst e
       simp only [if_true]
       rw [H0.out]
       constructor <;> intro h <;> omega
      ·simp only [if_neg e]
       rw [Hon.out]
       simp [e]
     ·intro j hj
      refine ⟨(hdn j).2 (Or.inl (Hold.out j hj).1),?_⟩
      have hjx:j≠x:=fun e=>by
       subst e
       have:=hj.2
       rw [H0.out] at this
       omega
      rw [if_neg hjx]
      exact (Hold.out j hj).2
    obtain ⟨qa,hqa⟩:∃ q,q=Zas l (x+1) cx.sym.args:=⟨_,rfl⟩
    rw [← hqa]
    clear hqa
    by_cases h30:1+S≤30
    ·have h30':¬ ((30:Int)<((1+S:Nat):Int)):=by omega
     go_wp2
     go_ret
     exact Hend.out _ (1+S) (by omega) rfl
    ·have h30':(30:Int)<((1+S:Nat):Int):=by omega
     go_wp2
     go_ret
     exact Hend.out _ 31 (by omega) rfl
 ·go_enter Tryz.func159,Tryz.ntmps159
  rw [h0] at x5
  have H0:=Zac h0
  clear h0
  go_wp2_with fail
  refine Hr.out.mono ?_
  rintro e w1 ⟨rfl,rfl⟩
  go_wp2
  go_ret
  exact ⟨f,H.out,Qx _ _,Or.inr ⟨rfl,Stuck.here (by show _<l.length; rw [← Hc.out.len]; exact hi) (by rw [← Hxe.out]; exact H0.out)⟩⟩
 ·obtain ⟨q,hq⟩:∃ q,q=f x:=⟨_,rfl⟩
  rw [← hq] at x5
  have hq0:q≠0:=by omega
  have Hq:=Zac hq
  have H00:=Zac h00
  have H0:=Zac h0
  clear hq h0 h00
  go_enter Tryz.func159,Tryz.ntmps159
  go_wp2_with fail
  refine Hr.out.mono ?_
  rintro e w1 ⟨rfl,rfl⟩
  go_wp2
  go_ret
  refine ⟨f,H.out,Qx _ _,Or.inl ⟨T,?_,HS.out,Qe _,HK.out,by rw [← Hxe.out]; exact ⟨hx,H0.out⟩,fun _=>Iff.rfl,fun j hj=>⟨hj,rfl⟩⟩⟩
  show Ending.returned (.int .i64 q)=_
  rw [Hq.out,H00.out,Hxe.out]
theorem Yer (m:Nat):Zpq m:=by
 induction m using Nat.strongRecOn with
 | _ m ih=>exact Ybn m ih
theorem Zcz (a b:List Sym):Zah (a++b)=Zah a++Zah b:=by simp [Zah]
theorem Zrw (l:List Sym):∀ u ∈ Zah l,u.oneCell'=true:=by
 intro u hu
 simp only [Zah,List.mem_flatMap,Zbu] at hu
 obtain ⟨s,_,hs⟩:=hu
 simp at hs
 rcases hs with rfl | rfl | rfl <;> rfl
def Ziq (t:List Sym) (w:World) (e:Ending) (w':World):Prop:=∃ v B,e = .returned v∧w.heap.size≤B∧w'.ownsRow B 133 3 v t.length (Zah t)∧Ext w w'
def Zpr (m:Nat):Prop:=∀ (w:World) (gb:Nat) (v:Value) (gs:List GC) (l:List Sym) (ρ rk:Nat→Nat) (D:Nat→Prop) (T:Nat→List Sym) (i:Nat),GAt w gb v gs→CellsOf gs l→Wf 2 l→UpOk (gs.map GC.up) ρ rk→Known (grOf l) ρ D T→D (ρ i)→i<gs.length→gs.length≤4000→(T (ρ i)).length≤m→(T (ρ i)).length≤4000 →
 Calls Tryz.prog 192 #[.pointer (some ⟨gb,0,none⟩),.int .i64 i] w (Ziq (T (ρ i)) w)
theorem Ybo (m:Nat) (IH:∀ k,k<m→Zpr k):Zpr m:=by
 intro w gb v gs l ρ rk D T i h hc hw hu hK hD hi hl hm hm4
 have hrt:=hu.rt
 have hx:=hrt.lt i (by simpa using hi)
 rw [Ql] at hx
 obtain ⟨x,hxe⟩:∃ x,x=ρ i:=⟨_,rfl⟩
 rw [← hxe] at hx hD hm hm4 ⊢
 obtain ⟨cb,cap,rfl,hcb,hcap,hne,hfz⟩:=h.shape (by omega)
 obtain ⟨cx,hcx⟩:∃ c,gs[x]?=some c:=⟨_,Qb hx⟩
 obtain ⟨hsy,hbe⟩:=hc.all x cx hcx
 have Hr:=Zac (Zfv w gb (.slice (some ⟨cb,0,none⟩) gs.length cap) gs ρ rk i h hu hi hl)
 rw [← hxe] at Hr
 have b0:w.cell? ⟨gb,0,none⟩=some (.slice (some ⟨cb,0,none⟩) gs.length cap):=Zaa h.box 0 _ rfl
 have hgb:=Zab h.box
 obtain ⟨x0,x1,x2,_,_,_⟩:=h.cell hcx
 have harg:cx.sym.args≤4000:=by
  have:=Ztp hw (i:=x) (by rw [← hc.len]; exact hx)
  rw [← hsy,← hc.len] at this
  omega
 obtain ⟨KS,hKS⟩:∃ K,K=Zba l (x+1) cx.sym.args:=⟨_,rfl⟩
 have HKl:Hid (KS.length=cx.sym.args):=by show _=_; rw [hKS,Zcr]
 have hkids:(grOf l).kids x=KS:=by show Zba l (x+1) (Zat l x).args=KS; rw [hKS,← hsy]
 have Hkat:Hid (∀ k,k<cx.sym.args→KS[k]?=some (Zas l (x+1) k)):=fun k hk=>by rw [hKS]; exact Zbx l (x+1) _ k hk
 have Hknx:Hid (∀ k,k<cx.sym.args→Zas l (x+1) k<gs.length):=fun k hk=>by
  have hxl:x<l.length:=by rw [← hc.len]; exact hx
  obtain ⟨_,ex2,_⟩:=Zgy hw hxl
  obtain ⟨_,_,_,_,_,hbx,_⟩:=Zem hw hxl
  have:=ex2 _ (Qh (by rw [← hsy]; exact Zbx l (x+1) _ k hk))
  have:=hc.len
  omega
 have hTx:T x=cx.sym::((KS.map (fun k=>T (ρ k))).flatten):=by
  have:=hK.tm x hD
  rw [hkids] at this
  rw [this,hsy]; rfl
 have Hsub:Hid (∀ k n,KS[k]?=some n→D (ρ n)∧1+(((KS.take k).map (fun k=>T (ρ k))).flatten).length+(T (ρ n)).length≤(T x).length):=fun k n hn=>by
  refine ⟨hK.kid x hD n (by rw [hkids]; exact Qh hn),?_⟩
  obtain ⟨hk1,hk2⟩:=Qa.1 hn
  have e:KS=KS.take k++n::KS.drop (k+1):=by
   rw [← hk2,List.getElem_cons_drop,List.take_append_drop]
  rw [hTx]
  conv=>rhs; rw [e]
  simp only [Qr,List.map_cons,List.flatten_append,List.flatten_cons,Qf,Qg]
  omega
 have HT:=Zac hTx
 have H:=Zac h
 have Hu:=Zac hu
 have Hc:=Zac hc
 have Hw:=Zac hw
 have Hm:=Zac hm
 have HK:=Zac hK
 have Hih:=Zac IH
 have Hxe:=Zac hxe
 have Hcx:=Zac hcx
 have Hm4:=Zac hm4
 clear hTx h hu hc hw hm hK IH hxe hcx hrt hbe hkids hKS hsy hD hm4
 go_enter Tryz.func192,Tryz.ntmps192
 go_wp2_with fail
 refine Hr.out.mono ?_
 rintro e w1 ⟨rfl,rfl⟩
 have Hnil:Hid (World.ownsRow (w1.alloc (.cells #[.string ⟨cx.sym.name.toArray⟩,.int .i64 cx.sym.num,.int .i64 cx.sym.args] 133)) (w1.heap.size+1) 133 3 (.slice none 0 0) 0 []):=World.ownsRow_nil _ _ _ _
 go_wp2_with (at_builtin; refine Zam (w1.alloc (.cells #[.string ⟨cx.sym.name.toArray⟩,.int .i64 cx.sym.num,.int .i64 cx.sym.args] 133)) rfl (.tmp 22) (.tmp 24) 105 rfl (w1.heap.size+1) 133 Tryz.infoSym Tryz.underlying105 rfl (by decide) (.slice none 0 0) 0 [] rfl Hnil.out #[.string ⟨cx.sym.name.toArray⟩,.int .i64 cx.sym.num,.int .i64 cx.sym.args] (N:=w1.heap.size+1) rfl (by simp) rfl (Zgs _ _ _) ?_ ?_ ?_)
 ·omega
 ·simp
 intro v1 w2 hap
 have hrow:w2.ownsRow (w1.heap.size+1) 133 3 v1 1 (Zah [cx.sym]):=by simpa [Zah,Zbu] using hap.owns
 have hbel:Below (w1.heap.size+1) (w1.alloc (.cells #[.string ⟨cx.sym.name.toArray⟩,.int .i64 cx.sym.num,.int .i64 cx.sym.args] 133)) w2:=hap.kept.below (by simp) (fun k hk=>by simp [Zbl,Value.ownBlock] at hk)
 have Hrow:=Zac hrow
 have Hbel:=Zac hbel
 clear hap hrow hbel
 go_wp2
 go_loopg [7,8,9] (cx.sym.args+1) (fun gk tv av nv wr=>∃ (k:Nat),av = .int .i64 (Zas l (x+1) k:Nat)∧nv = .int .i64 k∧k≤cx.sym.args∧cx.sym.args - k<gk∧Below (w1.heap.size+1) (w1.alloc (.cells #[.string ⟨cx.sym.name.toArray⟩,.int .i64 cx.sym.num,.int .i64 cx.sym.args] 133)) wr ∧
   wr.ownsRow (w1.heap.size+1) 133 3 tv (1+(((KS.take k).map (fun k=>T (ρ k))).flatten).length) (Zah (cx.sym::((KS.take k).map (fun k=>T (ρ k))).flatten)))
 case atStart=>exact ⟨0,by simp [Zas],by go_num,Qm _,by omega,Hbel.out,by simpa using Hrow.out⟩
 case round =>
  obtain ⟨k,rfl,rfl,hk,hgk,hbw,hown⟩:=hrel
  obtain ⟨ta,tcap,rfl⟩:=Zad hown
  have hsr:=hbw.size
  have hsr:w1.heap.size+1≤wr.heap.size:=by simpa using hsr
  have hE:Ext w1 wr:=by
   have h0:Ext w1 (w1.alloc (.cells #[.string ⟨cx.sym.name.toArray⟩,.int .i64 cx.sym.num,.int .i64 cx.sym.args] 133)):=(Ext.of (by repeat' (first | with_reducible(first|exact Qx _ _|apply Kept.drew|apply Kept.drewN|apply Qz|refine Qy ?_ ?_ _)|exact fun h=>absurd h (by simp <;> omega))))
   exact h0.trans (hbw.mono (by omega))
  have hG:=H.out.ext hE
  have b0:wr.cell? ⟨gb,0,none⟩=some (.slice (some ⟨cb,0,none⟩) gs.length cap):=Zaa hG.box 0 _ rfl
  have hgb':=Zab hG.box
  have hcb':cb<wr.heap.size:=by omega
  have hbox:wr.heap[w1.heap.size]?=some (.cells #[.string ⟨cx.sym.name.toArray⟩,.int .i64 cx.sym.num,.int .i64 cx.sym.args] 133 (0,0)):=(hbw.block _ (by omega)).trans (heap_alloc_new w1 _)
  have y2:wr.cell? ⟨w1.heap.size,2,none⟩=some (.int .i64 cx.sym.args):=Zaa hbox 2 _ rfl
  have hwb:=Zab hbox
  have Hbw:=Zac hbw
  have Hown:=Zac hown
  have HG:=Zac hG
  have HE:=Zac hE
  clear hbw hown hG hE hbox x0 x1 x2
  by_cases hlt:k<cx.sym.args
  ·obtain ⟨nx,hnx⟩:∃ n,n=Zas l (x+1) k:=⟨_,rfl⟩
   have hnxl:=Hknx.out k hlt
   have hnxa:=Hkat.out k hlt
   rw [← hnx] at hnxl hnxa ⊢
   obtain ⟨cn,hcn⟩:∃ c,gs[nx]?=some c:=⟨_,Qb hnxl⟩
   have hbn:=(Hc.out.all nx cn hcn).2
   obtain ⟨hDn,hle⟩:=Hsub.out k nx hnxa
   have hm4:=Hm4.out
   have HI:=Zac (Hih.out (T (ρ nx)).length (by have:=Hm.out; omega) wr gb (.slice (some ⟨cb,0,none⟩) gs.length cap) gs l ρ rk D T nx HG.out Hc.out Hw.out Hu.out HK.out hDn hnxl hl (Qe _) (by omega))
   have Hnx:=Zac hnx
   have Hnxa:=Zac hnxa
   have Hbn:=Zac hbn
   have Hcn:=Zac hcn
   obtain ⟨L,hL⟩:∃ L,L=(((KS.take k).map (fun k=>T (ρ k))).flatten):=⟨_,rfl⟩
   rw [← hL] at hle ⊢
   have HL:=Zac hL
   clear hnx hnxa hbn hcn hL hDn
   go_wp2_with fail
   refine HI.out.mono ?_
   rintro e w3 ⟨v3,B3,rfl,hB3,hr3,hE3⟩
   obtain ⟨a3,c3,rfl⟩:=Zad hr3
   have hs3:=hE3.size
   have hG3:=HG.out.ext hE3
   have b0:w3.cell? ⟨gb,0,none⟩=some (.slice (some ⟨cb,0,none⟩) gs.length cap):=Zaa hG3.box 0 _ rfl
   have hgb3:=Zab hG3.box
   have HR:Hid (Zxc w3 3 (.slice a3 (T (ρ nx)).length c3) (T (ρ nx)).length (Zah (T (ρ nx)))):=Zqx hr3 (Zrw _)
   have Hown3:Hid (w3.ownsRow (w1.heap.size+1) 133 3 (.slice ta (1+L.length) tcap) (1+L.length) (Zah (cx.sym::L))):=by
    have:=Zal Hown.out (fun j hj=>hE3.block j (Hown.out.lt j hj).2)
    rw [← HL.out] at this
    exact this
   have HE3:=Zac hE3
   have HG3:=Zac hG3
   clear hr3 hE3 hG3
   go_wp2_with (at_builtin; refine Zif _ rfl (.tmp 46) (.tmp 47) 105 rfl (w1.heap.size+1) 133 Tryz.infoSym Tryz.underlying105 rfl (by decide) _ (1+L.length) (Zah (cx.sym::L)) rfl Hown3.out _ (T (ρ nx)).length (Zah (T (ρ nx))) rfl HR.out ?_ ?_ ?_)
   ·omega
   ·omega
   intro v4 w4 hap
   obtain ⟨a4,c4,rfl⟩:=Zad hap.owns
   have hG4:GAt w4 gb (.slice (some ⟨cb,0,none⟩) gs.length cap) gs:=by
    have hk:=hap.kept.below (B:=w1.heap.size+1) (by omega) (fun j hj=>(Hown3.out.lt j hj).1)
    have he:Ext w1 w4:=HE.out.trans ((HE3.out.mono (by omega)).trans (hk.mono (by omega)))
    exact H.out.ext he
   obtain ⟨_,_,_,z3,_,_⟩:=hG4.cell Hcn.out
   rw [Hbn.out] at z3
   have b0:w4.cell? ⟨gb,0,none⟩=some (.slice (some ⟨cb,0,none⟩) gs.length cap):=Zaa hG4.box 0 _ rfl
   have hgb4:=Zab hG4.box
   obtain ⟨bn,hbn⟩:∃ q,q=Zbf l nx:=⟨_,rfl⟩
   rw [← hbn] at z3
   have Hbn2:=Zac hbn
   have Hap:=Zac hap
   clear hap hG4 hbn
   go_wp2
   go_roundg (cx.sym.args - k)
   case measure=>omega
   case rel =>
    have ht:=Zrb Hnxa.out
    refine ⟨k+1,by rw [Zbz,← Hnx.out,← Hbn2.out],by go_num,by omega,by omega,?_,?_⟩
    ·exact Hbw.out.trans ((HE3.out.mono (by omega)).trans (Hap.out.kept.below (B:=w1.heap.size+1) (by omega) (fun j hj=>(Hown3.out.lt j hj).1)))
    ·have:=Hap.out.owns
     rw [ht,Qr,List.flatten_append,← HL.out]
     simp only [List.map_cons,List.map_nil,List.flatten_cons,List.flatten_nil,Qs,Qg]
     rw [← Zcz,List.cons_append] at this
     rw [← Nat.add_assoc]
     exact this
  ·have hek:k=cx.sym.args:=by omega
   subst hek
   obtain ⟨qa,hqa⟩:∃ q,q=Zas l (x+1) cx.sym.args:=⟨_,rfl⟩
   rw [← hqa]
   clear hqa
   have Hown':Hid (Ziq (T x) w1 (.returned (.slice ta (1+(((KS.take cx.sym.args).map (fun k=>T (ρ k))).flatten).length) tcap)) wr):=by
    refine ⟨_,w1.heap.size+1,rfl,by omega,?_,HE.out⟩
    have:=Hown.out
    rw [← HKl.out,List.take_length] at this ⊢
    rw [HT.out,Qf,Nat.add_comm (((KS.map (fun k=>T (ρ k))).flatten).length) 1]
    exact this
   go_wp2
   go_ret
   exact Hown'.out
theorem Yes (m:Nat):Zpr m:=by
 induction m using Nat.strongRecOn with
 | _ m ih=>exact Ybo m ih
theorem Yjf {l:List Sym} {p j:Nat}:∀ m,p≤j→j<Zas l p m→∃ k,k<m∧Zas l p k≤j∧j<Zbf l (Zas l p k):=by
 intro m
 induction m with
 | zero=>intro h1 h2; simp only [Zas] at h2; omega
 | succ m ih =>
  intro h1 h2
  by_cases h:j<Zas l p m
  ·obtain ⟨k,hk,h3,h4⟩:=ih h1 h
   exact ⟨k,by omega,h3,h4⟩
  ·rw [Zbz] at h2
   exact ⟨m,by omega,by omega,h2⟩
theorem Zvi {l:List Sym} (hw:Wf 2 l) {ρ:Nat→Nat} (hcg:∀ i,i<l.length→Cg (grOf l) ρ i) {D:Nat→Prop} {T:Nat→List Sym} (hK:Known (grOf l) ρ D T) :
  ∀ (n p:Nat),p<l.length→Zbf l p - p≤n→D (ρ p)→∀ j,p≤j→j<Zbf l p→D (ρ j):=by
 intro n
 induction n with
 | zero=>intro p hp hn _ j h1 h2; omega
 | succ n ih =>
  intro p hp hn hd j h1 h2
  by_cases e:j=p
  ·subst e; exact hd
  ·obtain ⟨_,e2,e3⟩:=Zgy hw hp
   obtain ⟨_,_,_,_,hb1,hb2,_⟩:=Zem hw hp
   rw [← e3] at h2
   obtain ⟨k,hk,h3,h4⟩:=Yjf _ (by omega:p+1≤j) h2
   have hmem:Zas l (p+1) k ∈ (grOf l).kids p:=Qh (Zbx l (p+1) _ k hk)
   have hq:=e2 _ hmem
   have hn':((grOf l).hd p).name≠[]:=fun h=>by
    have:=(Yeo hw).vn p hp h
    rw [this] at hmem
    simp at hmem
   obtain ⟨_,h5⟩:=hcg p hp hn'
   have hdk:D (ρ (Zas l (p+1) k)):=by
    have:ρ (Zas l (p+1) k) ∈ ((grOf l).kids (ρ p)).map ρ:=by rw [h5]; exact List.mem_map.2 ⟨_,hmem,rfl⟩
    obtain ⟨k',hk',e'⟩:=List.mem_map.1 this
    rw [← e']; exact hK.kid _ hd k' hk'
   have hle:Zbf l (Zas l (p+1) k)≤Zbf l p:=by
    have mono:∀ m,k+1≤m→m≤(Zat l p).args→Zbf l (Zas l (p+1) k)≤Zas l (p+1) m:=by
     intro m
     induction m with
     | zero=>intro h; omega
     | succ m ihm =>
      intro h6 h7
      by_cases em:m=k
      ·subst em; rw [Zbz]; exact Qe _
      ·have:=ihm (by omega) (by omega)
       rw [Zbz l (p+1) m]
       have hqm:=e2 _ (Qh (Zbx l (p+1) _ m (by omega)))
       obtain ⟨_,_,_,_,h8,_⟩:=Zem hw (i:=Zas l (p+1) m) (by omega)
       omega
    rw [← e3]
    exact mono _ (by omega) (Qe _)
   exact ih _ (by omega) (by omega) hdk j h3 h4
theorem Ybp {a b:List Sym} (ha:Wf 1 a) (hb:Wf 1 b) {ρ:Nat→Nat} (hcg:∀ i,i<(a++b).length→Cg (grOf (a++b)) ρ i) {D:Nat→Prop} {T:Nat→List Sym} (hK:Known (grOf (a++b)) ρ D T) (h0:D (ρ 0)) (h1:D (ρ a.length)):∀ j,j<(a++b).length→D (ρ j):=by
 have hw:Wf 2 (a++b):=Zff ha hb
 have hla:=Zdy ha
 have hlb:=Zdy hb
 have e0:Zbf (a++b) 0=a.length:=by unfold Zbf; simp [Zkc b ha]
 have e1:Zbf (a++b) a.length=(a++b).length:=by
  have:=Zkc [] hb
  rw [Qs] at this
  unfold Zbf; simp [this]
 intro j hj
 have hl:(a++b).length=a.length+b.length:=by simp
 by_cases h:j<a.length
 ·exact Zvi hw hcg hK _ 0 (by omega) (Qe _) h0 j (by omega) (by omega)
 ·exact Zvi hw hcg hK _ a.length (by omega) (Qe _) h1 j (by omega) (by omega)
theorem Zxy (l:List Sym):CellsOf (Zfm l (Zdk l) 0) l:=by
 refine ⟨by rw [Zfn,Zbq],fun i c hc => ?_⟩
 rw [Zfw] at hc
 by_cases h:i<l.length
 ·rw [Zfx h] at hc
  simp at hc
  subst hc
  exact ⟨rfl,rfl⟩
 ·rw [List.getElem?_eq_none (by rw [Zbq]; omega)] at hc
  simp at hc
theorem Yhm {l:List Sym} {k:Nat} (hw:Wf k l):UpOk ((Zfm l (Zdk l) 0).map GC.up) (Zbc l) (fun j=>if Zbc l j=j then 0 else 1):=by
 have hf:=(Zjl l hw).rt
 intro i c hc
 rw [Qj,Zfw] at hc
 by_cases h:i<l.length
 ·rw [Zfx h] at hc
  simp at hc
  subst hc
  have h1:=hf.lt i h
  have h2:=hf.idem i h
  refine ⟨by simp [Zfn,Zbq]; exact h1,h2,fun e=>e,fun e => ?_⟩
  have e':Zbc l i≠i:=e
  show (if Zbc l (Zbc l i)=Zbc l i then 0 else 1)<(if Zbc l i=i then 0 else 1)
  rw [if_pos h2,if_neg e']
  omega
 ·rw [List.getElem?_eq_none (by rw [Zbq]; omega)] at hc
  simp at hc
theorem Yhn (l:List Sym):sz (Zfm l (Zdk l) 0) (fun _=>0)=Zfm l (Zdk l) 0:=by
 apply List.ext_getElem?
 intro i
 cases hc:(Zfm l (Zdk l) 0)[i]? with
 | none=>rw [List.getElem?_eq_none (by rw [Zed]; exact List.getElem?_eq_none_iff.1 hc)]
 | some c =>
  rw [Zrv hc]
  rw [Zfw] at hc
  by_cases h:i<l.length
  ·rw [Zfx h] at hc
   simp at hc
   subst hc
   rfl
  ·rw [List.getElem?_eq_none (by rw [Zbq]; omega)] at hc
   simp at hc
structure TermsAt (w:World) (B:Nat) (v:Value) (ls:List (List Sym)) (vs:List Value):Prop where
 owns:w.ownsRow B 105 1 v ls.length vs
 all:∀ (i:Nat) (l:List Sym),ls[i]?=some l→∃ x,vs[i]?=some x∧w.ownsRow 0 133 3 x l.length (Zah l)
theorem TermsAt.nil (w:World) (B:Nat):TermsAt w B (.slice none 0 0) [] []:=⟨World.ownsRow_nil _ _ _ _,fun i l h=>by simp at h⟩
theorem TermsAt.ext {w w':World} {B:Nat} {v:Value} {ls:List (List Sym)} {vs:List Value} (h:TermsAt w B v ls vs) (e:Ext w w'):TermsAt w' B v ls vs :=
 ⟨Zal h.owns (fun k hk=>e.block k (h.owns.lt k hk).2),fun i l hl=>by
  obtain ⟨x,h1,h2⟩:=h.all i l hl
  exact ⟨x,h1,Zal h2 (fun k hk=>e.block k (h2.lt k hk).2)⟩⟩
theorem TermsAt.box {w w':World} {M:Nat} {cs:Array Value} {t:TypeId} {fr:Nat × Nat} {B:Nat} {v:Value} {ls:List (List Sym)} {vs:List Value} (h:TermsAt w B v ls vs) (hM:w.heap[M]?=some (.cells cs t fr)) (h1:105≠t) (h2:133≠t) (hk:Kept (fun k=>k=M) w w'):TermsAt w' B v ls vs :=
 ⟨Zep h.owns hM h1 hk,fun i l hl=>by
  obtain ⟨x,h3,h4⟩:=h.all i l hl
  exact ⟨x,h3,Zep h4 hM h2 hk⟩⟩
theorem TermsAt.snoc {w w':World} {B:Nat} {v v' x:Value} {ls:List (List Sym)} {vs:List Value} {l:List Sym} (h:TermsAt w B v ls vs) (ha:Appended w B 105 1 v (ls.length+1) (vs++[x]) v' w') (hx:w.ownsRow 0 133 3 x l.length (Zah l)):TermsAt w' B v' (ls++[l]) (vs++[x]):=by
 have keep:∀ {y:Value} {t:List Sym},w.ownsRow 0 133 3 y t.length (Zah t)→w'.ownsRow 0 133 3 y t.length (Zah t):=fun {y t} hy=>ha.kept.owns hy (fun k hk hs=>by
  obtain ⟨cur,hc⟩:=Zbj h.owns k hs
  exact Zaf hy (by decide) hc hk)
 have hl:vs.length=ls.length:=by have:=h.owns.1; omega
 refine ⟨by simpa using ha.owns,fun i t ht => ?_⟩
 by_cases hi:i<ls.length
 ·rw [Qc hi] at ht
  obtain ⟨y,h1,h2⟩:=h.all i t ht
  exact ⟨y,by rw [Qc (by omega)]; exact h1,keep h2⟩
 ·rw [Qd (by omega)] at ht
  by_cases e:i=ls.length
  ·subst e
   simp at ht
   subst ht
   exact ⟨x,by rw [Qd (by omega)]; simp [hl],keep hx⟩
  ·rw [List.getElem?_eq_none (by simp; omega)] at ht
   simp at ht
theorem TermsAt.put {w:World} {B g cap:Nat} {x:Value} {ls:List (List Sym)} {vs:List Value} {l:List Sym} {n:Nat} (h:TermsAt w B (.slice (some ⟨g,0,none⟩) ls.length cap) ls vs) (hn:n<ls.length) (hx:w.ownsRow 0 133 3 x l.length (Zah l)) :
  TermsAt (w.setCell ⟨g,n,none⟩ x) B (.slice (some ⟨g,0,none⟩) ls.length cap) (ls.set n l) (vs.set n x):=by
 have hl:vs.length=ls.length:=by have:=h.owns.1; omega
 obtain ⟨cur,hg⟩:=Zbj h.owns g rfl
 have hk:Kept (fun k=>k=g) w (w.setCell ⟨g,n,none⟩ x):=(Qx (only g) w).put n x
 have keep:∀ {y:Value} {t:List Sym},w.ownsRow 0 133 3 y t.length (Zah t)→(w.setCell ⟨g,n,none⟩ x).ownsRow 0 133 3 y t.length (Zah t):=fun {y t} hy=>Zep hy hg (by decide) hk
 refine ⟨by rw [List.length_set]; exact Zvg h.owns n x,fun i t ht => ?_⟩
 rw [List.getElem?_set] at ht ⊢
 by_cases e:n=i
 ·subst e
  rw [if_pos rfl,if_pos hn] at ht
  simp at ht
  subst ht
  exact ⟨x,by rw [if_pos rfl,if_pos (by omega)],keep hx⟩
 ·rw [if_neg e] at ht
  obtain ⟨y,h1,h2⟩:=h.all i t ht
  exact ⟨y,by rw [if_neg e]; exact h1,keep h2⟩
structure SubOk (l:List Sym) (ρ:Nat→Nat) (T:Nat→List Sym) (k:Nat) (ts:List (List Sym)):Prop where
 has:∀ i,i<k→(Zat l i).name=[]→ts[(Zat l i).num]?=some (T (ρ i))
 only:∀ n t,ts[n]?=some t→t=[]∨∃ i,i<k∧(Zat l i).name=[]∧(Zat l i).num=n∧t=T (ρ i)
theorem SubOk.nil (l:List Sym) (ρ:Nat→Nat) (T:Nat→List Sym):SubOk l ρ T 0 []:=⟨fun i h=>by omega,fun n t h=>by simp at h⟩
theorem SubOk.pad {l:List Sym} {ρ:Nat→Nat} {T:Nat→List Sym} {k:Nat} {ts:List (List Sym)} (h:SubOk l ρ T k ts):SubOk l ρ T k (ts++[[]]):=by
 refine ⟨fun i hi hn => ?_,fun n t ht => ?_⟩
 ·have:=h.has i hi hn
  rw [Qc ((Qa.1 this).1)]
  exact this
 ·by_cases hl:n<ts.length
  ·rw [Qc hl] at ht
   exact h.only n t ht
  ·rw [Qd (by omega)] at ht
   left
   have:=Qh ht
   simpa using this
theorem SubOk.skip {l:List Sym} {ρ:Nat→Nat} {T:Nat→List Sym} {k:Nat} {ts:List (List Sym)} (h:SubOk l ρ T k ts) (hn:(Zat l k).name≠[]):SubOk l ρ T (k+1) ts:=by
 refine ⟨fun i hi hi' => ?_,fun n t ht => ?_⟩
 ·by_cases e:i=k
  ·subst e; exact absurd hi' hn
  ·exact h.has i (by omega) hi'
 ·rcases h.only n t ht with h1 | ⟨i,h1,h2⟩
  ·exact Or.inl h1
  ·exact Or.inr ⟨i,by omega,h2⟩
theorem SubOk.old {l:List Sym} {ρ:Nat→Nat} {T:Nat→List Sym} {k:Nat} {ts:List (List Sym)} {t:List Sym} (h:SubOk l ρ T k ts) (hv:Vars (grOf l) ρ) (hk:k<l.length) (hn:(Zat l k).name=[]) (ht:ts[(Zat l k).num]?=some t) (hne:t≠[]):SubOk l ρ T (k+1) ts:=by
 refine ⟨fun i hi hi' => ?_,fun n t ht => ?_⟩
 ·by_cases e:i=k
  ·subst e
   rcases h.only _ t ht with h1 | ⟨j,h1,h2,h3,h4⟩
   ·exact absurd h1 hne
   ·have:ρ j=ρ i:=hv j i (by show _<l.length; omega) hk h2 hn h3
    rw [ht,h4,this]
  ·exact h.has i (by omega) hi'
 ·rcases h.only n t ht with h1 | ⟨i,h1,h2⟩
  ·exact Or.inl h1
  ·exact Or.inr ⟨i,by omega,h2⟩
theorem SubOk.new {l:List Sym} {ρ:Nat→Nat} {T:Nat→List Sym} {k:Nat} {ts:List (List Sym)} (h:SubOk l ρ T k ts) (hne:∀ i,i<k→(Zat l i).name=[]→T (ρ i)≠[]) (hn:(Zat l k).name=[]) (ht:ts[(Zat l k).num]?=some []):SubOk l ρ T (k+1) (ts.set (Zat l k).num (T (ρ k))):=by
 have hl:=(Qa.1 ht).1
 refine ⟨fun i hi hi' => ?_,fun n t hnt => ?_⟩
 ·rw [List.getElem?_set]
  by_cases e:i=k
  ·subst e
   rw [if_pos rfl,if_pos hl]
  ·have h1:=h.has i (by omega) hi'
   rw [if_neg]
   ·exact h1
   ·intro e2
    rw [← e2,ht] at h1
    simp only [Qo] at h1
    exact hne i (by omega) hi' h1.symm
 ·rw [List.getElem?_set] at hnt
  by_cases e:(Zat l k).num=n
  ·rw [if_pos e,if_pos hl] at hnt
   simp only [Qo] at hnt
   exact Or.inr ⟨k,by omega,hn,e,hnt.symm⟩
  ·rw [if_neg e] at hnt
   rcases h.only n t hnt with h1 | ⟨i,h1,h2⟩
   ·exact Or.inl h1
   ·exact Or.inr ⟨i,by omega,h2⟩
def SubAt (w:World) (l:List Sym) (ρ:Nat→Nat) (T:Nat→List Sym) (k:Nat) (tv:Value) (ts:List (List Sym)) (vs:List Value) (wr:World):Prop :=
 wr.heap[w.heap.size+1]?=some (.cells #[tv] 216 (0,0))∧TermsAt wr w.heap.size tv ts vs∧SubOk l ρ T k ts∧Ext w wr∧wr.heap[w.heap.size]?=some (.cells #[.slice none 0 0] 216 (0,0))∧ts.length≤200001
theorem SubAt.ext {w wr w1:World} {l:List Sym} {ρ:Nat→Nat} {T:Nat→List Sym} {k:Nat} {tv:Value} {ts:List (List Sym)} {vs:List Value} (h:SubAt w l ρ T k tv ts vs wr) (e:Ext wr w1):SubAt w l ρ T k tv ts vs w1:=by
 obtain ⟨h1,h2,h3,h4,h5,h6⟩:=h
 exact ⟨(e.block _ (Zab h1)).trans h1,h2.ext e,h3,h4.trans (e.mono h4.size),(e.block _ (Zab h5)).trans h5,h6⟩
theorem SubAt.to {w wr:World} {l:List Sym} {ρ:Nat→Nat} {T:Nat→List Sym} {k k':Nat} {tv:Value} {ts:List (List Sym)} {vs:List Value} (h:SubAt w l ρ T k tv ts vs wr) (g:SubOk l ρ T k' ts):SubAt w l ρ T k' tv ts vs wr:=⟨h.1,h.2.1,g,h.2.2.2⟩
def Yjg (l:List Sym) (ρ:Nat→Nat) (T:Nat→List Sym) (w:World) (e:Ending) (w':World):Prop:=∃ tv ts vs,e = .returned (.agg #[tv])∧TermsAt w' w.heap.size tv ts vs∧SubOk l ρ T l.length ts∧Ext w w'∧ts.length≤200001
def SubPh (w wr:World) (l:List Sym) (ρ:Nat→Nat) (T:Nat→List Sym) (k:Nat) (tv:Value) (ts:List (List Sym)):List Value→World→Prop
 | [],u=>u=wr.drew
 | [v],u=>Ziq (T (ρ k)) wr.drew (.returned v) u
 | [_,_],u=>∃ vs',SubAt w l ρ T (k+1) tv (ts.set (Zat l k).num (T (ρ k))) vs' u
 | _,_=>False
theorem SubPh.ext {w wr:World} {l:List Sym} {ρ:Nat→Nat} {T:Nat→List Sym} {k:Nat} {tv:Value} {ts:List (List Sym)}:∀ {vs:List Value} {u:World},SubPh w wr l ρ T k tv ts vs u→vs.length≤1→Ext wr.drew u
 | [],u,h,_=>by obtain rfl:u=wr.drew:=h; exact Ext.of (Qx _ _)
 | [v],u,h,_=>by obtain ⟨_,_,_,_,_,h⟩:=h; exact h
 | _::_::_,_,_,h=>by simp at h
theorem Zkv (w:World) (gb:Nat) (v:Value) (gs:List GC) (l:List Sym) (ρ rk:Nat→Nat) (D:Nat→Prop) (T:Nat→List Sym) (h:GAt w gb v gs) (hc:CellsOf gs l) (hw:Wf 2 l) (hu:UpOk (gs.map GC.up) ρ rk) (hK:Known (grOf l) ρ D T) (hD:∀ i,i<gs.length→D (ρ i)) (hv:Vars (grOf l) ρ) (hl:gs.length≤4000) (hT:∀ i,i<gs.length→(Zat l i).name=[]→(T (ρ i)).length≤4000) (hn:∀ i,(Zat l i).num≤200000) :
  Calls Tryz.prog 160 #[.pointer (some ⟨gb,0,none⟩)] w (Yjg l ρ T w):=by
 have hpos:0<gs.length:=by have:=Zdy hw; have:=hc.len; omega
 obtain ⟨cb,cap,rfl,hcb,hcap,hne,hfz⟩:=h.shape hpos
 have b0:w.cell? ⟨gb,0,none⟩=some (.slice (some ⟨cb,0,none⟩) gs.length cap):=Zaa h.box 0 _ rfl
 have hgb:=Zab h.box
 have H:=Zac h
 have Hc:=Zac hc
 have Hw:=Zac hw
 have Hu:=Zac hu
 have HK:=Zac hK
 have HD:=Zac hD
 have Hv:=Zac hv
 have HT:=Zac hT
 have Hn:=Zac hn
 clear h hc hw hu hK hD hv hT hn
 go_enter Tryz.func160,Tryz.ntmps160
 go_wp2
 go_loopg [12] (gs.length+1) (fun gk iv wr=>∃ (k:Nat) (tv:Value) (ts:List (List Sym)) (vs:List Value),iv = .int .i64 k∧k≤gs.length∧gs.length - k<gk∧SubAt w l ρ T k tv ts vs wr)
 case atStart=>exact ⟨0,.slice none 0 0,[],[],by go_num,Qm _,by omega,by have:=heap_alloc_new (w.alloc (.cells #[.slice none 0 0] 216)) (.cells #[.slice none 0 0] 216); simpa using this,TermsAt.nil _ _,SubOk.nil _ _ _,(Ext.of (by repeat' (first | with_reducible(first|exact Qx _ _|apply Kept.drew|apply Kept.drewN|apply Qz|refine Qy ?_ ?_ _)|exact fun h=>absurd h (by simp <;> omega)))),(Below.heap_alloc _ _ _ (by simp)).trans (heap_alloc_new w _),by simp⟩
 case round =>
  obtain ⟨k,tv,ts,vs,rfl,hk,hgk,hS⟩:=hrel
  have HS:=Zac hS
  have hext:=hS.2.2.2.1
  have hsr:=hext.size
  have hG:=H.out.ext hext
  have hgr:=Zab hG.box
  have hcr:cb<wr.heap.size:=by omega
  have hsb:=Zab hS.1
  have b0:wr.cell? ⟨gb,0,none⟩=some (.slice (some ⟨cb,0,none⟩) gs.length cap):=Zaa hG.box 0 _ rfl
  have t0:wr.cell? ⟨w.heap.size+1,0,none⟩=some tv:=Zaa hS.1 0 _ rfl
  have r0:wr.cell? ⟨w.heap.size,0,none⟩=some (.slice none 0 0):=Zaa hS.2.2.2.2.1 0 _ rfl
  have rf:=fun i=>Zae hS.2.2.2.2.1 i
  have tf:=fun i=>Zae hS.1 i
  have HG:=Zac hG
  clear hS hext hG
  by_cases hlt:k<gs.length
  ·obtain ⟨c,hc⟩:∃ c,gs[k]?=some c:=⟨_,Qb hlt⟩
   obtain ⟨c0,c1,c2,c3,c4,c5⟩:=HG.out.cell hc
   obtain ⟨hsy,_⟩:=Hc.out.all k c hc
   have hcn:c.sym.num≤200000:=by rw [hsy]; exact Hn.out k
   have Hsy:=Zac hsy
   clear hc hsy
   cases hnm:c.sym.name with
   | cons x xs =>
    have hnn:Hid ((Zat l k).name≠[]):=by show _≠_; rw [← Hsy.out,hnm]; simp
    rw [hnm] at c0
    clear hnm
    go_wp2
    go_roundg (gs.length - k)
    case measure=>omega
    case rel =>
     exact ⟨k+1,tv,ts,vs,by go_num,by omega,by omega,SubAt.to (HS.out.ext (Ext.of (by repeat' (first | with_reducible(first|exact Qx _ _|apply Kept.drew|apply Kept.drewN|apply Qz|refine Qy ?_ ?_ _)|exact fun h=>absurd h (by simp <;> omega))))) (HS.out.2.2.1.skip hnn.out)⟩
   | nil =>
    have hnn:Hid ((Zat l k).name=[]):=by show _=_; rw [← Hsy.out,hnm]
    rw [hnm] at c0
    clear hnm
    have hneg:¬ ((c.sym.num:Int)<0):=by omega
    go_wp2
    have HSa:Hid (∀ o,SubAt w l ρ T k tv ts vs (wr.alloc o)):=fun o=>HS.out.ext (Ext.of (by repeat' (first | with_reducible(first|exact Qx _ _|apply Kept.drew|apply Kept.drewN|apply Qz|refine Qy ?_ ?_ _)|exact fun h=>absurd h (by simp <;> omega))))
    obtain ⟨wo,hwo⟩:∃ x,x=wr:=⟨_,rfl⟩
    subst hwo
    clear b0 t0 r0 rf tf c0 c1 c2 c3 c4 c5 HG HS hgr hcr hsb hsr
    go_loopg [28] 200003 (fun gk nv wr=>∃ (tv:Value) (ts:List (List Sym)) (vs:List Value),200002 - ts.length<gk∧SubAt w l ρ T k tv ts vs wr)
    case atStart=>exact ⟨tv,ts,vs,by omega,HSa.out _⟩
    case round =>
     clear HSa
     obtain ⟨tv,ts,vs,hgk2,hS⟩:=hrel
     have HS:=Zac hS
     have hext:=hS.2.2.2.1
     have hsr:=hext.size
     have hG:=H.out.ext hext
     have hgr:=Zab hG.box
     have hsb:=Zab hS.1
     have ht4:=hS.2.2.2.2.2
     obtain ⟨ta,tcap,rfl⟩:=Zad hS.2.1.owns
     have b0:wr.cell? ⟨gb,0,none⟩=some (.slice (some ⟨cb,0,none⟩) gs.length cap):=Zaa hG.box 0 _ rfl
     have t0:wr.cell? ⟨w.heap.size+1,0,none⟩=some (.slice ta ts.length tcap):=Zaa hS.1 0 _ rfl
     have tf:=fun i=>Zae hS.1 i
     have HG:=Zac hG
     clear hS hext hG
     by_cases hle:ts.length≤c.sym.num
     ·have hle':((ts.length:Nat):Int)≤((c.sym.num:Nat):Int):=by omega
      have Hrow:Hid (wr.ownsRow w.heap.size 105 1 (.slice ta ts.length tcap) ts.length vs):=HS.out.2.1.owns
      go_wp2_with (at_builtin; go_loud (refine Zam _ rfl (.tmp 34) (.tmp 35) 85 rfl w.heap.size 105 Tryz.infoSyms Tryz.underlying85 rfl (by decide) (.slice ta ts.length tcap) ts.length vs rfl Hrow.out _ rfl rfl rfl (Zdm _ _ _) ?_ ?_ ?_))
      ·omega
      ·omega
      intro v1 w1 hap
      obtain ⟨a1,c1,rfl⟩:=Zad hap.owns
      have hS1:SubAt w l ρ T k (.slice a1 (ts.length+1) c1) (ts++[[]]) (vs++[.slice none 0 0]) (w1.setCell ⟨w.heap.size+1,0,none⟩ (.slice a1 (ts.length+1) c1)):=by
       obtain ⟨g1,g2,g3,g4,g5,g6⟩:=HS.out
       have hb1:=(hap.kept.block _ (Zab g1) (Zaf Hrow.out (by decide) g1)).trans g1
       have hb0:=(hap.kept.block _ (Zab g5) (Zaf Hrow.out (by decide) g5)).trans g5
       have hK:Kept (fun j=>j=w.heap.size+1) w1 (w1.setCell ⟨w.heap.size+1,0,none⟩ (.slice a1 (ts.length+1) c1)):=(Qx (only (w.heap.size+1)) w1).put 0 _
       have hsz:=hap.kept.size
       refine ⟨Zai hb1 0 _,(g2.snoc hap (World.ownsRow_nil _ _ _ _)).box hb1 (by decide) (by decide) hK,g3.pad,(g4.trans (hap.kept.below (by omega) (fun j hj=>(Hrow.out.lt j hj).1))).trans (hK.below (by omega) (fun j hj=>by omega)),(hK.block _ (Zab hb0) (by omega)).trans hb0,by simp; omega⟩
      have hb1:=(hap.kept.block _ (Zab HS.out.1) (Zaf Hrow.out (by decide) HS.out.1)).trans HS.out.1
      have t0:w1.cell? ⟨w.heap.size+1,0,none⟩=some (.slice ta ts.length tcap):=Zaa hb1 0 _ rfl
      have tf:=fun i=>Zae hb1 i
      have hsb1:=Zab hb1
      have HS1:=Zac hS1
      clear hap hS1 hb1
      go_wp2
      go_roundg (200002 - ts.length)
      case measure=>omega
      case rel=>exact ⟨_,_,_,by simp; omega,HS1.out⟩
     ·have hle':¬ (((ts.length:Nat):Int)≤((c.sym.num:Nat):Int)):=by omega
      have hnl:c.sym.num<ts.length:=by omega
      obtain ⟨t,ht⟩:∃ t,ts[c.sym.num]?=some t:=⟨_,Qb hnl⟩
      obtain ⟨xv,hxv,hxo⟩:=HS.out.2.1.all _ t ht
      obtain ⟨xa,xcap,rfl⟩:=Zad hxo
      obtain ⟨g,tcap',cur,he,_,hgb2,hgc⟩:=Zaw HS.out.2.1.owns (by omega)
      simp only [Value.slice.injEq] at he
      obtain ⟨rfl,_,rfl⟩:=he
      have x0:wr.cell? ⟨g,c.sym.num,none⟩=some (.slice xa t.length xcap):=Zag HS.out.2.1.owns _ _ hxv
      have hgl:=Zab hgb2
      have gf:=fun i=>Zae hgb2 i
      have Ht:=Zac ht
      have Hgb2:=Zac hgb2
      have hkl:k<l.length:=by rw [← Hc.out.len]; exact hlt
      clear ht hxv hxo hgb2
      cases t with
      | cons a0 t =>
       go_wp2
       go_roundg (gs.length - k)
       case measure=>omega
       case rel=>exact ⟨k+1,_,ts,vs,by go_num,by omega,by omega,HS.out.to (HS.out.2.2.1.old Hv.out hkl hnn.out (by rw [← Hsy.out]; exact Ht.out) (by simp))⟩
      | nil =>
       have HI:=Zac (Yes _ wr.drew gb (.slice (some ⟨cb,0,none⟩) gs.length cap) gs l ρ rk D T k (HG.out.on (fun _ _=>rfl)) Hc.out Hw.out Hu.out HK.out (HD.out k hlt) hlt hl (Qe _) (HT.out k hlt hnn.out))
       have Hne:Hid (∀ i,i<l.length→T (ρ i)≠[]):=fun i hi=>by rw [HK.out.tm _ (HD.out i (by rw [Hc.out.len]; exact hi))]; simp
       go_wp2_with fail
       refine Zeu (by kernel_rfl) [.rd 0 1 (fun _ => .pointer (some ⟨w.heap.size+1,0,none⟩)),.rd 0 1 (fun _ => .slice (some ⟨g,0,none⟩) ts.length tcap),.rd 0 1 (fun _ => .int .i64 c.sym.num),.rd 0 1 (fun _ => .pointer (some ⟨gb,0,none⟩)),.rd 0 1 (fun _ => .int .i64 k),.st 0,.rd 0 1 (fun _ => .pointer (some ⟨g,c.sym.num,none⟩)),.st 1] 2 4 (by kernel_rfl)
        (SubPh w wr l ρ T k (.slice (some ⟨g,0,none⟩) ts.length tcap) ts) rfl ?_ ?_
       ·have hcell:∀ u,Ext wr.drew u→u.cell? ⟨w.heap.size+1,0,none⟩=some (.slice (some ⟨g,0,none⟩) ts.length tcap):=fun u hE=>Zaa ((hE.block _ hsb).trans HS.out.1) 0 _ rfl
        refine ⟨⟨trivial,fun vs u _ hl hS => ?_⟩,⟨trivial,fun vs u _ hl hS => ?_⟩,⟨trivial,fun vs u _ hl hS => ?_⟩,⟨trivial,fun vs u _ hl hS => ?_⟩,⟨trivial,fun vs u _ hl hS => ?_⟩,⟨trivial,fun vs u hl hS => ?_⟩,⟨trivial,fun vs u _ hl hS => ?_⟩,⟨trivial,fun vs u hl hS => ?_⟩,trivial⟩
        ·simp [phAll,phA,pa,Ph.kd,Ph.val,Kd.val,go_sem]
        ·have t1:=hcell u (hS.ext hl)
         simp [phAll,phA,pa,Ph.kd,Ph.val,Kd.val,go_sem,t1]
        ·simp [phAll,phA,pa,Ph.kd,Ph.val,Kd.val,go_sem]
        ·simp [phAll,phA,pa,Ph.kd,Ph.val,Kd.val,go_sem]
        ·simp [phAll,phA,pa,Ph.kd,Ph.val,Kd.val,go_sem]
        ·obtain rfl:=List.length_eq_zero_iff.1 hl
         have hu:u=wr.drew:=hS
         subst hu
         refine .call 192 #[.pointer (some ⟨gb,0,none⟩),.int .i64 k] _ (by simp [phAll,phA,pa,Ph.kd,Ph.val,Kd.val,go_sem]) (HI.out.mono ?_)
         rintro e u ⟨v,B,rfl,h⟩
         exact ⟨v,rfl,v,B,rfl,h⟩
        ·simp [phAll,phA,pa,Ph.kd,Ph.val,Kd.val,go_sem,hnl]
        ·obtain ⟨v,rfl⟩:=List.length_eq_one_iff.1 hl
         have hE:=hS.ext (by simp)
         obtain ⟨v',B,he,hB,hr,_⟩:=hS
         simp only [Ending.returned.injEq] at he
         subst he
         have HSu:=HS.out.ext ((Ext.of (Qx _ _).drew:Ext wr wr.drew).trans hE)
         have hgu:=(hE.block _ hgl).trans Hgb2.out
         have gfu:=Zae hgu c.sym.num
         obtain ⟨va1,vc1,rfl⟩:=Zad hr
         have x1:u.cell? ⟨g,c.sym.num,none⟩=some (.slice xa 0 xcap):=(hE.cell (p:=⟨g,c.sym.num,none⟩) hgl).trans x0
         have hgs:g<u.heap.size:=Zab hgu
         have hK:Kept (only g) u (u.setCell ⟨g,c.sym.num,none⟩ (.slice va1 (T (ρ k)).length vc1)):=(Qx (only g) u).put c.sym.num _
         refine .skip (u.setCell ⟨g,c.sym.num,none⟩ (.slice va1 (T (ρ k)).length vc1)) ?_ ?_
         ·simp [phAll,phA,pa,Ph.kd,Ph.val,Kd.val,go_sem,x1,gfu]
         ·obtain ⟨g1,g2,g3,g4,g5,g6⟩:=HSu
          have hn1:w.heap.size+1≠g:=fun e=>Zaf g2.owns (by decide) g1 (by rw [e]; rfl)
          have hn0:w.heap.size≠g:=fun e=>Zaf g2.owns (by decide) g5 (by rw [e]; rfl)
          have hgw:=(g2.owns.lt g rfl).1
          rw [Hsy.out] at hnl hK ⊢
          have hp:=g2.put (l:=T (ρ k)) hnl (Zbd hr (Qm _))
          exact ⟨_,(hK.block _ (Zab g1) hn1).trans g1,hp,g3.new (fun i hi _=>Hne.out i (by omega)) hnn.out (by rw [← Hsy.out]; exact Ht.out),g4.trans (hK.below g4.size (fun j hj=>by have:j=g:=hj; omega)),(hK.block _ (Zab g5) hn0).trans g5,by rw [List.length_set]; exact g6⟩
       ·rintro vs u hl hS
        match vs,hl,hS with
        | [v,v'],_,hS =>
        obtain ⟨vs',hS'⟩:=hS
        simp only [phAll,phA,paAll,pa,Ph.kd,Ph.val,Kd.val,List.map_cons,List.map_nil,if_true,Act.put,List.setIfInBounds_toArray,List.set_cons_succ,List.set_cons_zero]
        have HS':=Zac hS'
        clear hS'
        go_wp2
        go_roundg (gs.length - k)
        case measure=>omega
        case rel=>exact ⟨k+1,_,_,vs',by go_num,by omega,by omega,HS'.out⟩
  ·have hek:k=gs.length:=by omega
   subst hek
   obtain ⟨ta,tcap,rfl⟩:=Zad HS.out.2.1.owns
   go_wp2
   have hK:Kept (fun j=>j=w.heap.size) wr (wr.setCell ⟨w.heap.size,0,none⟩ (.slice ta ts.length tcap)):=(Qx (only w.heap.size) wr).put 0 _
   have h0:(wr.setCell ⟨w.heap.size,0,none⟩ (.slice ta ts.length tcap)).cell? ⟨w.heap.size,0,none⟩=some (.slice ta ts.length tcap):=Zaa (Zai HS.out.2.2.2.2.1 0 _) 0 _ rfl
   obtain ⟨g1,g2,g3,g4,g5,g6⟩:=HS.out
   rw [Hc.out.len] at g3
   refine bodyPost_ret (v := .agg #[.slice ta ts.length tcap]) (by simp [results,Tryz.results160,go_sem,h0]) rfl ?_
   exact ⟨_,ts,vs,rfl,g2.box g5 (by decide) (by decide) hK,g3,g4.trans (hK.below (by omega) (fun k hk=>by omega)),g6⟩
def sbOf (ts:List (List Sym)) (n:Nat):List Sym:=match ts[n]? with
 | some (x::xs)=>x::xs
 | _=>vr n
theorem Yho {l:List Sym} {ρ:Nat→Nat} {D:Nat→Prop} {T:Nat→List Sym} {ts:List (List Sym)} (hs:SubOk l ρ T l.length ts) (hK:Known (grOf l) ρ D T) (hv:Vars (grOf l) ρ) (hD:∀ i,i<l.length→D (ρ i)):sbOf ts=Zea (grOf l) ρ D T:=by
 funext n
 by_cases hex:∃ i,i<l.length∧(Zat l i).name=[]∧(Zat l i).num=n
 ·obtain ⟨i,hi,hn,rfl⟩:=hex
  have h1:Zea (grOf l) ρ D T (Zat l i).num=T (ρ i):=Zoo (G:=grOf l) hv hi hn (hD i hi)
  rw [h1]
  have h2:=hs.has i hi hn
  have h3:=hK.tm _ (hD i hi)
  unfold sbOf
  rw [h2]
  rw [h3]
 ·have h1:Zea (grOf l) ρ D T n=vr n:=by
   unfold Zea
   rw [dif_neg]
   rintro ⟨i,h1,h2,h3,_⟩
   exact hex ⟨i,h1,h2,h3⟩
  rw [h1]
  unfold sbOf
  cases ht:ts[n]? with
  | none=>rfl
  | some t =>
   rcases hs.only n t ht with rfl | ⟨i,h1,h2,h3,_⟩
   ·rfl
   ·exact absurd ⟨i,h1,h2,h3⟩ hex
theorem Yhp {gs:List GC} (h:∀ c ∈ gs,c.size=0):sz gs (fun _=>0)=gs:=by
 apply List.ext_getElem?
 intro i
 cases hc:gs[i]? with
 | none=>rw [List.getElem?_eq_none (by rw [Zed]; exact List.getElem?_eq_none_iff.1 hc)]
 | some c =>
  rw [Zrv hc]
  have:=h c (Qh hc)
  cases c
  simp at this
  subst this
  rfl
theorem Ybq {l:List Sym} {gs':List GC} (h:gs'.map (·.size)=(Zfm l (Zdk l) 0).map (·.size)):sz gs' (fun _=>0)=gs':=by
 refine Yhp (fun c hc => ?_)
 have h1:c.size ∈ (Zfm l (Zdk l) 0).map (·.size):=by rw [← h]; exact List.mem_map.2 ⟨c,hc,rfl⟩
 rw [← Yhn l] at h1
 obtain ⟨d,hd,e⟩:=List.mem_map.1 h1
 obtain ⟨i,hi⟩:=List.mem_iff_getElem?.1 hd
 simp only [sz,List.getElem?_mapIdx,Option.map_eq_some_iff] at hi
 obtain ⟨d',_,rfl⟩:=hi
 exact e.symm
def Ztq (a b:List Sym) (w:World) (e:Ending) (w':World):Prop:=Ext w w'∧∃ x n c q,e = .returned (.tuple #[.agg #[.slice x n c],.int .i64 q]) ∧
 ((q=0∧NoFit a b)∨(q=2∧Vast a b)∨(q=1∧∃ ts vs,TermsAt w' 0 (.slice x n c) ts vs∧Mgu (sbOf ts) a b∧(ap (sbOf ts) a).length≤30∧ts.length≤200001∧∀ t ∈ ts,t.length≤30))
theorem Ybr {l:List Sym} {i:Nat} (hi:i<l.length) (hn:(Zat l i).name=[]):Occ (Zat l i).num l:=by
 refine ⟨Zat l i,?_,hn,rfl⟩
 unfold Zat
 rw [List.getD_eq_getElem?_getD,Qb hi]
 simp
theorem Zoa {a b:List Sym} {σ:Nat→List Sym} (h:Mgu σ a b) (hl:(ap σ a).length≤30) {n:Nat} (ho:Occ n (a++b)):(σ n).length≤30:=by
 rcases Znh.1 ho with ho | ho
 ·have:=Zni h.ts ho
  have h1:0<a.length:=by obtain ⟨s,hs,_⟩:=ho; exact List.length_pos_of_mem hs
  omega
 ·have:=Zni h.ts ho
  have h1:0<b.length:=by obtain ⟨s,hs,_⟩:=ho; exact List.length_pos_of_mem hs
  rw [← h.unif] at this
  omega
theorem Ybs {a b:List Sym} (ha:Wf 1 a) (hb:Wf 1 b) {ρ':Nat→Nat} (hj:Joined (grOf (a++b)) (Zbc (a++b)) ρ' [0] [a.length]) {D:Nat→Prop} {T:Nat→List Sym} (hK:Known (grOf (a++b)) ρ' D T) (hd:D (ρ' 0)) :
  Mgu (Zea (grOf (a++b)) ρ' D T) a b∧ap (Zea (grOf (a++b)) ρ' D T) a=T (ρ' 0)∧Vars (grOf (a++b)) ρ'∧∀ i,i<(a++b).length→D (ρ' i):=by
 have hl:=Ybf ha hb
 have hw:Wf 2 (a++b):=Zff ha hb
 have h0:=Zjl (a++b) hw
 have hap:=Zdy ha
 have hbp:=Zdy hb
 have hx:(0:Nat)<(grOf (a++b)).n:=by show 0<(a++b).length; simp; omega
 have hy:a.length<(grOf (a++b)).n:=by show a.length<(a++b).length; simp; omega
 obtain ⟨h1,h2⟩:=Ydl hl h0 hx hy (Zkd ha) (Zip hb) hj hK hd
 have he:ρ' 0=ρ' a.length:=by simpa using hj.eq
 refine ⟨h1,h2,h0.vars' hj.grow,Ybp ha hb (fun i hi=>hj.cg i hi (h0.cg i hi)) hK hd (he ▸ hd)⟩
def rn (v:Nat) (s:Sym):Sym:=if s.name=[] then ⟨[],s.num+v,s.args⟩ else s
theorem Zld {v k:Nat} {l:List Sym} (hw:Wf k l):ap (Zcb v) l=l.map (rn v):=by
 have h:∀ s ∈ l,ap1 (Zcb v) s=[rn v s]:=fun s hs=>by
  obtain ⟨i,hi⟩:=List.mem_iff_getElem?.1 hs
  have h1:=(Zio hw hi).1
  unfold ap1 rn
  by_cases hn:s.name=[]
  ·rw [if_pos hn,if_pos hn,h1 hn]; rfl
  ·rw [if_neg hn,if_neg hn]
 clear hw
 induction l with
 | nil=>rfl
 | cons s l ih =>
  rw [Zay,h s (by simp),ih (fun t ht=>h t (by simp [ht]))]
  rfl
abbrev WordAt (w:World) (v:Value) (l:List Sym):Prop:=w.ownsRow 0 133 3 v l.length (Zah l)
theorem WordAt.ext {w w':World} {v:Value} {l:List Sym} (h:WordAt w v l) (e:Ext w w'):WordAt w' v l:=Zal h (fun j hj=>e.block j (h.lt j hj).2)
def TermsIn (w:World) (v:Value) (ls:List (List Sym)):Prop:=∃ vs,TermsAt w 0 v ls vs
theorem TermsIn.ext {w w':World} {v:Value} {ls:List (List Sym)} (h:TermsIn w v ls) (e:Ext w w'):TermsIn w' v ls:=by
 obtain ⟨vs,h⟩:=h
 exact ⟨vs,h.ext e⟩
theorem TermsAt.inn {w:World} {B:Nat} {v:Value} {ls:List (List Sym)} {vs:List Value} (h:TermsAt w B v ls vs):TermsIn w v ls:=⟨vs,Zbd h.owns (Qm _),h.all⟩
def TermsNew (F:Nat) (w:World) (v:Value) (ls:List (List Sym)):Prop:=∃ vs,TermsAt w 0 v ls vs∧(∀ j,v.ownBlock=some j→F≤j)∧∀ x ∈ vs,∀ j,x.ownBlock=some j→F≤j
theorem TermsNew.inn {F:Nat} {w:World} {v:Value} {ls:List (List Sym)} (h:TermsNew F w v ls):TermsIn w v ls:=by
 obtain ⟨vs,h,_⟩:=h
 exact ⟨vs,h⟩
theorem TermsNew.ext {F:Nat} {w w':World} {v:Value} {ls:List (List Sym)} (h:TermsNew F w v ls) (e:Ext w w'):TermsNew F w' v ls:=by
 obtain ⟨vs,h,h1⟩:=h
 exact ⟨vs,h.ext e,h1⟩
theorem TermsNew.mono {F F':Nat} {w:World} {v:Value} {ls:List (List Sym)} (h:TermsNew F w v ls) (hF:F'≤F):TermsNew F' w v ls:=by
 obtain ⟨vs,h,h1,h2⟩:=h
 exact ⟨vs,h,fun j hj=>Qq hF (h1 j hj),fun x hx j hj=>Qq hF (h2 x hx j hj)⟩
theorem TermsNew.box {F:Nat} {w w':World} {M:Nat} {cs:Array Value} {t:TypeId} {fr:Nat × Nat} {v:Value} {ls:List (List Sym)} (h:TermsNew F w v ls) (hM:w.heap[M]?=some (.cells cs t fr)) (h1:105≠t) (h2:133≠t) (hk:Kept (fun k=>k=M) w w'):TermsNew F w' v ls:=by
 obtain ⟨vs,h,h3⟩:=h
 exact ⟨vs,h.box hM h1 h2 hk,h3⟩
structure ClsIn (w:World) (hv bv vv:Value) (c:Cls):Prop where
 head:WordAt w hv c.head
 body:TermsIn w bv c.body
 names:w.ownsRow 0 9 1 vv c.names.length (strs c.names)
theorem ClsIn.ext {w w':World} {hv bv vv:Value} {c:Cls} (h:ClsIn w hv bv vv c) (e:Ext w w'):ClsIn w' hv bv vv c :=
 ⟨h.head.ext e,h.body.ext e,Zal h.names (fun j hj=>e.block j (h.names.lt j hj).2)⟩
theorem BodyRow.terms {w:World} {B Sa:Nat} {v:Value} {ls:List (List Sym)} {vs:List Value} (h:BodyRow w B Sa v ls vs):TermsIn w v ls :=
 ⟨vs,Zbd h.1 (Qm _),fun i l hl=>by
  obtain ⟨x,h1,h2⟩:=h.2 i l hl
  exact ⟨x,h1,Zbd h2.1 (Qm _)⟩⟩
structure ProgIn (w:World) (v:Value) (cs:List Cls) (xs:List (List Value)):Prop where
 owns:w.ownsRow 0 107 3 v cs.length xs.flatten
 len:xs.length=cs.length
 three:∀ x ∈ xs,x.length=3
 all:∀ (i:Nat) (c:Cls),cs[i]?=some c→∃ hv bv vv,xs[i]?=some [hv,bv,vv]∧ClsIn w hv bv vv c
theorem ProgIn.ext {w w':World} {v:Value} {cs:List Cls} {xs:List (List Value)} (h:ProgIn w v cs xs) (e:Ext w w'):ProgIn w' v cs xs :=
 ⟨Zal h.owns (fun j hj=>e.block j (h.owns.lt j hj).2),h.len,h.three,fun i c hc=>by
  obtain ⟨hv,bv,vv,h1,h2⟩:=h.all i c hc
  exact ⟨hv,bv,vv,h1,h2.ext e⟩⟩
theorem CCRow.prog {w:World} {B Sa Sb:Nat} {v:Value} {cs:List Cls} {xs:List (List Value)} (h:CCRow w B Sa Sb v cs xs):ProgIn w v cs xs :=
 ⟨Zbd h.1 (Qm _),h.2.1,h.2.2.1,fun i c hc=>by
  obtain ⟨hv,bv,vv,us,h1,h2,h3,h4,h5,h6⟩:=h.2.2.2 i c hc
  exact ⟨hv,bv,vv,h1,Zbd h2.1 (Qm _),h3.terms,Zbd h5 (Qm _)⟩⟩
structure NodeIn (w:World) (gv vv rv:Value) (n:ND):Prop where
 goals:TermsIn w gv (n.goals.map (·.1))
 vals:TermsIn w vv n.vals
 done:TermsIn w rv (n.done.map (·.1))
structure NodeNew (F:Nat) (w:World) (gv vv rv:Value) (n:ND):Prop where
 goals:TermsNew F w gv (n.goals.map (·.1))
 vals:TermsNew F w vv n.vals
 done:TermsNew F w rv (n.done.map (·.1))
theorem NodeIn.ext {w w':World} {gv vv rv:Value} {n:ND} (h:NodeIn w gv vv rv n) (e:Ext w w'):NodeIn w' gv vv rv n:=⟨h.goals.ext e,h.vals.ext e,h.done.ext e⟩
theorem CellsOf.sz {gs:List GC} {l:List Sym} (h:CellsOf gs l) (f:Nat→Int):CellsOf (YtlmjilpjmgjjcaaGreatDoor.sz gs f) l :=
 ⟨by rw [Zed]; exact h.len,fun i c hc=>by
  simp only [YtlmjilpjmgjjcaaGreatDoor.sz,List.getElem?_mapIdx,Option.map_eq_some_iff] at hc
  obtain ⟨d,hd,rfl⟩:=hc
  exact h.all i d hd⟩
theorem Zxz (w:World) (v1 v2:Value) (a b:List Sym) (h1:WordAt w v1 a) (h2:WordAt w v2 b) (ha:Wf 1 a) (hb:Wf 1 b) (hal:a.length≤1000) (hbl:b.length≤1000) (hn:∀ s ∈ a++b,s.num≤200000) :
  Calls Tryz.prog 127 #[v1,v2] w (Ztq a b w):=by
 have hapos:=Zdy ha
 have hbpos:=Zdy hb
 obtain ⟨g1,cap1,cur1,rfl,_,hg1,hc1⟩:=Zaw h1 (by omega)
 obtain ⟨g2,cap2,cur2,rfl,_,hg2,hc2⟩:=Zaw h2 (by omega)
 have z1:((a.length:Int) == 0)=false:=by rw [Qu]; omega
 have z2:((b.length:Int) == 0)=false:=by rw [Qu]; omega
 obtain ⟨l,hl⟩:∃ l,l=a++b:=⟨_,rfl⟩
 have hw:Wf 2 l:=by rw [hl]; exact Zff ha hb
 have hll:l.length=a.length+b.length:=by rw [hl]; simp
 have hE0:Ext w (w.alloc (.cells #[.slice none 0 0] 216)):=(Ext.of (by repeat' (first | with_reducible(first|exact Qx _ _|apply Kept.drew|apply Kept.drewN|apply Qz|refine Qy ?_ ?_ _)|exact fun h=>absurd h (by simp <;> omega))))
 have HL:=Zac (Zxw (w.alloc (.cells #[.slice none 0 0] 216)) _ _ a b (WordAt.ext h1 hE0) (WordAt.ext h2 hE0) ha hb hal hbl)
 have Hw:=Zac hw
 have Ha:=Zac ha
 have Hb:=Zac hb
 have Hl:=Zac hl
 have Hn:Hid (∀ i,(Zat l i).num≤200000):=fun i=>by
  rw [hl]
  by_cases hi:i<(a++b).length
  ·have:Zat (a++b) i ∈ a++b:=by
    unfold Zat
    rw [List.getD_eq_getElem?_getD,Qb hi]
    simp
   exact hn _ this
  ·unfold Zat
   rw [List.getD_eq_getElem?_getD,List.getElem?_eq_none (by omega)]
   simp
 rw [← hl] at HL
 clear h1 h2 hw ha hb hl hn hg1 hg2 hc1 hc2
 go_enter Tryz.func127,Tryz.ntmps127
 go_wp2_with fail
 refine HL.out.mono ?_
 rintro e w1 ⟨v,rfl,hrow,hext,hown⟩
 have hc:=Zxy l
 have hup:=Yhm Hw.out
 have hgl:(Zfm l (Zdk l) 0).length=l.length:=hc.len
 have hsz1:=hext.size
 have hsz1:w.heap.size+1≤w1.heap.size:=by simpa using hsz1
 obtain ⟨gs,hgs⟩:∃ gs,gs=Zfm l (Zdk l) 0:=⟨_,rfl⟩
 have hzs:∀ gs',gs'.map (·.size)=gs.map (·.size)→sz gs' (fun _=>0)=gs':=fun gs' h=>Ybq (by rw [h,hgs])
 rw [← hgs] at hc hup hgl hrow
 clear hgs
 have hG:GAt (w1.alloc (.cells #[v] 266)) w1.heap.size v gs:=⟨heap_alloc_new w1 _,by rw [hgl]; exact Zal hrow (fun j hj=>Below.heap_alloc _ _ _ (hrow.lt j hj).2)⟩
 obtain ⟨va,vcap,rfl⟩:=Zad hrow
 have hblk1:w1.heap[w.heap.size]?=some (.cells #[.slice none 0 0] 216 (0,0)):=(hext.block _ (by simp)).trans (heap_alloc_new w _)
 have hE1:Ext w (w1.alloc (.cells #[.slice va l.length vcap] 266)):=(hE0.trans (hext.mono (by simp))).alloc (by omega) _
 have HJ:=Zac (Yep _ (w1.alloc (.cells #[.slice va l.length vcap] 266)) w1.heap.size _ gs l _ _ 0 a.length hG hc Hw.out hup (Qe _) (by omega) (by omega) (by omega))
 have Hgl:=Zac hgl
 have Hll:=Zac hll
 have hl2:l.length≤2000:=by omega
 have Hc:=Zac hc
 have Hup:=Zac hup
 have Hzs:=Zac hzs
 have Hown:=Zac hown
 have Hblk1:=Zac hblk1
 have HE1:=Zac hE1
 clear hc hup hG hzs hown hblk1 hE1 hext hrow hgl hll hE0 HL z1 z2
 go_wp2_with fail
 refine HJ.out.mono ?_
 rintro e w2 ⟨gs',hJ,ρ',rk',hup',hout⟩
 have hgl:=Hgl.out
 have hll:=Hll.out
 have hsz2:=hJ.kept.size
 have hsz2:w1.heap.size+1≤w2.heap.size:=by simpa using hsz2
 have hlen':=hJ.len
 have hbel2:Below (w.heap.size+1) (w1.alloc (.cells #[.slice va l.length vcap] 266)) w2:=hJ.kept.below (by simp; omega) (fun j hj=>by have:=Hown.out j hj; simpa using this)
 have hE2:Ext w w2:=HE1.out.trans (hbel2.mono (by omega))
 have hblk2:w2.heap[w.heap.size]?=some (.cells #[.slice none 0 0] 216 (0,0)):=(hbel2.block _ (by omega)).trans ((Below.heap_alloc _ _ _ (by omega)).trans Hblk1.out)
 have hr0:=Zaa hblk2 0 _ rfl
 have hrf:=fun i=>Zae hblk2 i
 have hrl:=Zab hblk2
 have hlay:Lay (grOf l) (tmAt l) a b:=by rw [Hl.out]; exact Ybf Ha.out Hb.out
 have hx:(0:Nat)<(grOf l).n:=by show 0<l.length; omega
 have hy:a.length<(grOf l).n:=by show a.length<l.length; omega
 have ht0:tmAt l 0=a:=by rw [Hl.out]; exact Zkd Ha.out
 have ht1:tmAt l a.length=b:=by rw [Hl.out]; exact Zip Hb.out
 have HE2:=Zac hE2
 have Hblk2:=Zac hblk2
 clear hbel2 hE2 hblk2
 rcases hout with ⟨rfl,hj⟩ | ⟨rfl,hcl⟩
 ·have hG2:GAt w2 w1.heap.size (.slice va l.length vcap) (sz gs' (fun _=>0)):=by rw [Hzs.out gs' hJ.sizes]; exact hJ.at'
  have HM:=Zac (Yer _ w2 w1.heap.size (.slice va l.length vcap) gs' l ρ' rk' (fun _=>0) (fun _=>[]) 0 hG2 hJ.cells Hw.out hup' (fun j _=>Or.inl rfl) (Qe _) (by omega) (by omega) ⟨fun r h=>absurd h.2 (Int.lt_irrefl _),fun r h=>absurd h.2 (Int.lt_irrefl _),fun r h=>absurd h.2 (Int.lt_irrefl _)⟩)
  have Hj:=Zac hj
  have Hup':=Zac hup'
  have HJc:=Zac hJ.cells
  have Hlay:=Zac hlay
  have hgl':gs'.length=(a++b).length:=by rw [hlen',hgl,Hl.out]
  have Hgl':=Zac hgl'
  clear hj hup' hJ hlay hG2 hgl' hlen' hgl hll ht0 ht1 HJ
  go_wp2_with fail
  refine HM.out.mono ?_
  rintro e w3 ⟨f',hG3,hk3,hout⟩
  have hsz3:=hk3.size
  have hbel3:Below (w.heap.size+1) w2 w3:=hk3.below (by omega) (fun j hj=>by have:=Hown.out j hj; simpa using this)
  have hE3:Ext w w3:=HE2.out.trans (hbel3.mono (by omega))
  have hblk3:w3.heap[w.heap.size]?=some (.cells #[.slice none 0 0] 216 (0,0)):=(hbel3.block _ (by omega)).trans Hblk2.out
  have hr0:=Zaa hblk3 0 _ rfl
  have hrf:=fun i=>Zae hblk3 i
  have hrl:=Zab hblk3
  have HE3:=Zac hE3
  have Hblk3:=Zac hblk3
  have HG3:=Zac hG3
  clear hbel3 hE3 hblk3 hk3 hG3
  have ht0:tmAt l 0=a:=by rw [Hl.out]; exact Zkd Ha.out
  have ht1:tmAt l a.length=b:=by rw [Hl.out]; exact Zip Hb.out
  rcases hout with ⟨T,rfl,hso,_,hK,hD,_,_⟩ | ⟨rfl,hst⟩
  ·have hj:=Hj.out
   clear ht0 ht1
   have hl:=Hl.out
   subst hl
   have hgl':=Hgl'.out
   obtain ⟨hmg,hap,hvs,hall⟩:=Ybs Ha.out Hb.out hj hK hD
   have hap':(ap (Zea (grOf (a++b)) ρ' (dnF gs'.length f') T) a).length=(T (ρ' 0)).length:=by rw [hap]
   obtain ⟨L,hL⟩:∃ L,L=(T (ρ' 0)).length:=⟨_,rfl⟩
   rw [← hL] at hap' ⊢
   by_cases hbig:30<L
   ·have hva:Vast a b:=hmg.small (by omega)
    have Hva:=Zac hva
    have m1:min 31 L=31:=by omega
    rw [m1]
    clear hva hmg hap hvs hall hK hD hso hj hL hap' Hj hgl' HM
    go_wp2
    refine bodyPost_ret (v := .tuple #[.agg #[.slice none 0 0],.int .i64 2]) (by simp [results,Tryz.results127,go_sem,hr0,hrf,hrl]) rfl ?_
    exact ⟨HE3.out.setCell (p:=⟨w.heap.size,0,none⟩) (Qe _) _,none,0,0,2,rfl,Or.inr (Or.inl ⟨rfl,Hva.out⟩)⟩
   ·have hsmall:∀ i,i<(sz gs' f').length→(Zat (a++b) i).name=[]→(T (ρ' i)).length≤4000:=fun i hi hn=>by
     have hi:i<(a++b).length:=by rw [Zed] at hi; omega
     have h1:=Zoa hmg (by omega) (Ybr hi hn)
     rw [show Zea (grOf (a++b)) ρ' (dnF gs'.length f') T (Zat (a++b) i).num=T (ρ' i) from Zoo (G:=grOf (a++b)) hvs hi hn (hall i hi)] at h1
     omega
    have HS:=Zac (Zkv w3 w1.heap.size (.slice va (a++b).length vcap) (sz gs' f') (a++b) ρ' rk' (dnF gs'.length f') T HG3.out (HJc.out.sz f') Hw.out (by rw [Yje]; exact Hup'.out) hK (fun i hi=>hall i (by rw [Zed] at hi; omega)) hvs (by rw [Zed]; omega) hsmall Hn.out)
    have Hmg:=Zac hmg
    have HK:=Zac hK
    have Hvs:=Zac hvs
    have Hall:=Zac hall
    have Hap':=Zac hap'
    have m1:min 31 L=L:=by omega
    have m2:¬ ((L:Int) = -1):=by omega
    have m3:¬ ((30:Int)<L):=by omega
    have m4:((L:Int) == -1)=false:=by rw [Qu]; omega
    rw [m1]
    clear hmg hap hvs hall hK hD hso hj hL hap' Hj hsmall hgl' HM
    go_wp2_with fail
    refine HS.out.mono ?_
    rintro e w4 ⟨tv,ts,vs,rfl,hts,hok,hE4,htl⟩
    obtain ⟨ta,tcap,rfl⟩:=Zad hts.owns
    have hblk4:=(hE4.block _ hrl).trans Hblk3.out
    have hr0:=Zaa hblk4 0 _ rfl
    have hrf:=fun i=>Zae hblk4 i
    have hrl4:=Zab hblk4
    have hsb:=Yho hok HK.out Hvs.out Hall.out
    have hK4:Kept (fun j=>j=w.heap.size) w4 (w4.setCell ⟨w.heap.size,0,none⟩ (.slice ta ts.length tcap)):=(Qx (only w.heap.size) w4).put 0 _
    have hTI:=(hts.box hblk4 (by decide) (by decide) hK4).inn
    have hout:Ztq a b w (.returned (.tuple #[.agg #[.slice ta ts.length tcap],.int .i64 1])) (w4.setCell ⟨w.heap.size,0,none⟩ (.slice ta ts.length tcap)):=by
     obtain ⟨vs',hTI⟩:=hTI
     refine ⟨(HE3.out.trans (hE4.mono HE3.out.size)).setCell (p:=⟨w.heap.size,0,none⟩) (Qe _) _,ta,ts.length,tcap,1,rfl,Or.inr (Or.inr ⟨rfl,ts,vs',hTI,by rw [hsb]; exact Hmg.out,by rw [hsb,Hap'.out]; omega,htl,fun t ht => ?_⟩)⟩
     obtain ⟨n,hn⟩:=List.mem_iff_getElem?.1 ht
     rcases hok.only n t hn with rfl | ⟨i,hi,hni,_,rfl⟩
     ·simp
     ·have h1:=Zoa Hmg.out (by rw [Hap'.out]; omega) (Ybr hi hni)
      rw [show Zea (grOf (a++b)) ρ' (dnF gs'.length f') T (Zat (a++b) i).num=T (ρ' i) from Zoo (G:=grOf (a++b)) Hvs.out hi hni (Hall.out i hi)] at h1
      exact h1
    have Hout:=Zac hout
    clear hout hTI hK4 hsb hok hts hE4 hblk4
    go_wp2
    refine bodyPost_ret (v := .tuple #[.agg #[.slice ta ts.length tcap],.int .i64 1]) (by simp [results,Tryz.results127,go_sem,hr0,hrf,hrl4]) rfl ?_
    exact Hout.out
  ·have hno:NoFit a b:=Ydk Hlay.out (Zjl l Hw.out) hx hy ht0 ht1 Hj.out (i:=0) (fun val hv hc=>by
    obtain ⟨r,hr,_⟩:=hst val hv hc
    simp at hr)
   have Hno:=Zac hno
   clear hno hst ht0 ht1 HM
   go_wp2
   refine bodyPost_ret (v := .tuple #[.agg #[.slice none 0 0],.int .i64 0]) (by simp [results,Tryz.results127,go_sem,hr0,hrf,hrl]) rfl ?_
   exact ⟨HE3.out.setCell (p:=⟨w.heap.size,0,none⟩) (Qe _) _,none,0,0,0,rfl,Or.inl ⟨rfl,Hno.out⟩⟩
 ·have hno:=Ydj hlay (Zjl l Hw.out) hx hy ht0 ht1 hcl
  have Hno:=Zac hno
  clear hno hcl hJ hup' hlay ht0 ht1 hlen' hgl hll HJ
  go_wp2
  refine bodyPost_ret (v := .tuple #[.agg #[.slice none 0 0],.int .i64 0]) (by simp [results,Tryz.results127,go_sem,hr0,hrf,hrl]) rfl ?_
  exact ⟨HE2.out.setCell (p:=⟨w.heap.size,0,none⟩) (Qe _) _,none,0,0,0,rfl,Or.inl ⟨rfl,Hno.out⟩⟩
theorem Zhr (w:World) (v:Value) (a:List Sym) (m:Nat) (h:WordAt w v a) (hl:a.length≤1000) (hn:∀ s ∈ a,s.num≤200000) (hm:m≤200000) :
  Calls Tryz.prog 74 #[v,.int .i64 m] w (Ziq (a.map (rn m)) w):=by
 obtain ⟨va,vcap,rfl⟩:=Zad h
 have H:=Zac h
 have Hn:=Zac hn
 clear h hn
 go_enter Tryz.func74,Tryz.ntmps74
 go_wp2
 go_loopg [5,10] (a.length+1) (fun gk tv iv wr=>∃ (k:Nat),iv = .int .i64 k∧k≤a.length∧a.length - k<gk∧Ext w wr∧wr.ownsRow w.heap.size 133 3 tv k (Zah ((a.take k).map (rn m))))
 case atStart=>exact ⟨0,by go_num,Qm _,by omega,Below.refl _ _,World.ownsRow_nil _ _ _ _⟩
 case round =>
  obtain ⟨k,rfl,hk,hgk,hext,hown⟩:=hrel
  obtain ⟨ta,tcap,rfl⟩:=Zad hown
  have hsr:=hext.size
  have Hext:=Zac hext
  have Hown:=Zac hown
  clear hext hown
  by_cases hlt:k<a.length
  ·obtain ⟨s,hs⟩:∃ s,a[k]?=some s:=⟨_,Qb hlt⟩
   obtain ⟨g,cap',cur,he,_,hgb,_⟩:=Zaw H.out (by omega)
   simp only [Value.slice.injEq] at he
   obtain ⟨rfl,_,rfl⟩:=he
   have ho:=Zal H.out (fun j hj=>Hext.out.block j (H.out.lt j hj).2)
   have hgw:=Zab hgb
   have hgr:g<wr.heap.size:=by omega
   have e0:wr.cell? ⟨g,k * 3,none⟩=some (.string ⟨s.name.toArray⟩):=Zag ho _ _ (by have:=Zax a k s hs 0 (by omega); rw [Nat.add_zero] at this; rw [this]; rfl)
   have e1:wr.cell? ⟨g,k * 3+1,none⟩=some (.int .i64 s.num):=Zag ho _ _ (by rw [Zax a k s hs 1 (by omega)]; rfl)
   have e2:wr.cell? ⟨g,k * 3+2,none⟩=some (.int .i64 s.args):=Zag ho _ _ (by rw [Zax a k s hs 2 (by omega)]; rfl)
   have hnx:a.take (k+1)=a.take k++[s]:=by rw [List.take_add_one,hs]; rfl
   have hsn:=Hn.out s (Qh hs)
   have Hnx:=Zac hnx
   clear hs ho hnx hgb
   cases hnm:s.name with
   | nil =>
    rw [hnm] at e0
    have hrs:rn m s=⟨[],s.num+m,s.args⟩:=by unfold rn; rw [if_pos hnm]
    have Hrs:=Zac hrs
    clear hnm hrs
    have hE:Ext wr (wr.alloc (.cells #[.string ⟨#[]⟩,.int .i64 ((s.num:Int)+m),.int .i64 s.args] 133)):=(Ext.of (by repeat' (first | with_reducible(first|exact Qx _ _|apply Kept.drew|apply Kept.drewN|apply Qz|refine Qy ?_ ?_ _)|exact fun h=>absurd h (by simp <;> omega))))
    have Hown1:Hid ((wr.alloc (.cells #[.string ⟨#[]⟩,.int .i64 ((s.num:Int)+m),.int .i64 s.args] 133)).ownsRow w.heap.size 133 3 (.slice ta k tcap) k (Zah ((a.take k).map (rn m)))):=Zal Hown.out (fun j hj=>hE.block j (Hown.out.lt j hj).2)
    have HE:=Zac hE
    clear hE
    go_wp2_with (at_builtin; go_loud (refine Zam (wr.alloc (.cells #[.string ⟨#[]⟩,.int .i64 ((s.num:Int)+m),.int .i64 s.args] 133)) rfl (.tmp 22) (.tmp 24) 105 rfl w.heap.size 133 Tryz.infoSym Tryz.underlying105 rfl (by decide) (.slice ta k tcap) k (Zah ((a.take k).map (rn m))) rfl Hown1.out #[.string ⟨#[]⟩,.int .i64 ((s.num:Int)+m),.int .i64 s.args] (N:=wr.heap.size+1) rfl (by simp) rfl (Zgs _ _ _) ?_ ?_ ?_))
    ·omega
    ·simp; omega
    intro v1 w1 hap
    obtain ⟨a1,c1,rfl⟩:=Zad hap.owns
    have Hap:=Zac hap
    clear hap
    go_wp2
    go_roundg (a.length - k)
    case measure=>omega
    case rel =>
     refine ⟨k+1,by go_num,by omega,by omega,?_,?_⟩
     ·exact Hext.out.trans ((HE.out.mono hsr).trans (Hap.out.kept.below (by simp; omega) (fun j hj=>(Hown1.out.lt j hj).1)))
     ·have:=Hap.out.owns
      rw [Hnx.out,Qr,Zcz]
      simpa [Zah,Zbu,Hrs.out] using this
   | cons x xs =>
    have hrs:rn m s=s:=by unfold rn; rw [if_neg (by rw [hnm]; simp)]
    have hE:Ext wr (wr.alloc (.cells #[.string ⟨(x::xs).toArray⟩,.int .i64 s.num,.int .i64 s.args] 133)):=(Ext.of (by repeat' (first | with_reducible(first|exact Qx _ _|apply Kept.drew|apply Kept.drewN|apply Qz|refine Qy ?_ ?_ _)|exact fun h=>absurd h (by simp <;> omega))))
    have Hown1:Hid ((wr.alloc (.cells #[.string ⟨(x::xs).toArray⟩,.int .i64 s.num,.int .i64 s.args] 133)).ownsRow w.heap.size 133 3 (.slice ta k tcap) k (Zah ((a.take k).map (rn m)))):=Zal Hown.out (fun j hj=>hE.block j (Hown.out.lt j hj).2)
    have HE:=Zac hE
    have hrs':rn m s=⟨x::xs,s.num,s.args⟩:=by rw [hrs,← hnm]
    have Hrs:=Zac hrs'
    rw [hnm] at e0
    clear hnm hrs hE hrs'
    go_wp2_with (at_builtin; go_loud (refine Zam (wr.alloc (.cells #[.string ⟨(x::xs).toArray⟩,.int .i64 s.num,.int .i64 s.args] 133)) rfl (.tmp 22) (.tmp 24) 105 rfl w.heap.size 133 Tryz.infoSym Tryz.underlying105 rfl (by decide) (.slice ta k tcap) k (Zah ((a.take k).map (rn m))) rfl Hown1.out #[.string ⟨(x::xs).toArray⟩,.int .i64 s.num,.int .i64 s.args] (N:=wr.heap.size+1) rfl (by simp) rfl (Zgs _ _ _) ?_ ?_ ?_))
    ·omega
    ·simp; omega
    intro v1 w1 hap
    obtain ⟨a1,c1,rfl⟩:=Zad hap.owns
    have Hap:=Zac hap
    clear hap
    go_wp2
    go_roundg (a.length - k)
    case measure=>omega
    case rel =>
     refine ⟨k+1,by go_num,by omega,by omega,?_,?_⟩
     ·exact Hext.out.trans ((HE.out.mono hsr).trans (Hap.out.kept.below (by simp; omega) (fun j hj=>(Hown1.out.lt j hj).1)))
     ·have:=Hap.out.owns
      rw [Hnx.out,Qr,Zcz]
      simpa [Zah,Zbu,Hrs.out] using this
  ·have hek:k=a.length:=by omega
   subst hek
   go_wp2
   go_ret
   refine ⟨_,w.heap.size,rfl,Qe _,?_,Hext.out⟩
   have:=Hown.out
   rw [List.take_length] at this
   simpa using this
def tOf (ts:List (List Sym)) (s:Sym):List Sym:=if s.name=[] then (ts[s.num]?).getD [] else []
theorem Yhq {ts:List (List Sym)} {s:Sym} (h:tOf ts s=[]) (ha:s.name=[]→s.args=0):ap1 (sbOf ts) s=[s]:=by
 unfold ap1
 by_cases hn:s.name=[]
 ·rw [if_pos hn]
  unfold tOf at h
  rw [if_pos hn] at h
  unfold sbOf
  have hs:vr s.num=[s]:=by
   have:=ha hn
   cases s
   simp at hn this
   subst hn this
   rfl
  cases ht:ts[s.num]? with
  | none=>exact hs
  | some t=>rw [ht] at h; simp at h; subst h; exact hs
 ·rw [if_neg hn]
theorem Yet {ts:List (List Sym)} {s t0:Sym} {t:List Sym} (h:tOf ts s=t0::t):ap1 (sbOf ts) s=t0::t:=by
 unfold tOf at h
 by_cases hn:s.name=[]
 ·rw [if_pos hn] at h
  unfold ap1
  rw [if_pos hn]
  unfold sbOf
  cases ht:ts[s.num]? with
  | none=>rw [ht] at h; simp at h
  | some u=>rw [ht] at h; simp at h; subst h; rfl
 ·rw [if_neg hn] at h; simp at h
def Ybt (ts:List (List Sym)) (s:Sym) (w:World) (e:Ending) (w':World):Prop:=Ext w w'∧∃ x,e = .returned x∧WordAt w' x (tOf ts s)
theorem Zya (w:World) (tv:Value) (ts:List (List Sym)) (vs:List Value) (s:Sym) (h:TermsAt w 0 tv ts vs) (hl:ts.length≤200001) (hn:s.num≤200000) :
  Calls Tryz.prog 208 #[.agg #[tv],.agg #[.string ⟨s.name.toArray⟩,.int .i64 s.num,.int .i64 s.args]] w (Ybt ts s w):=by
 obtain ⟨ta,tcap,rfl⟩:=Zad h.owns
 have HE:Hid (∀ o o',Ext w ((w.alloc o).alloc o')):=fun o o'=>(Ext.of (by repeat' (first | with_reducible(first|exact Qx _ _|apply Kept.drew|apply Kept.drewN|apply Qz|refine Qy ?_ ?_ _)|exact fun h=>absurd h (by simp <;> omega))))
 cases hnm:s.name with
 | cons x xs =>
  have Ht:Hid (tOf ts s=[]):=by show _=_; unfold tOf; rw [if_neg (by rw [hnm]; simp)]
  clear h hnm
  go_enter Tryz.func208,Tryz.ntmps208
  go_wp2
  go_ret
  exact ⟨HE.out _ _,_,rfl,by rw [Ht.out]; exact World.ownsRow_nil _ _ _ _⟩
 | nil =>
  have h0:(0:Int)≤(s.num:Int):=by omega
  by_cases hlt:s.num<ts.length
  ·have hlt':(s.num:Int)<(ts.length:Int):=by omega
   obtain ⟨t,ht⟩:∃ t,ts[s.num]?=some t:=⟨_,Qb hlt⟩
   obtain ⟨x,hx,hxo⟩:=h.all _ t ht
   obtain ⟨xa,xcap,rfl⟩:=Zad hxo
   obtain ⟨g,tcap',cur,he,_,hgb,hgc⟩:=Zaw h.owns (by omega)
   simp only [Value.slice.injEq] at he
   obtain ⟨rfl,_,rfl⟩:=he
   have x0:w.cell? ⟨g,s.num,none⟩=some (.slice xa t.length xcap):=Zag h.owns _ _ hx
   have hgl:=Zab hgb
   have Ht:Hid (tOf ts s=t):=by show _=_; unfold tOf; rw [if_pos hnm,ht]; rfl
   have Hxo:Hid (WordAt w (.slice xa t.length xcap) t):=hxo
   clear h hnm ht hx hxo hgb hgc
   go_enter Tryz.func208,Tryz.ntmps208
   go_wp2
   go_ret
   exact ⟨HE.out _ _,_,rfl,by rw [Ht.out]; exact Hxo.out.ext (HE.out _ _)⟩
  ·have hlt':¬ (s.num:Int)<(ts.length:Int):=by omega
   have Ht:Hid (tOf ts s=[]):=by show _=_; unfold tOf; rw [if_pos hnm,List.getElem?_eq_none (by omega)]; rfl
   clear h hnm
   go_enter Tryz.func208,Tryz.ntmps208
   go_wp2
   go_ret
   exact ⟨HE.out _ _,_,rfl,by rw [Ht.out]; exact World.ownsRow_nil _ _ _ _⟩
def Yeu (ts:List (List Sym)) (a:List Sym) (w:World) (e:Ending) (w':World):Prop:=Ext w w' ∧
 (((ap (sbOf ts) a).length≤30∧∃ x n c,e = .returned (.tuple #[.slice x n c,.bool true])∧w'.ownsRow w.heap.size 133 3 (.slice x n c) (ap (sbOf ts) a).length (Zah (ap (sbOf ts) a)))∨(30<(ap (sbOf ts) a).length∧e = .returned (.tuple #[.slice none 0 0,.bool false])))
theorem Zob (σ:Nat→List Sym) (a:List Sym) (k:Nat):(ap σ (a.take k)).length≤(ap σ a).length:=by
 have h:ap σ a=ap σ (a.take k)++ap σ (a.drop k):=by rw [← Zcq,List.take_append_drop]
 rw [h]; simp
def ApplyAt (w:World) (tv:Value) (ts:List (List Sym)) (a:List Sym) (k:Nat) (rv:Value) (wr:World):Prop :=
 Ext w wr∧wr.heap[w.heap.size]?=some (.cells #[tv] 216 (0,0))∧wr.ownsRow w.heap.size 133 3 rv (ap (sbOf ts) (a.take k)).length (Zah (ap (sbOf ts) (a.take k)))
theorem ApplyAt.app {w wr w1 w2:World} {tv rv rv2:Value} {ts:List (List Sym)} {a:List Sym} {k:Nat} {s:Sym} {m:List Sym} (h:ApplyAt w tv ts a k rv wr) (he:Ext wr w1) (hs:a[k]?=some s) (hm:ap1 (sbOf ts) s=m) (hap:Appended w1 w.heap.size 133 3 rv ((ap (sbOf ts) (a.take k)).length+m.length) (Zah (ap (sbOf ts) (a.take k))++Zah m) rv2 w2):ApplyAt w tv ts a (k+1) rv2 w2:=by
 obtain ⟨h1,h2,h3⟩:=h
 have hr:=Zal h3 (fun j hj=>he.block j (h3.lt j hj).2)
 have hb:=(he.block _ (Zab h2)).trans h2
 have hsz:=he.size
 have hnx:ap (sbOf ts) (a.take (k+1))=ap (sbOf ts) (a.take k)++m:=by
  rw [List.take_add_one,hs,Zcq,← hm]
  simp [ap]
 refine ⟨h1.trans ((he.mono h1.size).trans (hap.kept.below (Qq h1.size hsz) (fun j hj=>(hr.lt j hj).1))),(hap.kept.block _ (Zab hb) (Zaf hr (by decide) hb)).trans hb,?_⟩
 rw [hnx,Zcz,Qg]
 exact hap.owns
theorem Ybu (w:World) (tv av:Value) (ts:List (List Sym)) (vs:List Value) (a:List Sym) (h:TermsAt w 0 tv ts vs) (hav:WordAt w av a) (hw:∃ k,Wf k a) (hl:ts.length≤200001) (ht:∀ t ∈ ts,t.length≤30) (hal:a.length≤1000) (hn:∀ s ∈ a,s.num≤200000) :
  Calls Tryz.prog 193 #[.agg #[tv],av] w (Yeu ts a w):=by
 obtain ⟨ta,tcap,rfl⟩:=Zad h.owns
 obtain ⟨va,vcap,rfl⟩:=Zad hav
 have H:=Zac h
 have Hav:=Zac hav
 have Hn:=Zac hn
 have Ht:=Zac ht
 have Hw:=Zac hw
 clear h hav hn ht hw
 go_enter Tryz.func193,Tryz.ntmps193
 go_wp2
 go_loopg [6,12] (a.length+1) (fun gk rv iv wr=>∃ (k:Nat),iv = .int .i64 k∧k≤a.length∧a.length - k<gk∧(ap (sbOf ts) (a.take k)).length≤30∧ApplyAt w (.slice ta ts.length tcap) ts a k rv wr)
 case atStart=>exact ⟨0,by go_num,Qm _,by omega,by simp [ap],(Ext.of (by repeat' (first | with_reducible(first|exact Qx _ _|apply Kept.drew|apply Kept.drewN|apply Qz|refine Qy ?_ ?_ _)|exact fun h=>absurd h (by simp <;> omega)))),heap_alloc_new w _,World.ownsRow_nil _ _ _ _⟩
 case round =>
  obtain ⟨k,rfl,hk,hgk,h30,hA⟩:=hrel
  obtain ⟨ra,rcap,rfl⟩:=Zad hA.2.2
  have hsr:=hA.1.size
  have hb0:=Zab hA.2.1
  have s0:wr.cell? ⟨w.heap.size,0,none⟩=some (.slice ta ts.length tcap):=Zaa hA.2.1 0 _ rfl
  have HA:=Zac hA
  clear hA
  by_cases hlt:k<a.length
  ·obtain ⟨s,hs⟩:∃ s,a[k]?=some s:=⟨_,Qb hlt⟩
   obtain ⟨g,cap',cur,he,_,hgb,_⟩:=Zaw Hav.out (by omega)
   simp only [Value.slice.injEq] at he
   obtain ⟨rfl,_,rfl⟩:=he
   have ho:=Zal Hav.out (fun j hj=>HA.out.1.block j (Hav.out.lt j hj).2)
   have hgw:=Zab hgb
   have hgr:g<wr.heap.size:=by omega
   have e0:wr.cell? ⟨g,k * 3,none⟩=some (.string ⟨s.name.toArray⟩):=Zag ho _ _ (by have:=Zax a k s hs 0 (by omega); rw [Nat.add_zero] at this; rw [this]; rfl)
   have e1:wr.cell? ⟨g,k * 3+1,none⟩=some (.int .i64 s.num):=Zag ho _ _ (by rw [Zax a k s hs 1 (by omega)]; rfl)
   have e2:wr.cell? ⟨g,k * 3+2,none⟩=some (.int .i64 s.args):=Zag ho _ _ (by rw [Zax a k s hs 2 (by omega)]; rfl)
   have hsa:s.name=[]→s.args=0:=by obtain ⟨j,hj⟩:=Hw.out; exact (Zio hj hs).1
   have hE:Ext wr (wr.alloc (.cells #[.string ⟨s.name.toArray⟩,.int .i64 s.num,.int .i64 s.args] 133)):=(Ext.of (by repeat' (first | with_reducible(first|exact Qx _ _|apply Kept.drew|apply Kept.drewN|apply Qz|refine Qy ?_ ?_ _)|exact fun h=>absurd h (by simp <;> omega))))
   have HT:=Zac (Zya (wr.alloc (.cells #[.string ⟨s.name.toArray⟩,.int .i64 s.num,.int .i64 s.args] 133)) _ ts vs s (H.out.ext (HA.out.1.trans (hE.mono hsr))) hl (Hn.out s (Qh hs)))
   have htl:(tOf ts s).length≤30:=by
    unfold tOf
    split
    ·cases hq:ts[s.num]? with
     | none=>simp
     | some t=>exact Ht.out t (Qh hq)
    ·simp
   have Hs:=Zac hs
   have HE:=Zac hE
   have Hsa:=Zac hsa
   clear hs ho hgb hE hsa
   go_wp2_with fail
   refine HT.out.mono ?_
   rintro e w1 ⟨hE1,x,rfl,hx⟩
   obtain ⟨xa,xcap,rfl⟩:=Zad hx
   obtain ⟨t,hte⟩:∃ t,t=tOf ts s:=⟨_,rfl⟩
   have hE2:Ext wr w1:=HE.out.trans (hE1.mono (by simp))
   have hA1:ApplyAt w (.slice ta ts.length tcap) ts a k (.slice ra (ap (sbOf ts) (a.take k)).length rcap) w1:=by
    obtain ⟨q1,q2,q3⟩:=HA.out
    exact ⟨q1.trans (hE2.mono q1.size),(hE2.block _ (Zab q2)).trans q2,Zal q3 (fun j hj=>hE2.block j (q3.lt j hj).2)⟩
   have hbx:w1.heap[wr.heap.size]?=some (.cells #[.string ⟨s.name.toArray⟩,.int .i64 s.num,.int .i64 s.args] 133 (0,0)):=(hE1.block _ (by simp)).trans (heap_alloc_new wr _)
   have y0:=Zaa hbx 0 _ rfl
   have y1:=Zaa hbx 1 _ rfl
   have y2:=Zaa hbx 2 _ rfl
   have hby:=Zab hbx
   have hs1:=hE1.size
   have hs1:wr.heap.size+1≤w1.heap.size:=by simpa using hs1
   have s0:w1.cell? ⟨w.heap.size,0,none⟩=some (.slice ta ts.length tcap):=Zaa hA1.2.1 0 _ rfl
   obtain ⟨n0,hn0⟩:∃ n,n=(ap (sbOf ts) (a.take k)).length:=⟨_,rfl⟩
   obtain ⟨cs0,hcs0⟩:∃ c,c=Zah (ap (sbOf ts) (a.take k)):=⟨_,rfl⟩
   have Hrow:Hid (w1.ownsRow w.heap.size 133 3 (.slice ra n0 rcap) n0 cs0):=by rw [hn0,hcs0]; exact hA1.2.2
   rw [← hte] at hx htl ⊢
   rw [← hn0] at h30 ⊢
   have HA1:=Zac hA1
   have Hte:=Zac hte
   have Hn0:=Zac hn0
   have Hcs0:=Zac hcs0
   have Hx:=Zac hx
   clear hE1 hE2 hA1 hbx hte hn0 hcs0 hx e0 e1 e2 HT
   cases t with
   | nil =>
    have Hm:Hid (ap1 (sbOf ts) s=[s]):=Yhq Hte.out.symm Hsa.out
    go_wp2_with (at_builtin; go_loud (refine Zam w1 rfl (.tmp 22) (.tmp 24) 105 rfl w.heap.size 133 Tryz.infoSym Tryz.underlying105 rfl (by decide) (.slice ra n0 rcap) n0 cs0 rfl Hrow.out #[.string ⟨s.name.toArray⟩,.int .i64 s.num,.int .i64 s.args] (N:=w1.heap.size) rfl (by simp) rfl (Zgs _ _ _) ?_ ?_ ?_))
    ·omega
    ·omega
    intro v2 w2 hap
    obtain ⟨a2,c2,rfl⟩:=Zad hap.owns
    have hA2:ApplyAt w (.slice ta ts.length tcap) ts a (k+1) (.slice a2 (n0+1) c2) w2:=by
     have hA1:=HA1.out
     rw [← Hn0.out] at hA1
     refine hA1.app (w1:=w1) (m:=[s]) (Below.refl _ _) Hs.out Hm.out ?_
     rw [← Hn0.out,← Hcs0.out]
     simpa [Zah,Zbu] using hap
    have hl2:(ap (sbOf ts) (a.take (k+1))).length=n0+1:=by
     obtain ⟨qa,qc,qe⟩:=Zad hA2.2.2
     simp only [Value.slice.injEq] at qe
     exact qe.2.1.symm
    have HA2:=Zac hA2
    have Hl2:=Zac hl2
    clear hap hA2 hl2
    by_cases h31:n0+1≤30
    ·have h31':¬ ((30:Int)<((n0+1:Nat):Int)):=by omega
     go_wp2
     go_roundg (a.length - k)
     case measure=>omega
     case rel=>exact ⟨k+1,by go_num,by omega,by omega,by rw [Hl2.out]; exact h31,HA2.out⟩
    ·have h31':(30:Int)<((n0+1:Nat):Int):=by omega
     go_wp2
     go_ret2
     exact ⟨HA2.out.1,Or.inr ⟨by have:=Zob (sbOf ts) a (k+1); rw [Hl2.out] at this; omega,rfl⟩⟩
   | cons t0 t =>
    have Hm:Hid (ap1 (sbOf ts) s=t0::t):=Yet Hte.out.symm
    have HR:Hid (Zxc w1 3 (.slice xa (t0::t).length xcap) (t0::t).length (Zah (t0::t))):=Zqx Hx.out (Zrw _)
    obtain ⟨tl,htl'⟩:∃ n,n=(t0::t).length:=⟨_,rfl⟩
    have hpos:0<tl:=by rw [htl']; simp
    have hz:((tl:Int) == 0)=false:=by rw [Qu]; omega
    rw [← htl'] at HR htl ⊢
    have Htl:=Zac htl'
    clear htl'
    go_wp2_with (at_builtin; go_loud (refine Zif w1 rfl (.tmp 26) (.tmp 27) 105 rfl w.heap.size 133 Tryz.infoSym Tryz.underlying105 rfl (by decide) (.slice ra n0 rcap) n0 cs0 rfl Hrow.out (.slice xa tl xcap) tl (Zah (t0::t)) rfl HR.out ?_ ?_ ?_))
    ·omega
    ·omega
    intro v2 w2 hap
    obtain ⟨a2,c2,rfl⟩:=Zad hap.owns
    have hA2:ApplyAt w (.slice ta ts.length tcap) ts a (k+1) (.slice a2 (n0+tl) c2) w2:=by
     have hA1:=HA1.out
     rw [← Hn0.out] at hA1
     refine hA1.app (w1:=w1) (m:=t0::t) (Below.refl _ _) Hs.out Hm.out ?_
     rw [← Hn0.out,← Hcs0.out,← Htl.out]
     exact hap
    have hl2:(ap (sbOf ts) (a.take (k+1))).length=n0+tl:=by
     obtain ⟨qa,qc,qe⟩:=Zad hA2.2.2
     simp only [Value.slice.injEq] at qe
     exact qe.2.1.symm
    have HA2:=Zac hA2
    have Hl2:=Zac hl2
    clear hap hA2 hl2
    by_cases h31:n0+tl≤30
    ·have h31':¬ ((30:Int)<((n0+tl:Nat):Int)):=by omega
     go_wp2
     go_roundg (a.length - k)
     case measure=>omega
     case rel=>exact ⟨k+1,by go_num,by omega,by omega,by rw [Hl2.out]; exact h31,HA2.out⟩
    ·have h31':(30:Int)<((n0+tl:Nat):Int):=by omega
     go_wp2
     go_ret2
     exact ⟨HA2.out.1,Or.inr ⟨by have:=Zob (sbOf ts) a (k+1); rw [Hl2.out] at this; omega,rfl⟩⟩
  ·have hek:k=a.length:=by omega
   subst hek
   obtain ⟨n0,hn0⟩:∃ n,n=(ap (sbOf ts) (a.take a.length)).length:=⟨_,rfl⟩
   rw [← hn0] at h30 ⊢
   have Hn0:=Zac hn0
   clear hn0
   go_wp2
   go_ret2
   have hn0:=Hn0.out
   have hA:=HA.out
   rw [List.take_length] at hn0
   obtain ⟨q1,q2,q3⟩:=hA
   rw [List.take_length] at q3
   refine ⟨q1,Or.inl ⟨by omega,ra,n0,rcap,rfl,?_⟩⟩
   rw [hn0]
   exact q3
structure TmOk (a:List Sym):Prop where
 wf:∃ k,Wf k a
 len:a.length≤1000
 num:∀ s ∈ a,s.num≤200000
def AppliedOut (ts ls:List (List Sym)) (w:World) (e:Ending) (w':World):Prop:=Ext w w' ∧
 (((∀ l ∈ ls,(ap (sbOf ts) l).length≤30)∧∃ x c,e = .returned (.tuple #[.slice x ls.length c,.bool true])∧TermsNew w.heap.size w' (.slice x ls.length c) (ls.map (ap (sbOf ts))))∨((∃ l ∈ ls,30<(ap (sbOf ts) l).length)∧e = .returned (.tuple #[.slice none 0 0,.bool false])))
def AppliedAt (w:World) (tv:Value) (ts ls:List (List Sym)) (k:Nat) (rv:Value) (xs:List Value) (wr:World):Prop :=
 Ext w wr∧wr.heap[w.heap.size]?=some (.cells #[tv] 216 (0,0))∧TermsAt wr w.heap.size rv ((ls.take k).map (ap (sbOf ts))) xs∧∀ x ∈ xs,∀ j,x.ownBlock=some j→w.heap.size≤j
theorem AppliedAt.app {w wr w1 w2:World} {tv rv rv2 x:Value} {ts ls:List (List Sym)} {k:Nat} {l:List Sym} {xs:List Value} (h:AppliedAt w tv ts ls k rv xs wr) (he:Ext wr w1) (hl:ls[k]?=some l) (hx:w1.ownsRow w.heap.size 133 3 x (ap (sbOf ts) l).length (Zah (ap (sbOf ts) l))) (hap:Appended w1 w.heap.size 105 1 rv (k+1) (xs++[x]) rv2 w2):AppliedAt w tv ts ls (k+1) rv2 (xs++[x]) w2:=by
 obtain ⟨h1,h2,h3,hf⟩:=h
 have h3':=h3.ext he
 have hb:=(he.block _ (Zab h2)).trans h2
 have hsz:=he.size
 have hkl:=(Qa.1 hl).1
 have hlen:((ls.take k).map (ap (sbOf ts))).length=k:=by simp; omega
 refine ⟨h1.trans ((he.mono h1.size).trans (hap.kept.below (Qq h1.size hsz) (fun j hj=>(h3'.owns.lt j hj).1))),(hap.kept.block _ (Zab hb) (Zaf h3'.owns (by decide) hb)).trans hb,?_,fun y hy j hj => ?_⟩
 rotate_left
 ·rcases Qk.1 hy with hy | hy
  ·exact hf y hy j hj
  ·simp at hy
   subst hy
   exact (hx.lt j hj).1
 rw [List.take_add_one,hl]
 simp only [Option.toList,Qr,List.map_cons,List.map_nil]
 exact h3'.snoc (by rw [hlen]; exact hap) (Zbd hx (Qm _))
theorem Zir (w:World) (tv av:Value) (ts ls:List (List Sym)) (vs:List Value) (h:TermsAt w 0 tv ts vs) (hav:TermsIn w av ls) (hl:ts.length≤200001) (ht:∀ t ∈ ts,t.length≤30) (hal:ls.length≤4000) (hls:∀ l ∈ ls,TmOk l) :
  Calls Tryz.prog 161 #[.agg #[tv],av] w (AppliedOut ts ls w):=by
 obtain ⟨us,hav⟩:=hav
 obtain ⟨ta,tcap,rfl⟩:=Zad h.owns
 obtain ⟨va,vcap,rfl⟩:=Zad hav.owns
 have H:=Zac h
 have Hav:=Zac hav
 have Ht:=Zac ht
 have Hls:=Zac hls
 clear h hav ht hls
 go_enter Tryz.func161,Tryz.ntmps161
 go_wp2
 go_loopg [6,13] (ls.length+1) (fun gk rv iv wr=>∃ (k:Nat) (xs:List Value),iv = .int .i64 k∧k≤ls.length∧ls.length - k<gk∧(∀ l ∈ ls.take k,(ap (sbOf ts) l).length≤30)∧AppliedAt w (.slice ta ts.length tcap) ts ls k rv xs wr)
 case atStart=>exact ⟨0,[],by go_num,Qm _,by omega,by simp,(Ext.of (by repeat' (first | with_reducible(first|exact Qx _ _|apply Kept.drew|apply Kept.drewN|apply Qz|refine Qy ?_ ?_ _)|exact fun h=>absurd h (by simp <;> omega)))),heap_alloc_new w _,TermsAt.nil _ _,by simp⟩
 case round =>
  obtain ⟨k,xs,rfl,hk,hgk,h30,hA⟩:=hrel
  have hlk:((ls.take k).map (ap (sbOf ts))).length=k:=by simp; omega
  have hrow:=hA.2.2.1.owns
  rw [hlk] at hrow
  obtain ⟨ra,rcap,rfl⟩:=Zad hrow
  have hsr:=hA.1.size
  have hb0:=Zab hA.2.1
  have s0:wr.cell? ⟨w.heap.size,0,none⟩=some (.slice ta ts.length tcap):=Zaa hA.2.1 0 _ rfl
  have HA:=Zac hA
  have H30:=Zac h30
  clear hA h30 hrow hlk
  by_cases hlt:k<ls.length
  ·obtain ⟨l,hs⟩:∃ l,ls[k]?=some l:=⟨_,Qb hlt⟩
   obtain ⟨x,hx,hxo⟩:=Hav.out.all _ l hs
   obtain ⟨xa,xcap,rfl⟩:=Zad hxo
   obtain ⟨g,cap',cur,he,_,hgb,_⟩:=Zaw Hav.out.owns (by omega)
   simp only [Value.slice.injEq] at he
   obtain ⟨rfl,_,rfl⟩:=he
   have hgw:=Zab hgb
   have hgr:g<wr.heap.size:=by omega
   have x0:wr.cell? ⟨g,k,none⟩=some (.slice xa l.length xcap):=(HA.out.1.cell (p:=⟨g,k,none⟩) hgw).trans (Zag Hav.out.owns _ _ hx)
   obtain ⟨o1,o2,o3⟩:=Hls.out l (Qh hs)
   have HT:=Zac (Ybu wr (.slice ta ts.length tcap) (.slice xa l.length xcap) ts vs l (H.out.ext HA.out.1) (WordAt.ext hxo HA.out.1) o1 hl Ht.out o2 o3)
   have Hs:=Zac hs
   clear hs hx hxo hgb o1 o3
   go_wp2_with fail
   refine HT.out.mono ?_
   rintro e w1 ⟨hE1,hout⟩
   have hs1:=hE1.size
   rcases hout with ⟨hsm,ya,yn,yc,rfl,hy⟩ | ⟨hbig,rfl⟩
   ·have Hrow:Hid (w1.ownsRow w.heap.size 105 1 (.slice ra k rcap) k xs):=by
     have:=(HA.out.2.2.1.ext hE1).owns
     rw [show ((ls.take k).map (ap (sbOf ts))).length=k by simp; omega] at this
     exact this
    have HE1:=Zac hE1
    have Hsm:=Zac hsm
    have Hy:=Zac hy
    clear hE1 hsm hy HT
    go_wp2_with (at_builtin; go_loud (refine Zam w1 rfl (.tmp 25) (.tmp 27) 85 rfl w.heap.size 105 Tryz.infoSyms Tryz.underlying85 rfl (by decide) (.slice ra k rcap) k xs rfl Hrow.out #[.slice ya yn yc] (N:=w1.heap.size) rfl (by simp) rfl (Zdm _ _ _) ?_ ?_ ?_))
    ·omega
    ·omega
    intro v2 w2 hap
    obtain ⟨a2,c2,rfl⟩:=Zad hap.owns
    have hA2:=HA.out.app HE1.out Hs.out (Zbd Hy.out hsr) hap
    have HA2:=Zac hA2
    clear hap hA2
    go_wp2
    go_roundg (ls.length - k)
    case measure=>omega
    case rel =>
     refine ⟨k+1,_,by go_num,by omega,by omega,fun m hm => ?_,HA2.out⟩
     rw [List.take_add_one,Hs.out] at hm
     rcases Qk.1 hm with hm | hm
     ·exact H30.out m hm
     ·simp at hm; subst hm; exact Hsm.out
   ·have HE:Hid (Ext w w1):=HA.out.1.trans (hE1.mono hsr)
    have Hbig:Hid (∃ l ∈ ls,30<(ap (sbOf ts) l).length):=⟨l,Qh Hs.out,hbig⟩
    clear hE1 hbig
    go_wp2
    go_ret2
    exact ⟨HE.out,Or.inr ⟨Hbig.out,rfl⟩⟩
  ·have hek:k=ls.length:=by omega
   subst hek
   go_wp2
   go_ret2
   have h30:=H30.out
   obtain ⟨q1,q2,q3,q4⟩:=HA.out
   rw [List.take_length] at q3 h30
   exact ⟨q1,Or.inl ⟨h30,ra,rcap,rfl,xs,⟨Zbd q3.owns (Qm _),q3.all⟩,fun j hj=>(q3.owns.lt j hj).1,q4⟩⟩
theorem AppliedOut.form {ts ls:List (List Sym)} {w w':World} {e:Ending} (h:AppliedOut ts ls w e w'):Ext w w'∧∃ x n c b,e = .returned (.tuple #[.slice x n c,.bool b])∧(b=true→(∀ l ∈ ls,(ap (sbOf ts) l).length≤30)∧TermsNew w.heap.size w' (.slice x n c) (ls.map (ap (sbOf ts))))∧(b=false→∃ l ∈ ls,30<(ap (sbOf ts) l).length):=by
 obtain ⟨h1,⟨h2,x,c,rfl,h3⟩ | ⟨h2,rfl⟩⟩:=h
 ·exact ⟨h1,x,_,c,true,rfl,fun _=>⟨h2,h3⟩,fun h=>by simp at h⟩
 ·exact ⟨h1,none,0,0,false,rfl,fun h=>(by simp at h),fun _=>h2⟩
def Ybv (ts gs vs ds:List (List Sym)) (u:Nat) (w:World) (e:Ending) (w':World):Prop:=Ext w w' ∧
 (((∀ l ∈ gs++(vs++ds),(ap (sbOf ts) l).length≤30)∧∃ g1 g2 g3 v1 v2 v3 r1 r2 r3,e = .returned (.tuple #[.agg #[.slice g1 g2 g3,.slice v1 v2 v3,.slice r1 r2 r3,.int .i64 u],.int .i64 1])∧TermsNew w.heap.size w' (.slice g1 g2 g3) (gs.map (ap (sbOf ts)))∧TermsNew w.heap.size w' (.slice v1 v2 v3) (vs.map (ap (sbOf ts)))∧TermsNew w.heap.size w' (.slice r1 r2 r3) (ds.map (ap (sbOf ts)))) ∨
  ((∃ l ∈ gs++(vs++ds),30<(ap (sbOf ts) l).length)∧e = .returned (.tuple #[.agg #[.slice none 0 0,.slice none 0 0,.slice none 0 0,.int .i64 0],.int .i64 2])))
theorem Zps (w:World) (tv gv vv rv:Value) (ts gs vs ds:List (List Sym)) (us:List Value) (u:Nat) (h:TermsAt w 0 tv ts us) (h1:TermsIn w gv gs) (h2:TermsIn w vv vs) (h3:TermsIn w rv ds) (hl:ts.length≤200001) (ht:∀ t ∈ ts,t.length≤30)
  (hg:gs.length≤4000) (hv:vs.length≤4000) (hd:ds.length≤4000) (ho:∀ l ∈ gs++(vs++ds),TmOk l) (hu:u≤1000000) :
  Calls Tryz.prog 129 #[.agg #[gv,vv,rv,.int .i64 u],.agg #[tv]] w (Ybv ts gs vs ds u w):=by
 obtain ⟨ta,tcap,rfl⟩:=Zad h.owns
 obtain ⟨ga,gcap,rfl⟩:∃ a c,gv = .slice a gs.length c:=by obtain ⟨_,q⟩:=h1; exact Zad q.owns
 obtain ⟨va,vcap,rfl⟩:∃ a c,vv = .slice a vs.length c:=by obtain ⟨_,q⟩:=h2; exact Zad q.owns
 obtain ⟨ra,rcap,rfl⟩:∃ a c,rv = .slice a ds.length c:=by obtain ⟨_,q⟩:=h3; exact Zad q.owns
 obtain ⟨W,hW⟩:∃ W,W=((w.alloc (.cells #[.slice ga gs.length gcap,.slice va vs.length vcap,.slice ra ds.length rcap,.int .i64 u] 87)).alloc (.cells #[.slice ta ts.length tcap] 216)).alloc (.cells #[.slice none 0 0,.slice none 0 0,.slice none 0 0,.int .i64 0] 87):=⟨_,rfl⟩
 have hE0:Ext w W:=by rw [hW]; exact (Ext.of (by repeat' (first | with_reducible(first|exact Qx _ _|apply Kept.drew|apply Kept.drewN|apply Qz|refine Qy ?_ ?_ _)|exact fun h=>absurd h (by simp <;> omega))))
 have hWs:W.heap.size=w.heap.size+3:=by rw [hW]; simp
 have hb0:W.heap[w.heap.size]?=some (.cells #[.slice ga gs.length gcap,.slice va vs.length vcap,.slice ra ds.length rcap,.int .i64 u] 87 (0,0)):=by rw [hW]; exact Zav (Zav (heap_alloc_new w _) _) _
 have hb1:W.heap[w.heap.size+1]?=some (.cells #[.slice ta ts.length tcap] 216 (0,0)):=by
  rw [hW]; refine Zav ?_ _
  have:=heap_alloc_new (w.alloc (.cells #[.slice ga gs.length gcap,.slice va vs.length vcap,.slice ra ds.length rcap,.int .i64 u] 87)) (.cells #[.slice ta ts.length tcap] 216)
  simpa using this
 have hb2:W.heap[w.heap.size+2]?=some (.cells #[.slice none 0 0,.slice none 0 0,.slice none 0 0,.int .i64 0] 87 (0,0)):=by
  rw [hW]
  have:=heap_alloc_new ((w.alloc (.cells #[.slice ga gs.length gcap,.slice va vs.length vcap,.slice ra ds.length rcap,.int .i64 u] 87)).alloc (.cells #[.slice ta ts.length tcap] 216)) (.cells #[.slice none 0 0,.slice none 0 0,.slice none 0 0,.int .i64 0] 87)
  simpa using this
 have HC1:=Zac (Zir W (.slice ta ts.length tcap) (.slice ga gs.length gcap) ts gs us (h.ext hE0) (h1.ext hE0) hl ht hg (fun l hl=>ho l (by simp [hl])))
 have HC2:Hid (∀ u,Ext W u→Calls Tryz.prog 161 #[.agg #[.slice ta ts.length tcap],.slice va vs.length vcap] u (AppliedOut ts vs u)):=fun u hE=>Zir u _ _ ts vs us ((h.ext hE0).ext hE) ((h2.ext hE0).ext hE) hl ht hv (fun l hl=>ho l (by simp [hl]))
 have HC3:Hid (∀ u,Ext W u→Calls Tryz.prog 161 #[.agg #[.slice ta ts.length tcap],.slice ra ds.length rcap] u (AppliedOut ts ds u)):=fun u hE=>Zir u _ _ ts ds us ((h.ext hE0).ext hE) ((h3.ext hE0).ext hE) hl ht hd (fun l hl=>ho l (by simp [hl]))
 have HB:Hid (∀ y,Ext W y→y.cell? ⟨w.heap.size,0,none⟩=some (.slice ga gs.length gcap)∧y.cell? ⟨w.heap.size,1,none⟩=some (.slice va vs.length vcap)∧y.cell? ⟨w.heap.size,2,none⟩=some (.slice ra ds.length rcap)∧y.cell? ⟨w.heap.size,3,none⟩=some (.int .i64 u)∧y.cell? ⟨w.heap.size+1,0,none⟩=some (.slice ta ts.length tcap) ∧
   y.heap[w.heap.size+2]?=some (.cells #[.slice none 0 0,.slice none 0 0,.slice none 0 0,.int .i64 0] 87 (0,0))∧w.heap.size+2<y.heap.size):=fun y hE=>by
  have e0:=(hE.block _ (Zab hb0)).trans hb0
  have e1:=(hE.block _ (Zab hb1)).trans hb1
  have e2:=(hE.block _ (Zab hb2)).trans hb2
  exact ⟨Zaa e0 0 _ rfl,Zaa e0 1 _ rfl,Zaa e0 2 _ rfl,Zaa e0 3 _ rfl,Zaa e1 0 _ rfl,e2,Zab e2⟩
 have HE0:=Zac hE0
 clear h h1 h2 h3 ht ho hE0 hb0 hb1 hb2
 go_enter Tryz.func129,Tryz.ntmps129
 go_wp2_with fail
 rw [← hW]
 refine HC1.out.mono ?_
 rintro e w1 hout1
 obtain ⟨hE1,ga1,gn1,gc1,b1,rfl,hT1,hF1⟩:=hout1.form
 obtain ⟨c0,c1,c2,c3,c4,c5,c6⟩:=HB.out w1 hE1
 have hz1:=hE1.size
 have HT1:=Zac hT1
 have HF1:=Zac hF1
 have HE1:=Zac hE1
 have HW:=Zac hW
 clear hout1 hT1 hF1 hE1 HC1 hW
 go_wp2_with fail
 refine (HC2.out w1 HE1.out).mono ?_
 rintro e w2 hout2
 obtain ⟨hE2,ga2,gn2,gc2,b2,rfl,hT2,hF2⟩:=hout2.form
 have hE2':=HE1.out.trans (hE2.mono hz1)
 obtain ⟨c0,c1,c2,c3,c4,c5,c6⟩:=HB.out w2 hE2'
 have hz2:=hE2.size
 have HT2:=Zac hT2
 have HF2:=Zac hF2
 have HE2:=Zac hE2
 have HE2':=Zac hE2'
 clear hout2 hT2 hF2 hE2 hE2'
 go_wp2_with fail
 refine (HC3.out w2 HE2'.out).mono ?_
 rintro e w3 hout3
 obtain ⟨hE3,ga3,gn3,gc3,b3,rfl,hT3,hF3⟩:=hout3.form
 have hE3':=HE2'.out.trans (hE3.mono (Qq hz1 hz2))
 obtain ⟨c0,c1,c2,c3,c4,c5,c6⟩:=HB.out w3 hE3'
 have r0:=Zaa c5 0 _ rfl
 have r1:=Zaa c5 1 _ rfl
 have r2:=Zaa c5 2 _ rfl
 have r3:=Zaa c5 3 _ rfl
 have rf:=fun i=>Zae c5 i
 have hz3:=hE3.size
 have hEw:Ext w w3:=HE0.out.trans (hE3'.mono (by omega))
 have HT3:=Zac hT3
 have HF3:=Zac hF3
 have HE3:=Zac hE3
 have HEw:=Zac hEw
 have Hc5:=Zac c5
 clear hout3 hT3 hF3 hE3 hE3' hEw c5
 have hbig:Hid (b1=false∨b2=false∨b3=false→∃ l ∈ gs++(vs++ds),30<(ap (sbOf ts) l).length):=by
  show _→_
  rintro (h | h | h)
  ·obtain ⟨l,h1,h2⟩:=HF1.out h; exact ⟨l,by simp [h1],h2⟩
  ·obtain ⟨l,h1,h2⟩:=HF2.out h; exact ⟨l,by simp [h1],h2⟩
  ·obtain ⟨l,h1,h2⟩:=HF3.out h; exact ⟨l,by simp [h1],h2⟩
 have hset:Hid (∀ x0 x1 x2 x3,Ext w ((((w3.setCell ⟨w.heap.size+2,0,none⟩ x0).setCell ⟨w.heap.size+2,1,none⟩ x1).setCell ⟨w.heap.size+2,2,none⟩ x2).setCell ⟨w.heap.size+2,3,none⟩ x3)):=fun x0 x1 x2 x3 =>
  (((HEw.out.setCell (p:=⟨w.heap.size+2,0,none⟩) (by simp) _).setCell (p:=⟨w.heap.size+2,1,none⟩) (by simp) _).setCell (p:=⟨w.heap.size+2,2,none⟩) (by simp) _).setCell (p:=⟨w.heap.size+2,3,none⟩) (by simp) _
 cases b1 with
 | false =>
  go_wp2
  refine bodyPost_ret (v := .tuple #[.agg #[.slice none 0 0,.slice none 0 0,.slice none 0 0,.int .i64 0],.int .i64 2]) (by simp [results,Tryz.results129,go_sem,r0,r1,r2,r3,rf,c6]) rfl ?_
  exact ⟨hset.out _ _ _ _,Or.inr ⟨hbig.out (by simp),rfl⟩⟩
 | true =>
  cases b2 with
  | false =>
   go_wp2
   refine bodyPost_ret (v := .tuple #[.agg #[.slice none 0 0,.slice none 0 0,.slice none 0 0,.int .i64 0],.int .i64 2]) (by simp [results,Tryz.results129,go_sem,r0,r1,r2,r3,rf,c6]) rfl ?_
   exact ⟨hset.out _ _ _ _,Or.inr ⟨hbig.out (by simp),rfl⟩⟩
  | true =>
   cases b3 with
   | false =>
    go_wp2
    refine bodyPost_ret (v := .tuple #[.agg #[.slice none 0 0,.slice none 0 0,.slice none 0 0,.int .i64 0],.int .i64 2]) (by simp [results,Tryz.results129,go_sem,r0,r1,r2,r3,rf,c6]) rfl ?_
    exact ⟨hset.out _ _ _ _,Or.inr ⟨hbig.out (by simp),rfl⟩⟩
   | true =>
    go_wp2
    refine bodyPost_ret (v := .tuple #[.agg #[.slice ga1 gn1 gc1,.slice ga2 gn2 gc2,.slice ga3 gn3 gc3,.int .i64 u],.int .i64 1]) (by simp [results,Tryz.results129,go_sem,r0,r1,r2,r3,rf,c6]) rfl ?_
    have hK:∀ x0 x1 x2 x3,Kept (fun j=>j=w.heap.size+2) w3 ((((w3.setCell ⟨w.heap.size+2,0,none⟩ x0).setCell ⟨w.heap.size+2,1,none⟩ x1).setCell ⟨w.heap.size+2,2,none⟩ x2).setCell ⟨w.heap.size+2,3,none⟩ x3):=fun x0 x1 x2 x3=>((((Qx (only (w.heap.size+2)) w3).put 0 _).put 1 _).put 2 _).put 3 _
    obtain ⟨s1,t1⟩:=HT1.out (by simp)
    obtain ⟨s2,t2⟩:=HT2.out (by simp)
    obtain ⟨s3,t3⟩:=HT3.out (by simp)
    refine ⟨hset.out _ _ _ _,Or.inl ⟨fun l hl => ?_,_,_,_,_,_,_,_,_,_,rfl,?_,?_,?_⟩⟩
    ·rcases Qk.1 hl with hl | hl
     ·exact s1 l hl
     ·rcases Qk.1 hl with hl | hl
      ·exact s2 l hl
      ·exact s3 l hl
    ·exact (((t1.ext HE2.out).ext HE3.out).box Hc5.out (by decide) (by decide) (hK _ _ _ _)).mono (by omega)
    ·exact ((t2.ext HE3.out).box Hc5.out (by decide) (by decide) (hK _ _ _ _)).mono (by omega)
    ·exact (t3.box Hc5.out (by decide) (by decide) (hK _ _ _ _)).mono (by omega)
theorem Yhr (a:List Sym):a.map (rn 0)=a:=by
 have:∀ s:Sym,rn 0 s=s:=fun s=>by
  unfold rn
  split
  ·rename_i h; cases s; simp at h; subst h; rfl
  ·rfl
 induction a with
 | nil=>rfl
 | cons s a ih=>rw [List.map_cons,this,ih]
theorem Ztr (w:World) (n:Nat):WordAt (w.alloc (.cells #[.string ⟨#[]⟩,.int .i64 n,.int .i64 0] 133)) (.slice (some ⟨w.heap.size,0,none⟩) 1 1) (vr n) :=
 ⟨rfl,Or.inr ⟨_,1,#[.string ⟨#[]⟩,.int .i64 n,.int .i64 0],rfl,Qm _,heap_alloc_new w _,Qe _,by unfold maxLen; omega,rfl,rfl⟩⟩
theorem TermsAt.aside {w w':World} {B B2 n:Nat} {v vv:Value} {ls:List (List Sym)} {vs ys:List Value} (h:TermsAt w B v ls vs) (hl:∀ j,v.ownBlock=some j→j<B2) (hv:w.ownsRow B2 105 1 vv n ys) (hk:Kept (Zbl vv) w w'):TermsAt w' B v ls vs :=
 ⟨hk.owns h.owns (fun j hj hS=>by have:=(hv.lt j hS).1; have:=hl j hj; omega),fun i l hi=>by
  obtain ⟨x,h1,h2⟩:=h.all i l hi
  refine ⟨x,h1,hk.owns h2 (fun j hj hS => ?_)⟩
  obtain ⟨cur,hc⟩:=Zbj hv j hS
  exact Zaf h2 (by decide) hc hj⟩
theorem TermsIn.aside {w w':World} {B2 n:Nat} {v vv:Value} {ls:List (List Sym)} {ys:List Value} (h:TermsIn w v ls) (hl:∀ j,v.ownBlock=some j→j<B2) (hv:w.ownsRow B2 105 1 vv n ys) (hk:Kept (Zbl vv) w w'):TermsIn w' v ls:=by
 obtain ⟨vs,h⟩:=h
 exact ⟨vs,h.aside hl hv hk⟩
theorem TermsIn.box {w w':World} {M:Nat} {cs:Array Value} {t:TypeId} {fr:Nat × Nat} {v:Value} {ls:List (List Sym)} (h:TermsIn w v ls) (hM:w.heap[M]?=some (.cells cs t fr)) (h1:105≠t) (h2:133≠t) (hk:Kept (fun k=>k=M) w w'):TermsIn w' v ls:=by
 obtain ⟨vs,h⟩:=h
 exact ⟨vs,h.box hM h1 h2 hk⟩
theorem TermsIn.shape {w:World} {v:Value} {ls:List (List Sym)} (h:TermsIn w v ls):∃ a c,v = .slice a ls.length c:=by
 obtain ⟨vs,h⟩:=h
 exact Zad h.owns
abbrev NB (w:World) (b:Nat) (gv vv rv:Value) (u:Nat):Prop:=w.heap[b]?=some (.cells #[gv,vv,rv,.int .i64 u] 87 (0,0))
def CallApp (w0:World) (B:Nat) (l:List Sym) (gv:Value) (n:Nat) (xs:List Value) (F:Value→World→Prop):List Value→World→Prop
 | [],u=>u=w0
 | [x],u=>Ziq l w0 (.returned x) u
 | [x,y],u=>∃ u1,Ziq l w0 (.returned x) u1∧y = .slice (some ⟨u1.heap.size,0,none⟩) 1 1∧u=u1.alloc (.cells #[x] 105)
 | [x,_,z],u=>∃ u1,Ziq l w0 (.returned x) u1∧Appended u1 B 105 1 gv (n+1) (xs++[x]) z u
 | [_,_,z,_],u=>F z u
 | _,_=>False
theorem CallApp.ext {w0:World} {B:Nat} {l:List Sym} {gv:Value} {n:Nat} {xs:List Value} {F:Value→World→Prop}:∀ {vs:List Value} {u:World},CallApp w0 B l gv n xs F vs u→vs.length≤2→Ext w0 u
 | [],u,h,_=>by obtain rfl:u=w0:=h; exact Below.refl _ _
 | [x],u,h,_=>by obtain ⟨_,_,_,_,_,h⟩:=h; exact h
 | [x,y],u,h,_=>by
  obtain ⟨u1,⟨_,_,_,_,_,h⟩,_,rfl⟩:=h
  exact h.alloc h.size _
 | _::_::_::_,_,_,h=>by simp at h
end Go.Proofs.YtlmjilpjmgjjcaaGreatDoor
