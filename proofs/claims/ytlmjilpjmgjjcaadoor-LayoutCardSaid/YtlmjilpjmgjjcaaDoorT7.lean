/-
  PROVED HERE: what the program's 'termOf' and 'Apply' make of a substitution and an atom in memory (the conditions stand in each statement).
-/
import Derived.Test.YtlmjilpjmgjjcaaDoorT6
set_option linter.unusedSimpArgs false
set_option linter.unusedVariables false
set_option maxRecDepth 10000
set_option maxHeartbeats 4000000
namespace Go.Proofs.YtlmjilpjmgjjcaaDoor
open Go.RowKit
def sz (gs:List GC) (f:Nat→Int):List GC:=gs.mapIdx (fun i c => { c with size:=f i })
def upd (f:Nat→Int) (x:Nat) (u:Int):Nat→Int:=fun j=>if j=x then u else f j
theorem Zed (gs:List GC) (f:Nat→Int):(sz gs f).length=gs.length:=by simp [sz]
theorem Zsc {gs:List GC} {f:Nat→Int} {i:Nat} {c:GC} (h:gs[i]?=some c):(sz gs f)[i]?=some { c with size:=f i }:=by
 unfold sz; rw [List.getElem?_mapIdx,h]; rfl
theorem Yhw (gs:List GC) (f:Nat→Int):(sz gs f).map GC.up=gs.map GC.up:=by
 apply List.ext_getElem?
 intro i
 rw [Qj,Qj]
 cases h:gs[i]? with
 | none=>rw [List.getElem?_eq_none (by rw [Zed]; exact List.getElem?_eq_none_iff.1 h)]
 | some c=>rw [Zsc h]; rfl
theorem Yfk (gs:List GC) (f:Nat→Int) (x:Nat) (u:Int):(sz gs f).modify x (fun c => { c with size:=u })=sz gs (upd f x u):=by
 apply List.ext_getElem?
 intro i
 rw [List.getElem?_modify]
 cases h:gs[i]? with
 | none =>
  rw [List.getElem?_eq_none (by rw [Zed]; exact List.getElem?_eq_none_iff.1 h),List.getElem?_eq_none (by rw [Zed]; exact List.getElem?_eq_none_iff.1 h)]; rfl
 | some c =>
  rw [Zsc h,Zsc h]
  by_cases e:x=i
  ·subst e; simp [upd]
  ·have e':¬ i=x:=fun h=>e h.symm
   simp [e,upd,e']
def Zgo:Nat→(Nat→Int)→Nat
 | 0,_=>0
 | n+1,f=>Zgo n f+if f n=0 then 1 else 0
theorem Zob (f:Nat→Int) (x:Nat) {u:Int} (hu:u≠0):∀ n,Zgo n (upd f x u)≤Zgo n f∧(x<n→f x=0→Zgo n (upd f x u)<Zgo n f):=by
 intro n
 induction n with
 | zero=>exact ⟨Qe _,fun h=>by omega⟩
 | succ n ih =>
  obtain ⟨h1,h2⟩:=ih
  by_cases e:n=x
  ·subst e
   have:upd f n u n=u:=by simp [upd]
   simp only [Zgo,this,if_neg hu]
   refine ⟨by omega,fun _ h => ?_⟩
   rw [if_pos h]; omega
  ·have:upd f x u n=f n:=by simp [upd,e]
   simp only [Zgo,this]
   exact ⟨by omega,fun h h0=>by have:=h2 (by omega) h0; omega⟩
def dnF (n:Nat) (f:Nat→Int) (j:Nat):Prop:=j<n∧0<f j
def Ybq (n:Nat) (f:Nat→Int) (T:Nat→List Sym):Prop:=∀ j,j<n→f j=0∨f j = -1∨(0<f j∧f j=((min 31 (T j).length:Nat):Int))
def sumM (T:Nat→List Sym) (ρ:Nat→Nat) (ks:List Nat):Nat:=(ks.map (fun k=>min 31 (T (ρ k)).length)).sum
theorem Ygo (T:Nat→List Sym) (ρ:Nat→Nat) (ks:List Nat):sumM T ρ ks≤31 * ks.length:=by
 induction ks with
 | nil=>simp [sumM]
 | cons k ks ih=>simp only [sumM,List.map_cons,List.sum_cons,Qf] at ih ⊢; omega
theorem Ybr (T:Nat→List Sym) (ρ:Nat→Nat) (ks:List Nat) (k:Nat):sumM T ρ (ks++[k])=sumM T ρ ks+min 31 (T (ρ k)).length:=by simp [sumM]
theorem Zxz {T T':Nat→List Sym} {ρ:Nat→Nat} {ks:List Nat} (h:∀ k ∈ ks,T' (ρ k)=T (ρ k)):sumM T' ρ ks=sumM T ρ ks:=by
 unfold sumM; congr 1; exact List.map_congr_left (fun k hk=>by rw [h k hk])
theorem Yef (T:Nat→List Sym) (ρ:Nat→Nat) (ks:List Nat):min 31 (1+sumM T ρ ks)=min 31 (1+((ks.map (fun k=>T (ρ k))).flatten).length):=by
 induction ks with
 | nil=>rfl
 | cons k ks ih=>simp only [sumM,List.map_cons,List.sum_cons,List.flatten_cons,Qg] at ih ⊢; omega
theorem Zty {l:List Sym} {n i:Nat} (hw:Wf n l) (hi:i<l.length):(Zau l i).args≤l.length:=by
 obtain ⟨_,e2,_⟩:=Zhc hw hi
 obtain ⟨_,_,_,_,_,hb,_⟩:=Zek hw hi
 have hkl:∀ k,k<(Zau l i).args→i<Zar l (i+1) k∧Zar l (i+1) k<l.length:=fun k hk=>by
  have:=e2 _ (Qh (Zbx l (i+1) _ k hk))
  omega
 have mono:∀ k,k≤(Zau l i).args→i+1+k≤Zar l (i+1) k:=by
  intro k
  induction k with
  | zero=>intro _; simp [Zar]
  | succ k ih =>
   intro hk
   have:=ih (by omega)
   rw [Zby]
   have:=hkl k (by omega)
   obtain ⟨_,_,_,_,h6,_⟩:=Zek hw (i:=Zar l (i+1) k) (by omega)
   omega
 rcases Nat.lt_or_ge l.length (Zau l i).args with h | h
 ·exfalso
  have:=mono l.length (by omega)
  have:=hkl l.length h
  omega
 ·exact h
def Ybs (gb:Nat) (v:Value) (gs:List GC) (l:List Sym) (ρ:Nat→Nat) (f:Nat→Int) (T:Nat→List Sym) (i:Nat) (w:World) (e:Ending) (w':World):Prop:=∃ f',GAt w' gb v (sz gs f')∧Kept (Zbt v) w w' ∧
 ((∃ T',e = .returned (.int .i64 ((min 31 (T' (ρ i)).length:Nat):Int))∧Ybq gs.length f' T'∧Zgo gs.length f'≤Zgo gs.length f∧Known (grOf l) ρ (dnF gs.length f') T'∧dnF gs.length f' (ρ i)∧(∀ j,f' j = -1↔f j = -1)∧(∀ j,dnF gs.length f j→dnF gs.length f' j∧T' j=T j)) ∨
  (e = .returned (.int .i64 (-1))∧Stuck (grOf l) ρ (fun r=>f r = -1) i))
def Zpt (m:Nat):Prop:=∀ (w:World) (gb:Nat) (v:Value) (gs:List GC) (l:List Sym) (ρ rk:Nat→Nat) (f:Nat→Int) (T:Nat→List Sym) (i:Nat),GAt w gb v (sz gs f)→CellsOf gs l→Wf 2 l→UpOk (gs.map GC.up) ρ rk→Ybq gs.length f T→Zgo gs.length f≤m→i<gs.length→gs.length≤4000→Known (grOf l) ρ (dnF gs.length f) T →
 Calls Tryd.prog 76 #[.pointer (some ⟨gb,0,none⟩),.int .i64 i] w (Ybs gb v gs l ρ f T i w)
theorem Ybt (m:Nat) (IH:∀ k,k<m→Zpt k):Zpt m:=by
 intro w gb v gs l ρ rk f T i h hc hw hu hS hm hi hl hK
 have hrt:=hu.rt
 have hx:=hrt.lt i (by simpa using hi)
 have rx:=hrt.idem i (by simpa using hi)
 rw [Ql] at hx
 obtain ⟨x,hxe⟩:∃ x,x=ρ i:=⟨_,rfl⟩
 rw [← hxe] at hx rx
 obtain ⟨cb,cap,rfl,hcb,hcap,hne,hfz⟩:=h.shape (by rw [Zed]; omega)
 have hszl:(sz gs f).length=gs.length:=Zed gs f
 rw [hszl] at h hcap ⊢
 obtain ⟨cx,hcx⟩:∃ c,gs[x]?=some c:=⟨_,Qb hx⟩
 obtain ⟨hsy,hbe⟩:=hc.all x cx hcx
 have Hr:=Zac (Zfw w gb (.slice (some ⟨cb,0,none⟩) gs.length cap) (sz gs f) ρ rk i h (by rw [Yhw]; exact hu) (by rw [Zed]; exact hi) (by rw [Zed]; exact hl))
 rw [← hxe] at Hr
 have hgat:∀ f' w',GAt w' gb (.slice (some ⟨cb,0,none⟩) gs.length cap) (sz gs f')→∀ j c,gs[j]?=some c→w'.cell? ⟨cb,j * 6+2,none⟩=some (.int .i64 c.sym.args)∧w'.cell? ⟨cb,j * 6+3,none⟩=some (.int .i64 c.behind)∧w'.cell? ⟨cb,j * 6+5,none⟩=some (.int .i64 (f' j)):=fun f' w' hg j c hj=>by
  have hg':GAt w' gb (.slice (some ⟨cb,0,none⟩) (sz gs f').length cap) (sz gs f'):=by rw [Zed]; exact hg
  obtain ⟨_,_,c2,c3,_,c5⟩:=hg'.cell (Zsc (f:=f') hj)
  exact ⟨c2,c3,c5⟩
 have Hgat:=Zac hgat
 have b0:w.cell? ⟨gb,0,none⟩=some (.slice (some ⟨cb,0,none⟩) gs.length cap):=Zaa h.box 0 _ rfl
 have hgb:=Zab h.box
 obtain ⟨x2,x3,x5⟩:=hgat f w h x cx hcx
 have hcase:=hS x hx
 have harg:cx.sym.args≤4000:=by
  have:=Zty hw (i:=x) (by rw [← hc.len]; exact hx)
  rw [← hsy,← hc.len] at this
  omega
 have H:=Zac h
 have Hu:=Zac hu
 have Hc:=Zac hc
 have Hw:=Zac hw
 have HS:=Zac hS
 have Hm:=Zac hm
 have HK:=Zac hK
 have Hih:=Zac IH
 have Hxe:=Zac hxe
 have Hrx:=Zac rx
 have Hcx:=Zac hcx
 have Hsy:=Zac hsy
 clear h hu hc hw hS hm hK IH hxe rx hcx hsy hrt hgat hbe hszl
 rcases hcase with h0 | h0 | ⟨h0,h00⟩
 ·have H0:=Zac h0
  rw [h0] at x5
  clear h0
  go_enter Tryd.func76,Tryd.ntmps76
  go_wp2_with fail
  refine Hr.out.mono ?_
  rintro e w1 ⟨rfl,rfl⟩
  go_wp2
  obtain ⟨KS,hKS⟩:∃ K,K=Zbc l (x+1) cx.sym.args:=⟨_,rfl⟩
  have HKS:=Zac hKS
  have hKl:KS.length=cx.sym.args:=by rw [hKS,Zcv]
  have HKl:=Zac hKl
  have Hkids:Hid ((grOf l).kids x=KS):=by show Zbc l (x+1) (Zau l x).args=KS; rw [hKS,← Hsy.out]
  have hkat:∀ k,k<cx.sym.args→KS[k]?=some (Zar l (x+1) k):=fun k hk=>by rw [hKS]; exact Zbx l (x+1) _ k hk
  have hknx:∀ k,k<cx.sym.args→Zar l (x+1) k<gs.length:=fun k hk=>by
   have hxl:x<l.length:=by rw [← Hc.out.len]; exact hx
   obtain ⟨_,ex2,_⟩:=Zhc Hw.out hxl
   obtain ⟨_,_,_,_,_,hbx,_⟩:=Zek Hw.out hxl
   have:=ex2 _ (Qh (by rw [← Hsy.out]; exact Zbx l (x+1) _ k hk))
   have:=Hc.out.len
   omega
  have Hkat:=Zac hkat
  have Hknx:=Zac hknx
  clear hKS hKl hkat hknx
  go_loopg [6,7,8] (cx.sym.args+1) (fun gk tv av nv wr=>∃ (k:Nat) (f':Nat→Int) (T':Nat→List Sym),tv = .int .i64 ((1+sumM T' ρ (KS.take k):Nat):Int)∧av = .int .i64 (Zar l (x+1) k:Nat)∧nv = .int .i64 k∧k≤cx.sym.args∧cx.sym.args - k<gk∧GAt wr gb (.slice (some ⟨cb,0,none⟩) gs.length cap) (sz gs f')∧Kept (Zbt (.slice (some ⟨cb,0,none⟩) gs.length cap)) w1 wr ∧
    Ybq gs.length f' T'∧Zgo gs.length f'<Zgo gs.length f∧Known (grOf l) ρ (dnF gs.length f') T'∧(∀ j ∈ KS.take k,dnF gs.length f' (ρ j))∧(∀ j,f' j = -1↔f j = -1∨j=x)∧(∀ j,dnF gs.length f j→dnF gs.length f' j∧T' j=T j))
  case atStart =>
   have hon:∀ j,upd f x (-1) j = -1↔f j = -1∨j=x:=fun j=>by
    unfold upd
    by_cases e:j=x
    ·simp [e]
    ·simp [e]
   have hdn:∀ j,dnF gs.length (upd f x (-1)) j↔dnF gs.length f j:=fun j=>by
    unfold dnF upd
    by_cases e:j=x
    ·subst e; simp [H0.out]
    ·simp [e]
   refine ⟨0,upd f x (-1),T,by simp [sumM],by simp [Zar],by go_num,Qm _,by omega,?_,(Qx _ w1).setCell (p:=⟨cb,x * 6+5,none⟩) (fun _=>(rfl:some cb=some cb)) _,?_,(Zob f x (by omega) gs.length).2 hx H0.out,HK.out.congr hdn (fun _ _=>rfl),by simp,hon,fun j hj=>⟨(hdn j).2 hj,rfl⟩⟩
   ·have hg':GAt w1 gb (.slice (some ⟨cb,0,none⟩) (sz gs f).length cap) (sz gs f):=by rw [Zed]; exact H.out
    have:=hg'.put (Zsc (f:=f) Hcx.out) (f:=fun c => { c with size := -1 }) (j:=5) (u := .int .i64 (-1)) (by omega) rfl
    rw [Yfk,Zed] at this
    exact this
   ·intro j hj
    unfold upd
    by_cases e:j=x
    ·simp [e]
    ·simp only [if_neg e]; exact HS.out j hj
  case round =>
   obtain ⟨k,f',T',rfl,rfl,rfl,hk,hgk,hG,hkp,hS',hfr,hkn,hkd,hon,hold⟩:=hrel
   have hsr:=hkp.size
   have b0:wr.cell? ⟨gb,0,none⟩=some (.slice (some ⟨cb,0,none⟩) gs.length cap):=Zaa hG.box 0 _ rfl
   have hgb':=Zab hG.box
   have hcb':cb<wr.heap.size:=by omega
   have hfz':∀ j,wr.frozen? ⟨cb,j,none⟩=false:=by
    obtain ⟨cb',cap',e,_,_,_,hf⟩:=hG.shape (by rw [Zed]; omega)
    simp at e
    obtain ⟨rfl,_⟩:=e
    exact hf
   obtain ⟨y2,y3,y5⟩:=Hgat.out f' wr hG x cx Hcx.out
   have hsum:sumM T' ρ (KS.take k)≤31 * 4000:=Qq (Ygo _ _ _) (by simp; omega)
   obtain ⟨S,hSe⟩:∃ S,S=sumM T' ρ (KS.take k):=⟨_,rfl⟩
   rw [← hSe] at hsum ⊢
   have HSe:=Zac hSe
   have HG:=Zac hG
   have Hkp:=Zac hkp
   have HS':=Zac hS'
   have Hfr:=Zac hfr
   have Hkn:=Zac hkn
   have Hkd:=Zac hkd
   have Hon:=Zac hon
   have Hold:=Zac hold
   clear hSe hG hkp hS' hfr hkn hkd hon hold x2 x3 x5
   by_cases hlt:k<cx.sym.args
   ·obtain ⟨nx,hnx⟩:∃ n,n=Zar l (x+1) k:=⟨_,rfl⟩
    have hnxl:=Hknx.out k hlt
    have hnxa:=Hkat.out k hlt
    rw [← hnx] at hnxl hnxa ⊢
    obtain ⟨cn,hcn⟩:∃ c,gs[nx]?=some c:=⟨_,Qb hnxl⟩
    have hbn:=(Hc.out.all nx cn hcn).2
    have Hmem:Hid (nx ∈ (grOf l).kids (ρ i)):=by show _ ∈ _; rw [← Hxe.out,Hkids.out]; exact Qh hnxa
    have HI:=Zac (Hih.out (Zgo gs.length f') (by have:=Hm.out; have:=Hfr.out; omega) wr gb (.slice (some ⟨cb,0,none⟩) gs.length cap) gs l ρ rk f' T' nx HG.out Hc.out Hw.out Hu.out HS'.out (Qe _) hnxl hl Hkn.out)
    have Hnx:=Zac hnx
    have Hnxa:=Zac hnxa
    have Hcn:=Zac hcn
    have Hbn:=Zac hbn
    clear hnx hnxa hcn hbn
    go_wp2_with fail
    refine HI.out.mono ?_
    rintro e w2 ⟨f2,h1,h2,⟨T2,rfl,h3,h4,h5,h6,h7,h8⟩ | ⟨rfl,h3⟩⟩
    ·have hs2:=h2.size
     obtain ⟨_,z3,_⟩:=Hgat.out f2 w2 h1 nx cn Hcn.out
     rw [Hbn.out] at z3
     have b0:w2.cell? ⟨gb,0,none⟩=some (.slice (some ⟨cb,0,none⟩) gs.length cap):=Zaa h1.box 0 _ rfl
     have hgb2:=Zab h1.box
     obtain ⟨M,hM⟩:∃ M,M=min 31 (T2 (ρ nx)).length:=⟨_,rfl⟩
     rw [← hM]
     have hMl:M≤31:=by rw [hM]; omega
     have hMn:¬ ((M:Int) = -1):=by omega
     obtain ⟨bn,hbn⟩:∃ q,q=Zbg l nx:=⟨_,rfl⟩
     rw [← hbn] at z3
     have J:=Zac (And.intro h1 (And.intro h2 (And.intro h3 (And.intro h4 (And.intro h5 (And.intro h6 (And.intro h7 (And.intro h8 (And.intro hM hbn)))))))))
     clear h1 h2 h3 h4 h5 h6 h7 h8 y2 y3 y5 hM hbn
     go_wp2
     go_roundg (cx.sym.args - k)
     case measure=>omega
     case rel =>
      obtain ⟨h1,h2,h3,h4,h5,h6,h7,h8,hM,hbn⟩:=J.out
      have ht:=Zrf Hnxa.out
      refine ⟨k+1,f2,T2,?_,?_,by go_num,by omega,by omega,h1,Hkp.out.trans h2,h3,by have:=Hfr.out; omega,h5,?_,fun j=>(h7 j).trans (Hon.out j),fun j hj=>⟨(h8 j (Hold.out j hj).1).1,(h8 j (Hold.out j hj).1).2.trans (Hold.out j hj).2⟩⟩
      ·rw [ht,Ybr,Zxz (fun j hj=>(h8 _ (Hkd.out j hj)).2),← HSe.out,← hM]
       congr 1
       omega
      ·rw [Zby,← Hnx.out,← hbn]
      ·intro j hj
       rw [ht] at hj
       rcases Qk.1 hj with hj | hj
       ·exact (h8 _ (Hkd.out j hj)).1
       ·simp at hj; subst hj; exact h6
    ·have J:=Zac (And.intro h1 (And.intro h2 h3))
     clear h1 h2 h3 y2 y3 y5
     go_wp2
     go_ret
     obtain ⟨h1,h2,h3⟩:=J.out
     have hst:Stuck (grOf l) ρ (fun r=>f r = -1) i:=Stuck.up (Yed Hw.out) (by show _<l.length; rw [← Hc.out.len]; exact hi) (by rw [← Hxe.out]; show _<l.length; rw [← Hc.out.len]; exact hx) Hmem.out (fun val hv hc=>by
      obtain ⟨r,hr,hle⟩:=h3 val hv hc
      exact ⟨r,by rw [← Hxe.out]; exact (Hon.out r).1 hr,hle⟩)
     exact ⟨f2,h1,Hkp.out.trans h2,Or.inr ⟨rfl,hst⟩⟩
   ·have hek:k=cx.sym.args:=by omega
    subst hek
    have hnd:Hid (¬ dnF gs.length f' x):=fun hd=>by
     have:=(Hon.out x).2 (Or.inr rfl)
     have:=hd.2
     omega
    have hkd:Hid (∀ j ∈ KS,dnF gs.length f' (ρ j)):=by
     have:=Hkd.out
     rw [← HKl.out,List.take_length] at this
     exact this
    have HSe:Hid (S=sumM T' ρ KS):=by
     have:=HSe.out
     rw [← HKl.out,List.take_length] at this
     exact this
    have Hend:Hid (∀ (w3:World) (n:Nat),n=min 31 (1+S)→w3=wr.setCell ⟨cb,x * 6+5,none⟩ (.int .i64 n)→Ybs gb (.slice (some ⟨cb,0,none⟩) gs.length cap) gs l ρ f T i w1 (.returned (.int .i64 n)) w3):=fun w3 n hn hw3=>by
     subst hw3
     have hKn:=Hkn.out.more (r:=x) (by show _<l.length; rw [← Hc.out.len]; exact hx) Hrx.out hnd.out (by rw [Hkids.out]; exact hkd.out)
     rw [Hkids.out] at hKn
     have hTx:n=min 31 ((grOf l).hd x::(KS.map (fun k=>T' (ρ k))).flatten).length:=by
      rw [hn,HSe.out,Yef,Qf,Nat.add_comm]
     have hn0:(n:Int)≠0:=by omega
     have hdn:∀ j,dnF gs.length (upd f' x n) j↔dnF gs.length f' j∨j=x:=fun j=>by
      unfold dnF upd
      by_cases e:j=x
      ·subst e; simp only [if_true,or_true,iff_true]; exact ⟨hx,by omega⟩
      ·simp [e]
     refine ⟨upd f' x n,?_,Hkp.out.trans ((Qx _ wr).setCell (p:=⟨cb,x * 6+5,none⟩) (fun _=>(rfl:some cb=some cb)) _),Or.inl ⟨_,?_,?_,Qq (Zob f' x hn0 gs.length).1 (Nat.le_of_lt Hfr.out),hKn.congr hdn (fun _ _=>rfl),by rw [← Hxe.out]; exact (hdn x).2 (Or.inr rfl),?_,?_⟩⟩
     ·have hg':GAt wr gb (.slice (some ⟨cb,0,none⟩) (sz gs f').length cap) (sz gs f'):=by rw [Zed]; exact HG.out
      have:=hg'.put (Zsc (f:=f') Hcx.out) (f:=fun c => { c with size:=n }) (j:=5) (u := .int .i64 n) (by omega) rfl
      rw [Yfk,Zed] at this
      exact this
     ·rw [← Hxe.out]
      simp only [if_true]
      rw [← hTx]
     ·intro j hj
      unfold upd
      by_cases e:j=x
      ·subst e
       simp only [if_true]
       exact Or.inr (Or.inr ⟨by omega,by rw [← hTx]⟩)
      ·simp only [if_neg e]; exact HS'.out j hj
     ·intro j
      unfold upd
      by_cases e:j=x
      ·subst e
       simp only [if_true]
       rw [H0.out]
       constructor <;> intro h <;> omega
      ·simp only [if_neg e]
       rw [Hon.out]
       simp [e]
     ·intro j hj
      refine ⟨(hdn j).2 (Or.inl (Hold.out j hj).1),?_⟩
      have hjx:j≠x:=fun e=>by
       subst e
       have:=hj.2
       rw [H0.out] at this
       omega
      rw [if_neg hjx]
      exact (Hold.out j hj).2
    obtain ⟨qa,hqa⟩:∃ q,q=Zar l (x+1) cx.sym.args:=⟨_,rfl⟩
    rw [← hqa]
    clear hqa
    by_cases h30:1+S≤30
    ·have h30':¬ ((30:Int)<((1+S:Nat):Int)):=by omega
     go_wp2
     go_ret
     exact Hend.out _ (1+S) (by omega) rfl
    ·have h30':(30:Int)<((1+S:Nat):Int):=by omega
     go_wp2
     go_ret
     exact Hend.out _ 31 (by omega) rfl
 ·go_enter Tryd.func76,Tryd.ntmps76
  rw [h0] at x5
  have H0:=Zac h0
  clear h0
  go_wp2_with fail
  refine Hr.out.mono ?_
  rintro e w1 ⟨rfl,rfl⟩
  go_wp2
  go_ret
  exact ⟨f,H.out,Qx _ _,Or.inr ⟨rfl,Stuck.here (by show _<l.length; rw [← Hc.out.len]; exact hi) (by rw [← Hxe.out]; exact H0.out)⟩⟩
 ·obtain ⟨q,hq⟩:∃ q,q=f x:=⟨_,rfl⟩
  rw [← hq] at x5
  have hq0:q≠0:=by omega
  have Hq:=Zac hq
  have H00:=Zac h00
  have H0:=Zac h0
  clear hq h0 h00
  go_enter Tryd.func76,Tryd.ntmps76
  go_wp2_with fail
  refine Hr.out.mono ?_
  rintro e w1 ⟨rfl,rfl⟩
  go_wp2
  go_ret
  refine ⟨f,H.out,Qx _ _,Or.inl ⟨T,?_,HS.out,Qe _,HK.out,by rw [← Hxe.out]; exact ⟨hx,H0.out⟩,fun _=>Iff.rfl,fun j hj=>⟨hj,rfl⟩⟩⟩
  show Ending.returned (.int .i64 q)=_
  rw [Hq.out,H00.out,Hxe.out]
theorem Yeg (m:Nat):Zpt m:=by
 induction m using Nat.strongRecOn with
 | _ m ih=>exact Ybt m ih
theorem Zcy (a b:List Sym):Zah (a++b)=Zah a++Zah b:=by simp [Zah]
theorem Zsd (l:List Sym):∀ u ∈ Zah l,u.oneCell'=true:=by
 intro u hu
 simp only [Zah,List.mem_flatMap,Zbr] at hu
 obtain ⟨s,_,hs⟩:=hu
 simp at hs
 rcases hs with rfl | rfl | rfl <;> rfl
def Ziz (t:List Sym) (w:World) (e:Ending) (w':World):Prop:=∃ v B,e = .returned v∧w.heap.size≤B∧w'.ownsRow B 87 3 v t.length (Zah t)∧Ext w w'
def Zpu (m:Nat):Prop:=∀ (w:World) (gb:Nat) (v:Value) (gs:List GC) (l:List Sym) (ρ rk:Nat→Nat) (D:Nat→Prop) (T:Nat→List Sym) (i:Nat),GAt w gb v gs→CellsOf gs l→Wf 2 l→UpOk (gs.map GC.up) ρ rk→Known (grOf l) ρ D T→D (ρ i)→i<gs.length→gs.length≤4000→(T (ρ i)).length≤m→(T (ρ i)).length≤4000 →
 Calls Tryd.prog 87 #[.pointer (some ⟨gb,0,none⟩),.int .i64 i] w (Ziz (T (ρ i)) w)
theorem Ybu (m:Nat) (IH:∀ k,k<m→Zpu k):Zpu m:=by
 intro w gb v gs l ρ rk D T i h hc hw hu hK hD hi hl hm hm4
 have hrt:=hu.rt
 have hx:=hrt.lt i (by simpa using hi)
 rw [Ql] at hx
 obtain ⟨x,hxe⟩:∃ x,x=ρ i:=⟨_,rfl⟩
 rw [← hxe] at hx hD hm hm4 ⊢
 obtain ⟨cb,cap,rfl,hcb,hcap,hne,hfz⟩:=h.shape (by omega)
 obtain ⟨cx,hcx⟩:∃ c,gs[x]?=some c:=⟨_,Qb hx⟩
 obtain ⟨hsy,hbe⟩:=hc.all x cx hcx
 have Hr:=Zac (Zfw w gb (.slice (some ⟨cb,0,none⟩) gs.length cap) gs ρ rk i h hu hi hl)
 rw [← hxe] at Hr
 have b0:w.cell? ⟨gb,0,none⟩=some (.slice (some ⟨cb,0,none⟩) gs.length cap):=Zaa h.box 0 _ rfl
 have hgb:=Zab h.box
 obtain ⟨x0,x1,x2,_,_,_⟩:=h.cell hcx
 have harg:cx.sym.args≤4000:=by
  have:=Zty hw (i:=x) (by rw [← hc.len]; exact hx)
  rw [← hsy,← hc.len] at this
  omega
 obtain ⟨KS,hKS⟩:∃ K,K=Zbc l (x+1) cx.sym.args:=⟨_,rfl⟩
 have HKl:Hid (KS.length=cx.sym.args):=by show _=_; rw [hKS,Zcv]
 have hkids:(grOf l).kids x=KS:=by show Zbc l (x+1) (Zau l x).args=KS; rw [hKS,← hsy]
 have Hkat:Hid (∀ k,k<cx.sym.args→KS[k]?=some (Zar l (x+1) k)):=fun k hk=>by rw [hKS]; exact Zbx l (x+1) _ k hk
 have Hknx:Hid (∀ k,k<cx.sym.args→Zar l (x+1) k<gs.length):=fun k hk=>by
  have hxl:x<l.length:=by rw [← hc.len]; exact hx
  obtain ⟨_,ex2,_⟩:=Zhc hw hxl
  obtain ⟨_,_,_,_,_,hbx,_⟩:=Zek hw hxl
  have:=ex2 _ (Qh (by rw [← hsy]; exact Zbx l (x+1) _ k hk))
  have:=hc.len
  omega
 have hTx:T x=cx.sym::((KS.map (fun k=>T (ρ k))).flatten):=by
  have:=hK.tm x hD
  rw [hkids] at this
  rw [this,hsy]; rfl
 have Hsub:Hid (∀ k n,KS[k]?=some n→D (ρ n)∧1+(((KS.take k).map (fun k=>T (ρ k))).flatten).length+(T (ρ n)).length≤(T x).length):=fun k n hn=>by
  refine ⟨hK.kid x hD n (by rw [hkids]; exact Qh hn),?_⟩
  obtain ⟨hk1,hk2⟩:=Qa.1 hn
  have e:KS=KS.take k++n::KS.drop (k+1):=by
   rw [← hk2,List.getElem_cons_drop,List.take_append_drop]
  rw [hTx]
  conv=>rhs; rw [e]
  simp only [Qr,List.map_cons,List.flatten_append,List.flatten_cons,Qf,Qg]
  omega
 have HT:=Zac hTx
 have H:=Zac h
 have Hu:=Zac hu
 have Hc:=Zac hc
 have Hw:=Zac hw
 have Hm:=Zac hm
 have HK:=Zac hK
 have Hih:=Zac IH
 have Hxe:=Zac hxe
 have Hcx:=Zac hcx
 have Hm4:=Zac hm4
 clear hTx h hu hc hw hm hK IH hxe hcx hrt hbe hkids hKS hsy hD hm4
 go_enter Tryd.func87,Tryd.ntmps87
 go_wp2_with fail
 refine Hr.out.mono ?_
 rintro e w1 ⟨rfl,rfl⟩
 have Hnil:Hid (World.ownsRow (w1.alloc (.cells #[.string ⟨cx.sym.name.toArray⟩,.int .i64 cx.sym.num,.int .i64 cx.sym.args] 87)) (w1.heap.size+1) 87 3 (.slice none 0 0) 0 []):=World.ownsRow_nil _ _ _ _
 go_wp2_with (at_builtin; refine Zan (w1.alloc (.cells #[.string ⟨cx.sym.name.toArray⟩,.int .i64 cx.sym.num,.int .i64 cx.sym.args] 87)) rfl (.tmp 22) (.tmp 24) 59 rfl (w1.heap.size+1) 87 Tryd.infoSym Tryd.underlying59 rfl (by decide) (.slice none 0 0) 0 [] rfl Hnil.out #[.string ⟨cx.sym.name.toArray⟩,.int .i64 cx.sym.num,.int .i64 cx.sym.args] (N:=w1.heap.size+1) rfl (by simp) rfl (Zgu _ _ _) ?_ ?_ ?_)
 ·omega
 ·simp
 intro v1 w2 hap
 have hrow:w2.ownsRow (w1.heap.size+1) 87 3 v1 1 (Zah [cx.sym]):=by simpa [Zah,Zbr] using hap.owns
 have hbel:Below (w1.heap.size+1) (w1.alloc (.cells #[.string ⟨cx.sym.name.toArray⟩,.int .i64 cx.sym.num,.int .i64 cx.sym.args] 87)) w2:=hap.kept.below (by simp) (fun k hk=>by simp [Zbt,Value.ownBlock] at hk)
 have Hrow:=Zac hrow
 have Hbel:=Zac hbel
 clear hap hrow hbel
 go_wp2
 go_loopg [7,8,9] (cx.sym.args+1) (fun gk tv av nv wr=>∃ (k:Nat),av = .int .i64 (Zar l (x+1) k:Nat)∧nv = .int .i64 k∧k≤cx.sym.args∧cx.sym.args - k<gk∧Below (w1.heap.size+1) (w1.alloc (.cells #[.string ⟨cx.sym.name.toArray⟩,.int .i64 cx.sym.num,.int .i64 cx.sym.args] 87)) wr ∧
   wr.ownsRow (w1.heap.size+1) 87 3 tv (1+(((KS.take k).map (fun k=>T (ρ k))).flatten).length) (Zah (cx.sym::((KS.take k).map (fun k=>T (ρ k))).flatten)))
 case atStart=>exact ⟨0,by simp [Zar],by go_num,Qm _,by omega,Hbel.out,by simpa using Hrow.out⟩
 case round =>
  obtain ⟨k,rfl,rfl,hk,hgk,hbw,hown⟩:=hrel
  obtain ⟨ta,tcap,rfl⟩:=Zad hown
  have hsr:=hbw.size
  have hsr:w1.heap.size+1≤wr.heap.size:=by simpa using hsr
  have hE:Ext w1 wr:=by
   have h0:Ext w1 (w1.alloc (.cells #[.string ⟨cx.sym.name.toArray⟩,.int .i64 cx.sym.num,.int .i64 cx.sym.args] 87)):=(Ext.of (by repeat' (first | with_reducible(first|exact Qx _ _|apply Kept.drew|apply Kept.drewN|apply Qz|refine Qy ?_ ?_ _)|exact fun h=>absurd h (by simp <;> omega))))
   exact h0.trans (hbw.mono (by omega))
  have hG:=H.out.ext hE
  have b0:wr.cell? ⟨gb,0,none⟩=some (.slice (some ⟨cb,0,none⟩) gs.length cap):=Zaa hG.box 0 _ rfl
  have hgb':=Zab hG.box
  have hcb':cb<wr.heap.size:=by omega
  have hbox:wr.heap[w1.heap.size]?=some (.cells #[.string ⟨cx.sym.name.toArray⟩,.int .i64 cx.sym.num,.int .i64 cx.sym.args] 87 (0,0)):=(hbw.block _ (by omega)).trans (heap_alloc_new w1 _)
  have y2:wr.cell? ⟨w1.heap.size,2,none⟩=some (.int .i64 cx.sym.args):=Zaa hbox 2 _ rfl
  have hwb:=Zab hbox
  have Hbw:=Zac hbw
  have Hown:=Zac hown
  have HG:=Zac hG
  have HE:=Zac hE
  clear hbw hown hG hE hbox x0 x1 x2
  by_cases hlt:k<cx.sym.args
  ·obtain ⟨nx,hnx⟩:∃ n,n=Zar l (x+1) k:=⟨_,rfl⟩
   have hnxl:=Hknx.out k hlt
   have hnxa:=Hkat.out k hlt
   rw [← hnx] at hnxl hnxa ⊢
   obtain ⟨cn,hcn⟩:∃ c,gs[nx]?=some c:=⟨_,Qb hnxl⟩
   have hbn:=(Hc.out.all nx cn hcn).2
   obtain ⟨hDn,hle⟩:=Hsub.out k nx hnxa
   have hm4:=Hm4.out
   have HI:=Zac (Hih.out (T (ρ nx)).length (by have:=Hm.out; omega) wr gb (.slice (some ⟨cb,0,none⟩) gs.length cap) gs l ρ rk D T nx HG.out Hc.out Hw.out Hu.out HK.out hDn hnxl hl (Qe _) (by omega))
   have Hnx:=Zac hnx
   have Hnxa:=Zac hnxa
   have Hbn:=Zac hbn
   have Hcn:=Zac hcn
   obtain ⟨L,hL⟩:∃ L,L=(((KS.take k).map (fun k=>T (ρ k))).flatten):=⟨_,rfl⟩
   rw [← hL] at hle ⊢
   have HL:=Zac hL
   clear hnx hnxa hbn hcn hL hDn
   go_wp2_with fail
   refine HI.out.mono ?_
   rintro e w3 ⟨v3,B3,rfl,hB3,hr3,hE3⟩
   obtain ⟨a3,c3,rfl⟩:=Zad hr3
   have hs3:=hE3.size
   have hG3:=HG.out.ext hE3
   have b0:w3.cell? ⟨gb,0,none⟩=some (.slice (some ⟨cb,0,none⟩) gs.length cap):=Zaa hG3.box 0 _ rfl
   have hgb3:=Zab hG3.box
   have HR:Hid (Zxf w3 3 (.slice a3 (T (ρ nx)).length c3) (T (ρ nx)).length (Zah (T (ρ nx)))):=Zrg hr3 (Zsd _)
   have Hown3:Hid (w3.ownsRow (w1.heap.size+1) 87 3 (.slice ta (1+L.length) tcap) (1+L.length) (Zah (cx.sym::L))):=by
    have:=Zak Hown.out (fun j hj=>hE3.block j (Hown.out.lt j hj).2)
    rw [← HL.out] at this
    exact this
   have HE3:=Zac hE3
   have HG3:=Zac hG3
   clear hr3 hE3 hG3
   go_wp2_with (at_builtin; refine Zil _ rfl (.tmp 46) (.tmp 47) 59 rfl (w1.heap.size+1) 87 Tryd.infoSym Tryd.underlying59 rfl (by decide) _ (1+L.length) (Zah (cx.sym::L)) rfl Hown3.out _ (T (ρ nx)).length (Zah (T (ρ nx))) rfl HR.out ?_ ?_ ?_)
   ·omega
   ·omega
   intro v4 w4 hap
   obtain ⟨a4,c4,rfl⟩:=Zad hap.owns
   have hG4:GAt w4 gb (.slice (some ⟨cb,0,none⟩) gs.length cap) gs:=by
    have hk:=hap.kept.below (B:=w1.heap.size+1) (by omega) (fun j hj=>(Hown3.out.lt j hj).1)
    have he:Ext w1 w4:=HE.out.trans ((HE3.out.mono (by omega)).trans (hk.mono (by omega)))
    exact H.out.ext he
   obtain ⟨_,_,_,z3,_,_⟩:=hG4.cell Hcn.out
   rw [Hbn.out] at z3
   have b0:w4.cell? ⟨gb,0,none⟩=some (.slice (some ⟨cb,0,none⟩) gs.length cap):=Zaa hG4.box 0 _ rfl
   have hgb4:=Zab hG4.box
   obtain ⟨bn,hbn⟩:∃ q,q=Zbg l nx:=⟨_,rfl⟩
   rw [← hbn] at z3
   have Hbn2:=Zac hbn
   have Hap:=Zac hap
   clear hap hG4 hbn
   go_wp2
   go_roundg (cx.sym.args - k)
   case measure=>omega
   case rel =>
    have ht:=Zrf Hnxa.out
    refine ⟨k+1,by rw [Zby,← Hnx.out,← Hbn2.out],by go_num,by omega,by omega,?_,?_⟩
    ·exact Hbw.out.trans ((HE3.out.mono (by omega)).trans (Hap.out.kept.below (B:=w1.heap.size+1) (by omega) (fun j hj=>(Hown3.out.lt j hj).1)))
    ·have:=Hap.out.owns
     rw [ht,Qr,List.flatten_append,← HL.out]
     simp only [List.map_cons,List.map_nil,List.flatten_cons,List.flatten_nil,Qs,Qg]
     rw [← Zcy,List.cons_append] at this
     rw [← Nat.add_assoc]
     exact this
  ·have hek:k=cx.sym.args:=by omega
   subst hek
   obtain ⟨qa,hqa⟩:∃ q,q=Zar l (x+1) cx.sym.args:=⟨_,rfl⟩
   rw [← hqa]
   clear hqa
   have Hown':Hid (Ziz (T x) w1 (.returned (.slice ta (1+(((KS.take cx.sym.args).map (fun k=>T (ρ k))).flatten).length) tcap)) wr):=by
    refine ⟨_,w1.heap.size+1,rfl,by omega,?_,HE.out⟩
    have:=Hown.out
    rw [← HKl.out,List.take_length] at this ⊢
    rw [HT.out,Qf,Nat.add_comm (((KS.map (fun k=>T (ρ k))).flatten).length) 1]
    exact this
   go_wp2
   go_ret
   exact Hown'.out
theorem Yeh (m:Nat):Zpu m:=by
 induction m using Nat.strongRecOn with
 | _ m ih=>exact Ybu m ih
theorem Yhx {l:List Sym} {p j:Nat}:∀ m,p≤j→j<Zar l p m→∃ k,k<m∧Zar l p k≤j∧j<Zbg l (Zar l p k):=by
 intro m
 induction m with
 | zero=>intro h1 h2; simp only [Zar] at h2; omega
 | succ m ih =>
  intro h1 h2
  by_cases h:j<Zar l p m
  ·obtain ⟨k,hk,h3,h4⟩:=ih h1 h
   exact ⟨k,by omega,h3,h4⟩
  ·rw [Zby] at h2
   exact ⟨m,by omega,by omega,h2⟩
theorem Zvn {l:List Sym} (hw:Wf 2 l) {ρ:Nat→Nat} (hcg:∀ i,i<l.length→Cg (grOf l) ρ i) {D:Nat→Prop} {T:Nat→List Sym} (hK:Known (grOf l) ρ D T) :
  ∀ (n p:Nat),p<l.length→Zbg l p - p≤n→D (ρ p)→∀ j,p≤j→j<Zbg l p→D (ρ j):=by
 intro n
 induction n with
 | zero=>intro p hp hn _ j h1 h2; omega
 | succ n ih =>
  intro p hp hn hd j h1 h2
  by_cases e:j=p
  ·subst e; exact hd
  ·obtain ⟨_,e2,e3⟩:=Zhc hw hp
   obtain ⟨_,_,_,_,hb1,hb2,_⟩:=Zek hw hp
   rw [← e3] at h2
   obtain ⟨k,hk,h3,h4⟩:=Yhx _ (by omega:p+1≤j) h2
   have hmem:Zar l (p+1) k ∈ (grOf l).kids p:=Qh (Zbx l (p+1) _ k hk)
   have hq:=e2 _ hmem
   have hn':((grOf l).hd p).name≠[]:=fun h=>by
    have:=(Yed hw).vn p hp h
    rw [this] at hmem
    simp at hmem
   obtain ⟨_,h5⟩:=hcg p hp hn'
   have hdk:D (ρ (Zar l (p+1) k)):=by
    have:ρ (Zar l (p+1) k) ∈ ((grOf l).kids (ρ p)).map ρ:=by rw [h5]; exact List.mem_map.2 ⟨_,hmem,rfl⟩
    obtain ⟨k',hk',e'⟩:=List.mem_map.1 this
    rw [← e']; exact hK.kid _ hd k' hk'
   have hle:Zbg l (Zar l (p+1) k)≤Zbg l p:=by
    have mono:∀ m,k+1≤m→m≤(Zau l p).args→Zbg l (Zar l (p+1) k)≤Zar l (p+1) m:=by
     intro m
     induction m with
     | zero=>intro h; omega
     | succ m ihm =>
      intro h6 h7
      by_cases em:m=k
      ·subst em; rw [Zby]; exact Qe _
      ·have:=ihm (by omega) (by omega)
       rw [Zby l (p+1) m]
       have hqm:=e2 _ (Qh (Zbx l (p+1) _ m (by omega)))
       obtain ⟨_,_,_,_,h8,_⟩:=Zek hw (i:=Zar l (p+1) m) (by omega)
       omega
    rw [← e3]
    exact mono _ (by omega) (Qe _)
   exact ih _ (by omega) (by omega) hdk j h3 h4
theorem Ybv {a b:List Sym} (ha:Wf 1 a) (hb:Wf 1 b) {ρ:Nat→Nat} (hcg:∀ i,i<(a++b).length→Cg (grOf (a++b)) ρ i) {D:Nat→Prop} {T:Nat→List Sym} (hK:Known (grOf (a++b)) ρ D T) (h0:D (ρ 0)) (h1:D (ρ a.length)):∀ j,j<(a++b).length→D (ρ j):=by
 have hw:Wf 2 (a++b):=Zfm ha hb
 have hla:=Zeg ha
 have hlb:=Zeg hb
 have e0:Zbg (a++b) 0=a.length:=by unfold Zbg; simp [Zke b ha]
 have e1:Zbg (a++b) a.length=(a++b).length:=by
  have:=Zke [] hb
  rw [Qs] at this
  unfold Zbg; simp [this]
 intro j hj
 have hl:(a++b).length=a.length+b.length:=by simp
 by_cases h:j<a.length
 ·exact Zvn hw hcg hK _ 0 (by omega) (Qe _) h0 j (by omega) (by omega)
 ·exact Zvn hw hcg hK _ a.length (by omega) (Qe _) h1 j (by omega) (by omega)
theorem Zya (l:List Sym):CellsOf (Zfs l (Zdo l) 0) l:=by
 refine ⟨by rw [Zft,Zbn],fun i c hc => ?_⟩
 rw [Zfx] at hc
 by_cases h:i<l.length
 ·rw [Zfy h] at hc
  simp at hc
  subst hc
  exact ⟨rfl,rfl⟩
 ·rw [List.getElem?_eq_none (by rw [Zbn]; omega)] at hc
  simp at hc
theorem Ygp {l:List Sym} {k:Nat} (hw:Wf k l):UpOk ((Zfs l (Zdo l) 0).map GC.up) (Zbf l) (fun j=>if Zbf l j=j then 0 else 1):=by
 have hf:=(Zjo l hw).rt
 intro i c hc
 rw [Qj,Zfx] at hc
 by_cases h:i<l.length
 ·rw [Zfy h] at hc
  simp at hc
  subst hc
  have h1:=hf.lt i h
  have h2:=hf.idem i h
  refine ⟨by simp [Zft,Zbn]; exact h1,h2,fun e=>e,fun e => ?_⟩
  have e':Zbf l i≠i:=e
  show (if Zbf l (Zbf l i)=Zbf l i then 0 else 1)<(if Zbf l i=i then 0 else 1)
  rw [if_pos h2,if_neg e']
  omega
 ·rw [List.getElem?_eq_none (by rw [Zbn]; omega)] at hc
  simp at hc
theorem Ygq (l:List Sym):sz (Zfs l (Zdo l) 0) (fun _=>0)=Zfs l (Zdo l) 0:=by
 apply List.ext_getElem?
 intro i
 cases hc:(Zfs l (Zdo l) 0)[i]? with
 | none=>rw [List.getElem?_eq_none (by rw [Zed]; exact List.getElem?_eq_none_iff.1 hc)]
 | some c =>
  rw [Zsc hc]
  rw [Zfx] at hc
  by_cases h:i<l.length
  ·rw [Zfy h] at hc
   simp at hc
   subst hc
   rfl
  ·rw [List.getElem?_eq_none (by rw [Zbn]; omega)] at hc
   simp at hc
structure TermsAt (w:World) (B:Nat) (v:Value) (ls:List (List Sym)) (vs:List Value):Prop where
 owns:w.ownsRow B 59 1 v ls.length vs
 all:∀ (i:Nat) (l:List Sym),ls[i]?=some l→∃ x,vs[i]?=some x∧w.ownsRow 0 87 3 x l.length (Zah l)
theorem TermsAt.nil (w:World) (B:Nat):TermsAt w B (.slice none 0 0) [] []:=⟨World.ownsRow_nil _ _ _ _,fun i l h=>by simp at h⟩
theorem TermsAt.ext {w w':World} {B:Nat} {v:Value} {ls:List (List Sym)} {vs:List Value} (h:TermsAt w B v ls vs) (e:Ext w w'):TermsAt w' B v ls vs :=
 ⟨Zak h.owns (fun k hk=>e.block k (h.owns.lt k hk).2),fun i l hl=>by
  obtain ⟨x,h1,h2⟩:=h.all i l hl
  exact ⟨x,h1,Zak h2 (fun k hk=>e.block k (h2.lt k hk).2)⟩⟩
theorem TermsAt.box {w w':World} {M:Nat} {cs:Array Value} {t:TypeId} {fr:Nat × Nat} {B:Nat} {v:Value} {ls:List (List Sym)} {vs:List Value} (h:TermsAt w B v ls vs) (hM:w.heap[M]?=some (.cells cs t fr)) (h1:59≠t) (h2:87≠t) (hk:Kept (fun k=>k=M) w w'):TermsAt w' B v ls vs :=
 ⟨Zeq h.owns hM h1 hk,fun i l hl=>by
  obtain ⟨x,h3,h4⟩:=h.all i l hl
  exact ⟨x,h3,Zeq h4 hM h2 hk⟩⟩
theorem TermsAt.snoc {w w':World} {B:Nat} {v v' x:Value} {ls:List (List Sym)} {vs:List Value} {l:List Sym} (h:TermsAt w B v ls vs) (ha:Appended w B 59 1 v (ls.length+1) (vs++[x]) v' w') (hx:w.ownsRow 0 87 3 x l.length (Zah l)):TermsAt w' B v' (ls++[l]) (vs++[x]):=by
 have keep:∀ {y:Value} {t:List Sym},w.ownsRow 0 87 3 y t.length (Zah t)→w'.ownsRow 0 87 3 y t.length (Zah t):=fun {y t} hy=>ha.kept.owns hy (fun k hk hs=>by
  obtain ⟨cur,hc⟩:=Zbs h.owns k hs
  exact Zaf hy (by decide) hc hk)
 have hl:vs.length=ls.length:=by have:=h.owns.1; omega
 refine ⟨by simpa using ha.owns,fun i t ht => ?_⟩
 by_cases hi:i<ls.length
 ·rw [Qc hi] at ht
  obtain ⟨y,h1,h2⟩:=h.all i t ht
  exact ⟨y,by rw [Qc (by omega)]; exact h1,keep h2⟩
 ·rw [Qd (by omega)] at ht
  by_cases e:i=ls.length
  ·subst e
   simp at ht
   subst ht
   exact ⟨x,by rw [Qd (by omega)]; simp [hl],keep hx⟩
  ·rw [List.getElem?_eq_none (by simp; omega)] at ht
   simp at ht
theorem TermsAt.put {w:World} {B g cap:Nat} {x:Value} {ls:List (List Sym)} {vs:List Value} {l:List Sym} {n:Nat} (h:TermsAt w B (.slice (some ⟨g,0,none⟩) ls.length cap) ls vs) (hn:n<ls.length) (hx:w.ownsRow 0 87 3 x l.length (Zah l)) :
  TermsAt (w.setCell ⟨g,n,none⟩ x) B (.slice (some ⟨g,0,none⟩) ls.length cap) (ls.set n l) (vs.set n x):=by
 have hl:vs.length=ls.length:=by have:=h.owns.1; omega
 obtain ⟨cur,hg⟩:=Zbs h.owns g rfl
 have hk:Kept (fun k=>k=g) w (w.setCell ⟨g,n,none⟩ x):=(Qx (only g) w).put n x
 have keep:∀ {y:Value} {t:List Sym},w.ownsRow 0 87 3 y t.length (Zah t)→(w.setCell ⟨g,n,none⟩ x).ownsRow 0 87 3 y t.length (Zah t):=fun {y t} hy=>Zeq hy hg (by decide) hk
 refine ⟨by rw [List.length_set]; exact Zvl h.owns n x,fun i t ht => ?_⟩
 rw [List.getElem?_set] at ht ⊢
 by_cases e:n=i
 ·subst e
  rw [if_pos rfl,if_pos hn] at ht
  simp at ht
  subst ht
  exact ⟨x,by rw [if_pos rfl,if_pos (by omega)],keep hx⟩
 ·rw [if_neg e] at ht
  obtain ⟨y,h1,h2⟩:=h.all i t ht
  exact ⟨y,by rw [if_neg e]; exact h1,keep h2⟩
structure SubOk (l:List Sym) (ρ:Nat→Nat) (T:Nat→List Sym) (k:Nat) (ts:List (List Sym)):Prop where
 has:∀ i,i<k→(Zau l i).name=[]→ts[(Zau l i).num]?=some (T (ρ i))
 only:∀ n t,ts[n]?=some t→t=[]∨∃ i,i<k∧(Zau l i).name=[]∧(Zau l i).num=n∧t=T (ρ i)
theorem SubOk.nil (l:List Sym) (ρ:Nat→Nat) (T:Nat→List Sym):SubOk l ρ T 0 []:=⟨fun i h=>by omega,fun n t h=>by simp at h⟩
theorem SubOk.pad {l:List Sym} {ρ:Nat→Nat} {T:Nat→List Sym} {k:Nat} {ts:List (List Sym)} (h:SubOk l ρ T k ts):SubOk l ρ T k (ts++[[]]):=by
 refine ⟨fun i hi hn => ?_,fun n t ht => ?_⟩
 ·have:=h.has i hi hn
  rw [Qc ((Qa.1 this).1)]
  exact this
 ·by_cases hl:n<ts.length
  ·rw [Qc hl] at ht
   exact h.only n t ht
  ·rw [Qd (by omega)] at ht
   left
   have:=Qh ht
   simpa using this
theorem SubOk.skip {l:List Sym} {ρ:Nat→Nat} {T:Nat→List Sym} {k:Nat} {ts:List (List Sym)} (h:SubOk l ρ T k ts) (hn:(Zau l k).name≠[]):SubOk l ρ T (k+1) ts:=by
 refine ⟨fun i hi hi' => ?_,fun n t ht => ?_⟩
 ·by_cases e:i=k
  ·subst e; exact absurd hi' hn
  ·exact h.has i (by omega) hi'
 ·rcases h.only n t ht with h1 | ⟨i,h1,h2⟩
  ·exact Or.inl h1
  ·exact Or.inr ⟨i,by omega,h2⟩
theorem SubOk.old {l:List Sym} {ρ:Nat→Nat} {T:Nat→List Sym} {k:Nat} {ts:List (List Sym)} {t:List Sym} (h:SubOk l ρ T k ts) (hv:Vars (grOf l) ρ) (hk:k<l.length) (hn:(Zau l k).name=[]) (ht:ts[(Zau l k).num]?=some t) (hne:t≠[]):SubOk l ρ T (k+1) ts:=by
 refine ⟨fun i hi hi' => ?_,fun n t ht => ?_⟩
 ·by_cases e:i=k
  ·subst e
   rcases h.only _ t ht with h1 | ⟨j,h1,h2,h3,h4⟩
   ·exact absurd h1 hne
   ·have:ρ j=ρ i:=hv j i (by show _<l.length; omega) hk h2 hn h3
    rw [ht,h4,this]
  ·exact h.has i (by omega) hi'
 ·rcases h.only n t ht with h1 | ⟨i,h1,h2⟩
  ·exact Or.inl h1
  ·exact Or.inr ⟨i,by omega,h2⟩
theorem SubOk.new {l:List Sym} {ρ:Nat→Nat} {T:Nat→List Sym} {k:Nat} {ts:List (List Sym)} (h:SubOk l ρ T k ts) (hne:∀ i,i<k→(Zau l i).name=[]→T (ρ i)≠[]) (hn:(Zau l k).name=[]) (ht:ts[(Zau l k).num]?=some []):SubOk l ρ T (k+1) (ts.set (Zau l k).num (T (ρ k))):=by
 have hl:=(Qa.1 ht).1
 refine ⟨fun i hi hi' => ?_,fun n t hnt => ?_⟩
 ·rw [List.getElem?_set]
  by_cases e:i=k
  ·subst e
   rw [if_pos rfl,if_pos hl]
  ·have h1:=h.has i (by omega) hi'
   rw [if_neg]
   ·exact h1
   ·intro e2
    rw [← e2,ht] at h1
    simp only [Qo] at h1
    exact hne i (by omega) hi' h1.symm
 ·rw [List.getElem?_set] at hnt
  by_cases e:(Zau l k).num=n
  ·rw [if_pos e,if_pos hl] at hnt
   simp only [Qo] at hnt
   exact Or.inr ⟨k,by omega,hn,e,hnt.symm⟩
  ·rw [if_neg e] at hnt
   rcases h.only n t hnt with h1 | ⟨i,h1,h2⟩
   ·exact Or.inl h1
   ·exact Or.inr ⟨i,by omega,h2⟩
inductive Ph where
 | rd (lo hi:Nat) (g:List Value→Value)
 | st (p:Nat)
 | no
def Ph.val (vs:List Value):Ph→Value
 | .rd lo _ g=>g (vs.take lo)
 | .st p=>vs.getD p undef
 | .no=>undef
def Ph.due:Ph→Nat
 | .rd lo _ _=>lo
 | .st p=>p+1
 | .no=>0
def Ph.kd (vs:List Value) (q:Ph):Kd := .pur (q.val vs)
def Ph.isSt (p:Nat):Ph→Bool
 | .st r=>r == p
 | _=>false
abbrev phA (a0:Act) (vs:List Value) (lst:Nat→Bool) (ops:List Oper) (ph:List Ph):Act:=pa a0 undef noB lst 0 ops (ph.map (Ph.kd vs))
abbrev phAll (a0:Act) (ops:List Oper) (ph:List Ph) (vs:List Value):Act:=phA a0 vs (fun _=>true) ops ph
theorem Zse {a0:Act} {lst:Nat→Bool} {f f':Ph→Kd}:∀ {ops:List Oper} {ph:List Ph} {k:Nat},(∀ j q,ph[j]?=some q→lst (k+j)=true→(f q).val undef noB (k+j)=(f' q).val undef noB (k+j)) →
  pa a0 undef noB lst k ops (ph.map f)=pa a0 undef noB lst k ops (ph.map f'):=by
 intro ops
 induction ops with
 | nil=>intro ph k _; simp [pa]
 | cons o os ih =>
  intro ph k h
  cases ph with
  | nil=>simp [pa]
  | cons q qs =>
   have h0:=h 0 q rfl
   simp only [Nat.add_zero] at h0
   have ih':=ih (ph:=qs) (k:=k+1) (fun j r hr=>by
    have:=h (j+1) r (by simpa using hr)
    have e:k+1+j=k+(j+1):=by omega
    rw [e]; exact this)
   simp only [List.map_cons]
   rw [pa,pa,ih']
   split
   ·rename_i hk; rw [h0 hk]
   ·rfl
def Zjr (ops:List Oper):Nat→Nat→Nat→Bool
 | 0,_,_=>false
 | n+1,i,j=>match ops[i]? with
  | some o=>Zdn o j || (List.range i).any fun k=>Zdn o k && Zjr ops n k j
  | none=>false
theorem Zkt {ops:List Oper} {L:Nat→Bool} (hcl:∀ (i:Nat) o,ops[i]?=some o→L i=true→∀ j,Zdn o j=true→L j=true):∀ (n i j:Nat),Zjr ops n i j=true→L i=true→L j=true:=by
 intro n
 induction n with
 | zero=>intro i j h; simp [Zjr] at h
 | succ n ih =>
  intro i j h hl
  unfold Zjr at h
  cases ho:ops[i]? with
  | none=>rw [ho] at h; simp at h
  | some o =>
   rw [ho] at h
   simp only [Bool.or_eq_true,List.any_eq_true,List.mem_range,Bool.and_eq_true] at h
   rcases h with h | ⟨k,_,h1,h2⟩
   ·exact hcl i o ho hl j h
   ·exact ih k j h2 (hcl i o ho hl k h1)
theorem Zyb {ops:List Oper} {L:Nat→Bool} (hcl:∀ (i:Nat) o,ops[i]?=some o→L i=true→∀ j,Zdn o j=true→L j=true) {n i j:Nat} {o:Oper} (ho:ops[i]?=some o) (hw:∀ k,Zdn o k=true→L k=true) (h:Zjr ops n i j=true):L j=true:=by
 cases n with
 | zero=>simp [Zjr] at h
 | succ n =>
  unfold Zjr at h
  rw [ho] at h
  simp only [Bool.or_eq_true,List.any_eq_true,List.mem_range,Bool.and_eq_true] at h
  rcases h with h | ⟨k,_,h1,h2⟩
  ·exact hw j h
  ·exact Zkt hcl n k j h2 (hw k h1)
def Zyc (ph:List Ph) (p:Nat) (f:Nat→Bool):Bool:=(List.range ph.length).any fun j=>(match ph[j]? with | some r=>r.isSt p | none=>false) && f j
theorem Zjs {ph:List Ph} {p:Nat} {f:Nat→Bool} (h:Zyc ph p f=true):∃ j,ph[j]?=some (.st p)∧f j=true:=by
 unfold Zyc at h
 simp only [List.any_eq_true,List.mem_range,Bool.and_eq_true] at h
 obtain ⟨j,_,h1,h2⟩:=h
 cases hr:ph[j]? with
 | none=>rw [hr] at h1; simp at h1
 | some r =>
  rw [hr] at h1
  cases r with
  | st q =>
   simp only [Ph.isSt,beq_iff_eq] at h1
   subst h1
   exact ⟨j,hr,h2⟩
  | _=>simp [Ph.isSt] at h1
def Zvo (T:Nat) (ops:List Oper) (ph:List Ph) (m n:Nat):Bool :=
 (ops.length == ph.length && (List.range m).all fun p=>Zyc ph p (fun _=>true)) &&
 (List.range ops.length).all fun i=>match ops[i]?,ph[i]? with
  | some o,some q =>
   (match o.guard with
    | none=>true
    | some (j,_)=>Zdn o j && (match ops[j]? with
     | some p=>match p.dst with | some d=>decide (d<T) | none=>false
     | _=>false)) && (match o.op with | .select .. => false | _=>true) &&
   (o.after.all fun e => !Region.binds .any e || e.on<i) &&
   ((List.range ops.length).all fun j=>match ops[j]? with
    | some p=>match p.dst with
     | some d=>((j == i) || (o.dst != some d)) && (!(o.looksAt ops.toArray).contains d || Zdn o j)
     | none=>true
    | none=>true) &&
   (match q with
    | .rd lo hi _=>(lo == 0 || Zyc ph (lo - 1) (fun j=>Zjr ops n i j)) && (decide (m≤hi) || Zyc ph hi (fun j=>Zjr ops n j i))
    | .st p=>decide (p<m) && (p == 0 || Zyc ph (p - 1) (fun j=>Zjr ops n i j)) && ((List.range ops.length).all fun j=>j == i || (match ph[j]? with | some r => !r.isSt p | none=>true))
    | .no=>o.guard.isSome)
  | _,_=>false
structure PhAt (T:Nat) (ops:List Oper) (ph:List Ph) (m n i:Nat) (o:Oper) (q:Ph):Prop where
 gd:o.guard=none∨∃ j b p d,o.guard=some (j,b)∧Zdn o j=true∧ops[j]?=some p∧p.dst=some d∧d<T
 sel:∀ cs b,o.op ≠ .select cs b
 low:∀ e ∈ o.after,Region.binds .any e=true→e.on<i
 dst:∀ j p d,ops[j]?=some p→p.dst=some d→j=i∨o.dst≠some d
 look:∀ j p d,ops[j]?=some p→p.dst=some d→d ∈ o.looksAt ops.toArray→Zdn o j=true
 rdl:∀ lo hi g,q = .rd (lo+1) hi g→∃ j,ph[j]?=some (.st lo)∧Zjr ops n i j=true
 rdh:∀ lo hi g,q = .rd lo hi g→m≤hi∨∃ j,ph[j]?=some (.st hi)∧Zjr ops n j i=true
 stm:∀ p,q = .st p→p<m
 stl:∀ p,q = .st (p+1)→∃ j,ph[j]?=some (.st p)∧Zjr ops n i j=true
 stu:∀ p,q = .st p→∀ j,ph[j]?=some (.st p)→j=i
 ng:q = .no→o.guard≠none
theorem Yei {T:Nat} {ops:List Oper} {ph:List Ph} {m n:Nat} (h:Zvo T ops ph m n=true) {i:Nat} {o:Oper} (ho:ops[i]?=some o):∃ q,ph[i]?=some q∧PhAt T ops ph m n i o q:=by
 unfold Zvo at h
 simp only [Bool.and_eq_true,List.all_eq_true,List.mem_range,beq_iff_eq] at h
 obtain ⟨⟨hl,_⟩,h⟩:=h
 have hi:=(Qa.1 ho).1
 have h:=h i hi
 rw [ho] at h
 cases hq:ph[i]? with
 | none=>rw [hq] at h; simp at h
 | some q =>
  rw [hq] at h
  simp only [Bool.and_eq_true,List.all_eq_true,List.mem_range] at h
  obtain ⟨⟨⟨⟨h1,h2⟩,h3⟩,h4⟩,h5⟩:=h
  refine ⟨q,rfl,?_,?_,?_,?_,?_,?_,?_,?_,?_,?_,?_⟩
  ·cases hgd:o.guard with
   | none=>exact Or.inl rfl
   | some jb =>
    obtain ⟨j,b⟩:=jb
    rw [hgd] at h1
    simp only [Bool.and_eq_true] at h1
    obtain ⟨h6,h7⟩:=h1
    cases hp:ops[j]? with
    | none=>rw [hp] at h7; simp at h7
    | some p =>
     rw [hp] at h7
     simp only at h7
     cases hd:p.dst with
     | none=>rw [hd] at h7; simp at h7
     | some d =>
      rw [hd] at h7
      exact Or.inr ⟨j,b,p,d,rfl,h6,hp,hd,by simpa using h7⟩
  ·intro cs b e; rw [e] at h2; simp at h2
  ·intro e he hb
   have:=Array.all_eq_true_iff_forall_mem.1 h3 e he
   simpa [hb] using this
  ·intro j p d hp hd
   have:=h4 j (Qa.1 hp).1
   rw [hp] at this
   simp only [hd,Bool.and_eq_true,Bool.or_eq_true,beq_iff_eq,bne_iff_ne] at this
   exact this.1
  ·intro j p d hp hd hm
   have:=h4 j (Qa.1 hp).1
   rw [hp] at this
   simp only [hd,Bool.and_eq_true,Bool.or_eq_true,beq_iff_eq,bne_iff_ne] at this
   rcases this.2 with h | h
   ·simp [hm] at h
   ·exact h
  ·intro lo hi g e
   subst e
   simp only [Bool.and_eq_true,Bool.or_eq_true] at h5
   rcases h5.1 with h | h
   ·simp at h
   ·exact Zjs h
  ·intro lo hi g e
   subst e
   simp only [Bool.and_eq_true,Bool.or_eq_true,decide_eq_true_eq] at h5
   rcases h5.2 with h | h
   ·exact Or.inl h
   ·exact Or.inr (Zjs h)
  ·intro p e
   subst e
   simp only [Bool.and_eq_true,decide_eq_true_eq] at h5
   exact h5.1.1
  ·intro p e
   subst e
   simp only [Bool.and_eq_true,Bool.or_eq_true] at h5
   rcases h5.1.2 with h | h
   ·simp at h
   ·exact Zjs h
  ·intro p e j hj
   subst e
   simp only [Bool.and_eq_true,List.all_eq_true,List.mem_range,Bool.or_eq_true,beq_iff_eq] at h5
   rcases h5.2 j (by have:=(Qa.1 hj).1; omega) with h | h
   ·exact h
   ·rw [hj] at h; simp [Ph.isSt] at h
  ·intro e
   subst e
   intro hn
   rw [hn] at h5
   simp at h5
inductive StepOk (P:Program) (S:List Value→World→Prop) (vs:List Value) (u:World) (ev:Operand→Value) (o:Oper):Prop
 | value (v:Value) (w':World) (h:(execOp ev o).run P u = .ok (.value v) w') (hS:S (vs++[v]) w')
 | skip (w':World) (h:(execOp ev o).run P u = .ok .skip w') (hS:S (vs++[undef]) w')
 | call (f:FuncId) (args:Array Value) (u1:World) (h:(execOp ev o).run P u = .ok (.enter f args) u1) (hS:Calls P f args u1 (fun e u'=>∃ v,e = .returned v∧S (vs++[v]) u'))
 | row (f:String) (args:Array Value) (u1:World) (h:(execOp ev o).run P u = .ok (.row f args) u1) (hS:Rows P f args u1 (fun v u'=>S (vs++[v]) u'))
def ObP (P:Program) (S:List Value→World→Prop) (FA:List Value→Act) (ph:List Ph) (o:Oper) (q:Ph):Prop :=
 (match o.guard with
  | none=>True
  | some (j,b)=>match ph[j]? with
   | none=>False
   | some r=>∀ vs u,r.due≤vs.length→S vs u→(match q with | .no=>r.val vs ≠ .bool b | _=>r.val vs = .bool b)) ∧
 (match q with
  | .rd lo hi g=>∀ vs u,lo≤vs.length→vs.length≤hi→S vs u→(execOp (FA vs).eval o).run P u = .ok (.value (g (vs.take lo))) u
  | .st p=>∀ vs u,vs.length=p→S vs u→StepOk P S vs u (FA vs).eval o
  | .no=>True)
def AllObP (P:Program) (S:List Value→World→Prop) (FA:List Value→Act) (ph0:List Ph):List Oper→List Ph→Prop
 | o::os,q::qs=>ObP P S FA ph0 o q∧AllObP P S FA ph0 os qs
 | _,_=>True
theorem AllObP.at {P:Program} {S:List Value→World→Prop} {FA:List Value→Act} {ph0:List Ph}:∀ {ops:List Oper} {ks:List Ph},AllObP P S FA ph0 ops ks →
  ∀ {i:Nat} {o:Oper} {q:Ph},ops[i]?=some o→ks[i]?=some q→ObP P S FA ph0 o q:=by
 intro ops
 induction ops with
 | nil=>intro ks _ i o q h; simp at h
 | cons p os ih =>
  intro ks h i o q ho hq
  cases ks with
  | nil=>simp at hq
  | cons r qs =>
   cases i with
   | zero=>simp at ho hq; subst ho hq; exact h.1
   | succ i=>exact ih h.2 (i:=i) (by simpa using ho) (by simpa using hq)
structure PhPlan (ops:List Oper) (ph:List Ph) (m:Nat) (a0:Act) (S:List Value→World→Prop) (L:Array Bool) (a:Act) (w:World):Prop where
 size:L.size=ops.length
 closed:∀ (i:Nat) o,ops[i]?=some o→L.getD i false=true→∀ j,Zdn o j=true→L.getD j false=true
 st:∃ vs,a=phA a0 vs (fun j=>L.getD j false) ops ph∧S vs w∧vs.length≤m∧(∀ (i p:Nat),ph[i]?=some (Ph.st p)→(L.getD i false=true↔p<vs.length))∧(∀ (i:Nat) q,ph[i]?=some q→L.getD i false=true→q.due≤vs.length)
theorem Zgp {P:Program} {ops:List Oper} {id:Nat} {Q:Exit→Act→World→Prop} {a0:Act} {w:World} (hm:P.follows .mixedOrders=true) (ph:List Ph) (m n:Nat) (hfit:Zvo a0.tmps.size ops ph m n=true)
  (S:List Value→World→Prop) (hS0:S [] w.drew) (hob:AllObP P S (fun vs=>phAll a0 ops ph vs) ph ops ph)
  (hQ:∀ vs u,vs.length=m→S vs u→Q .normal (phAll a0 ops ph vs) u) :
  (Code.region id ops.toArray true).wp P Q a0 w:=by
 have hlen:ops.length=ph.length∧∀ p,p<m→∃ j:Nat,ph[j]?=some (Ph.st p):=by
  unfold Zvo at hfit
  simp only [Bool.and_eq_true,beq_iff_eq,List.all_eq_true,List.mem_range] at hfit
  exact ⟨hfit.1.1,fun p hp=>by obtain ⟨j,h,_⟩:=Zjs (hfit.1.2 p hp); exact ⟨j,h⟩⟩
 obtain ⟨hlen,hall⟩:=hlen
 have hkat:∀ {i':Nat} {q':Ph},ph[i']?=some q'→∃ o',ops[i']?=some o'∧PhAt a0.tmps.size ops ph m n i' o' q':=fun {i' q'} h1=>by
  have ho:=Qb (l:=ops) (i:=i') (by have:=(Qa.1 h1).1; omega)
  obtain ⟨q2,hq2,hF2⟩:=Yei hfit ho
  rw [h1] at hq2; simp at hq2; subst hq2
  exact ⟨_,ho,hF2⟩
 refine wp_region_any hm (Zmd (J:=PhPlan ops ph m a0 S) ?_ ?_ _ _ _ _ ?_ ?_)
 ·intro L a u i hr hJ
  obtain ⟨hsz,hcl,vs,rfl,hS,hvm,hst,hdue⟩:=hJ
  obtain ⟨h0,o,ho',_⟩:=mem_ready.1 hr
  have ho:ops[i]?=some o:=by simpa using ho'
  have hi:i<ops.length:=(Qa.1 ho).1
  have hil:i<L.size:=by omega
  have hun:L.getD i false=false:=by simp [hil] at h0 ⊢; exact h0
  obtain ⟨q,hq,hF⟩:=Yei hfit ho
  have hOb:=hob.at ho hq
  have hw1:∀ k,Zdn o k=true→L.getD k false=true:=fun k hk=>Zcc hr ho hk
  have hexec:execOp (phA a0 vs (fun j=>L.getD j false) ops ph).eval o=execOp (phAll a0 ops ph vs).eval o:=by
   refine execOp_congr o hF.sel (fun x hx=>Zti (fun j p hp hl d hd e => ?_))
   subst e
   have hw:=hF.look j p d hp hd (List.mem_append_left _ (List.mem_filterMap.2 ⟨.tmp d,by simpa using hx,rfl⟩))
   have:=Zcc hr ho hw
   simp only [Nat.zero_add] at hl
   rw [hl] at this
   simp at this
  have hyield:∀ j b,o.guard=some (j,b)→∃ r,ph[j]?=some r∧r.due≤vs.length∧yielded ops.toArray (phA a0 vs (fun j=>L.getD j false) ops ph).tmps j=(match r.val vs with | .bool c=>some c | _=>none):=by
   intro j b hg
   rcases hF.gd with hg' | ⟨j',b',p,d,hg',h1,h3,h4,h5⟩
   ·rw [hg'] at hg; simp at hg
   ·rw [hg'] at hg
    simp only [Qo,Prod.mk.injEq] at hg
    obtain ⟨rfl,rfl⟩:=hg
    obtain ⟨r,hr',hF'⟩:=Yei hfit h3
    have hk:(ph.map (Ph.kd vs))[j']?=some (r.kd vs):=by simp [hr']
    have ht:=Yhv (a0:=a0) (vc:=undef) (β:=noB) (lst:=fun j=>L.getD j false) (k:=0) h3 hk (by simpa using hw1 j' h1) h4 (fun j2 p' h6 h7=>by
     rcases hF'.dst j2 p' d h6 h7 with h | h
     ·exact h
     ·exact absurd h4 h) h5
    refine ⟨r,hr',hdue j' r hr' (hw1 j' h1),?_⟩
    unfold yielded
    simp only [List.getElem?_toArray,h3,Option.bind_some,h4,ht,Kd.val,Ph.kd]
    cases r.val vs <;> rfl
  have hL:=Ziw hil
  have hold:∀ j,L.getD j false=true→(L.setIfInBounds i true).getD j false=true:=fun j h=>by rw [hL,h]; rfl
  have hnew:∀ j,j≠i→(L.setIfInBounds i true).getD j false=L.getD j false:=fun j h=>by
   rw [hL]
   have:(j == i)=false:=by rw [Qu]; exact h
   simp [this]
  have hput:∀ vs',(∀ j r,ph[j]?=some r→L.getD j false=true→r.val vs=r.val vs') →
    (phA a0 vs (fun j=>L.getD j false) ops ph).put o.dst (q.val vs')=phA a0 vs' (fun j=>(L.setIfInBounds i true).getD j false) ops ph:=by
   intro vs' hv
   have e1:phA a0 vs (fun j=>L.getD j false) ops ph=phA a0 vs' (fun j=>L.getD j false) ops ph:=Zse (fun j r hr' hl=>by
    simp only [Nat.zero_add] at hl
    exact hv j r hr' hl)
   rw [e1]
   have hk:(ph.map (Ph.kd vs'))[i]?=some (q.kd vs'):=by simp [hq]
   have e2:=Yay (a0:=a0) (vc:=undef) (β:=noB) (lst:=fun j=>L.getD j false) (k:=0) ho hk (by simpa using hun) hF.dst
   simp only [Nat.zero_add] at e2
   have e3:(q.kd vs').val undef noB i=q.val vs':=rfl
   rw [e3] at e2
   show (pa a0 undef noB (fun j=>L.getD j false) 0 ops (ph.map (Ph.kd vs'))).put o.dst (q.val vs')=_
   rw [← e2]
   exact Zfd (fun j r hr'=>⟨by simp only [Nat.zero_add,hL],fun _=>rfl⟩)
  have hcl':∀ (i':Nat) o',ops[i']?=some o'→(L.setIfInBounds i true).getD i' false=true→∀ j,Zdn o' j=true→(L.setIfInBounds i true).getD j false=true:=by
   intro i' o' h1 h2 j hj
   by_cases e:i'=i
   ·subst e
    rw [ho] at h1; simp at h1; subst h1
    exact hold _ (Zcc hr ho hj)
   ·exact hold _ (hcl i' o' h1 ((hnew i' e).symm.trans h2) j hj)
  have hreach:∀ j,Zjr ops n i j=true→L.getD j false=true:=fun j h=>Zyb (L:=fun j=>L.getD j false) hcl ho hw1 h
  -- the operation turns no memory
  have hkeep:(∀ p,q ≠ .st p)→q.due≤vs.length→PhPlan ops ph m a0 S (L.setIfInBounds i true) ((phA a0 vs (fun j=>L.getD j false) ops ph).put o.dst (q.val vs)) u:=fun hns hqd=>by
   refine ⟨by simpa using hsz,hcl',vs,hput vs (fun _ _ _ _=>rfl),hS,hvm,?_,?_⟩
   ·intro i' p h1
    have hne:i'≠i:=fun e=>by subst e; rw [hq] at h1; exact hns p (Option.some.inj h1)
    rw [hnew i' hne]
    exact hst i' p h1
   ·intro i' q' h1 h2
    by_cases e:i'=i
    ·subst e; rw [hq] at h1; simp at h1; subst h1; exact hqd
    ·exact hdue i' q' h1 ((hnew i' e).symm.trans h2)
  unfold wpOp
  simp only [ho']
  by_cases hqn:q = .no
  ·subst hqn
   cases hg:o.guard with
   | none=>exact absurd hg (hF.ng rfl)
   | some jb =>
    obtain ⟨j,b⟩:=jb
    obtain ⟨r,hr',hd,hy⟩:=hyield j b hg
    have hO:=hOb.1
    rw [hg] at hO
    simp only [hr'] at hO
    have hv:=hO vs u hd hS
    have hwant:Region.wanted o (yielded ops.toArray (phA a0 vs (fun j=>L.getD j false) ops ph).tmps)=false:=by
     unfold Region.wanted
     rw [hg]
     simp only
     rw [hy]
     cases hrv:r.val vs with
     | bool c =>
      rw [hrv] at hv
      have:c≠b:=fun e=>hv (by rw [e])
      simpa using this
     | _=>simp
    rw [if_neg (by rw [hwant]; simp)]
    exact hkeep (fun p=>by simp) (Qm _)
  ·have hwant:Region.wanted o (yielded ops.toArray (phA a0 vs (fun j=>L.getD j false) ops ph).tmps)=true:=by
    cases hg:o.guard with
    | none=>simp [Region.wanted,hg]
    | some jb =>
     obtain ⟨j,b⟩:=jb
     obtain ⟨r,hr',hd,hy⟩:=hyield j b hg
     have hO:=hOb.1
     rw [hg] at hO
     simp only [hr'] at hO
     have hv:=hO vs u hd hS
     have hv':r.val vs = .bool b:=by cases q <;> first | exact hv | exact absurd rfl hqn
     unfold Region.wanted
     rw [hg]
     simp only
     rw [hy,hv']
     simp
   rw [if_pos hwant]
   refine Or.inl ?_
   unfold Oper.wp
   rw [hexec]
   cases q with
   | no=>exact absurd rfl hqn
   | rd lo hi g =>
    have hlo:lo≤vs.length:=by
     cases lo with
     | zero=>exact Qm _
     | succ lo =>
      obtain ⟨j,h1,h2⟩:=hF.rdl lo hi g rfl
      exact (hst j lo h1).1 (hreach j h2)
    have hhi:vs.length≤hi:=by
     rcases hF.rdh lo hi g rfl with h | ⟨j,h1,h2⟩
     ·omega
     ·rcases Nat.lt_or_ge hi vs.length with h | h
      ·have hj:=(hst j hi h1).2 h
       have:=Zkt (L:=fun j=>L.getD j false) hcl n j i h2 hj
       rw [hun] at this; simp at this
      ·exact h
    have hO:(execOp (phAll a0 ops ph vs).eval o).run P u=_:=hOb.2 vs u hlo hhi hS
    rw [hO]
    exact hkeep (fun p=>by simp) hlo
   | st p =>
    have hpv:vs.length=p:=by
     have h1:¬ p<vs.length:=fun h=>by
      have:=(hst i p hq).2 h
      rw [hun] at this; simp at this
     cases p with
     | zero=>omega
     | succ p =>
      obtain ⟨j,h2,h3⟩:=hF.stl p rfl
      have:=(hst j p h2).1 (hreach j h3)
      omega
    have hpm:=hF.stm p rfl
    have hstep:∀ v u',S (vs++[v]) u'→PhPlan ops ph m a0 S (L.setIfInBounds i true) ((phA a0 vs (fun j=>L.getD j false) ops ph).put o.dst v) u':=by
     intro v u' hS'
     have hval:(Ph.st p).val (vs++[v])=v:=by
      subst hpv
      simp [Ph.val]
     refine ⟨by simpa using hsz,hcl',vs++[v],?_,hS',by simp; omega,?_,?_⟩
     ·rw [← hput (vs++[v]) ?_,hval]
      intro j r h1 h2
      have hd:=hdue j r h1 h2
      cases r with
      | rd lo hi g =>
       simp only [Ph.due] at hd
       simp only [Ph.val]
       rw [List.take_append_of_le_length hd]
      | st p' =>
       simp only [Ph.due] at hd
       simp only [Ph.val,List.getD_eq_getElem?_getD]
       rw [Qc (by omega)]
      | no=>rfl
     ·intro i' p' h1
      by_cases e:i'=i
      ·subst e
       rw [hq] at h1
       simp at h1
       subst h1
       rw [hL]
       simp
       omega
      ·rw [hnew i' e,hst i' p' h1]
       have hne:p'≠p:=fun e2=>by subst e2; exact e (hF.stu p' rfl i' h1)
       simp only [Qg,Qf,Qt]
       omega
     ·intro i' q' h1 h2
      simp only [Qg,Qf,Qt]
      by_cases e:i'=i
      ·subst e
       rw [hq] at h1; simp at h1; subst h1
       simp only [Ph.due]; omega
      ·have:=hdue i' q' h1 ((hnew i' e).symm.trans h2)
       omega
    have hO:StepOk P S vs u (phAll a0 ops ph vs).eval o:=hOb.2 vs u hpv hS
    cases hO with
    | value v w' h hS'=>rw [h]; exact hstep v w' hS'
    | skip w' h hS'=>rw [h]; exact hstep undef w' hS'
    | call f args u1 h hS' =>
     rw [h]
     refine hS'.mono ?_
     rintro e u' ⟨v,rfl,hr'⟩
     exact hstep v u' hr'
    | row f args u1 h hS' =>
     rw [h]
     exact hS'.mono (fun v u' hr'=>hstep v u' hr')
 ·intro L a u hr hJ
  obtain ⟨hsz,hcl,vs,rfl,hS,hvm,hst,hdue⟩:=hJ
  have hal:∀ i,i<ops.length→L.getD i false=true:=by
   intro i
   induction i using Nat.strongRecOn with
   | _ i ih =>
    intro hi
    cases hl:L.getD i false with
    | true=>rfl
    | false =>
     exfalso
     have ho:ops[i]?=some ops[i]:=Qb hi
     obtain ⟨q,hq,hF⟩:=Yei hfit ho
     have:i ∈ Region.ready .any ops.toArray L:=by
      refine mem_ready.2 ⟨?_,ops[i],by simp,fun e he hb=>ih e.on (hF.low e he hb) (by have:=hF.low e he hb; omega)⟩
      have hi':i<L.size:=by omega
      simp [hi'] at hl ⊢
      exact hl
     rw [hr] at this
     simp at this
  have e:phA a0 vs (fun j=>L.getD j false) ops ph=phAll a0 ops ph vs:=Zfd (fun j r hr'=>⟨by
   simp only [Nat.zero_add]
   exact hal j (by have:=(Qa.1 hr').1; simp at this; omega),fun _=>rfl⟩)
  rw [e]
  refine hQ vs u ?_ hS
  rcases Nat.lt_or_ge vs.length m with h | h
  ·obtain ⟨j,hj⟩:=hall _ h
   have:=(hst j _ hj).1 (hal j (by have:=(Qa.1 hj).1; omega))
   omega
  ·omega
 ·have:(ops.toArray).size=ops.length:=by simp
  unfold unl
  exact Qq (List.length_filter_le _ _) (by simp)
 ·have hz:∀ j,(Array.replicate ops.toArray.size false).getD j false=false:=fun j=>by
   simp only [Array.getD_eq_getD_getElem?,Array.getElem?_replicate]
   split <;> rfl
  refine ⟨by simp,?_,[],?_,hS0,Qm _,?_,?_⟩
  ·intro i o _ h; rw [hz] at h; simp at h
  ·have:∀ (k:Nat) (os:List Oper) (qs:List Kd),pa a0 undef noB (fun j=>(Array.replicate ops.toArray.size false).getD j false) k os qs=a0:=by
    intro k os
    induction os generalizing k with
    | nil=>intro qs; simp [pa]
    | cons o os ih =>
     intro qs
     cases qs with
     | nil=>simp [pa]
     | cons q qs=>rw [pa,hz]; simp only [Bool.false_eq_true,if_false]; exact ih _ _
   exact (this _ _ _).symm
  ·intro i p _
   rw [hz]
   simp
  ·intro i q _ h; rw [hz] at h; simp at h
def SubAt (w:World) (l:List Sym) (ρ:Nat→Nat) (T:Nat→List Sym) (k:Nat) (tv:Value) (ts:List (List Sym)) (vs:List Value) (wr:World):Prop :=
 wr.heap[w.heap.size+1]?=some (.cells #[tv] 117 (0,0))∧TermsAt wr w.heap.size tv ts vs∧SubOk l ρ T k ts∧Ext w wr∧wr.heap[w.heap.size]?=some (.cells #[.slice none 0 0] 117 (0,0))∧ts.length≤200001
theorem SubAt.ext {w wr w1:World} {l:List Sym} {ρ:Nat→Nat} {T:Nat→List Sym} {k:Nat} {tv:Value} {ts:List (List Sym)} {vs:List Value} (h:SubAt w l ρ T k tv ts vs wr) (e:Ext wr w1):SubAt w l ρ T k tv ts vs w1:=by
 obtain ⟨h1,h2,h3,h4,h5,h6⟩:=h
 exact ⟨(e.block _ (Zab h1)).trans h1,h2.ext e,h3,h4.trans (e.mono h4.size),(e.block _ (Zab h5)).trans h5,h6⟩
theorem SubAt.to {w wr:World} {l:List Sym} {ρ:Nat→Nat} {T:Nat→List Sym} {k k':Nat} {tv:Value} {ts:List (List Sym)} {vs:List Value} (h:SubAt w l ρ T k tv ts vs wr) (g:SubOk l ρ T k' ts):SubAt w l ρ T k' tv ts vs wr:=⟨h.1,h.2.1,g,h.2.2.2⟩
def Yhy (l:List Sym) (ρ:Nat→Nat) (T:Nat→List Sym) (w:World) (e:Ending) (w':World):Prop:=∃ tv ts vs,e = .returned (.agg #[tv])∧TermsAt w' w.heap.size tv ts vs∧SubOk l ρ T l.length ts∧Ext w w'∧ts.length≤200001
def SubPh (w wr:World) (l:List Sym) (ρ:Nat→Nat) (T:Nat→List Sym) (k:Nat) (tv:Value) (ts:List (List Sym)):List Value→World→Prop
 | [],u=>u=wr.drew
 | [v],u=>Ziz (T (ρ k)) wr.drew (.returned v) u
 | [_,_],u=>∃ vs',SubAt w l ρ T (k+1) tv (ts.set (Zau l k).num (T (ρ k))) vs' u
 | _,_=>False
theorem SubPh.ext {w wr:World} {l:List Sym} {ρ:Nat→Nat} {T:Nat→List Sym} {k:Nat} {tv:Value} {ts:List (List Sym)}:∀ {vs:List Value} {u:World},SubPh w wr l ρ T k tv ts vs u→vs.length≤1→Ext wr.drew u
 | [],u,h,_=>by obtain rfl:u=wr.drew:=h; exact Ext.of (Qx _ _)
 | [v],u,h,_=>by obtain ⟨_,_,_,_,_,h⟩:=h; exact h
 | _::_::_,_,_,h=>by simp at h
theorem Zkw (w:World) (gb:Nat) (v:Value) (gs:List GC) (l:List Sym) (ρ rk:Nat→Nat) (D:Nat→Prop) (T:Nat→List Sym) (h:GAt w gb v gs) (hc:CellsOf gs l) (hw:Wf 2 l) (hu:UpOk (gs.map GC.up) ρ rk) (hK:Known (grOf l) ρ D T) (hD:∀ i,i<gs.length→D (ρ i)) (hv:Vars (grOf l) ρ) (hl:gs.length≤4000) (hT:∀ i,i<gs.length→(Zau l i).name=[]→(T (ρ i)).length≤4000) (hn:∀ i,(Zau l i).num≤200000) :
  Calls Tryd.prog 77 #[.pointer (some ⟨gb,0,none⟩)] w (Yhy l ρ T w):=by
 have hpos:0<gs.length:=by have:=Zeg hw; have:=hc.len; omega
 obtain ⟨cb,cap,rfl,hcb,hcap,hne,hfz⟩:=h.shape hpos
 have b0:w.cell? ⟨gb,0,none⟩=some (.slice (some ⟨cb,0,none⟩) gs.length cap):=Zaa h.box 0 _ rfl
 have hgb:=Zab h.box
 have H:=Zac h
 have Hc:=Zac hc
 have Hw:=Zac hw
 have Hu:=Zac hu
 have HK:=Zac hK
 have HD:=Zac hD
 have Hv:=Zac hv
 have HT:=Zac hT
 have Hn:=Zac hn
 clear h hc hw hu hK hD hv hT hn
 go_enter Tryd.func77,Tryd.ntmps77
 go_wp2
 go_loopg [12] (gs.length+1) (fun gk iv wr=>∃ (k:Nat) (tv:Value) (ts:List (List Sym)) (vs:List Value),iv = .int .i64 k∧k≤gs.length∧gs.length - k<gk∧SubAt w l ρ T k tv ts vs wr)
 case atStart=>exact ⟨0,.slice none 0 0,[],[],by go_num,Qm _,by omega,by have:=heap_alloc_new (w.alloc (.cells #[.slice none 0 0] 117)) (.cells #[.slice none 0 0] 117); simpa using this,TermsAt.nil _ _,SubOk.nil _ _ _,(Ext.of (by repeat' (first | with_reducible(first|exact Qx _ _|apply Kept.drew|apply Kept.drewN|apply Qz|refine Qy ?_ ?_ _)|exact fun h=>absurd h (by simp <;> omega)))),(Below.heap_alloc _ _ _ (by simp)).trans (heap_alloc_new w _),by simp⟩
 case round =>
  obtain ⟨k,tv,ts,vs,rfl,hk,hgk,hS⟩:=hrel
  have HS:=Zac hS
  have hext:=hS.2.2.2.1
  have hsr:=hext.size
  have hG:=H.out.ext hext
  have hgr:=Zab hG.box
  have hcr:cb<wr.heap.size:=by omega
  have hsb:=Zab hS.1
  have b0:wr.cell? ⟨gb,0,none⟩=some (.slice (some ⟨cb,0,none⟩) gs.length cap):=Zaa hG.box 0 _ rfl
  have t0:wr.cell? ⟨w.heap.size+1,0,none⟩=some tv:=Zaa hS.1 0 _ rfl
  have r0:wr.cell? ⟨w.heap.size,0,none⟩=some (.slice none 0 0):=Zaa hS.2.2.2.2.1 0 _ rfl
  have rf:=fun i=>Zae hS.2.2.2.2.1 i
  have tf:=fun i=>Zae hS.1 i
  have HG:=Zac hG
  clear hS hext hG
  by_cases hlt:k<gs.length
  ·obtain ⟨c,hc⟩:∃ c,gs[k]?=some c:=⟨_,Qb hlt⟩
   obtain ⟨c0,c1,c2,c3,c4,c5⟩:=HG.out.cell hc
   obtain ⟨hsy,_⟩:=Hc.out.all k c hc
   have hcn:c.sym.num≤200000:=by rw [hsy]; exact Hn.out k
   have Hsy:=Zac hsy
   clear hc hsy
   cases hnm:c.sym.name with
   | cons x xs =>
    have hnn:Hid ((Zau l k).name≠[]):=by show _≠_; rw [← Hsy.out,hnm]; simp
    rw [hnm] at c0
    clear hnm
    go_wp2
    go_roundg (gs.length - k)
    case measure=>omega
    case rel =>
     exact ⟨k+1,tv,ts,vs,by go_num,by omega,by omega,SubAt.to (HS.out.ext (Ext.of (by repeat' (first | with_reducible(first|exact Qx _ _|apply Kept.drew|apply Kept.drewN|apply Qz|refine Qy ?_ ?_ _)|exact fun h=>absurd h (by simp <;> omega))))) (HS.out.2.2.1.skip hnn.out)⟩
   | nil =>
    have hnn:Hid ((Zau l k).name=[]):=by show _=_; rw [← Hsy.out,hnm]
    rw [hnm] at c0
    clear hnm
    have hneg:¬ ((c.sym.num:Int)<0):=by omega
    go_wp2
    have HSa:Hid (∀ o,SubAt w l ρ T k tv ts vs (wr.alloc o)):=fun o=>HS.out.ext (Ext.of (by repeat' (first | with_reducible(first|exact Qx _ _|apply Kept.drew|apply Kept.drewN|apply Qz|refine Qy ?_ ?_ _)|exact fun h=>absurd h (by simp <;> omega))))
    obtain ⟨wo,hwo⟩:∃ x,x=wr:=⟨_,rfl⟩
    subst hwo
    clear b0 t0 r0 rf tf c0 c1 c2 c3 c4 c5 HG HS hgr hcr hsb hsr
    go_loopg [28] 200003 (fun gk nv wr=>∃ (tv:Value) (ts:List (List Sym)) (vs:List Value),200002 - ts.length<gk∧SubAt w l ρ T k tv ts vs wr)
    case atStart=>exact ⟨tv,ts,vs,by omega,HSa.out _⟩
    case round =>
     clear HSa
     obtain ⟨tv,ts,vs,hgk2,hS⟩:=hrel
     have HS:=Zac hS
     have hext:=hS.2.2.2.1
     have hsr:=hext.size
     have hG:=H.out.ext hext
     have hgr:=Zab hG.box
     have hsb:=Zab hS.1
     have ht4:=hS.2.2.2.2.2
     obtain ⟨ta,tcap,rfl⟩:=Zad hS.2.1.owns
     have b0:wr.cell? ⟨gb,0,none⟩=some (.slice (some ⟨cb,0,none⟩) gs.length cap):=Zaa hG.box 0 _ rfl
     have t0:wr.cell? ⟨w.heap.size+1,0,none⟩=some (.slice ta ts.length tcap):=Zaa hS.1 0 _ rfl
     have tf:=fun i=>Zae hS.1 i
     have HG:=Zac hG
     clear hS hext hG
     by_cases hle:ts.length≤c.sym.num
     ·have hle':((ts.length:Nat):Int)≤((c.sym.num:Nat):Int):=by omega
      have Hrow:Hid (wr.ownsRow w.heap.size 59 1 (.slice ta ts.length tcap) ts.length vs):=HS.out.2.1.owns
      go_wp2_with (at_builtin; go_loud (refine Zan _ rfl (.tmp 34) (.tmp 35) 60 rfl w.heap.size 59 Tryd.infoSyms Tryd.underlying60 rfl (by decide) (.slice ta ts.length tcap) ts.length vs rfl Hrow.out _ rfl rfl rfl (Zdp _ _ _) ?_ ?_ ?_))
      ·omega
      ·omega
      intro v1 w1 hap
      obtain ⟨a1,c1,rfl⟩:=Zad hap.owns
      have hS1:SubAt w l ρ T k (.slice a1 (ts.length+1) c1) (ts++[[]]) (vs++[.slice none 0 0]) (w1.setCell ⟨w.heap.size+1,0,none⟩ (.slice a1 (ts.length+1) c1)):=by
       obtain ⟨g1,g2,g3,g4,g5,g6⟩:=HS.out
       have hb1:=(hap.kept.block _ (Zab g1) (Zaf Hrow.out (by decide) g1)).trans g1
       have hb0:=(hap.kept.block _ (Zab g5) (Zaf Hrow.out (by decide) g5)).trans g5
       have hK:Kept (fun j=>j=w.heap.size+1) w1 (w1.setCell ⟨w.heap.size+1,0,none⟩ (.slice a1 (ts.length+1) c1)):=(Qx (only (w.heap.size+1)) w1).put 0 _
       have hsz:=hap.kept.size
       refine ⟨Zai hb1 0 _,(g2.snoc hap (World.ownsRow_nil _ _ _ _)).box hb1 (by decide) (by decide) hK,g3.pad,(g4.trans (hap.kept.below (by omega) (fun j hj=>(Hrow.out.lt j hj).1))).trans (hK.below (by omega) (fun j hj=>by omega)),(hK.block _ (Zab hb0) (by omega)).trans hb0,by simp; omega⟩
      have hb1:=(hap.kept.block _ (Zab HS.out.1) (Zaf Hrow.out (by decide) HS.out.1)).trans HS.out.1
      have t0:w1.cell? ⟨w.heap.size+1,0,none⟩=some (.slice ta ts.length tcap):=Zaa hb1 0 _ rfl
      have tf:=fun i=>Zae hb1 i
      have hsb1:=Zab hb1
      have HS1:=Zac hS1
      clear hap hS1 hb1
      go_wp2
      go_roundg (200002 - ts.length)
      case measure=>omega
      case rel=>exact ⟨_,_,_,by simp; omega,HS1.out⟩
     ·have hle':¬ (((ts.length:Nat):Int)≤((c.sym.num:Nat):Int)):=by omega
      have hnl:c.sym.num<ts.length:=by omega
      obtain ⟨t,ht⟩:∃ t,ts[c.sym.num]?=some t:=⟨_,Qb hnl⟩
      obtain ⟨xv,hxv,hxo⟩:=HS.out.2.1.all _ t ht
      obtain ⟨xa,xcap,rfl⟩:=Zad hxo
      obtain ⟨g,tcap',cur,he,_,hgb2,hgc⟩:=Zat HS.out.2.1.owns (by omega)
      simp only [Value.slice.injEq] at he
      obtain ⟨rfl,_,rfl⟩:=he
      have x0:wr.cell? ⟨g,c.sym.num,none⟩=some (.slice xa t.length xcap):=Zag HS.out.2.1.owns _ _ hxv
      have hgl:=Zab hgb2
      have gf:=fun i=>Zae hgb2 i
      have Ht:=Zac ht
      have Hgb2:=Zac hgb2
      have hkl:k<l.length:=by rw [← Hc.out.len]; exact hlt
      clear ht hxv hxo hgb2
      cases t with
      | cons a0 t =>
       go_wp2
       go_roundg (gs.length - k)
       case measure=>omega
       case rel=>exact ⟨k+1,_,ts,vs,by go_num,by omega,by omega,HS.out.to (HS.out.2.2.1.old Hv.out hkl hnn.out (by rw [← Hsy.out]; exact Ht.out) (by simp))⟩
      | nil =>
       have HI:=Zac (Yeh _ wr.drew gb (.slice (some ⟨cb,0,none⟩) gs.length cap) gs l ρ rk D T k (HG.out.on (fun _ _=>rfl)) Hc.out Hw.out Hu.out HK.out (HD.out k hlt) hlt hl (Qe _) (HT.out k hlt hnn.out))
       have Hne:Hid (∀ i,i<l.length→T (ρ i)≠[]):=fun i hi=>by rw [HK.out.tm _ (HD.out i (by rw [Hc.out.len]; exact hi))]; simp
       go_wp2_with fail
       refine Zgp (by kernel_rfl) [.rd 0 1 (fun _ => .pointer (some ⟨w.heap.size+1,0,none⟩)),.rd 0 1 (fun _ => .slice (some ⟨g,0,none⟩) ts.length tcap),.rd 0 1 (fun _ => .int .i64 c.sym.num),.rd 0 1 (fun _ => .pointer (some ⟨gb,0,none⟩)),.rd 0 1 (fun _ => .int .i64 k),.st 0,.rd 0 1 (fun _ => .pointer (some ⟨g,c.sym.num,none⟩)),.st 1] 2 4 (by kernel_rfl)
        (SubPh w wr l ρ T k (.slice (some ⟨g,0,none⟩) ts.length tcap) ts) rfl ?_ ?_
       ·have hcell:∀ u,Ext wr.drew u→u.cell? ⟨w.heap.size+1,0,none⟩=some (.slice (some ⟨g,0,none⟩) ts.length tcap):=fun u hE=>Zaa ((hE.block _ hsb).trans HS.out.1) 0 _ rfl
        refine ⟨⟨trivial,fun vs u _ hl hS => ?_⟩,⟨trivial,fun vs u _ hl hS => ?_⟩,⟨trivial,fun vs u _ hl hS => ?_⟩,⟨trivial,fun vs u _ hl hS => ?_⟩,⟨trivial,fun vs u _ hl hS => ?_⟩,⟨trivial,fun vs u hl hS => ?_⟩,⟨trivial,fun vs u _ hl hS => ?_⟩,⟨trivial,fun vs u hl hS => ?_⟩,trivial⟩
        ·simp [phAll,phA,pa,Ph.kd,Ph.val,Kd.val,go_sem]
        ·have t1:=hcell u (hS.ext hl)
         simp [phAll,phA,pa,Ph.kd,Ph.val,Kd.val,go_sem,t1]
        ·simp [phAll,phA,pa,Ph.kd,Ph.val,Kd.val,go_sem]
        ·simp [phAll,phA,pa,Ph.kd,Ph.val,Kd.val,go_sem]
        ·simp [phAll,phA,pa,Ph.kd,Ph.val,Kd.val,go_sem]
        ·obtain rfl:=List.length_eq_zero_iff.1 hl
         have hu:u=wr.drew:=hS
         subst hu
         refine .call 87 #[.pointer (some ⟨gb,0,none⟩),.int .i64 k] _ (by simp [phAll,phA,pa,Ph.kd,Ph.val,Kd.val,go_sem]) (HI.out.mono ?_)
         rintro e u ⟨v,B,rfl,h⟩
         exact ⟨v,rfl,v,B,rfl,h⟩
        ·simp [phAll,phA,pa,Ph.kd,Ph.val,Kd.val,go_sem,hnl]
        ·obtain ⟨v,rfl⟩:=List.length_eq_one_iff.1 hl
         have hE:=hS.ext (by simp)
         obtain ⟨v',B,he,hB,hr,_⟩:=hS
         simp only [Ending.returned.injEq] at he
         subst he
         have HSu:=HS.out.ext ((Ext.of (Qx _ _).drew:Ext wr wr.drew).trans hE)
         have hgu:=(hE.block _ hgl).trans Hgb2.out
         have gfu:=Zae hgu c.sym.num
         obtain ⟨va1,vc1,rfl⟩:=Zad hr
         have x1:u.cell? ⟨g,c.sym.num,none⟩=some (.slice xa 0 xcap):=(hE.cell (p:=⟨g,c.sym.num,none⟩) hgl).trans x0
         have hgs:g<u.heap.size:=Zab hgu
         have hK:Kept (only g) u (u.setCell ⟨g,c.sym.num,none⟩ (.slice va1 (T (ρ k)).length vc1)):=(Qx (only g) u).put c.sym.num _
         refine .skip (u.setCell ⟨g,c.sym.num,none⟩ (.slice va1 (T (ρ k)).length vc1)) ?_ ?_
         ·simp [phAll,phA,pa,Ph.kd,Ph.val,Kd.val,go_sem,x1,gfu]
         ·obtain ⟨g1,g2,g3,g4,g5,g6⟩:=HSu
          have hn1:w.heap.size+1≠g:=fun e=>Zaf g2.owns (by decide) g1 (by rw [e]; rfl)
          have hn0:w.heap.size≠g:=fun e=>Zaf g2.owns (by decide) g5 (by rw [e]; rfl)
          have hgw:=(g2.owns.lt g rfl).1
          rw [Hsy.out] at hnl hK ⊢
          have hp:=g2.put (l:=T (ρ k)) hnl (Zbd hr (Qm _))
          exact ⟨_,(hK.block _ (Zab g1) hn1).trans g1,hp,g3.new (fun i hi _=>Hne.out i (by omega)) hnn.out (by rw [← Hsy.out]; exact Ht.out),g4.trans (hK.below g4.size (fun j hj=>by have:j=g:=hj; omega)),(hK.block _ (Zab g5) hn0).trans g5,by rw [List.length_set]; exact g6⟩
       ·rintro vs u hl hS
        match vs,hl,hS with
        | [v,v'],_,hS =>
        obtain ⟨vs',hS'⟩:=hS
        simp only [phAll,phA,paAll,pa,Ph.kd,Ph.val,Kd.val,List.map_cons,List.map_nil,if_true,Act.put,List.setIfInBounds_toArray,List.set_cons_succ,List.set_cons_zero]
        have HS':=Zac hS'
        clear hS'
        go_wp2
        go_roundg (gs.length - k)
        case measure=>omega
        case rel=>exact ⟨k+1,_,_,vs',by go_num,by omega,by omega,HS'.out⟩
  ·have hek:k=gs.length:=by omega
   subst hek
   obtain ⟨ta,tcap,rfl⟩:=Zad HS.out.2.1.owns
   go_wp2
   have hK:Kept (fun j=>j=w.heap.size) wr (wr.setCell ⟨w.heap.size,0,none⟩ (.slice ta ts.length tcap)):=(Qx (only w.heap.size) wr).put 0 _
   have h0:(wr.setCell ⟨w.heap.size,0,none⟩ (.slice ta ts.length tcap)).cell? ⟨w.heap.size,0,none⟩=some (.slice ta ts.length tcap):=Zaa (Zai HS.out.2.2.2.2.1 0 _) 0 _ rfl
   obtain ⟨g1,g2,g3,g4,g5,g6⟩:=HS.out
   rw [Hc.out.len] at g3
   refine bodyPost_ret (v := .agg #[.slice ta ts.length tcap]) (by simp [results,Tryd.results77,go_sem,h0]) rfl ?_
   exact ⟨_,ts,vs,rfl,g2.box g5 (by decide) (by decide) hK,g3,g4.trans (hK.below (by omega) (fun k hk=>by omega)),g6⟩
def sbOf (ts:List (List Sym)) (n:Nat):List Sym:=match ts[n]? with
 | some (x::xs)=>x::xs
 | _=>vr n
theorem Ygr {l:List Sym} {ρ:Nat→Nat} {D:Nat→Prop} {T:Nat→List Sym} {ts:List (List Sym)} (hs:SubOk l ρ T l.length ts) (hK:Known (grOf l) ρ D T) (hv:Vars (grOf l) ρ) (hD:∀ i,i<l.length→D (ρ i)):sbOf ts=Zea (grOf l) ρ D T:=by
 funext n
 by_cases hex:∃ i,i<l.length∧(Zau l i).name=[]∧(Zau l i).num=n
 ·obtain ⟨i,hi,hn,rfl⟩:=hex
  have h1:Zea (grOf l) ρ D T (Zau l i).num=T (ρ i):=Zon (G:=grOf l) hv hi hn (hD i hi)
  rw [h1]
  have h2:=hs.has i hi hn
  have h3:=hK.tm _ (hD i hi)
  unfold sbOf
  rw [h2]
  rw [h3]
 ·have h1:Zea (grOf l) ρ D T n=vr n:=by
   unfold Zea
   rw [dif_neg]
   rintro ⟨i,h1,h2,h3,_⟩
   exact hex ⟨i,h1,h2,h3⟩
  rw [h1]
  unfold sbOf
  cases ht:ts[n]? with
  | none=>rfl
  | some t =>
   rcases hs.only n t ht with rfl | ⟨i,h1,h2,h3,_⟩
   ·rfl
   ·exact absurd ⟨i,h1,h2,h3⟩ hex
theorem Ygs {gs:List GC} (h:∀ c ∈ gs,c.size=0):sz gs (fun _=>0)=gs:=by
 apply List.ext_getElem?
 intro i
 cases hc:gs[i]? with
 | none=>rw [List.getElem?_eq_none (by rw [Zed]; exact List.getElem?_eq_none_iff.1 hc)]
 | some c =>
  rw [Zsc hc]
  have:=h c (Qh hc)
  cases c
  simp at this
  subst this
  rfl
theorem Ybw {l:List Sym} {gs':List GC} (h:gs'.map (·.size)=(Zfs l (Zdo l) 0).map (·.size)):sz gs' (fun _=>0)=gs':=by
 refine Ygs (fun c hc => ?_)
 have h1:c.size ∈ (Zfs l (Zdo l) 0).map (·.size):=by rw [← h]; exact List.mem_map.2 ⟨c,hc,rfl⟩
 rw [← Ygq l] at h1
 obtain ⟨d,hd,e⟩:=List.mem_map.1 h1
 obtain ⟨i,hi⟩:=List.mem_iff_getElem?.1 hd
 simp only [sz,List.getElem?_mapIdx,Option.map_eq_some_iff] at hi
 obtain ⟨d',_,rfl⟩:=hi
 exact e.symm
def Ztz (a b:List Sym) (w:World) (e:Ending) (w':World):Prop:=Ext w w'∧∃ x n c q,e = .returned (.tuple #[.agg #[.slice x n c],.int .i64 q]) ∧
 ((q=0∧NoFit a b)∨(q=2∧Vast a b)∨(q=1∧∃ ts vs,TermsAt w' 0 (.slice x n c) ts vs∧Mgu (sbOf ts) a b∧(ap (sbOf ts) a).length≤30∧ts.length≤200001∧∀ t ∈ ts,t.length≤30))
theorem Ybx {l:List Sym} {i:Nat} (hi:i<l.length) (hn:(Zau l i).name=[]):Occ (Zau l i).num l:=by
 refine ⟨Zau l i,?_,hn,rfl⟩
 unfold Zau
 rw [List.getD_eq_getElem?_getD,Qb hi]
 simp
theorem Zoc {a b:List Sym} {σ:Nat→List Sym} (h:Mgu σ a b) (hl:(ap σ a).length≤30) {n:Nat} (ho:Occ n (a++b)):(σ n).length≤30:=by
 rcases Zwh.1 ho with ho | ho
 ·have:=Zng h.ts ho
  have h1:0<a.length:=by obtain ⟨s,hs,_⟩:=ho; exact List.length_pos_of_mem hs
  omega
 ·have:=Zng h.ts ho
  have h1:0<b.length:=by obtain ⟨s,hs,_⟩:=ho; exact List.length_pos_of_mem hs
  rw [← h.unif] at this
  omega
theorem Yby {a b:List Sym} (ha:Wf 1 a) (hb:Wf 1 b) {ρ':Nat→Nat} (hj:Joined (grOf (a++b)) (Zbf (a++b)) ρ' [0] [a.length]) {D:Nat→Prop} {T:Nat→List Sym} (hK:Known (grOf (a++b)) ρ' D T) (hd:D (ρ' 0)) :
  Mgu (Zea (grOf (a++b)) ρ' D T) a b∧ap (Zea (grOf (a++b)) ρ' D T) a=T (ρ' 0)∧Vars (grOf (a++b)) ρ'∧∀ i,i<(a++b).length→D (ρ' i):=by
 have hl:=Ybl ha hb
 have hw:Wf 2 (a++b):=Zfm ha hb
 have h0:=Zjo (a++b) hw
 have hap:=Zeg ha
 have hbp:=Zeg hb
 have hx:(0:Nat)<(grOf (a++b)).n:=by show 0<(a++b).length; simp; omega
 have hy:a.length<(grOf (a++b)).n:=by show a.length<(a++b).length; simp; omega
 obtain ⟨h1,h2⟩:=Ycu hl h0 hx hy (Zkf ha) (Ziy hb) hj hK hd
 have he:ρ' 0=ρ' a.length:=by simpa using hj.eq
 refine ⟨h1,h2,h0.vars' hj.grow,Ybv ha hb (fun i hi=>hj.cg i hi (h0.cg i hi)) hK hd (he ▸ hd)⟩
def rn (v:Nat) (s:Sym):Sym:=if s.name=[] then ⟨[],s.num+v,s.args⟩ else s
theorem Zlf {v k:Nat} {l:List Sym} (hw:Wf k l):ap (Zdm v) l=l.map (rn v):=by
 have h:∀ s ∈ l,ap1 (Zdm v) s=[rn v s]:=fun s hs=>by
  obtain ⟨i,hi⟩:=List.mem_iff_getElem?.1 hs
  have h1:=(Zix hw hi).1
  unfold ap1 rn
  by_cases hn:s.name=[]
  ·rw [if_pos hn,if_pos hn,h1 hn]; rfl
  ·rw [if_neg hn,if_neg hn]
 clear hw
 induction l with
 | nil=>rfl
 | cons s l ih =>
  rw [Zcj,h s (by simp),ih (fun t ht=>h t (by simp [ht]))]
  rfl
abbrev WordAt (w:World) (v:Value) (l:List Sym):Prop:=w.ownsRow 0 87 3 v l.length (Zah l)
theorem WordAt.ext {w w':World} {v:Value} {l:List Sym} (h:WordAt w v l) (e:Ext w w'):WordAt w' v l:=Zak h (fun j hj=>e.block j (h.lt j hj).2)
def TermsIn (w:World) (v:Value) (ls:List (List Sym)):Prop:=∃ vs,TermsAt w 0 v ls vs
theorem TermsIn.ext {w w':World} {v:Value} {ls:List (List Sym)} (h:TermsIn w v ls) (e:Ext w w'):TermsIn w' v ls:=by
 obtain ⟨vs,h⟩:=h
 exact ⟨vs,h.ext e⟩
theorem TermsAt.inn {w:World} {B:Nat} {v:Value} {ls:List (List Sym)} {vs:List Value} (h:TermsAt w B v ls vs):TermsIn w v ls:=⟨vs,Zbd h.owns (Qm _),h.all⟩
def TermsNew (F:Nat) (w:World) (v:Value) (ls:List (List Sym)):Prop:=∃ vs,TermsAt w 0 v ls vs∧(∀ j,v.ownBlock=some j→F≤j)∧∀ x ∈ vs,∀ j,x.ownBlock=some j→F≤j
theorem TermsNew.inn {F:Nat} {w:World} {v:Value} {ls:List (List Sym)} (h:TermsNew F w v ls):TermsIn w v ls:=by
 obtain ⟨vs,h,_⟩:=h
 exact ⟨vs,h⟩
theorem TermsNew.ext {F:Nat} {w w':World} {v:Value} {ls:List (List Sym)} (h:TermsNew F w v ls) (e:Ext w w'):TermsNew F w' v ls:=by
 obtain ⟨vs,h,h1⟩:=h
 exact ⟨vs,h.ext e,h1⟩
theorem TermsNew.mono {F F':Nat} {w:World} {v:Value} {ls:List (List Sym)} (h:TermsNew F w v ls) (hF:F'≤F):TermsNew F' w v ls:=by
 obtain ⟨vs,h,h1,h2⟩:=h
 exact ⟨vs,h,fun j hj=>Qq hF (h1 j hj),fun x hx j hj=>Qq hF (h2 x hx j hj)⟩
theorem TermsNew.box {F:Nat} {w w':World} {M:Nat} {cs:Array Value} {t:TypeId} {fr:Nat × Nat} {v:Value} {ls:List (List Sym)} (h:TermsNew F w v ls) (hM:w.heap[M]?=some (.cells cs t fr)) (h1:59≠t) (h2:87≠t) (hk:Kept (fun k=>k=M) w w'):TermsNew F w' v ls:=by
 obtain ⟨vs,h,h3⟩:=h
 exact ⟨vs,h.box hM h1 h2 hk,h3⟩
structure ClsIn (w:World) (hv bv vv:Value) (c:Cls):Prop where
 head:WordAt w hv c.head
 body:TermsIn w bv c.body
 names:w.ownsRow 0 9 1 vv c.names.length (strs c.names)
theorem ClsIn.ext {w w':World} {hv bv vv:Value} {c:Cls} (h:ClsIn w hv bv vv c) (e:Ext w w'):ClsIn w' hv bv vv c :=
 ⟨h.head.ext e,h.body.ext e,Zak h.names (fun j hj=>e.block j (h.names.lt j hj).2)⟩
theorem BodyRow.terms {w:World} {B Sa:Nat} {v:Value} {ls:List (List Sym)} {vs:List Value} (h:BodyRow w B Sa v ls vs):TermsIn w v ls :=
 ⟨vs,Zbd h.1 (Qm _),fun i l hl=>by
  obtain ⟨x,h1,h2⟩:=h.2 i l hl
  exact ⟨x,h1,Zbd h2.1 (Qm _)⟩⟩
structure ProgIn (w:World) (v:Value) (cs:List Cls) (xs:List (List Value)):Prop where
 owns:w.ownsRow 0 62 3 v cs.length xs.flatten
 len:xs.length=cs.length
 three:∀ x ∈ xs,x.length=3
 all:∀ (i:Nat) (c:Cls),cs[i]?=some c→∃ hv bv vv,xs[i]?=some [hv,bv,vv]∧ClsIn w hv bv vv c
theorem ProgIn.ext {w w':World} {v:Value} {cs:List Cls} {xs:List (List Value)} (h:ProgIn w v cs xs) (e:Ext w w'):ProgIn w' v cs xs :=
 ⟨Zak h.owns (fun j hj=>e.block j (h.owns.lt j hj).2),h.len,h.three,fun i c hc=>by
  obtain ⟨hv,bv,vv,h1,h2⟩:=h.all i c hc
  exact ⟨hv,bv,vv,h1,h2.ext e⟩⟩
theorem CCRow.prog {w:World} {B Sa Sb:Nat} {v:Value} {cs:List Cls} {xs:List (List Value)} (h:CCRow w B Sa Sb v cs xs):ProgIn w v cs xs :=
 ⟨Zbd h.1 (Qm _),h.2.1,h.2.2.1,fun i c hc=>by
  obtain ⟨hv,bv,vv,us,h1,h2,h3,h4,h5,h6⟩:=h.2.2.2 i c hc
  exact ⟨hv,bv,vv,h1,Zbd h2.1 (Qm _),h3.terms,Zbd h5 (Qm _)⟩⟩
structure NodeIn (w:World) (gv vv rv:Value) (n:ND):Prop where
 goals:TermsIn w gv (n.goals.map (·.1))
 vals:TermsIn w vv n.vals
 done:TermsIn w rv (n.done.map (·.1))
structure NodeNew (F:Nat) (w:World) (gv vv rv:Value) (n:ND):Prop where
 goals:TermsNew F w gv (n.goals.map (·.1))
 vals:TermsNew F w vv n.vals
 done:TermsNew F w rv (n.done.map (·.1))
theorem NodeIn.ext {w w':World} {gv vv rv:Value} {n:ND} (h:NodeIn w gv vv rv n) (e:Ext w w'):NodeIn w' gv vv rv n:=⟨h.goals.ext e,h.vals.ext e,h.done.ext e⟩
theorem CellsOf.sz {gs:List GC} {l:List Sym} (h:CellsOf gs l) (f:Nat→Int):CellsOf (YtlmjilpjmgjjcaaDoor.sz gs f) l :=
 ⟨by rw [Zed]; exact h.len,fun i c hc=>by
  simp only [YtlmjilpjmgjjcaaDoor.sz,List.getElem?_mapIdx,Option.map_eq_some_iff] at hc
  obtain ⟨d,hd,rfl⟩:=hc
  exact h.all i d hd⟩
theorem Zyd (w:World) (v1 v2:Value) (a b:List Sym) (h1:WordAt w v1 a) (h2:WordAt w v2 b) (ha:Wf 1 a) (hb:Wf 1 b) (hal:a.length≤1000) (hbl:b.length≤1000) (hn:∀ s ∈ a++b,s.num≤200000) :
  Calls Tryd.prog 61 #[v1,v2] w (Ztz a b w):=by
 have hapos:=Zeg ha
 have hbpos:=Zeg hb
 obtain ⟨g1,cap1,cur1,rfl,_,hg1,hc1⟩:=Zat h1 (by omega)
 obtain ⟨g2,cap2,cur2,rfl,_,hg2,hc2⟩:=Zat h2 (by omega)
 have z1:((a.length:Int) == 0)=false:=by rw [Qu]; omega
 have z2:((b.length:Int) == 0)=false:=by rw [Qu]; omega
 obtain ⟨l,hl⟩:∃ l,l=a++b:=⟨_,rfl⟩
 have hw:Wf 2 l:=by rw [hl]; exact Zfm ha hb
 have hll:l.length=a.length+b.length:=by rw [hl]; simp
 have hE0:Ext w (w.alloc (.cells #[.slice none 0 0] 117)):=(Ext.of (by repeat' (first | with_reducible(first|exact Qx _ _|apply Kept.drew|apply Kept.drewN|apply Qz|refine Qy ?_ ?_ _)|exact fun h=>absurd h (by simp <;> omega))))
 have HL:=Zac (Zxy (w.alloc (.cells #[.slice none 0 0] 117)) _ _ a b (WordAt.ext h1 hE0) (WordAt.ext h2 hE0) ha hb hal hbl)
 have Hw:=Zac hw
 have Ha:=Zac ha
 have Hb:=Zac hb
 have Hl:=Zac hl
 have Hn:Hid (∀ i,(Zau l i).num≤200000):=fun i=>by
  rw [hl]
  by_cases hi:i<(a++b).length
  ·have:Zau (a++b) i ∈ a++b:=by
    unfold Zau
    rw [List.getD_eq_getElem?_getD,Qb hi]
    simp
   exact hn _ this
  ·unfold Zau
   rw [List.getD_eq_getElem?_getD,List.getElem?_eq_none (by omega)]
   simp
 rw [← hl] at HL
 clear h1 h2 hw ha hb hl hn hg1 hg2 hc1 hc2
 go_enter Tryd.func61,Tryd.ntmps61
 go_wp2_with fail
 refine HL.out.mono ?_
 rintro e w1 ⟨v,rfl,hrow,hext,hown⟩
 have hc:=Zya l
 have hup:=Ygp Hw.out
 have hgl:(Zfs l (Zdo l) 0).length=l.length:=hc.len
 have hsz1:=hext.size
 have hsz1:w.heap.size+1≤w1.heap.size:=by simpa using hsz1
 obtain ⟨gs,hgs⟩:∃ gs,gs=Zfs l (Zdo l) 0:=⟨_,rfl⟩
 have hzs:∀ gs',gs'.map (·.size)=gs.map (·.size)→sz gs' (fun _=>0)=gs':=fun gs' h=>Ybw (by rw [h,hgs])
 rw [← hgs] at hc hup hgl hrow
 clear hgs
 have hG:GAt (w1.alloc (.cells #[v] 126)) w1.heap.size v gs:=⟨heap_alloc_new w1 _,by rw [hgl]; exact Zak hrow (fun j hj=>Below.heap_alloc _ _ _ (hrow.lt j hj).2)⟩
 obtain ⟨va,vcap,rfl⟩:=Zad hrow
 have hblk1:w1.heap[w.heap.size]?=some (.cells #[.slice none 0 0] 117 (0,0)):=(hext.block _ (by simp)).trans (heap_alloc_new w _)
 have hE1:Ext w (w1.alloc (.cells #[.slice va l.length vcap] 126)):=(hE0.trans (hext.mono (by simp))).alloc (by omega) _
 have HJ:=Zac (Yee _ (w1.alloc (.cells #[.slice va l.length vcap] 126)) w1.heap.size _ gs l _ _ 0 a.length hG hc Hw.out hup (Qe _) (by omega) (by omega) (by omega))
 have Hgl:=Zac hgl
 have Hll:=Zac hll
 have hl2:l.length≤2000:=by omega
 have Hc:=Zac hc
 have Hup:=Zac hup
 have Hzs:=Zac hzs
 have Hown:=Zac hown
 have Hblk1:=Zac hblk1
 have HE1:=Zac hE1
 clear hc hup hG hzs hown hblk1 hE1 hext hrow hgl hll hE0 HL z1 z2
 go_wp2_with fail
 refine HJ.out.mono ?_
 rintro e w2 ⟨gs',hJ,ρ',rk',hup',hout⟩
 have hgl:=Hgl.out
 have hll:=Hll.out
 have hsz2:=hJ.kept.size
 have hsz2:w1.heap.size+1≤w2.heap.size:=by simpa using hsz2
 have hlen':=hJ.len
 have hbel2:Below (w.heap.size+1) (w1.alloc (.cells #[.slice va l.length vcap] 126)) w2:=hJ.kept.below (by simp; omega) (fun j hj=>by have:=Hown.out j hj; simpa using this)
 have hE2:Ext w w2:=HE1.out.trans (hbel2.mono (by omega))
 have hblk2:w2.heap[w.heap.size]?=some (.cells #[.slice none 0 0] 117 (0,0)):=(hbel2.block _ (by omega)).trans ((Below.heap_alloc _ _ _ (by omega)).trans Hblk1.out)
 have hr0:=Zaa hblk2 0 _ rfl
 have hrf:=fun i=>Zae hblk2 i
 have hrl:=Zab hblk2
 have hlay:Lay (grOf l) (tmAt l) a b:=by rw [Hl.out]; exact Ybl Ha.out Hb.out
 have hx:(0:Nat)<(grOf l).n:=by show 0<l.length; omega
 have hy:a.length<(grOf l).n:=by show a.length<l.length; omega
 have ht0:tmAt l 0=a:=by rw [Hl.out]; exact Zkf Ha.out
 have ht1:tmAt l a.length=b:=by rw [Hl.out]; exact Ziy Hb.out
 have HE2:=Zac hE2
 have Hblk2:=Zac hblk2
 clear hbel2 hE2 hblk2
 rcases hout with ⟨rfl,hj⟩ | ⟨rfl,hcl⟩
 ·have hG2:GAt w2 w1.heap.size (.slice va l.length vcap) (sz gs' (fun _=>0)):=by rw [Hzs.out gs' hJ.sizes]; exact hJ.at'
  have HM:=Zac (Yeg _ w2 w1.heap.size (.slice va l.length vcap) gs' l ρ' rk' (fun _=>0) (fun _=>[]) 0 hG2 hJ.cells Hw.out hup' (fun j _=>Or.inl rfl) (Qe _) (by omega) (by omega) ⟨fun r h=>absurd h.2 (Int.lt_irrefl _),fun r h=>absurd h.2 (Int.lt_irrefl _),fun r h=>absurd h.2 (Int.lt_irrefl _)⟩)
  have Hj:=Zac hj
  have Hup':=Zac hup'
  have HJc:=Zac hJ.cells
  have Hlay:=Zac hlay
  have hgl':gs'.length=(a++b).length:=by rw [hlen',hgl,Hl.out]
  have Hgl':=Zac hgl'
  clear hj hup' hJ hlay hG2 hgl' hlen' hgl hll ht0 ht1 HJ
  go_wp2_with fail
  refine HM.out.mono ?_
  rintro e w3 ⟨f',hG3,hk3,hout⟩
  have hsz3:=hk3.size
  have hbel3:Below (w.heap.size+1) w2 w3:=hk3.below (by omega) (fun j hj=>by have:=Hown.out j hj; simpa using this)
  have hE3:Ext w w3:=HE2.out.trans (hbel3.mono (by omega))
  have hblk3:w3.heap[w.heap.size]?=some (.cells #[.slice none 0 0] 117 (0,0)):=(hbel3.block _ (by omega)).trans Hblk2.out
  have hr0:=Zaa hblk3 0 _ rfl
  have hrf:=fun i=>Zae hblk3 i
  have hrl:=Zab hblk3
  have HE3:=Zac hE3
  have Hblk3:=Zac hblk3
  have HG3:=Zac hG3
  clear hbel3 hE3 hblk3 hk3 hG3
  have ht0:tmAt l 0=a:=by rw [Hl.out]; exact Zkf Ha.out
  have ht1:tmAt l a.length=b:=by rw [Hl.out]; exact Ziy Hb.out
  rcases hout with ⟨T,rfl,hso,_,hK,hD,_,_⟩ | ⟨rfl,hst⟩
  ·have hj:=Hj.out
   clear ht0 ht1
   have hl:=Hl.out
   subst hl
   have hgl':=Hgl'.out
   obtain ⟨hmg,hap,hvs,hall⟩:=Yby Ha.out Hb.out hj hK hD
   have hap':(ap (Zea (grOf (a++b)) ρ' (dnF gs'.length f') T) a).length=(T (ρ' 0)).length:=by rw [hap]
   obtain ⟨L,hL⟩:∃ L,L=(T (ρ' 0)).length:=⟨_,rfl⟩
   rw [← hL] at hap' ⊢
   by_cases hbig:30<L
   ·have hva:Vast a b:=hmg.small (by omega)
    have Hva:=Zac hva
    have m1:min 31 L=31:=by omega
    rw [m1]
    clear hva hmg hap hvs hall hK hD hso hj hL hap' Hj hgl' HM
    go_wp2
    refine bodyPost_ret (v := .tuple #[.agg #[.slice none 0 0],.int .i64 2]) (by simp [results,Tryd.results61,go_sem,hr0,hrf,hrl]) rfl ?_
    exact ⟨HE3.out.setCell (p:=⟨w.heap.size,0,none⟩) (Qe _) _,none,0,0,2,rfl,Or.inr (Or.inl ⟨rfl,Hva.out⟩)⟩
   ·have hsmall:∀ i,i<(sz gs' f').length→(Zau (a++b) i).name=[]→(T (ρ' i)).length≤4000:=fun i hi hn=>by
     have hi:i<(a++b).length:=by rw [Zed] at hi; omega
     have h1:=Zoc hmg (by omega) (Ybx hi hn)
     rw [show Zea (grOf (a++b)) ρ' (dnF gs'.length f') T (Zau (a++b) i).num=T (ρ' i) from Zon (G:=grOf (a++b)) hvs hi hn (hall i hi)] at h1
     omega
    have HS:=Zac (Zkw w3 w1.heap.size (.slice va (a++b).length vcap) (sz gs' f') (a++b) ρ' rk' (dnF gs'.length f') T HG3.out (HJc.out.sz f') Hw.out (by rw [Yhw]; exact Hup'.out) hK (fun i hi=>hall i (by rw [Zed] at hi; omega)) hvs (by rw [Zed]; omega) hsmall Hn.out)
    have Hmg:=Zac hmg
    have HK:=Zac hK
    have Hvs:=Zac hvs
    have Hall:=Zac hall
    have Hap':=Zac hap'
    have m1:min 31 L=L:=by omega
    have m2:¬ ((L:Int) = -1):=by omega
    have m3:¬ ((30:Int)<L):=by omega
    have m4:((L:Int) == -1)=false:=by rw [Qu]; omega
    rw [m1]
    clear hmg hap hvs hall hK hD hso hj hL hap' Hj hsmall hgl' HM
    go_wp2_with fail
    refine HS.out.mono ?_
    rintro e w4 ⟨tv,ts,vs,rfl,hts,hok,hE4,htl⟩
    obtain ⟨ta,tcap,rfl⟩:=Zad hts.owns
    have hblk4:=(hE4.block _ hrl).trans Hblk3.out
    have hr0:=Zaa hblk4 0 _ rfl
    have hrf:=fun i=>Zae hblk4 i
    have hrl4:=Zab hblk4
    have hsb:=Ygr hok HK.out Hvs.out Hall.out
    have hK4:Kept (fun j=>j=w.heap.size) w4 (w4.setCell ⟨w.heap.size,0,none⟩ (.slice ta ts.length tcap)):=(Qx (only w.heap.size) w4).put 0 _
    have hTI:=(hts.box hblk4 (by decide) (by decide) hK4).inn
    have hout:Ztz a b w (.returned (.tuple #[.agg #[.slice ta ts.length tcap],.int .i64 1])) (w4.setCell ⟨w.heap.size,0,none⟩ (.slice ta ts.length tcap)):=by
     obtain ⟨vs',hTI⟩:=hTI
     refine ⟨(HE3.out.trans (hE4.mono HE3.out.size)).setCell (p:=⟨w.heap.size,0,none⟩) (Qe _) _,ta,ts.length,tcap,1,rfl,Or.inr (Or.inr ⟨rfl,ts,vs',hTI,by rw [hsb]; exact Hmg.out,by rw [hsb,Hap'.out]; omega,htl,fun t ht => ?_⟩)⟩
     obtain ⟨n,hn⟩:=List.mem_iff_getElem?.1 ht
     rcases hok.only n t hn with rfl | ⟨i,hi,hni,_,rfl⟩
     ·simp
     ·have h1:=Zoc Hmg.out (by rw [Hap'.out]; omega) (Ybx hi hni)
      rw [show Zea (grOf (a++b)) ρ' (dnF gs'.length f') T (Zau (a++b) i).num=T (ρ' i) from Zon (G:=grOf (a++b)) Hvs.out hi hni (Hall.out i hi)] at h1
      exact h1
    have Hout:=Zac hout
    clear hout hTI hK4 hsb hok hts hE4 hblk4
    go_wp2
    refine bodyPost_ret (v := .tuple #[.agg #[.slice ta ts.length tcap],.int .i64 1]) (by simp [results,Tryd.results61,go_sem,hr0,hrf,hrl4]) rfl ?_
    exact Hout.out
  ·have hno:NoFit a b:=Yct Hlay.out (Zjo l Hw.out) hx hy ht0 ht1 Hj.out (i:=0) (fun val hv hc=>by
    obtain ⟨r,hr,_⟩:=hst val hv hc
    simp at hr)
   have Hno:=Zac hno
   clear hno hst ht0 ht1 HM
   go_wp2
   refine bodyPost_ret (v := .tuple #[.agg #[.slice none 0 0],.int .i64 0]) (by simp [results,Tryd.results61,go_sem,hr0,hrf,hrl]) rfl ?_
   exact ⟨HE3.out.setCell (p:=⟨w.heap.size,0,none⟩) (Qe _) _,none,0,0,0,rfl,Or.inl ⟨rfl,Hno.out⟩⟩
 ·have hno:=Ycs hlay (Zjo l Hw.out) hx hy ht0 ht1 hcl
  have Hno:=Zac hno
  clear hno hcl hJ hup' hlay ht0 ht1 hlen' hgl hll HJ
  go_wp2
  refine bodyPost_ret (v := .tuple #[.agg #[.slice none 0 0],.int .i64 0]) (by simp [results,Tryd.results61,go_sem,hr0,hrf,hrl]) rfl ?_
  exact ⟨HE2.out.setCell (p:=⟨w.heap.size,0,none⟩) (Qe _) _,none,0,0,0,rfl,Or.inl ⟨rfl,Hno.out⟩⟩
theorem Zhv (w:World) (v:Value) (a:List Sym) (m:Nat) (h:WordAt w v a) (hl:a.length≤1000) (hn:∀ s ∈ a,s.num≤200000) (hm:m≤200000) :
  Calls Tryd.prog 34 #[v,.int .i64 m] w (Ziz (a.map (rn m)) w):=by
 obtain ⟨va,vcap,rfl⟩:=Zad h
 have H:=Zac h
 have Hn:=Zac hn
 clear h hn
 go_enter Tryd.func34,Tryd.ntmps34
 go_wp2
 go_loopg [5,10] (a.length+1) (fun gk tv iv wr=>∃ (k:Nat),iv = .int .i64 k∧k≤a.length∧a.length - k<gk∧Ext w wr∧wr.ownsRow w.heap.size 87 3 tv k (Zah ((a.take k).map (rn m))))
 case atStart=>exact ⟨0,by go_num,Qm _,by omega,Below.refl _ _,World.ownsRow_nil _ _ _ _⟩
 case round =>
  obtain ⟨k,rfl,hk,hgk,hext,hown⟩:=hrel
  obtain ⟨ta,tcap,rfl⟩:=Zad hown
  have hsr:=hext.size
  have Hext:=Zac hext
  have Hown:=Zac hown
  clear hext hown
  by_cases hlt:k<a.length
  ·obtain ⟨s,hs⟩:∃ s,a[k]?=some s:=⟨_,Qb hlt⟩
   obtain ⟨g,cap',cur,he,_,hgb,_⟩:=Zat H.out (by omega)
   simp only [Value.slice.injEq] at he
   obtain ⟨rfl,_,rfl⟩:=he
   have ho:=Zak H.out (fun j hj=>Hext.out.block j (H.out.lt j hj).2)
   have hgw:=Zab hgb
   have hgr:g<wr.heap.size:=by omega
   have e0:wr.cell? ⟨g,k * 3,none⟩=some (.string ⟨s.name.toArray⟩):=Zag ho _ _ (by have:=Zaz a k s hs 0 (by omega); rw [Nat.add_zero] at this; rw [this]; rfl)
   have e1:wr.cell? ⟨g,k * 3+1,none⟩=some (.int .i64 s.num):=Zag ho _ _ (by rw [Zaz a k s hs 1 (by omega)]; rfl)
   have e2:wr.cell? ⟨g,k * 3+2,none⟩=some (.int .i64 s.args):=Zag ho _ _ (by rw [Zaz a k s hs 2 (by omega)]; rfl)
   have hnx:a.take (k+1)=a.take k++[s]:=by rw [List.take_add_one,hs]; rfl
   have hsn:=Hn.out s (Qh hs)
   have Hnx:=Zac hnx
   clear hs ho hnx hgb
   cases hnm:s.name with
   | nil =>
    rw [hnm] at e0
    have hrs:rn m s=⟨[],s.num+m,s.args⟩:=by unfold rn; rw [if_pos hnm]
    have Hrs:=Zac hrs
    clear hnm hrs
    have hE:Ext wr (wr.alloc (.cells #[.string ⟨#[]⟩,.int .i64 ((s.num:Int)+m),.int .i64 s.args] 87)):=(Ext.of (by repeat' (first | with_reducible(first|exact Qx _ _|apply Kept.drew|apply Kept.drewN|apply Qz|refine Qy ?_ ?_ _)|exact fun h=>absurd h (by simp <;> omega))))
    have Hown1:Hid ((wr.alloc (.cells #[.string ⟨#[]⟩,.int .i64 ((s.num:Int)+m),.int .i64 s.args] 87)).ownsRow w.heap.size 87 3 (.slice ta k tcap) k (Zah ((a.take k).map (rn m)))):=Zak Hown.out (fun j hj=>hE.block j (Hown.out.lt j hj).2)
    have HE:=Zac hE
    clear hE
    go_wp2_with (at_builtin; go_loud (refine Zan (wr.alloc (.cells #[.string ⟨#[]⟩,.int .i64 ((s.num:Int)+m),.int .i64 s.args] 87)) rfl (.tmp 22) (.tmp 24) 59 rfl w.heap.size 87 Tryd.infoSym Tryd.underlying59 rfl (by decide) (.slice ta k tcap) k (Zah ((a.take k).map (rn m))) rfl Hown1.out #[.string ⟨#[]⟩,.int .i64 ((s.num:Int)+m),.int .i64 s.args] (N:=wr.heap.size+1) rfl (by simp) rfl (Zgu _ _ _) ?_ ?_ ?_))
    ·omega
    ·simp; omega
    intro v1 w1 hap
    obtain ⟨a1,c1,rfl⟩:=Zad hap.owns
    have Hap:=Zac hap
    clear hap
    go_wp2
    go_roundg (a.length - k)
    case measure=>omega
    case rel =>
     refine ⟨k+1,by go_num,by omega,by omega,?_,?_⟩
     ·exact Hext.out.trans ((HE.out.mono hsr).trans (Hap.out.kept.below (by simp; omega) (fun j hj=>(Hown1.out.lt j hj).1)))
     ·have:=Hap.out.owns
      rw [Hnx.out,Qr,Zcy]
      simpa [Zah,Zbr,Hrs.out] using this
   | cons x xs =>
    have hrs:rn m s=s:=by unfold rn; rw [if_neg (by rw [hnm]; simp)]
    have hE:Ext wr (wr.alloc (.cells #[.string ⟨(x::xs).toArray⟩,.int .i64 s.num,.int .i64 s.args] 87)):=(Ext.of (by repeat' (first | with_reducible(first|exact Qx _ _|apply Kept.drew|apply Kept.drewN|apply Qz|refine Qy ?_ ?_ _)|exact fun h=>absurd h (by simp <;> omega))))
    have Hown1:Hid ((wr.alloc (.cells #[.string ⟨(x::xs).toArray⟩,.int .i64 s.num,.int .i64 s.args] 87)).ownsRow w.heap.size 87 3 (.slice ta k tcap) k (Zah ((a.take k).map (rn m)))):=Zak Hown.out (fun j hj=>hE.block j (Hown.out.lt j hj).2)
    have HE:=Zac hE
    have hrs':rn m s=⟨x::xs,s.num,s.args⟩:=by rw [hrs,← hnm]
    have Hrs:=Zac hrs'
    rw [hnm] at e0
    clear hnm hrs hE hrs'
    go_wp2_with (at_builtin; go_loud (refine Zan (wr.alloc (.cells #[.string ⟨(x::xs).toArray⟩,.int .i64 s.num,.int .i64 s.args] 87)) rfl (.tmp 22) (.tmp 24) 59 rfl w.heap.size 87 Tryd.infoSym Tryd.underlying59 rfl (by decide) (.slice ta k tcap) k (Zah ((a.take k).map (rn m))) rfl Hown1.out #[.string ⟨(x::xs).toArray⟩,.int .i64 s.num,.int .i64 s.args] (N:=wr.heap.size+1) rfl (by simp) rfl (Zgu _ _ _) ?_ ?_ ?_))
    ·omega
    ·simp; omega
    intro v1 w1 hap
    obtain ⟨a1,c1,rfl⟩:=Zad hap.owns
    have Hap:=Zac hap
    clear hap
    go_wp2
    go_roundg (a.length - k)
    case measure=>omega
    case rel =>
     refine ⟨k+1,by go_num,by omega,by omega,?_,?_⟩
     ·exact Hext.out.trans ((HE.out.mono hsr).trans (Hap.out.kept.below (by simp; omega) (fun j hj=>(Hown1.out.lt j hj).1)))
     ·have:=Hap.out.owns
      rw [Hnx.out,Qr,Zcy]
      simpa [Zah,Zbr,Hrs.out] using this
  ·have hek:k=a.length:=by omega
   subst hek
   go_wp2
   go_ret
   refine ⟨_,w.heap.size,rfl,Qe _,?_,Hext.out⟩
   have:=Hown.out
   rw [List.take_length] at this
   simpa using this
def tOf (ts:List (List Sym)) (s:Sym):List Sym:=if s.name=[] then (ts[s.num]?).getD [] else []
theorem Ygt {ts:List (List Sym)} {s:Sym} (h:tOf ts s=[]) (ha:s.name=[]→s.args=0):ap1 (sbOf ts) s=[s]:=by
 unfold ap1
 by_cases hn:s.name=[]
 ·rw [if_pos hn]
  unfold tOf at h
  rw [if_pos hn] at h
  unfold sbOf
  have hs:vr s.num=[s]:=by
   have:=ha hn
   cases s
   simp at hn this
   subst hn this
   rfl
  cases ht:ts[s.num]? with
  | none=>exact hs
  | some t=>rw [ht] at h; simp at h; subst h; exact hs
 ·rw [if_neg hn]
theorem Yej {ts:List (List Sym)} {s t0:Sym} {t:List Sym} (h:tOf ts s=t0::t):ap1 (sbOf ts) s=t0::t:=by
 unfold tOf at h
 by_cases hn:s.name=[]
 ·rw [if_pos hn] at h
  unfold ap1
  rw [if_pos hn]
  unfold sbOf
  cases ht:ts[s.num]? with
  | none=>rw [ht] at h; simp at h
  | some u=>rw [ht] at h; simp at h; subst h; rfl
 ·rw [if_neg hn] at h; simp at h
def Ybz (ts:List (List Sym)) (s:Sym) (w:World) (e:Ending) (w':World):Prop:=Ext w w'∧∃ x,e = .returned x∧WordAt w' x (tOf ts s)
theorem Zye (w:World) (tv:Value) (ts:List (List Sym)) (vs:List Value) (s:Sym) (h:TermsAt w 0 tv ts vs) (hl:ts.length≤200001) (hn:s.num≤200000) :
  Calls Tryd.prog 95 #[.agg #[tv],.agg #[.string ⟨s.name.toArray⟩,.int .i64 s.num,.int .i64 s.args]] w (Ybz ts s w):=by
 obtain ⟨ta,tcap,rfl⟩:=Zad h.owns
 have HE:Hid (∀ o o',Ext w ((w.alloc o).alloc o')):=fun o o'=>(Ext.of (by repeat' (first | with_reducible(first|exact Qx _ _|apply Kept.drew|apply Kept.drewN|apply Qz|refine Qy ?_ ?_ _)|exact fun h=>absurd h (by simp <;> omega))))
 cases hnm:s.name with
 | cons x xs =>
  have Ht:Hid (tOf ts s=[]):=by show _=_; unfold tOf; rw [if_neg (by rw [hnm]; simp)]
  clear h hnm
  go_enter Tryd.func95,Tryd.ntmps95
  go_wp2
  go_ret
  exact ⟨HE.out _ _,_,rfl,by rw [Ht.out]; exact World.ownsRow_nil _ _ _ _⟩
 | nil =>
  have h0:(0:Int)≤(s.num:Int):=by omega
  by_cases hlt:s.num<ts.length
  ·have hlt':(s.num:Int)<(ts.length:Int):=by omega
   obtain ⟨t,ht⟩:∃ t,ts[s.num]?=some t:=⟨_,Qb hlt⟩
   obtain ⟨x,hx,hxo⟩:=h.all _ t ht
   obtain ⟨xa,xcap,rfl⟩:=Zad hxo
   obtain ⟨g,tcap',cur,he,_,hgb,hgc⟩:=Zat h.owns (by omega)
   simp only [Value.slice.injEq] at he
   obtain ⟨rfl,_,rfl⟩:=he
   have x0:w.cell? ⟨g,s.num,none⟩=some (.slice xa t.length xcap):=Zag h.owns _ _ hx
   have hgl:=Zab hgb
   have Ht:Hid (tOf ts s=t):=by show _=_; unfold tOf; rw [if_pos hnm,ht]; rfl
   have Hxo:Hid (WordAt w (.slice xa t.length xcap) t):=hxo
   clear h hnm ht hx hxo hgb hgc
   go_enter Tryd.func95,Tryd.ntmps95
   go_wp2
   go_ret
   exact ⟨HE.out _ _,_,rfl,by rw [Ht.out]; exact Hxo.out.ext (HE.out _ _)⟩
  ·have hlt':¬ (s.num:Int)<(ts.length:Int):=by omega
   have Ht:Hid (tOf ts s=[]):=by show _=_; unfold tOf; rw [if_pos hnm,List.getElem?_eq_none (by omega)]; rfl
   clear h hnm
   go_enter Tryd.func95,Tryd.ntmps95
   go_wp2
   go_ret
   exact ⟨HE.out _ _,_,rfl,by rw [Ht.out]; exact World.ownsRow_nil _ _ _ _⟩
def Yek (ts:List (List Sym)) (a:List Sym) (w:World) (e:Ending) (w':World):Prop:=Ext w w' ∧
 (((ap (sbOf ts) a).length≤30∧∃ x n c,e = .returned (.tuple #[.slice x n c,.bool true])∧w'.ownsRow w.heap.size 87 3 (.slice x n c) (ap (sbOf ts) a).length (Zah (ap (sbOf ts) a)))∨(30<(ap (sbOf ts) a).length∧e = .returned (.tuple #[.slice none 0 0,.bool false])))
theorem Zod (σ:Nat→List Sym) (a:List Sym) (k:Nat):(ap σ (a.take k)).length≤(ap σ a).length:=by
 have h:ap σ a=ap σ (a.take k)++ap σ (a.drop k):=by rw [← Zgh,List.take_append_drop]
 rw [h]; simp
def ApplyAt (w:World) (tv:Value) (ts:List (List Sym)) (a:List Sym) (k:Nat) (rv:Value) (wr:World):Prop :=
 Ext w wr∧wr.heap[w.heap.size]?=some (.cells #[tv] 117 (0,0))∧wr.ownsRow w.heap.size 87 3 rv (ap (sbOf ts) (a.take k)).length (Zah (ap (sbOf ts) (a.take k)))
theorem ApplyAt.app {w wr w1 w2:World} {tv rv rv2:Value} {ts:List (List Sym)} {a:List Sym} {k:Nat} {s:Sym} {m:List Sym} (h:ApplyAt w tv ts a k rv wr) (he:Ext wr w1) (hs:a[k]?=some s) (hm:ap1 (sbOf ts) s=m) (hap:Appended w1 w.heap.size 87 3 rv ((ap (sbOf ts) (a.take k)).length+m.length) (Zah (ap (sbOf ts) (a.take k))++Zah m) rv2 w2):ApplyAt w tv ts a (k+1) rv2 w2:=by
 obtain ⟨h1,h2,h3⟩:=h
 have hr:=Zak h3 (fun j hj=>he.block j (h3.lt j hj).2)
 have hb:=(he.block _ (Zab h2)).trans h2
 have hsz:=he.size
 have hnx:ap (sbOf ts) (a.take (k+1))=ap (sbOf ts) (a.take k)++m:=by
  rw [List.take_add_one,hs,Zgh,← hm]
  simp [ap]
 refine ⟨h1.trans ((he.mono h1.size).trans (hap.kept.below (Qq h1.size hsz) (fun j hj=>(hr.lt j hj).1))),(hap.kept.block _ (Zab hb) (Zaf hr (by decide) hb)).trans hb,?_⟩
 rw [hnx,Zcy,Qg]
 exact hap.owns
theorem Yca (w:World) (tv av:Value) (ts:List (List Sym)) (vs:List Value) (a:List Sym) (h:TermsAt w 0 tv ts vs) (hav:WordAt w av a) (hw:∃ k,Wf k a) (hl:ts.length≤200001) (ht:∀ t ∈ ts,t.length≤30) (hal:a.length≤1000) (hn:∀ s ∈ a,s.num≤200000) :
  Calls Tryd.prog 88 #[.agg #[tv],av] w (Yek ts a w):=by
 obtain ⟨ta,tcap,rfl⟩:=Zad h.owns
 obtain ⟨va,vcap,rfl⟩:=Zad hav
 have H:=Zac h
 have Hav:=Zac hav
 have Hn:=Zac hn
 have Ht:=Zac ht
 have Hw:=Zac hw
 clear h hav hn ht hw
 go_enter Tryd.func88,Tryd.ntmps88
 go_wp2
 go_loopg [6,12] (a.length+1) (fun gk rv iv wr=>∃ (k:Nat),iv = .int .i64 k∧k≤a.length∧a.length - k<gk∧(ap (sbOf ts) (a.take k)).length≤30∧ApplyAt w (.slice ta ts.length tcap) ts a k rv wr)
 case atStart=>exact ⟨0,by go_num,Qm _,by omega,by simp [ap],(Ext.of (by repeat' (first | with_reducible(first|exact Qx _ _|apply Kept.drew|apply Kept.drewN|apply Qz|refine Qy ?_ ?_ _)|exact fun h=>absurd h (by simp <;> omega)))),heap_alloc_new w _,World.ownsRow_nil _ _ _ _⟩
 case round =>
  obtain ⟨k,rfl,hk,hgk,h30,hA⟩:=hrel
  obtain ⟨ra,rcap,rfl⟩:=Zad hA.2.2
  have hsr:=hA.1.size
  have hb0:=Zab hA.2.1
  have s0:wr.cell? ⟨w.heap.size,0,none⟩=some (.slice ta ts.length tcap):=Zaa hA.2.1 0 _ rfl
  have HA:=Zac hA
  clear hA
  by_cases hlt:k<a.length
  ·obtain ⟨s,hs⟩:∃ s,a[k]?=some s:=⟨_,Qb hlt⟩
   obtain ⟨g,cap',cur,he,_,hgb,_⟩:=Zat Hav.out (by omega)
   simp only [Value.slice.injEq] at he
   obtain ⟨rfl,_,rfl⟩:=he
   have ho:=Zak Hav.out (fun j hj=>HA.out.1.block j (Hav.out.lt j hj).2)
   have hgw:=Zab hgb
   have hgr:g<wr.heap.size:=by omega
   have e0:wr.cell? ⟨g,k * 3,none⟩=some (.string ⟨s.name.toArray⟩):=Zag ho _ _ (by have:=Zaz a k s hs 0 (by omega); rw [Nat.add_zero] at this; rw [this]; rfl)
   have e1:wr.cell? ⟨g,k * 3+1,none⟩=some (.int .i64 s.num):=Zag ho _ _ (by rw [Zaz a k s hs 1 (by omega)]; rfl)
   have e2:wr.cell? ⟨g,k * 3+2,none⟩=some (.int .i64 s.args):=Zag ho _ _ (by rw [Zaz a k s hs 2 (by omega)]; rfl)
   have hsa:s.name=[]→s.args=0:=by obtain ⟨j,hj⟩:=Hw.out; exact (Zix hj hs).1
   have hE:Ext wr (wr.alloc (.cells #[.string ⟨s.name.toArray⟩,.int .i64 s.num,.int .i64 s.args] 87)):=(Ext.of (by repeat' (first | with_reducible(first|exact Qx _ _|apply Kept.drew|apply Kept.drewN|apply Qz|refine Qy ?_ ?_ _)|exact fun h=>absurd h (by simp <;> omega))))
   have HT:=Zac (Zye (wr.alloc (.cells #[.string ⟨s.name.toArray⟩,.int .i64 s.num,.int .i64 s.args] 87)) _ ts vs s (H.out.ext (HA.out.1.trans (hE.mono hsr))) hl (Hn.out s (Qh hs)))
   have htl:(tOf ts s).length≤30:=by
    unfold tOf
    split
    ·cases hq:ts[s.num]? with
     | none=>simp
     | some t=>exact Ht.out t (Qh hq)
    ·simp
   have Hs:=Zac hs
   have HE:=Zac hE
   have Hsa:=Zac hsa
   clear hs ho hgb hE hsa
   go_wp2_with fail
   refine HT.out.mono ?_
   rintro e w1 ⟨hE1,x,rfl,hx⟩
   obtain ⟨xa,xcap,rfl⟩:=Zad hx
   obtain ⟨t,hte⟩:∃ t,t=tOf ts s:=⟨_,rfl⟩
   have hE2:Ext wr w1:=HE.out.trans (hE1.mono (by simp))
   have hA1:ApplyAt w (.slice ta ts.length tcap) ts a k (.slice ra (ap (sbOf ts) (a.take k)).length rcap) w1:=by
    obtain ⟨q1,q2,q3⟩:=HA.out
    exact ⟨q1.trans (hE2.mono q1.size),(hE2.block _ (Zab q2)).trans q2,Zak q3 (fun j hj=>hE2.block j (q3.lt j hj).2)⟩
   have hbx:w1.heap[wr.heap.size]?=some (.cells #[.string ⟨s.name.toArray⟩,.int .i64 s.num,.int .i64 s.args] 87 (0,0)):=(hE1.block _ (by simp)).trans (heap_alloc_new wr _)
   have y0:=Zaa hbx 0 _ rfl
   have y1:=Zaa hbx 1 _ rfl
   have y2:=Zaa hbx 2 _ rfl
   have hby:=Zab hbx
   have hs1:=hE1.size
   have hs1:wr.heap.size+1≤w1.heap.size:=by simpa using hs1
   have s0:w1.cell? ⟨w.heap.size,0,none⟩=some (.slice ta ts.length tcap):=Zaa hA1.2.1 0 _ rfl
   obtain ⟨n0,hn0⟩:∃ n,n=(ap (sbOf ts) (a.take k)).length:=⟨_,rfl⟩
   obtain ⟨cs0,hcs0⟩:∃ c,c=Zah (ap (sbOf ts) (a.take k)):=⟨_,rfl⟩
   have Hrow:Hid (w1.ownsRow w.heap.size 87 3 (.slice ra n0 rcap) n0 cs0):=by rw [hn0,hcs0]; exact hA1.2.2
   rw [← hte] at hx htl ⊢
   rw [← hn0] at h30 ⊢
   have HA1:=Zac hA1
   have Hte:=Zac hte
   have Hn0:=Zac hn0
   have Hcs0:=Zac hcs0
   have Hx:=Zac hx
   clear hE1 hE2 hA1 hbx hte hn0 hcs0 hx e0 e1 e2 HT
   cases t with
   | nil =>
    have Hm:Hid (ap1 (sbOf ts) s=[s]):=Ygt Hte.out.symm Hsa.out
    go_wp2_with (at_builtin; go_loud (refine Zan w1 rfl (.tmp 22) (.tmp 24) 59 rfl w.heap.size 87 Tryd.infoSym Tryd.underlying59 rfl (by decide) (.slice ra n0 rcap) n0 cs0 rfl Hrow.out #[.string ⟨s.name.toArray⟩,.int .i64 s.num,.int .i64 s.args] (N:=w1.heap.size) rfl (by simp) rfl (Zgu _ _ _) ?_ ?_ ?_))
    ·omega
    ·omega
    intro v2 w2 hap
    obtain ⟨a2,c2,rfl⟩:=Zad hap.owns
    have hA2:ApplyAt w (.slice ta ts.length tcap) ts a (k+1) (.slice a2 (n0+1) c2) w2:=by
     have hA1:=HA1.out
     rw [← Hn0.out] at hA1
     refine hA1.app (w1:=w1) (m:=[s]) (Below.refl _ _) Hs.out Hm.out ?_
     rw [← Hn0.out,← Hcs0.out]
     simpa [Zah,Zbr] using hap
    have hl2:(ap (sbOf ts) (a.take (k+1))).length=n0+1:=by
     obtain ⟨qa,qc,qe⟩:=Zad hA2.2.2
     simp only [Value.slice.injEq] at qe
     exact qe.2.1.symm
    have HA2:=Zac hA2
    have Hl2:=Zac hl2
    clear hap hA2 hl2
    by_cases h31:n0+1≤30
    ·have h31':¬ ((30:Int)<((n0+1:Nat):Int)):=by omega
     go_wp2
     go_roundg (a.length - k)
     case measure=>omega
     case rel=>exact ⟨k+1,by go_num,by omega,by omega,by rw [Hl2.out]; exact h31,HA2.out⟩
    ·have h31':(30:Int)<((n0+1:Nat):Int):=by omega
     go_wp2
     go_ret2
     exact ⟨HA2.out.1,Or.inr ⟨by have:=Zod (sbOf ts) a (k+1); rw [Hl2.out] at this; omega,rfl⟩⟩
   | cons t0 t =>
    have Hm:Hid (ap1 (sbOf ts) s=t0::t):=Yej Hte.out.symm
    have HR:Hid (Zxf w1 3 (.slice xa (t0::t).length xcap) (t0::t).length (Zah (t0::t))):=Zrg Hx.out (Zsd _)
    obtain ⟨tl,htl'⟩:∃ n,n=(t0::t).length:=⟨_,rfl⟩
    have hpos:0<tl:=by rw [htl']; simp
    have hz:((tl:Int) == 0)=false:=by rw [Qu]; omega
    rw [← htl'] at HR htl ⊢
    have Htl:=Zac htl'
    clear htl'
    go_wp2_with (at_builtin; go_loud (refine Zil w1 rfl (.tmp 26) (.tmp 27) 59 rfl w.heap.size 87 Tryd.infoSym Tryd.underlying59 rfl (by decide) (.slice ra n0 rcap) n0 cs0 rfl Hrow.out (.slice xa tl xcap) tl (Zah (t0::t)) rfl HR.out ?_ ?_ ?_))
    ·omega
    ·omega
    intro v2 w2 hap
    obtain ⟨a2,c2,rfl⟩:=Zad hap.owns
    have hA2:ApplyAt w (.slice ta ts.length tcap) ts a (k+1) (.slice a2 (n0+tl) c2) w2:=by
     have hA1:=HA1.out
     rw [← Hn0.out] at hA1
     refine hA1.app (w1:=w1) (m:=t0::t) (Below.refl _ _) Hs.out Hm.out ?_
     rw [← Hn0.out,← Hcs0.out,← Htl.out]
     exact hap
    have hl2:(ap (sbOf ts) (a.take (k+1))).length=n0+tl:=by
     obtain ⟨qa,qc,qe⟩:=Zad hA2.2.2
     simp only [Value.slice.injEq] at qe
     exact qe.2.1.symm
    have HA2:=Zac hA2
    have Hl2:=Zac hl2
    clear hap hA2 hl2
    by_cases h31:n0+tl≤30
    ·have h31':¬ ((30:Int)<((n0+tl:Nat):Int)):=by omega
     go_wp2
     go_roundg (a.length - k)
     case measure=>omega
     case rel=>exact ⟨k+1,by go_num,by omega,by omega,by rw [Hl2.out]; exact h31,HA2.out⟩
    ·have h31':(30:Int)<((n0+tl:Nat):Int):=by omega
     go_wp2
     go_ret2
     exact ⟨HA2.out.1,Or.inr ⟨by have:=Zod (sbOf ts) a (k+1); rw [Hl2.out] at this; omega,rfl⟩⟩
  ·have hek:k=a.length:=by omega
   subst hek
   obtain ⟨n0,hn0⟩:∃ n,n=(ap (sbOf ts) (a.take a.length)).length:=⟨_,rfl⟩
   rw [← hn0] at h30 ⊢
   have Hn0:=Zac hn0
   clear hn0
   go_wp2
   go_ret2
   have hn0:=Hn0.out
   have hA:=HA.out
   rw [List.take_length] at hn0
   obtain ⟨q1,q2,q3⟩:=hA
   rw [List.take_length] at q3
   refine ⟨q1,Or.inl ⟨by omega,ra,n0,rcap,rfl,?_⟩⟩
   rw [hn0]
   exact q3
end Go.Proofs.YtlmjilpjmgjjcaaDoor
