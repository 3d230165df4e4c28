/-
  PROVED HERE: what the reference's 'Fit' tells of two terms that lie in memory: a widest substitution, none, or one that makes them too large (the conditions stand in the statement).
-/
import Derived.Test.YtlmjilpjmgjjcaaGreatDoorT7
namespace Go.Proofs.YtlmjilpjmgjjcaaGreatDoor
open Go.RowKit
set_option linter.unusedSimpArgs false
set_option linter.unusedVariables false
def fresh (st:List Nat):Nat:=(st.filter (fun n=>n == 0)).length
theorem fresh_set:∀ {st:List Nat} {x:Nat},st[x]?=some 0→fresh (st.set x 1)<fresh st:=by
 intro st
 induction st with
 | nil=>intro x h; simp at h
 | cons n st ih =>
  intro x h
  cases x with
  | zero=>simp at h; subst h; simp [fresh]
  | succ x =>
   have:=ih (x:=x) (by simpa using h)
   simp only [fresh,List.set_cons_succ,List.filter_cons] at this ⊢
   split <;> simp <;> omega
theorem Zxy:∀ {st:List Nat} {x:Nat},fresh (st.set x 2)≤fresh st:=by
 intro st
 induction st with
 | nil=>intro x; simp [fresh]
 | cons n st ih =>
  intro x
  cases x with
  | zero=>simp [fresh,List.filter_cons]; split <;> simp
  | succ x =>
   have:=ih (x:=x)
   simp only [fresh,List.set_cons_succ,List.filter_cons] at this ⊢
   split <;> simp <;> omega
def dn (st:List Nat):Nat→Prop:=fun i=>st[i]?=some 2
def on (st:List Nat):Nat→Prop:=fun i=>st[i]?=some 1
theorem CellsAt.other {w w':World} {B Bs n:Nat} {lv sv:Value} {cs:List CellS} {vs xs:List Value} (h:CellsAt w B lv cs vs) (hs:w.ownsRow Bs 3 1 sv n xs) (hap:∀ (j:Nat) (c:CellS) (v:Value),cs[j]?=some c→vs[j]?=some v→∀ k,v.ownBlock=some k→¬ Zbd sv k)
  (hk:Kept (Zbd sv) w w'):CellsAt w' B lv cs vs :=
 ⟨h.len,hk.owns h.owns (fun k e=>by
  obtain ⟨cur,hc⟩:=Zap h.owns k e
  exact Zah hs (by decide) hc),fun i c v h1 h2=>hk.owns (h.kids i c v h1 h2) (fun k e=>hap i c v h1 h2 k e)⟩
theorem Zvr (l:List Nat) (i n:Nat):(ints l).set i (.int .i64 n)=ints (l.set i n):=by simp [ints,List.map_set]
theorem on_set1 {st:List Nat} {x:Nat} (h:st[x]?=some 0) (j:Nat):on (st.set x 1) j↔on st j∨j=x:=by
 have hx:=(List.getElem?_eq_some_iff.1 h).1
 unfold on
 rw [List.getElem?_set]
 by_cases e:x=j
 ·subst e; simp [hx]
 ·simp [e]; exact fun e'=>absurd e'.symm e
theorem dn_set1 {st:List Nat} {x:Nat} (h:st[x]?=some 0) (j:Nat):dn (st.set x 1) j↔dn st j:=by
 have hx:=(List.getElem?_eq_some_iff.1 h).1
 unfold dn
 rw [List.getElem?_set]
 by_cases e:x=j
 ·subst e; rw [h]; simp [hx]
 ·simp [e]
theorem Zud {st:List Nat} {x:Nat} (hx:x<st.length) (j:Nat):dn (st.set x 2) j↔dn st j∨j=x:=by
 unfold dn
 rw [List.getElem?_set]
 by_cases e:x=j
 ·subst e; simp [hx]
 ·simp [e]; exact fun e'=>absurd e'.symm e
theorem on_set2 {st:List Nat} {x:Nat} (hx:x<st.length) (j:Nat):on (st.set x 2) j↔on st j∧j≠x:=by
 unfold on
 rw [List.getElem?_set]
 by_cases e:x=j
 ·subst e; simp [hx]
 ·simp [e]; exact fun _ e'=>absurd e'.symm e
theorem Zoz {st:List Nat} {x v:Nat} (h:∀ n ∈ st,n≤2) (hv:v≤2):∀ n ∈ st.set x v,n≤2:=by
 intro n hn
 rcases List.mem_or_eq_of_mem_set hn with h' | rfl
 ·exact h n h'
 ·exact hv
theorem Known.congr {G:Gr} {ρ:Nat→Nat} {D D':Nat→Prop} {T T':Nat→List Sym} (h:Known G ρ D T) (hd:∀ i,D' i↔D i) (ht:∀ i,D i→T' i=T i):Known G ρ D' T':=by
 refine ⟨fun r hr=>h.lt r ((hd r).1 hr),fun r hr => ?_,fun r hr k hk=>(hd _).2 (h.kid r ((hd r).1 hr) k hk)⟩
 have hr':=(hd r).1 hr
 rw [ht r hr',h.tm r hr']
 congr 2
 exact List.map_congr_left (fun k hk=>(ht _ (h.kid r hr' k hk)).symm)
def Zqf (m:Nat):Prop:=∀ (w:World) (B Bs:Nat) (lv sv:Value) (cs:List CellS) (vs:List Value) (ρ rk:Nat→Nat) (st:List Nat) (T:Nat→List Sym) (i:Nat),CellsAt w B lv cs vs→UpOk cs ρ rk→(gr cs).Ok→w.ownsRow Bs 3 1 sv st.length (ints st) →
 (∀ (j:Nat) (c:CellS) (v:Value),cs[j]?=some c→vs[j]?=some v→∀ k,v.ownBlock=some k→¬ Zbd sv k)→st.length=cs.length→(∀ n ∈ st,n≤2)→fresh st≤m→i<cs.length→cs.length≤4000→(∀ j,((gr cs).kids j).length≤4000)→Known (gr cs) ρ (dn st) T →
 Calls Tryz.prog 212 #[lv,.int .i64 i,sv] w fun e w'=>∃ (qv:Value) (st':List Nat) (T':Nat→List Sym),e = .returned qv∧w'.ownsRow Bs 3 1 sv st'.length (ints st')∧Kept (Zbd sv) w w'∧st'.length=st.length ∧
  ((qv = .bool true∧(∀ n ∈ st',n≤2)∧fresh st'≤fresh st∧Known (gr cs) ρ (dn st') T'∧dn st' (ρ i)∧(∀ j,on st' j↔on st j)∧(∀ j,dn st j→dn st' j∧T' j=T j))∨(qv = .bool false∧Stuck (gr cs) ρ (on st) i))
set_option maxRecDepth 10000 in
set_option maxHeartbeats 4000000 in
theorem ends_step (m:Nat) (IH:∀ k,k<m→Zqf k):Zqf m:=by
 intro w B Bs lv sv cs vs ρ rk st T i h hu hG hs hap hsl h2 hm hi hl hk4 hK
 have hrt:=hu.rt
 have hx:=hrt.lt i hi
 have rx:=hrt.idem i hi
 obtain ⟨x,hxe⟩:∃ x,x=ρ i:=⟨_,rfl⟩
 rw [← hxe] at hx rx
 obtain ⟨g,cap,cx,vx,rfl,hcx,hvx,hB,hgl,hcap,x0,x1,x2,x3,xf,hkx⟩:=h.at hx
 obtain ⟨xa,xcap,rfl⟩:=Zad hkx
 obtain ⟨gs,scap,scur,rfl,hBs,hsb,hscap⟩:=Zal hs (by omega)
 obtain ⟨n,hn⟩:∃ n,st[x]?=some n:=⟨_,List.getElem?_eq_getElem (by omega)⟩
 have s0:w.cell? ⟨gs,x,none⟩=some (.int .i64 n):=Zaf hs x _ (by simp [ints,hn])
 have sf:∀ j,w.frozen? ⟨gs,j,none⟩=false:=fun j=>Zae hsb j
 have hn2:=h2 n (List.mem_of_getElem? hn)
 have hxs:x<st.length:=by omega
 have Hr:=Zaa (Zqb w B _ cs vs ρ rk i h hu hi hl)
 rw [← hxe] at Hr
 have H:=Zaa h
 have Hu:=Zaa hu
 have HG:=Zaa hG
 have Hm:=Zaa hm
 have Hih:=Zaa IH
 have Hxe:=Zaa hxe
 have Hrx:=Zaa rx
 have Hcx:=Zaa hcx
 have Hkx:=Zaa hkx
 have Hs:=Zaa hs
 have Hap:=Zaa hap
 have H2:=Zaa h2
 have HK:=Zaa hK
 have Hn:=Zaa hn
 have Hwx:=Zaa hvx
 have Hk4:=Zaa hk4
 have Hsl:=Zaa hsl
 clear hsl
 clear h hu hG hm IH hxe rx hcx hkx hs hap h2 hK hn hvx hrt hsb hk4
 have hcase:n=0∨n=1∨n=2:=by omega
 rcases hcase with rfl | rfl | rfl
 ·have hk4:cx.kids.length≤4000:=by have:=Hk4.out x; rw [(Zec Hcx.out).2] at this; exact this
  go_enter Tryz.func212,Tryz.ntmps212
  go_wp2_with fail
  refine Hr.out.mono ?_
  rintro e w1 ⟨rfl,rfl⟩
  go_wp2
  go_loopg [8] (cx.kids.length+1) (fun gk iv wr=>∃ (k:Nat) (st':List Nat) (T':Nat→List Sym),iv = .int .i64 k∧k≤cx.kids.length∧cx.kids.length - k<gk∧wr.ownsRow Bs 3 1 (.slice (some ⟨gs,0,none⟩) st.length scap) st'.length (ints st')∧Kept (Zbd (.slice (some ⟨gs,0,none⟩) st.length scap)) w1 wr ∧
    st'.length=st.length∧(∀ n ∈ st',n≤2)∧fresh st'<fresh st∧Known (gr cs) ρ (dn st') T'∧(∀ j ∈ cx.kids.take k,dn st' (ρ j))∧(∀ j,on st' j↔on st j∨j=x)∧(∀ j,dn st j→dn st' j∧T' j=T j))
  case atStart =>
   refine ⟨0,st.set x 1,T,by go_num,Nat.zero_le _,by omega,?_,Zfj _ _ _ _ _ _,by simp,Zoz H2.out (by omega),fresh_set Hn.out,HK.out.congr (dn_set1 Hn.out) (fun _ _=>rfl),by simp,on_set1 Hn.out,fun j hj=>⟨(dn_set1 Hn.out j).2 hj,rfl⟩⟩
   have:=Zpi Hs.out x (.int .i64 1)
   have e1:(ints st).set x (.int .i64 1)=ints (st.set x 1):=Zvr st x 1
   rw [e1] at this
   simpa using this
  case round =>
   obtain ⟨k,st',T',rfl,hk,hgk,hown,hkp,hlen,hle,hfr,hkn,hkd,hon,hold⟩:=hrel
   obtain ⟨_,_,cx',vx1,he1,hcx',hvx1,_,_,_,_,_,xx2,_,_,hkx'⟩:=(H.out.other Hs.out Hap.out hkp).at (i:=x) (by omega)
   simp only [Value.slice.injEq,Option.some.injEq,Addr.mk.injEq] at he1
   obtain ⟨⟨rfl,_⟩,hq1,rfl⟩:=he1
   clear hq1
   rw [Hwx.out] at hvx1
   rw [Hcx.out] at hcx'
   simp only [Option.some.injEq] at hvx1 hcx'
   subst hvx1 hcx'
   have Hcs:=Zaa (H.out.other Hs.out Hap.out hkp)
   have Hown:=Zaa hown
   have Hkp:=Zaa hkp
   have Hlen:=Zaa hlen
   have Hle:=Zaa hle
   have Hfr:=Zaa hfr
   have Hkn:=Zaa hkn
   have Hkd:=Zaa hkd
   have Hon:=Zaa hon
   have Hold:=Zaa hold
   have hsb':∃ cur,wr.heap[gs]?=some (.cells cur 3 (0,0)):=Zap hown gs rfl
   clear hown hkp hlen hle hfr hkn hkd hon hold x0 x1 x2 x3 xf s0 sf
   by_cases hlt:k<cx.kids.length
   ·obtain ⟨nx,hnx⟩:∃ n,cx.kids[k]?=some n:=⟨_,List.getElem?_eq_getElem hlt⟩
    obtain ⟨gx,capx,curx,hex,_,_,hcpx⟩:=Zal hkx' (by omega)
    simp only [Value.slice.injEq] at hex
    obtain ⟨rfl,_,rfl⟩:=hex
    have zx:wr.cell? ⟨gx,k,none⟩=some (.int .i64 nx):=Zaf hkx' k _ (by simp [ints,hnx])
    have Hmem:Hid (nx ∈ (gr cs).kids (ρ i)):=by show _ ∈ _; rw [← Hxe.out,(Zec Hcx.out).2]; exact List.mem_of_getElem? hnx
    have hnxl:nx<cs.length:=HG.out.kl x hx nx (by rw [(Zec Hcx.out).2]; exact List.mem_of_getElem? hnx)
    have HI:=Zaa (Hih.out (fresh st') (by have:=Hm.out; have:=Hfr.out; omega) wr B Bs (.slice (some ⟨g,0,none⟩) cs.length cap) (.slice (some ⟨gs,0,none⟩) st.length scap) cs vs ρ rk st' T' nx Hcs.out Hu.out HG.out Hown.out Hap.out (Hlen.out.trans Hsl.out) Hle.out (Nat.le_refl _) hnxl hl Hk4.out Hkn.out)
    have Hnx:=Zaa hnx
    clear hkx' hnx hsb'
    go_wp2_with fail
    refine HI.out.mono ?_
    rintro e w2 ⟨qv,st'',T'',rfl,h1,h2,h3,⟨rfl,h4,h5,h6,h7,h8,h9⟩ | ⟨rfl,h4⟩⟩
    ·have J:=Zaa (And.intro h1 (And.intro h2 (And.intro h3 (And.intro h4 (And.intro h5 (And.intro h6 (And.intro h7 (And.intro h8 h9))))))))
     clear h1 h2 h3 h4 h5 h6 h7 h8 h9 xx2 zx
     go_wp2
     go_roundg (cx.kids.length - k)
     case measure=>omega
     case rel =>
      obtain ⟨h1,h2,h3,h4,h5,h6,h7,h8,h9⟩:=J.out
      refine ⟨k+1,st'',T'',by go_num,by omega,by omega,h1,Hkp.out.trans h2,h3.trans Hlen.out,h4,by have:=Hfr.out; omega,h6,?_,fun j=>(h8 j).trans (Hon.out j),fun j hj=>⟨(h9 j (Hold.out j hj).1).1,(h9 j (Hold.out j hj).1).2.trans (Hold.out j hj).2⟩⟩
      intro j hj
      rw [Zie Hnx.out] at hj
      rcases List.mem_append.1 hj with hj | hj
      ·exact (h9 _ (Hkd.out j hj)).1
      ·simp at hj; subst hj; exact h7
    ·have J:=Zaa (And.intro h1 (And.intro h2 (And.intro h3 h4)))
     clear h1 h2 h3 h4 xx2 zx
     go_wp2
     refine bodyPost_ret (v := .bool false) (by simp [results,Tryz.results212,go_sem]) rfl ?_
     obtain ⟨h1,h2,h3,h4⟩:=J.out
     have hst:Stuck (gr cs) ρ (on st) i:=Stuck.up HG.out hi (by rw [← Hxe.out]; exact hx) Hmem.out (fun val hv hc=>by
      obtain ⟨r,hr,hle⟩:=h4 val hv hc
      exact ⟨r,by rw [← Hxe.out]; exact (Hon.out r).1 hr,hle⟩)
     exact ⟨_,st'',T,rfl,h1,Hkp.out.trans h2,h3.trans Hlen.out,Or.inr ⟨rfl,hst⟩⟩
   ·have hek:k=cx.kids.length:=by omega
    subst hek
    obtain ⟨cur',hcur'⟩:=hsb'
    have zs:∃ u,wr.cell? ⟨gs,x,none⟩=some u:=by
     have hl':=Hlen.out
     have ho:=Hown.out
     rw [hl'] at ho
     have hxl:x<st'.length:=by omega
     exact ⟨_,Zaf ho x (.int .i64 (st'[x]'hxl)) (by simp [ints,hxl])⟩
    obtain ⟨u,zs⟩:=zs
    have zf:∀ j,wr.frozen? ⟨gs,j,none⟩=false:=fun j=>Zae hcur' j
    clear hkx' hcur'
    go_wp2
    refine bodyPost_ret (v := .bool true) (by simp [results,Tryz.results212,go_sem]) rfl ?_
    have hl':=Hlen.out
    have hxl:x<st'.length:=by omega
    have hnd:¬ dn st' x:=fun hd=>by
     have:=(Hon.out x).2 (Or.inr rfl)
     unfold on at this
     unfold dn at hd
     rw [this] at hd
     simp at hd
    have hkd:=Hkd.out
    rw [List.take_length] at hkd
    have hKn:=Hkn.out.more (r:=x) hx Hrx.out hnd (by rw [(Zec Hcx.out).2]; exact hkd)
    refine ⟨_,st'.set x 2,_,rfl,?_,Hkp.out.trans (Zfj _ _ _ _ _ _),by simpa using hl',Or.inl ⟨rfl,Zoz Hle.out (by omega),Nat.le_trans Zxy (Nat.le_of_lt Hfr.out),hKn.congr (Zud hxl) (fun _ _=>rfl),by rw [← Hxe.out]; exact (Zud hxl x).2 (Or.inr rfl),?_,?_⟩⟩
    ·have ho:=Hown.out
     rw [hl'] at ho
     have:=Zpi ho x (.int .i64 2)
     have e1:(ints st').set x (.int .i64 2)=ints (st'.set x 2):=Zvr st' x 2
     rw [e1] at this
     simpa [hl'] using this
    ·intro j
     rw [on_set2 hxl,Hon.out]
     constructor
     ·rintro ⟨h | h,hne⟩
      ·exact h
      ·exact absurd h hne
     ·intro h
      refine ⟨Or.inl h,fun e => ?_⟩
      subst e
      unfold on at h
      rw [Hn.out] at h
      simp at h
    ·intro j hj
     refine ⟨(Zud hxl j).2 (Or.inl (Hold.out j hj).1),?_⟩
     have hjx:j≠x:=fun e=>by
      subst e
      unfold dn at hj
      rw [Hn.out] at hj
      simp at hj
     show (if j=x then _ else T' j)=T j
     rw [if_neg hjx]
     exact (Hold.out j hj).2
 ·go_enter Tryz.func212,Tryz.ntmps212
  go_wp2_with fail
  refine Hr.out.mono ?_
  rintro e w1 ⟨rfl,rfl⟩
  go_wp2
  refine bodyPost_ret (v := .bool false) (by simp [results,Tryz.results212,go_sem]) rfl ?_
  exact ⟨_,st,T,rfl,Hs.out,Kept.refl _ _,rfl,Or.inr ⟨rfl,Stuck.here hi (by rw [← Hxe.out]; exact Hn.out)⟩⟩
 ·go_enter Tryz.func212,Tryz.ntmps212
  go_wp2_with fail
  refine Hr.out.mono ?_
  rintro e w1 ⟨rfl,rfl⟩
  go_wp2
  refine bodyPost_ret (v := .bool true) (by simp [results,Tryz.results212,go_sem]) rfl ?_
  exact ⟨_,st,T,rfl,Hs.out,Kept.refl _ _,rfl,Or.inl ⟨rfl,H2.out,Nat.le_refl _,HK.out,by rw [← Hxe.out]; exact Hn.out,fun _=>Iff.rfl,fun j hj=>⟨hj,rfl⟩⟩⟩
theorem ends_any (m:Nat):Zqf m:=by
 induction m using Nat.strongRecOn with
 | _ m ih=>exact ends_step m ih
def UniqV (cs:List CellS):Prop:=∀ (i j:Nat) c d,cs[i]?=some c→cs[j]?=some d→c.sym.name=[]→d.sym.name=[]→c.sym.num=d.sym.num→i=j
structure LaidL (cs cs':List CellS) (ks:List Nat) (ts:List (List Sym)):Prop where
 ext:∃ new,cs'=cs++new
 kl:∀ k ∈ ks,k<cs'.length
 up:∀ (i:Nat) c,cs.length≤i→cs'[i]?=some c→c.up=i
 ok:∀ (i:Nat) c,cs.length≤i→cs'[i]?=some c→c.sym.args=c.kids.length∧(∀ k ∈ c.kids,k<cs'.length)∧(c.sym.name=[]→c.kids=[])∧(c.sym.name≠[]→c.sym.num=0)∧c.kids.length≤4000
 occ:∀ (i:Nat) c,cs.length≤i→cs'[i]?=some c→c.sym.name=[]→Occ c.sym.num ts.flatten
 uniq:UniqV cs→UniqV cs'
 tm:∀ tm0:Nat→List Sym,(∀ (i:Nat) c,cs[i]?=some c→c.sym.name=[]→tm0 i=vr c.sym.num)→∃ tm:Nat→List Sym,(∀ i,i<cs.length→tm i=tm0 i)∧(∀ (i:Nat) c,cs.length≤i→cs'[i]?=some c→tm i=c.sym::(c.kids.map tm).flatten)∧ks.map tm=ts
 len:cs'.length≤cs.length+ts.flatten.length
theorem LaidL.low {cs cs':List CellS} {ks:List Nat} {ts:List (List Sym)} (h:LaidL cs cs' ks ts) {i:Nat} (hi:i<cs.length):cs'[i]?=cs[i]?:=by
 obtain ⟨new,rfl⟩:=h.ext
 exact List.getElem?_append_left hi
theorem LaidL.le {cs cs':List CellS} {ks:List Nat} {ts:List (List Sym)} (h:LaidL cs cs' ks ts):cs.length≤cs'.length:=by
 obtain ⟨new,rfl⟩:=h.ext
 simp
theorem LaidL.nil (cs:List CellS):LaidL cs cs [] [] :=
 ⟨⟨[],by simp⟩,by simp,fun i c h h'=>by have:=(List.getElem?_eq_some_iff.1 h').1; omega,fun i c h h'=>by have:=(List.getElem?_eq_some_iff.1 h').1; omega,fun i c h h'=>by have:=(List.getElem?_eq_some_iff.1 h').1; omega,fun h=>h,
  fun tm0 _=>⟨tm0,fun _ _=>rfl,fun i c h h'=>by have:=(List.getElem?_eq_some_iff.1 h').1; omega,rfl⟩,by simp⟩
theorem sym_var {s:Sym} (h:s.name=[]) (ha:s.args=0):[s]=vr s.num:=by cases s; simp at h ha; subst h ha; rfl
theorem LaidL.snoc {cs cs1 cs2:List CellS} {ks:List Nat} {ts:List (List Sym)} {k:Nat} {t:List Sym} (h:LaidL cs cs1 ks ts) (h':LaidL cs1 cs2 [k] [t]):LaidL cs cs2 (ks++[k]) (ts++[t]):=by
 have hle:=h.le
 have hle':=h'.le
 have hat:∀ (i:Nat) c,cs2[i]?=some c→(cs1[i]?=some c∧i<cs1.length)∨cs1.length≤i:=fun i c hc=>by
  rcases Nat.lt_or_ge i cs1.length with hi | hi
  ·rw [h'.low hi] at hc; exact Or.inl ⟨hc,hi⟩
  ·exact Or.inr hi
 refine ⟨?_,?_,?_,?_,?_,fun hu=>h'.uniq (h.uniq hu),?_,?_⟩
 ·obtain ⟨n1,rfl⟩:=h.ext
  obtain ⟨n2,rfl⟩:=h'.ext
  exact ⟨n1++n2,by simp⟩
 ·intro j hj
  rcases List.mem_append.1 hj with hj | hj
  ·have:=h.kl j hj; omega
  ·exact h'.kl j hj
 ·intro i c hi hc
  rcases hat i c hc with ⟨h1,_⟩ | h1
  ·exact h.up i c hi h1
  ·exact h'.up i c h1 hc
 ·intro i c hi hc
  rcases hat i c hc with ⟨h1,_⟩ | h1
  ·obtain ⟨a1,a2,a3,a4,a5⟩:=h.ok i c hi h1
   exact ⟨a1,fun k hk=>by have:=a2 k hk; omega,a3,a4,a5⟩
  ·exact h'.ok i c h1 hc
 ·intro i c hi hc hn
  rw [List.flatten_append,Zcu]
  rcases hat i c hc with ⟨h1,_⟩ | h1
  ·exact Or.inl (h.occ i c hi h1 hn)
  ·exact Or.inr (h'.occ i c h1 hc hn)
 ·intro tm0 h0
  obtain ⟨tm1,e1,e2,e3⟩:=h.tm tm0 h0
  obtain ⟨tm2,f1,f2,f3⟩:=h'.tm tm1 (fun i c hc hn=>by
   rcases Nat.lt_or_ge i cs.length with hi | hi
   ·rw [e1 i hi]
    rw [h.low hi] at hc
    exact h0 i c hc hn
   ·obtain ⟨a1,_,a3,_⟩:=h.ok i c hi hc
    rw [e2 i c hi hc,a3 hn]
    simp only [List.map_nil,List.flatten_nil]
    exact sym_var hn (by rw [a1,a3 hn]; rfl))
  refine ⟨tm2,fun i hi=>(f1 i (by omega)).trans (e1 i hi),?_,?_⟩
  ·intro i c hi hc
   rcases hat i c hc with ⟨h1,hlt⟩ | h1
   ·rw [f1 i hlt,e2 i c hi h1]
    congr 2
    exact List.map_congr_left (fun k hk=>(f1 k ((h.ok i c hi h1).2.1 k hk)).symm)
   ·exact f2 i c h1 hc
  ·rw [List.map_append,f3]
   congr 1
   rw [← e3]
   exact List.map_congr_left (fun k hk=>f1 k (h.kl k hk))
 ·have:=h.len
  have:=h'.len
  simp only [List.flatten_append,List.length_append] at *
  omega
theorem LaidL.hit {cs:List CellS} {i n:Nat} {c:CellS} (hc:cs[i]?=some c) (hn:c.sym.name=[]) (hv:c.sym.num=n):LaidL cs cs [i] [vr n]:=by
 have hi:=(List.getElem?_eq_some_iff.1 hc).1
 refine ⟨⟨[],by simp⟩,by simpa using hi,fun i c h h'=>by have:=(List.getElem?_eq_some_iff.1 h').1; omega,fun i c h h'=>by have:=(List.getElem?_eq_some_iff.1 h').1; omega,fun i c h h'=>by have:=(List.getElem?_eq_some_iff.1 h').1; omega,fun h=>h,fun tm0 h0 => ?_,by simp⟩
 exact ⟨tm0,fun _ _=>rfl,fun i c h h'=>by have:=(List.getElem?_eq_some_iff.1 h').1; omega,by simp [h0 i c hc hn,hv]⟩
theorem LaidL.miss {cs:List CellS} {n:Nat} (hm:∀ (i:Nat) c,cs[i]?=some c→c.sym.name=[]→c.sym.num≠n):LaidL cs (cs++[⟨⟨[],n,0⟩,[],cs.length⟩]) [cs.length] [vr n]:=by
 have hat:∀ (i:Nat) c,(cs++[(⟨⟨[],n,0⟩,[],cs.length⟩:CellS)])[i]?=some c→cs[i]?=some c∨(i=cs.length∧c=⟨⟨[],n,0⟩,[],cs.length⟩):=fun i c hc=>by
  rcases Nat.lt_or_ge i cs.length with hi | hi
  ·rw [List.getElem?_append_left hi] at hc; exact Or.inl hc
  ·have:=(List.getElem?_eq_some_iff.1 hc).1
   simp at this
   have e:i=cs.length:=by omega
   subst e
   simp at hc
   exact Or.inr ⟨rfl,hc.symm⟩
 have hnew:∀ (i:Nat) c,cs.length≤i→(cs++[(⟨⟨[],n,0⟩,[],cs.length⟩:CellS)])[i]?=some c→i=cs.length∧c=⟨⟨[],n,0⟩,[],cs.length⟩:=fun i c hi hc=>by
  rcases hat i c hc with h | h
  ·have:=(List.getElem?_eq_some_iff.1 h).1; omega
  ·exact h
 refine ⟨⟨_,rfl⟩,by simp,?_,?_,?_,?_,?_,by simp [vr]⟩
 ·intro i c hi hc; obtain ⟨rfl,rfl⟩:=hnew i c hi hc; rfl
 ·intro i c hi hc; obtain ⟨rfl,rfl⟩:=hnew i c hi hc; simp
 ·intro i c hi hc _; obtain ⟨rfl,rfl⟩:=hnew i c hi hc; exact Zcu.2 (Or.inl (Zgg.2 rfl))
 ·intro hu i j c d hc hd h1 h2 h3
  rcases hat i c hc with hc' | ⟨rfl,rfl⟩
  ·rcases hat j d hd with hd' | ⟨rfl,rfl⟩
   ·exact hu i j c d hc' hd' h1 h2 h3
   ·exact absurd h3 (hm i c hc' h1)
  ·rcases hat j d hd with hd' | ⟨rfl,rfl⟩
   ·exact absurd h3.symm (hm j d hd' h2)
   ·rfl
 ·intro tm0 _
  refine ⟨fun i=>if i=cs.length then vr n else tm0 i,fun i hi=>by simp [show i≠cs.length by omega],?_,by simp⟩
  intro i c hi hc
  obtain ⟨rfl,rfl⟩:=hnew i c hi hc
  simp [vr]
def fill (cs:List CellS) (x:Nat) (ks:List Nat):List CellS:=cs.modify x (fun c => { c with kids:=ks })
theorem Zki (cs:List CellS) (x:Nat) (ks:List Nat):(fill cs x ks).length=cs.length:=by simp [fill]
theorem Zqg (cs:List CellS) (x:Nat) (ks:List Nat) (i:Nat):(fill cs x ks)[i]?=(cs[i]?).map (fun c=>if x=i then { c with kids:=ks } else c):=by
 simp only [fill,List.getElem?_modify]
 cases cs[i]? with
 | none=>rfl
 | some c=>simp
theorem LaidL.name {cs cs':List CellS} {nm:List UInt8} {ls:List (List Sym)} {ks:List Nat} (hn:nm≠[]) (hl:ls.length≤4000) (h:LaidL (cs++[⟨⟨nm,0,ls.length⟩,[],cs.length⟩]) cs' ks ls):LaidL cs (fill cs' cs.length ks) [cs.length] [⟨nm,0,ls.length⟩::ls.flatten]:=by
 obtain ⟨new,he⟩:=h.ext
 have hlen:(cs++[(⟨⟨nm,0,ls.length⟩,[],cs.length⟩:CellS)]).length=cs.length+1:=by simp
 have hle:=h.le
 rw [hlen] at hle
 have hkl:ks.length=ls.length:=by
  obtain ⟨tm,_,_,e⟩:=h.tm (fun i=>((cs++[(⟨⟨nm,0,ls.length⟩,[],cs.length⟩:CellS)])[i]?.map (fun c=>vr c.sym.num)).getD []) (fun i c hc _=>by rw [hc]; rfl)
  simpa using congrArg List.length e
 have hx:cs'[cs.length]?=some ⟨⟨nm,0,ls.length⟩,[],cs.length⟩:=by rw [he]; simp
 have hfx:(fill cs' cs.length ks)[cs.length]?=some ⟨⟨nm,0,ls.length⟩,ks,cs.length⟩:=by rw [Zqg,hx]; simp
 have hfo:∀ i,i≠cs.length→(fill cs' cs.length ks)[i]?=cs'[i]?:=fun i hi=>by
  rw [Zqg]
  cases cs'[i]? with
  | none=>rfl
  | some c=>simp; intro e; exact absurd e.symm hi
 have hcase:∀ (i:Nat) c,cs.length≤i→(fill cs' cs.length ks)[i]?=some c→(i=cs.length∧c=⟨⟨nm,0,ls.length⟩,ks,cs.length⟩)∨(cs.length+1≤i∧cs'[i]?=some c):=fun i c hi hc=>by
  by_cases e:i=cs.length
  ·subst e; rw [hfx] at hc; exact Or.inl ⟨rfl,(Option.some.inj hc).symm⟩
  ·rw [hfo i e] at hc; exact Or.inr ⟨by omega,hc⟩
 refine ⟨?_,?_,?_,?_,?_,?_,?_,?_⟩
 ·refine ⟨⟨⟨nm,0,ls.length⟩,ks,cs.length⟩::new,?_⟩
  apply List.ext_getElem?
  intro i
  rcases Nat.lt_or_ge i cs.length with hi | hi
  ·rw [hfo i (by omega),he,List.append_assoc,List.getElem?_append_left hi,List.getElem?_append_left hi]
  ·by_cases e:i=cs.length
   ·subst e; rw [hfx]; simp
   ·rw [hfo i e,he,List.append_assoc,List.getElem?_append_right hi,List.getElem?_append_right hi]
    cases hj:i - cs.length with
    | zero=>omega
    | succ j=>simp
 ·rw [Zki]; simp; omega
 ·intro i c hi hc
  rcases hcase i c hi hc with ⟨rfl,rfl⟩ | ⟨h1,h2⟩
  ·rfl
  ·exact h.up i c (by rw [hlen]; exact h1) h2
 ·intro i c hi hc
  rw [Zki]
  rcases hcase i c hi hc with ⟨rfl,rfl⟩ | ⟨h1,h2⟩
  ·exact ⟨hkl.symm,h.kl,fun e=>absurd e hn,fun _=>rfl,by simp only; omega⟩
  ·exact h.ok i c (by rw [hlen]; exact h1) h2
 ·intro i c hi hc hv
  rcases hcase i c hi hc with ⟨rfl,rfl⟩ | ⟨h1,h2⟩
  ·exact absurd hv hn
  ·obtain ⟨s,hs,h3⟩:=h.occ i c (by rw [hlen]; exact h1) h2 hv
   exact ⟨s,by simp; exact Or.inr (List.mem_flatten.1 hs),h3⟩
 ·intro hu
  have hu1:UniqV (cs++[⟨⟨nm,0,ls.length⟩,[],cs.length⟩]):=by
   intro i j c d hc hd h1 h2 h3
   have hat:∀ (i:Nat) c,(cs++[(⟨⟨nm,0,ls.length⟩,[],cs.length⟩:CellS)])[i]?=some c→c.sym.name=[]→cs[i]?=some c:=fun i c hc hv=>by
    rcases Nat.lt_or_ge i cs.length with hi | hi
    ·rw [List.getElem?_append_left hi] at hc; exact hc
    ·have:=(List.getElem?_eq_some_iff.1 hc).1
     simp at this
     have e:i=cs.length:=by omega
     subst e
     simp at hc
     subst hc
     exact absurd hv hn
   exact hu i j c d (hat i c hc h1) (hat j d hd h2) h1 h2 h3
  have hu2:=h.uniq hu1
  have hat:∀ (i:Nat) c,(fill cs' cs.length ks)[i]?=some c→c.sym.name=[]→cs'[i]?=some c:=fun i c hc hv=>by
   by_cases e:i=cs.length
   ·subst e; rw [hfx] at hc; simp at hc; subst hc; exact absurd hv hn
   ·rw [hfo i e] at hc; exact hc
  intro i j c d hc hd h1 h2 h3
  exact hu2 i j c d (hat i c hc h1) (hat j d hd h2) h1 h2 h3
 ·intro tm0 h0
  obtain ⟨tm,e1,e2,e3⟩:=h.tm (fun i=>if i=cs.length then ⟨nm,0,ls.length⟩::ls.flatten else tm0 i) (fun i c hc hv=>by
   rcases Nat.lt_or_ge i cs.length with hi | hi
   ·rw [List.getElem?_append_left hi] at hc
    simp only [show i≠cs.length by omega,if_false]
    exact h0 i c hc hv
   ·have:=(List.getElem?_eq_some_iff.1 hc).1
    simp at this
    have e:i=cs.length:=by omega
    subst e
    simp at hc
    subst hc
    exact absurd hv hn)
  have ea:tm cs.length=⟨nm,0,ls.length⟩::ls.flatten:=by rw [e1 _ (by rw [hlen]; omega)]; simp
  refine ⟨tm,fun i hi => ?_,?_,by simp [ea]⟩
  ·rw [e1 i (by rw [hlen]; omega)]; simp [show i≠cs.length by omega]
  ·intro i c hi hc
   rcases hcase i c hi hc with ⟨rfl,rfl⟩ | ⟨h1,h2⟩
   ·rw [ea,← e3]
   ·exact e2 i c (by rw [hlen]; exact h1) h2
 ·have:=h.len
  rw [Zki]
  simp at this ⊢
  omega
theorem Tryz.infoCell:(Tryz.prog.info? 314).map (fun i=>(i.zero,i.size,i.bytes))=some (some (.agg #[.string ⟨#[]⟩,.int .i64 0,.slice none 0 0,.int .i64 0]),4,56):=by kernel_rfl
theorem Zqh {s:ByteArray} {n m:Int} {ca:Option Addr} {cl cc:Nat}:∀ u ∈ (#[Value.string s,.int .i64 n,.slice ca cl cc,.int .i64 m]:Array Value).toList,u.oneCell'=true:=by
 intro u hu
 simp at hu
 rcases hu with rfl | rfl | rfl | rfl <;> rfl
structure LaidOut (w:World) (B:Nat) (lv:Value) (cs:List CellS) (vs:List Value) (lv':Value) (k:Nat) (cs':List CellS) (vs':List Value) (ts:List (List Sym)) (w':World):Prop where
 cells:CellsAt w' B lv' cs' vs'
 vals:∃ new,vs'=vs++new
 kept:Kept (Zbd lv) w w'
 where_:lv'.ownBlock=lv.ownBlock∨∃ g,lv'.ownBlock=some g∧w.heap.size≤g
 fresh:∀ (i:Nat) v k,vs.length≤i→vs'[i]?=some v→v.ownBlock=some k→w.heap.size≤k
def Zvs (n:Nat):Prop:=∀ (w:World) (B:Nat) (lv:Value) (cs:List CellS) (vs:List Value) (X:Nat→Prop) (a b c:Value) (t:List Sym),t.length≤n→CellsAt w B lv cs vs→Rep X w a b c t→B≤w.heap.size→cs.length+t.length≤4000 →
 Calls Tryz.prog 210 #[lv,.agg #[a,b,c]] w fun e w'=>∃ (lv':Value) (k:Nat) (cs':List CellS) (vs':List Value),e = .returned (.tuple #[lv',.int .i64 k])∧LaidOut w B lv cs vs lv' k cs' vs' [t] w'∧LaidL cs cs' [k] [t]
theorem Zue:∀ {cs:List CellS} {vs:List Value} (c:CellS) (v:Value),vs.length=cs.length→Zdh (cs++[c]) (vs++[v])=Zdh cs vs++Zlo c v:=by
 intro cs
 induction cs with
 | nil=>intro vs c v h; cases vs with
  | nil=>simp [Zdh]
  | cons _ _=>simp at h
 | cons d cs ih =>
  intro vs c v h
  cases vs with
  | nil=>simp at h
  | cons u vs =>
   simp only [List.cons_append,Zdh]
   rw [ih c v (by simpa using h)]
   simp
theorem CellsAt.snoc {w w1:World} {B:Nat} {lv lv':Value} {cs:List CellS} {vs:List Value} (h:CellsAt w B lv cs vs) (c:CellS) (hk:c.kids=[]) (ha:Appended w B 314 4 lv (cs.length+1) (Zdh cs vs++Zlo c (.slice none 0 0)) lv' w1) :
  CellsAt w1 B lv' (cs++[c]) (vs++[.slice none 0 0]):=by
 refine ⟨by simp [h.len],?_,?_⟩
 ·rw [Zue c _ h.len]
  simpa using ha.owns
 ·intro i d v h1 h2
  rcases Nat.lt_or_ge i cs.length with hi | hi
  ·rw [List.getElem?_append_left hi] at h1
   rw [List.getElem?_append_left (by rw [h.len]; exact hi)] at h2
   have hkk:=h.kids i d v h1 h2
   exact ha.kept.owns hkk (fun k e e'=>by
    obtain ⟨cur,hc⟩:=Zap hkk k e
    exact Zah h.owns (by decide) hc e')
  ·have:=(List.getElem?_eq_some_iff.1 h1).1
   simp at this
   have e:i=cs.length:=by omega
   subst e
   rw [List.getElem?_append_right (by rw [h.len]; exact Nat.le_refl _),h.len] at h2
   simp at h1 h2
   subst h1 h2
   rw [hk]
   exact World.ownsRow_nil _ _ _ _
theorem Zuf:∀ {cs:List CellS} {vs:List Value} {x:Nat} {ks:List Nat} {v:Value},vs.length=cs.length→x<cs.length→Zdh (fill cs x ks) (vs.set x v)=(Zdh cs vs).set (x * 4+2) v:=by
 intro cs
 induction cs with
 | nil=>intro vs x ks v _ h; simp at h
 | cons d cs ih =>
  intro vs x ks v hl hx
  cases vs with
  | nil=>simp at hl
  | cons u vs =>
   cases x with
   | zero=>simp [fill,Zdh,Zlo]
   | succ x =>
    have e:=ih (vs:=vs) (x:=x) (ks:=ks) (v:=v) (by simpa using hl) (by simpa using hx)
    have e2:fill (d::cs) (x+1) ks=d::fill cs x ks:=by simp [fill]
    rw [e2,List.set_cons_succ,Zdh,Zdh,e,List.set_append_right _ _ (by simp [Zlo]; omega)]
    congr 2
    simp [Zlo]
    try omega
theorem fill_same {cs:List CellS} {x:Nat} {c:CellS} (h:cs[x]?=some c):fill cs x c.kids=cs:=by
 apply List.ext_getElem?
 intro i
 rw [Zqg]
 by_cases e:x=i
 ·subst e; rw [h]; simp
 ·cases cs[i]? with
  | none=>rfl
  | some d=>simp [e]
theorem CellsAt.fill {w:World} {B g cap n:Nat} {cs:List CellS} {vs:List Value} (h:CellsAt w B (.slice (some ⟨g,0,none⟩) n cap) cs vs) {x:Nat} (hx:x<cs.length) {ks:List Nat} {av:Value} (ha:w.ownsRow B 3 1 av ks.length (ints ks)) :
  CellsAt (w.setCell ⟨g,x * 4+2,none⟩ av) B (.slice (some ⟨g,0,none⟩) n cap) (YtlmjilpjmgjjcaaGreatDoor.fill cs x ks) (vs.set x av):=by
 have hap:∀ {m:Nat} {v:Value} {ys:List Value},w.ownsRow B 3 1 v m ys→∀ k,v.ownBlock=some k→k≠g:=fun hk k e e'=>by
  subst e'
  obtain ⟨cur,hcur⟩:=Zap hk k e
  obtain ⟨cur',hcur'⟩:=Zap h.owns k rfl
  rw [hcur] at hcur'
  simp at hcur'
 refine ⟨by rw [Zki]; simpa using h.len,?_,?_⟩
 ·rw [Zki,Zuf h.len hx]
  have ho:=h.owns
  refine ⟨by simpa using ho.1,?_⟩
  rcases ho.2 with ⟨h1,_⟩ | ⟨g',cap',cur,h1,hb,hg,hn,hc,hs,ht⟩
  ·simp at h1
  ·simp at h1
   obtain ⟨rfl,rfl,rfl⟩:=h1
   refine .inr ⟨g,cap,cur.setIfInBounds (x * 4+2) av,rfl,hb,Zai hg _ _,hn,hc,by simpa using hs,?_⟩
   rw [← ht]
   simp [List.take_set]
 ·intro i c v h1 h2
  rw [Zqg] at h1
  cases hc:cs[i]? with
  | none=>rw [hc] at h1; simp at h1
  | some c' =>
   rw [hc] at h1
   simp only [Option.map_some,Option.some.injEq] at h1
   by_cases e:x=i
   ·subst e
    rw [if_pos rfl] at h1
    subst h1
    rw [List.getElem?_set_self (by rw [h.len]; exact hx)] at h2
    simp only [Option.some.injEq] at h2
    subst h2
    exact Zan ha (fun k e=>Below.heap_setCell _ _ _ _ (hap ha k e))
   ·rw [if_neg e] at h1
    subst h1
    rw [List.getElem?_set_ne e] at h2
    have hk:=h.kids i c' v hc h2
    exact Zan hk (fun k e=>Below.heap_setCell _ _ _ _ (hap hk k e))
set_option maxRecDepth 10000 in
set_option maxHeartbeats 2000000 in
theorem laid_var (w:World) (B:Nat) (lv:Value) (cs:List CellS) (vs:List Value) (n:Nat) (h:CellsAt w B lv cs vs) (hB:B≤w.heap.size) (hl:cs.length+1≤4000) :
  Calls Tryz.prog 210 #[lv,.agg #[.string ⟨#[]⟩,.int .i64 n,.slice none 0 0]] w fun e w'=>∃ (lv':Value) (k:Nat) (cs':List CellS) (vs':List Value),e = .returned (.tuple #[lv',.int .i64 k])∧LaidOut w B lv cs vs lv' k cs' vs' [vr n] w'∧LaidL cs cs' [k] [vr n]:=by
 obtain ⟨la,lcap,rfl⟩:=Zad h.owns
 have H:=Zaa h
 clear h
 go_enter Tryz.func210,Tryz.ntmps210
 go_wp2
 go_loopg [6] (cs.length+1) (fun gk i wr=>∃ (k:Nat),i = .int .i64 k∧k≤cs.length∧cs.length - k<gk∧Kept Zbg w wr∧wr.heap[w.heap.size]?=some (.cells #[.string ⟨#[]⟩,.int .i64 n,.slice none 0 0] 183 (0,0)) ∧
   (∀ (i:Nat) c,i<k→cs[i]?=some c→c.sym.name=[]→c.sym.num≠n))
 case atStart=>exact ⟨0,by go_num,Nat.zero_le _,by omega,(Kept.refl _ w).alloc _,heap_alloc_new w _,fun i c h=>by omega⟩
 case round =>
  obtain ⟨k,rfl,hk,hg,hkp,h0,hno⟩:=hrel
  obtain ⟨b0,b1,b2,bf⟩:=box3 h0
  have Hkp:=Zaa hkp
  have H0:=Zaa h0
  have Hno:=Zaa hno
  have hs:=hkp.size
  have Hc:=Zaa (H.out.ext (w':=wr) (fun k hk=>hkp.block k hk (fun h=>h)))
  clear hkp h0 hno
  by_cases hlt:k<cs.length
  ·obtain ⟨g,cap,c,v,he,hc,hv,_,hgl,hcap,c0,c1,c2,c3,cf,_⟩:=Hc.out.at hlt
   simp only [Value.slice.injEq] at he
   obtain ⟨rfl,_,rfl⟩:=he
   have Hc':=Zaa hc
   clear hc hv
   by_cases hn:c.sym.name=[]
   ·have hn':c.sym.name.isEmpty=true:=by simpa using hn
    by_cases hq:c.sym.num=n
    ·have hq':((c.sym.num:Int) == (n:Int))=true:=by rw [beq_iff_eq]; omega
     have Hq:=Zaa hq
     clear hq
     go_wp2_with fail
     go_quiet (fail)
     go_wp2
     go_ret2
     exact ⟨_,k,cs,vs,rfl,⟨Hc.out.ext (fun _ _=>rfl),⟨[],by simp⟩,(Hkp.out.drewN _).mono (fun _ _ h=>h.elim),Or.inl rfl,fun i v k h1 h2=>by have:=(List.getElem?_eq_some_iff.1 h2).1; omega⟩,LaidL.hit Hc'.out hn Hq.out⟩
    ·have hq':((c.sym.num:Int) == (n:Int))=false:=by rw [beq_eq_false_iff_ne]; omega
     have Hq:=Zaa hq
     clear hq
     go_wp2_with fail
     go_quiet (fail)
     go_wp2
     go_roundg (cs.length - k)
     case measure=>omega
     case rel =>
      refine ⟨k+1,by go_num,by omega,by omega,Hkp.out.drewN _,H0.out,fun i d hi hd hdn => ?_⟩
      by_cases e:i=k
      ·subst e; rw [Hc'.out] at hd; simp at hd; subst hd; exact Hq.out
      ·exact Hno.out i d (by omega) hd hdn
   ·have hn':c.sym.name.isEmpty=false:=by simpa using hn
    go_wp2_with fail
    go_quiet (fail)
    go_wp2
    go_roundg (cs.length - k)
    case measure=>omega
    case rel =>
     refine ⟨k+1,by go_num,by omega,by omega,Hkp.out.drewN _,H0.out,fun i d hi hd hdn => ?_⟩
     by_cases e:i=k
     ·subst e; rw [Hc'.out] at hd; simp at hd; subst hd; exact absurd hdn hn
     ·exact Hno.out i d (by omega) hd hdn
  ·have hek:k=cs.length:=by omega
   subst hek
   have hsb:=Zac H0.out
   go_wp2_with (at_builtin; refine Zaj _ rfl (.tmp 43) (.tmp 50) 308 rfl B 314 Tryz.infoCell Tryz.underlying308 rfl (by decide) _ cs.length (Zdh cs vs) rfl Hc.out.owns _ rfl rfl rfl Zqh ?_ ?_ ?_)
   ·omega
   ·omega
   intro lv' w1 hap
   have hcs1:=CellsAt.snoc Hc.out ⟨⟨[],n,0⟩,[],cs.length⟩ rfl hap
   obtain ⟨g,cap,c,v,rfl,hc,hv,hBg,hgl,hcap,c0,c1,c2,c3,cf,_⟩:=hcs1.at (i:=cs.length) (by simp)
   have hblk:=(hap.kept.block _ hsb (Zah Hc.out.owns (by decide) H0.out)).trans H0.out
   obtain ⟨p0,p1,p2,pf⟩:=box3 hblk
   have Hcs1:=Zaa hcs1
   have Hap:=Zaa hap
   have Hblk:=Zaa hblk
   have hs1:=hap.kept.size
   have hls:(cs++[(⟨⟨[],n,0⟩,[],cs.length⟩:CellS)]).length=cs.length+1:=by simp
   clear hcs1 hap hblk hc hv
   rw [hls] at Hcs1 Hap hcap ⊢
   clear hls
   go_wp2
   go_loopg [0,8,9] 1 (fun gk l ar i wr=>l = .slice (some ⟨g,0,none⟩) (cs.length+1) cap∧ar = .slice none 0 0∧i = .int .i64 0∧0<gk∧wr=w1)
   case atStart=>exact ⟨rfl,rfl,rfl,by omega,rfl⟩
   case round =>
    obtain ⟨rfl,rfl,rfl,_,rfl⟩:=hrel
    go_wp2
    go_ret2
    have hf:=Hcs1.out.fill (x:=cs.length) (ks:=[]) (av := .slice none 0 0) (by simp) (World.ownsRow_nil _ _ _ _)
    rw [fill_same (c:=⟨⟨[],n,0⟩,[],cs.length⟩) (by simp)] at hf
    have hv:(vs++[Value.slice none 0 0]).set cs.length (.slice none 0 0)=vs++[.slice none 0 0]:=by
     rw [← Hc.out.len]; simp
    rw [hv] at hf
    refine ⟨_,cs.length,_,_,rfl,⟨hf,⟨_,rfl⟩,?_,?_,?_⟩,LaidL.miss (fun i c hc=>Hno.out i c (List.getElem?_eq_some_iff.1 hc).1 hc)⟩
    ·have hk:=((Hkp.out.mono (fun _ _ h=>h.elim)).then (S:=Zbd (.slice la cs.length lcap)) Hap.out.kept (fun _ _ h=>h))
     refine Kept.setCell hk (fun hlt => ?_) _
     rcases Hap.out.where_ with hw | ⟨g',hw,hg⟩
     ·exact hw.symm
     ·simp [Value.ownBlock] at hw; subst hw; simp only at hlt; omega
    ·rcases Hap.out.where_ with hw | ⟨g',hw,hg⟩
     ·exact Or.inl hw
     ·exact Or.inr ⟨g',hw,by omega⟩
    ·intro i v k h1 h2 h3
     have:=(List.getElem?_eq_some_iff.1 h2).1
     simp at this
     have e:i=vs.length:=by omega
     subst e
     simp at h2
     subst h2
     simp [Value.ownBlock] at h3
set_option maxRecDepth 10000 in
set_option maxHeartbeats 4000000 in
theorem laid_name (m:Nat) (IH:Zvs m) (w:World) (B:Nat) (lv:Value) (cs:List CellS) (vs:List Value) (X:Nat→Prop) (nm:List UInt8) (hnm:nm≠[]) (c:Value) (ls:List (List Sym)) (xs:List Value) (h:CellsAt w B lv cs vs) (hrow:RowT X w c ls xs) (hB:B≤w.heap.size) (hm:ls.flatten.length≤m) (hl:cs.length+ls.flatten.length+1≤4000) :
  Calls Tryz.prog 210 #[lv,.agg #[.string ⟨nm.toArray⟩,.int .i64 0,c]] w fun e w'=>∃ (lv':Value) (k:Nat) (cs':List CellS) (vs':List Value),e = .returned (.tuple #[lv',.int .i64 k])∧LaidOut w B lv cs vs lv' k cs' vs' [⟨nm,0,ls.length⟩::ls.flatten] w'∧LaidL cs cs' [k] [⟨nm,0,ls.length⟩::ls.flatten]:=by
 obtain ⟨la,lcap,rfl⟩:=Zad h.owns
 obtain ⟨ca,ccap,rfl⟩:=Zad hrow.1
 have hwf:=hrow.wf
 have hll:ls.length≤ls.flatten.length:=Zcw (Zdf hwf)
 have he:nm.isEmpty=false:=by simpa using hnm
 have H:=Zaa h
 have Hrow:=Zaa hrow
 have Hih:=Zaa IH
 clear h hrow IH
 go_enter Tryz.func210,Tryz.ntmps210
 go_wp2
 go_loopg [6] 1 (fun gk i wr=>i = .int .i64 0∧0<gk∧wr=w.alloc (.cells #[.string ⟨nm.toArray⟩,.int .i64 0,.slice ca ls.length ccap] 183))
 case atStart=>exact ⟨rfl,by omega,rfl⟩
 case round =>
  obtain ⟨rfl,_,rfl⟩:=hrel
  have Hc:=Zaa (H.out.ext (w':=w.alloc (.cells #[.string ⟨nm.toArray⟩,.int .i64 0,.slice ca ls.length ccap] 183)) (fun k hk=>Below.heap_alloc _ _ _ hk))
  go_wp2_with (at_builtin; refine Zaj _ rfl (.tmp 43) (.tmp 50) 308 rfl B 314 Tryz.infoCell Tryz.underlying308 rfl (by decide) _ cs.length (Zdh cs vs) rfl Hc.out.owns _ rfl (by simp) rfl Zqh ?_ ?_ ?_)
  ·omega
  ·simp; omega
  intro lv' w1 hap
  have hcs1:=CellsAt.snoc Hc.out ⟨⟨nm,0,ls.length⟩,[],cs.length⟩ rfl hap
  have h0:=(hap.kept.block _ (by simp) (Zah Hc.out.owns (by decide) (heap_alloc_new w _))).trans (heap_alloc_new w _)
  have Hcs1:=Zaa hcs1
  have Hap:=Zaa hap
  have H0:=Zaa h0
  have hs1:=hap.kept.size
  simp at hs1
  obtain ⟨la1,lcap1,rfl⟩:=Zad hap.owns
  clear hcs1 hap h0
  go_wp2
  go_loopg [0,8,9] (ls.length+1) (fun gk lv2 av i wr=>∃ (k:Nat) (cs2:List CellS) (vs2:List Value) (ks:List Nat),i = .int .i64 k∧k≤ls.length∧ls.length - k<gk∧CellsAt wr B lv2 cs2 vs2∧(∃ new,vs2=(vs++[.slice none 0 0])++new)∧LaidL (cs++[⟨⟨nm,0,ls.length⟩,[],cs.length⟩]) cs2 ks (ls.take k)∧ks.length=k ∧
    wr.ownsRow (w.heap.size+1) 3 1 av ks.length (ints ks)∧Kept (Zbd (.slice la cs.length lcap)) w wr∧(lv2.ownBlock=(Value.slice la cs.length lcap).ownBlock∨∃ g,lv2.ownBlock=some g∧w.heap.size<g)∧(∀ (i:Nat) v k,vs2[i]?=some v→v.ownBlock=some k→¬ Zbd av k∧(vs.length≤i→w.heap.size≤k)) ∧
    wr.heap[w.heap.size]?=some (.cells #[.string ⟨nm.toArray⟩,.int .i64 0,.slice ca ls.length ccap] 183 (0,0)))
  case atStart =>
   refine ⟨0,_,_,[],by go_num,Nat.zero_le _,by omega,Hcs1.out,⟨[],by simp⟩,LaidL.nil _,rfl,World.ownsRow_nil _ _ _ _,((Kept.refl _ w).alloc _).then Hap.out.kept (fun _ _ h=>h),?_,?_,H0.out⟩
   rcases Hap.out.where_ with hw | ⟨g',hw,hg⟩
   ·exact Or.inl hw
   ·exact Or.inr ⟨g',hw,by simp at hg; omega⟩
   ·intro i v k h1 h2
    refine ⟨fun e=>by simp [Zbd,Value.ownBlock] at e,fun hi => ?_⟩
    have:=(List.getElem?_eq_some_iff.1 h1).1
    simp at this
    have e:i=vs.length:=by omega
    subst e
    simp at h1
    subst h1
    simp [Value.ownBlock] at h2
  case round =>
   obtain ⟨k,cs2,vs2,ks,rfl,hk,hg,hcs,hvs,hlay,rfl,hav,hkp,hwh,hfr,hb⟩:=hrel
   obtain ⟨b0,b1,b2,bf⟩:=box3 hb
   obtain ⟨l2a,l2cap,rfl⟩:=Zad hcs.owns
   obtain ⟨ava,avcap,rfl⟩:=Zad hav
   have hsz:=Zac hb
   have hlen2:cs2.length+(ls.drop ks.length).flatten.length≤4000:=by
    have h1:=hlay.len
    have h2:=congrArg List.length (congrArg List.flatten (List.take_append_drop ks.length ls))
    simp only [List.flatten_append,List.length_append,List.length_cons,List.length_nil] at h1 h2
    omega
   have hle2:=hlay.le
   simp only [List.length_append,List.length_cons,List.length_nil] at hle2
   have Hcs:=Zaa hcs
   have Hvs:=Zaa hvs
   have Hlay:=Zaa hlay
   have Hav:=Zaa hav
   have Hkp:=Zaa hkp
   have Hwh:=Zaa hwh
   have Hb:=Zaa hb
   have Hfr:=Zaa hfr
   clear hcs hvs hlay hav hkp hwh hb hs1 hfr
   by_cases hlt:ks.length<ls.length
   ·obtain ⟨l',hl'⟩:∃ l',ls[ks.length]?=some l':=⟨_,List.getElem?_eq_getElem hlt⟩
    obtain ⟨_,hdk,hlf,_⟩:=Zjn hl' hwf
    obtain ⟨a',b',c',x0,x1,x2,hrep⟩:=Hrow.out.2.2 ks.length l' hl'
    obtain ⟨s1,n1,c1a,c1l,c1c,rfl,rfl,rfl⟩:=hrep.shape
    have hon:∀ j,j<w.heap.size→¬ X j→Zeq w j→wr.heap[j]?=w.heap[j]?∧¬ X j:=fun j hj hx ht=>by
     obtain ⟨cur,hcur⟩:=ht
     exact ⟨Hkp.out.block j hj (Zah H.out.owns (by decide) hcur),hx⟩
    have hrow':=Hrow.out.on hon
    obtain ⟨g,cap',cur,hge,hBg,hgb,hcp⟩:=Zal hrow'.1 (by omega)
    simp only [Value.slice.injEq] at hge
    obtain ⟨rfl,_,rfl⟩:=hge
    have y0:wr.cell? ⟨g,ks.length * 3,none⟩=some (.string s1):=Zaf hrow'.1 _ _ x0
    have y1:wr.cell? ⟨g,ks.length * 3+1,none⟩=some (.int .i64 n1):=Zaf hrow'.1 _ _ x1
    have y2:wr.cell? ⟨g,ks.length * 3+2,none⟩=some (.slice c1a c1l c1c):=Zaf hrow'.1 _ _ x2
    have hl'4:cs2.length+l'.length≤4000:=by
     rw [hdk] at hlen2
     simp only [List.flatten_cons,List.length_append] at hlen2
     omega
    have HI:=Zaa (Hih.out wr B (.slice l2a cs2.length l2cap) cs2 vs2 X (.string s1) (.int .i64 n1) (.slice c1a c1l c1c) l' (by omega) Hcs.out (hrep.on hon) (by omega) hl'4)
    have Hlk:=Zaa hl'
    clear hgb hrow' hrep x0 x1 x2 hl' hdk hon
    go_wp2_with fail
    refine HI.out.mono ?_
    rintro e w2 ⟨lv3,k3,cs3,vs3,rfl,ho,hlay3⟩
    obtain ⟨l3a,l3cap,rfl⟩:=Zad ho.cells.owns
    have hav2:=ho.kept.owns Hav.out (fun j e e'=>by
     obtain ⟨cur,hc⟩:=Zap Hav.out j e
     exact Zah Hcs.out.owns (by decide) hc e')
    have hb2:=(ho.kept.block _ hsz (Zah Hcs.out.owns (by decide) Hb.out)).trans Hb.out
    have hs2:=ho.kept.size
    have Ho:=Zaa ho
    have Hlay3:=Zaa hlay3
    have Hav2:=Zaa hav2
    have Hb2:=Zaa hb2
    clear ho hlay3 hav2 hb2 y0 y1 y2
    go_wp2_with (at_builtin; refine Zaj _ rfl (.tmp 70) (.tmp 72) 25 rfl (w.heap.size+1) 3 Tryz.infoInt Tryz.underlying25 rfl (by decide) _ ks.length (ints ks) rfl Hav2.out _ rfl rfl rfl (Zfm _) ?_ ?_ ?_)
    ·omega
    ·omega
    intro av' w3 hap3
    have Hap3:=Zaa hap3
    clear hap3
    go_wp2
    go_roundg (ls.length - ks.length)
    case measure=>omega
    case rel =>
     have hapart:∀ j,Zbd (.slice ava ks.length avcap) j→w.heap.size<j:=fun j e=>(Hav2.out.lt j e).1
     have hdis:∀ (i:Nat) v,vs3[i]?=some v→∀ j,v.ownBlock=some j→¬ Zbd (.slice ava ks.length avcap) j:=fun i v h2 j e=>by
      obtain ⟨new3,hnew3⟩:=Ho.out.vals
      rcases Nat.lt_or_ge i vs2.length with hi | hi
      ·rw [hnew3,List.getElem?_append_left hi] at h2
       exact (Hfr.out i v j h2 e).1
      ·have h5:=Ho.out.fresh i v j hi h2 e
       intro e'
       have:=(Hav.out.lt j e').2
       omega
     have hcs4:CellsAt w3 B (.slice l3a cs3.length l3cap) cs3 vs3:=by
      refine ⟨Ho.out.cells.len,Hap3.out.kept.owns Ho.out.cells.owns (fun j e e' => ?_),fun i c v h1 h2 => ?_⟩
      ·obtain ⟨cur,hc⟩:=Zap Ho.out.cells.owns j e
       exact Zah Hav2.out (by decide) hc e'
      ·have hk:=Ho.out.cells.kids i c v h1 h2
       exact Hap3.out.kept.owns hk (hdis i v h2)
     have htk:ls.take (ks.length+1)=ls.take ks.length++[l']:=by rw [List.take_add_one,Hlk.out]; rfl
     obtain ⟨new,hnew⟩:=Hvs.out
     obtain ⟨new3,hnew3⟩:=Ho.out.vals
     refine ⟨ks.length+1,cs3,vs3,ks++[k3],by go_num,by omega,by omega,hcs4,⟨new++new3,by rw [hnew3,hnew]; simp⟩,by rw [htk]; exact Hlay.out.snoc Hlay3.out,by simp,by simpa [ints] using Hap3.out.owns,?_,?_,?_,?_⟩
     ·refine (Hkp.out.then Ho.out.kept (fun i hi e => ?_)).then Hap3.out.kept (fun i hi e=>absurd (hapart i e) (by omega))
      rcases Hwh.out with hw | ⟨g',hw,hg'⟩
      ·exact hw.symm.trans e
      ·have:some g'=some i:=hw.symm.trans e
       simp at this; omega
     ·rcases Ho.out.where_ with hw | ⟨g',hw,hg'⟩
      ·rcases Hwh.out with hw2 | ⟨g2,hw2,hg2⟩
       ·exact Or.inl (hw.trans hw2)
       ·exact Or.inr ⟨g2,hw.trans hw2,hg2⟩
      ·exact Or.inr ⟨g',hw,by omega⟩
     ·intro i v j h2 e
      have hvl:v.ownBlock=some j→j<w2.heap.size:=fun e=>by
       have hi:=(List.getElem?_eq_some_iff.1 h2).1
       rw [Ho.out.cells.len] at hi
       exact ((Ho.out.cells.kids i _ v (List.getElem?_eq_getElem hi) h2).lt j e).2
      refine ⟨fun e' => ?_,fun hi => ?_⟩
      ·rcases Hap3.out.where_ with hw | ⟨g',hw,hg'⟩
       ·exact hdis i v h2 j e (hw.symm.trans e')
       ·have h6:some g'=some j:=hw.symm.trans e'
        have:=hvl e
        simp at h6; omega
      ·rcases Nat.lt_or_ge i vs2.length with hi2 | hi2
       ·obtain ⟨new3,hnew3⟩:=Ho.out.vals
        rw [hnew3,List.getElem?_append_left hi2] at h2
        exact (Hfr.out i v j h2 e).2 hi
       ·have:=Ho.out.fresh i v j hi2 h2 e
        omega
     ·exact (Hap3.out.kept.block _ (by omega) (fun e=>by have:=hapart _ e; omega)).trans Hb2.out
   ·have hek:ks.length=ls.length:=by omega
    have Hek:=Zaa hek
    have hlt2:cs.length<cs2.length:=by omega
    obtain ⟨g,cap,c,v,he2,hc,hv,hBg,hgl,hcap,c0,c1,c2,c3,cf,_⟩:=Hcs.out.at hlt2
    simp only [Value.slice.injEq] at he2
    obtain ⟨rfl,_,rfl⟩:=he2
    have Hvc:Hid (vs.length=cs.length):=H.out.len
    clear hek hc hv
    go_wp2
    go_ret2
    have hlay4:=Hlay.out
    rw [List.take_of_length_le (by rw [Hek.out]; exact Nat.le_refl _)] at hlay4
    have hf:=Hcs.out.fill hlt2 (Zbe Hav.out (by omega))
    obtain ⟨new,hnew⟩:=Hvs.out
    refine ⟨_,cs.length,_,_,rfl,⟨hf,?_,?_,?_,?_⟩,LaidL.name hnm (by omega) hlay4⟩
    ·refine ⟨.slice ava ks.length avcap::new,?_⟩
     rw [hnew,← Hvc.out]
     simp
    ·refine Kept.setCell Hkp.out (fun hlt3 => ?_) _
     rcases Hwh.out with hw | ⟨g',hw,hg'⟩
     ·exact hw.symm
     ·simp [Value.ownBlock] at hw; subst hw; simp only at hlt3; omega
    ·rcases Hwh.out with hw | ⟨g',hw,hg'⟩
     ·exact Or.inl hw
     ·exact Or.inr ⟨g',hw,by omega⟩
    ·intro i v j h1 h2 e
     by_cases ei:cs.length=i
     ·subst ei
      rw [List.getElem?_set_self (by rw [Hcs.out.len]; exact hlt2)] at h2
      simp only [Option.some.injEq] at h2
      subst h2
      have:=(Hav.out.lt j e).1
      omega
     ·rw [List.getElem?_set_ne ei] at h2
      exact (Hfr.out i v j h2 e).2 h1
theorem Zvt:∀ n,Zvs n:=by
 intro n
 induction n with
 | zero =>
  intro w B lv cs vs X a b c t hl _ h
  have:=Zcw (h.wf _ (Nat.le_refl _))
  omega
 | succ n ih =>
  intro w B lv cs vs X a b c t hl hc h hB hlen
  rcases h.out with ⟨k,rfl,rfl,rfl,rfl⟩ | ⟨nm,ls,xs,h1,rfl,rfl,rfl,h5⟩
  ·exact laid_var w B lv cs vs k hc hB (by simpa using hlen)
  ·simp only [List.length_cons] at hl hlen
   exact laid_name n ih w B lv cs vs X nm h1 c ls xs hc h5 hB (by omega) (by omega)
theorem two_laid {cs1 cs2:List CellS} {x y:Nat} {a b:List Sym} (h1:LaidL [] cs1 [x] [a]) (h2:LaidL cs1 cs2 [y] [b]) :
  ∃ tm,Lay (gr cs2) tm a b∧x<cs2.length∧y<cs2.length∧tm x=a∧tm y=b∧Firsts (gr cs2) (fun i=>i)∧UpOk cs2 (fun i=>i) (fun _=>0)∧∀ i,((gr cs2).kids i).length≤4000:=by
 have h:=h1.snoc h2
 obtain ⟨tm,_,e2,e3⟩:=h.tm (fun _=>[]) (fun i c hc=>by simp at hc)
 simp only [List.cons_append,List.nil_append,List.map_cons,List.map_nil,List.cons.injEq,and_true] at e3
 have hu:=h.uniq (fun i j c d hc=>by simp at hc)
 have hat:∀ i,i<cs2.length→∃ c,cs2[i]?=some c∧(gr cs2).hd i=c.sym∧(gr cs2).kids i=c.kids:=fun i hi=>by
  have hc:cs2[i]?=some cs2[i]:=List.getElem?_eq_getElem hi
  exact ⟨_,hc,(Zec hc).1,(Zec hc).2⟩
 refine ⟨tm,⟨⟨?_,?_,?_,?_⟩,?_,?_⟩,h.kl x (by simp),h.kl y (by simp),e3.1,e3.2,⟨⟨fun i hi=>hi,fun i _=>rfl⟩,?_,fun _ _ _=>rfl,fun i _ hn=>⟨hn,rfl⟩⟩,?_,?_⟩
 ·intro i hi k hk
  obtain ⟨c,hc,_,e⟩:=hat i hi
  rw [e] at hk
  exact (h.ok i c (Nat.zero_le _) hc).2.1 k hk
 ·intro i hi
  obtain ⟨c,hc,e,e'⟩:=hat i hi
  rw [e,e']
  exact (h.ok i c (Nat.zero_le _) hc).1
 ·intro i hi hn
  obtain ⟨c,hc,e,e'⟩:=hat i hi
  rw [e] at hn
  rw [e']
  exact (h.ok i c (Nat.zero_le _) hc).2.2.1 hn
 ·intro i hi hn
  obtain ⟨c,hc,e,e'⟩:=hat i hi
  rw [e] at hn ⊢
  exact (h.ok i c (Nat.zero_le _) hc).2.2.2.1 hn
 ·intro i hi
  obtain ⟨c,hc,e,e'⟩:=hat i hi
  rw [e,e']
  exact e2 i c (Nat.zero_le _) hc
 ·intro i hi hn
  obtain ⟨c,hc,e,_⟩:=hat i hi
  rw [e] at hn ⊢
  have:=h.occ i c (Nat.zero_le _) hc hn
  simp only [List.cons_append,List.nil_append,List.flatten_cons,List.flatten_nil,List.append_nil,Zcu] at this
  exact this
 ·intro i j hi hj h1 h2 h3
  obtain ⟨c,hc,e,_⟩:=hat i hi
  obtain ⟨d,hd,e',_⟩:=hat j hj
  rw [e] at h1 h3
  rw [e'] at h2 h3
  exact hu i j c d hc hd h1 h2 h3
 ·intro i c hc
  have:=h.up i c (Nat.zero_le _) hc
  exact ⟨by rw [this]; exact (List.getElem?_eq_some_iff.1 hc).1,this,fun _=>rfl,fun e=>absurd this e⟩
 ·intro i
  rcases Nat.lt_or_ge i cs2.length with hi | hi
  ·obtain ⟨c,hc,_,e⟩:=hat i hi
   rw [e]
   exact (h.ok i c (Nat.zero_le _) hc).2.2.2.2
  ·simp [gr,List.getElem?_eq_none hi]
theorem make_ints (w:World) (n:Nat) (hn:n≤100000):∃ w',(Instr.makeSlice 25 (.int .i64 (n:Int)) (.int .i64 (n:Int))).run Tryz.prog w = .ok (.slice (some ⟨w.heap.size,0,none⟩) n n) w' ∧
  w'.ownsRow w.heap.size 3 1 (.slice (some ⟨w.heap.size,0,none⟩) n n) (List.replicate n 0).length (ints (List.replicate n 0))∧w.grownBy w' none:=by
 obtain ⟨i,h1,h2,h3,h4⟩:=info_parts Tryz.infoInt
 obtain ⟨w',r1,r2,r3⟩:=run_make_full (P:=Tryz.prog) w w.heap.size 25 3 i _ 1 Tryz.underlying25 h1 h2 h3 .i64 .i64 n (by rw [h4]; omega) (by simp only [maxLen]; omega) (Nat.le_refl _)
 refine ⟨w',r1,?_,r3⟩
 have e:(madeCells (Value.int .i64 0).cells (n * 1)).toList=ints (List.replicate n 0):=by
  have:(Value.int .i64 0).cells=#[.int .i64 0]:=rfl
  rw [this,toList_madeCells_one]
  simp [ints]
 rw [e] at r2
 simpa using r2
set_option maxRecDepth 10000 in
set_option maxHeartbeats 2000000 in
theorem Zkj (w:World) (X:Nat→Prop) (a b c a' b' c':Value) (l m:List Sym) (h:Rep X w a b c l) (h':Rep X w a' b' c' m) (hl:l.length+m.length≤4000) :
  Calls Tryz.prog 206 #[.agg #[a,b,c],.agg #[a',b',c']] w fun e w'=>∃ qv,e = .returned qv∧Ext w w'∧((qv = .bool true∧∃ θ,Ts θ∧ap θ l=ap θ m)∨(qv = .bool false∧NoFit l m)):=by
 obtain ⟨s1,n1,c1a,c1l,c1c,rfl,rfl,rfl⟩:=h.shape
 obtain ⟨s2,n2,c2a,c2l,c2c,rfl,rfl,rfl⟩:=h'.shape
 have Hl:=Zaa (Zvt l.length ((w.alloc (.cells #[.string s1,.int .i64 n1,.slice c1a c1l c1c] 183)).alloc (.cells #[.string s2,.int .i64 n2,.slice c2a c2l c2c] 183)) (w.heap.size+2) (.slice none 0 0) [] [] X _ _ _ l (Nat.le_refl _)
  ⟨rfl,World.ownsRow_nil _ _ _ _,fun i c v h=>by simp at h⟩ (h.ext (Ext.of (by repeat' (first | with_reducible exact Kept.refl _ _ | with_reducible apply Kept.drew | with_reducible apply Kept.drewN | with_reducible apply Kept.alloc | with_reducible refine Kept.setCell ?_ ?_ _ | exact fun h=>absurd h (by simp <;> omega)))) (fun _ _ h=>h)) (by simp) (by simp; omega))
 have H':=Zaa h'
 clear h h'
 go_enter Tryz.func206,Tryz.ntmps206
 go_wp2_with fail
 refine Hl.out.mono ?_
 rintro e w1 ⟨lv1,x,cs1,vs1,rfl,ho1,hlay1⟩
 obtain ⟨l1a,l1cap,rfl⟩:=Zad ho1.cells.owns
 have hk1:Kept Zbg w w1:=(((Kept.refl Zbg w).alloc _).alloc _).then ho1.kept (fun i hi e=>by simp [Zbd,Value.ownBlock] at e)
 have hb1:w1.heap[w.heap.size+1]?=some (.cells #[.string s2,.int .i64 n2,.slice c2a c2l c2c] 183 (0,0)):=(ho1.kept.block (w.heap.size+1) (by simp) (fun e=>by simp [Zbd,Value.ownBlock] at e)).trans
  (by have:=heap_alloc_new (w.alloc (.cells #[.string s1,.int .i64 n1,.slice c1a c1l c1c] 183)) (.cells #[.string s2,.int .i64 n2,.slice c2a c2l c2c] 183); simp only [World.alloc,Array.size_push] at this ⊢; exact this)
 obtain ⟨p0,p1,p2,pf⟩:=box3 hb1
 have hs1:=ho1.kept.size
 simp at hs1
 have hlen1:=hlay1.len
 simp only [List.length_nil,List.flatten_cons,List.flatten_nil,List.append_nil] at hlen1
 have Hl2:=Zaa (Zvt m.length w1 (w.heap.size+2) _ cs1 vs1 X _ _ _ m (Nat.le_refl _) ho1.cells (H'.out.ext (Ext.of hk1) (fun _ _ h=>h)) (by omega) (by omega))
 have Ho1:=Zaa ho1
 have Hlay1:=Zaa hlay1
 have Hk1:=Zaa hk1
 clear ho1 hlay1 hk1 hb1
 go_wp2_with fail
 refine Hl2.out.mono ?_
 rintro e w2 ⟨lv2,y,cs2,vs2,rfl,ho2,hlay2⟩
 obtain ⟨l2a,l2cap,rfl⟩:=Zad ho2.cells.owns
 obtain ⟨tm,hlay,hxl,hyl,htx,hty,hfirst,hup,hk4⟩:=two_laid Hlay1.out hlay2
 have hlen2:=hlay2.len
 simp only [List.flatten_cons,List.flatten_nil,List.append_nil] at hlen2
 have hs2:=ho2.kept.size
 have hk2:Below w.heap.size w w2:=(Ext.of Hk1.out).trans (ho2.kept.below (by omega) (fun k e=>by have:=(Ho1.out.cells.owns.lt k e).1; omega))
 have Hj:=Zaa (Zxx (Zcx cs2) w2 (w.heap.size+2) _ cs2 vs2 _ _ x y ho2.cells hup hlay.ok (Nat.le_refl _) hxl hyl (by omega) hk4)
 have Ho2:=Zaa ho2
 have Hlay:=Zaa hlay
 have Hfirst:=Zaa hfirst
 have Hk2:=Zaa hk2
 have Hk4:=Zaa hk4
 have Htx:=Zaa htx
 have Hty:=Zaa hty
 clear ho2 hlay2 hlay hfirst hk2 hup hk4 htx hty p0 p1 p2 pf
 go_wp2_with fail
 refine Hj.out.mono ?_
 rintro e w3 ⟨q,cs3,ρ,rk,rfl,hcs3,hgr,hup3,_,hk3,hq1,hq2⟩
 have hcl3:=gr_len hgr
 have hk3':Below w.heap.size w w3:=Hk2.out.trans (hk3.below (by omega) (fun k e=>by have:=(Ho2.out.cells.owns.lt k e).1; omega))
 have hs3:=hk3.size
 have Hcs3:=Zaa hcs3
 have Hgr:=Zaa hgr
 have Hup3:=Zaa hup3
 have Hk3:=Zaa hk3'
 have Hq1:=Zaa hq1
 have Hq2:=Zaa hq2
 have Hcl3:=Zaa hcl3
 clear hcs3 hgr hup3 hk3 hk3' hq1 hq2 hcl3
 cases q
 ·go_wp2
  refine bodyPost_ret (v := .bool false) (by simp [results,Tryz.results206,go_sem]) rfl ?_
  exact ⟨_,rfl,Hk3.out,Or.inr ⟨rfl,Zvc Hlay.out Hfirst.out hxl hyl Htx.out Hty.out (Hq2.out trivial)⟩⟩
 ·obtain ⟨w4,hrun,hown,hgrown⟩:=make_ints w3 cs2.length (by omega)
  have hsz4:=hgrown.size
  have hk4:Kept Zbg w3 w4:=(Kept.of_grown hgrown).mono (fun _ _ e=>by simp at e)
  have hup4:=Hup3.out
  have hcs4:CellsAt w4 (w.heap.size+2) _ cs3 vs2:=Hcs3.out.ext (fun k hk=>hk4.block k hk (fun h=>h))
  have hj:=Hq1.out rfl
  have hst:Known (gr cs3) ρ (dn (List.replicate cs2.length 0)) (fun _=>[]):=(Known.none (gr cs3) ρ (fun _=>[])).congr (fun i=>by
   unfold dn
   simp only [iff_false]
   intro h
   have:=List.mem_of_getElem? h
   simp at this) (fun _ h=>h.elim)
  have He:=Zaa (ends_any (fresh (List.replicate cs2.length 0)) w4 (w.heap.size+2) w3.heap.size _ _ cs3 vs2 ρ rk (List.replicate cs2.length 0) (fun _=>[]) x hcs4 hup4 (by rw [Hgr.out]; exact Hlay.out.ok) hown (fun j c v h1 h2 k e e'=>by
    have h5:=((Hcs3.out.kids j c v h1 h2).lt k e).2
    have h6:some w3.heap.size=some k:=e'
    simp at h6; omega) (by simp [Hcl3.out]) (by simp) (Nat.le_refl _) (by rw [Hcl3.out]; exact hxl) (by rw [Hcl3.out]; omega) (by rw [Hgr.out]; exact Hk4.out) hst)
  have Hk4':=Zaa hk4
  have Hj:=Zaa hj
  have Hown4:=Zaa hown
  clear hk4 hcs4 hj hst hown hgrown hup4
  go_wp2_with fail
  refine He.out.mono ?_
  rintro e w5 ⟨qv,st',T',rfl,_,hk5,_,hres⟩
  have hk5':Below w.heap.size w w5:=(Hk3.out.trans (Kept.below (Hk4'.out) (by omega) (fun _ h=>h.elim))).trans (hk5.below (by omega) (fun k e=>by
   have h6:some w3.heap.size=some k:=e
   simp at h6; omega))
  have Hk5:=Zaa hk5'
  have Hres:=Zaa hres
  clear hk5 hk5' hres
  rcases Hres.out with ⟨rfl,_,_,hkn,hd,_,_⟩ | ⟨rfl,hst⟩
  ·have Hu:Hid (∃ θ,Ts θ∧ap θ l=ap θ m):=by
    rw [Hgr.out] at hkn
    have hm:=(Zve Hlay.out Hfirst.out hxl hyl Htx.out Hty.out Hj.out hkn hd).1
    exact ⟨_,hm.ts,hm.unif⟩
   clear hkn hd Hres
   go_wp2
   refine bodyPost_ret (v := .bool true) (by simp [results,Tryz.results206,go_sem]) rfl ?_
   exact ⟨_,rfl,Hk5.out,Or.inl ⟨rfl,Hu.out⟩⟩
  ·have Hn:Hid (NoFit l m):=by
    rw [Hgr.out] at hst
    refine Zvd Hlay.out Hfirst.out hxl hyl Htx.out Hty.out Hj.out (i:=x) (fun val hv hc => ?_)
    obtain ⟨r,hr,hle⟩:=hst val hv hc
    unfold on at hr
    have:=List.mem_of_getElem? hr
    simp at this
   clear hst Hres
   go_wp2
   refine bodyPost_ret (v := .bool false) (by simp [results,Tryz.results206,go_sem]) rfl ?_
   exact ⟨_,rfl,Hk5.out,Or.inr ⟨rfl,Hn.out⟩⟩
def sgm:List (Nat × List Sym)→Nat→List Sym
 | L=>fun n=>L.foldl (fun t s=>ap (sub1 s.1 s.2) t) (vr n)
theorem Zqi (L:List (Nat × List Sym)) (v:Nat) (t:List Sym):sgm (L++[(v,t)])=fun n=>ap (sub1 v t) (sgm L n):=by
 funext n; simp [sgm]
theorem Tryz.infoSub:(Tryz.prog.info? 300).map (fun i=>(i.zero,i.size,i.bytes))=some (some (.agg #[.int .i64 0,.string ⟨#[]⟩,.int .i64 0,.slice none 0 0]),4,56):=by kernel_rfl
theorem sub_one {s:ByteArray} {n m:Int} {ca:Option Addr} {cl cc:Nat}:∀ u ∈ (#[Value.int .i64 m,.string s,.int .i64 n,.slice ca cl cc]:Array Value).toList,u.oneCell'=true:=by
 intro u hu
 simp at hu
 rcases hu with rfl | rfl | rfl | rfl <;> rfl
structure RowS (X:Nat→Prop) (w:World) (B:Nat) (cv:Value) (n:Nat) (L:List (Nat × List Sym)) (xs:List Value):Prop where
 owns:w.ownsRow B 300 4 cv n xs
 len:L.length=n
 all:∀ (i:Nat) (s:Nat × List Sym),L[i]?=some s→∃ a b c,xs[i * 4]?=some (.int .i64 s.1)∧xs[i * 4+1]?=some a∧xs[i * 4+2]?=some b∧xs[i * 4+3]?=some c∧Rep X w a b c s.2
theorem RowS.nil (X:Nat→Prop) (w:World) (B:Nat):RowS X w B (.slice none 0 0) 0 [] []:=⟨World.ownsRow_nil _ _ _ _,rfl,fun i l' h=>by simp at h⟩
theorem RowS.on {X Y:Nat→Prop} {w w':World} {B n:Nat} {cv:Value} {L:List (Nat × List Sym)} {xs:List Value} (h:RowS X w B cv n L xs) (ho:∀ k,cv.ownBlock=some k→w'.heap[k]?=w.heap[k]?) (hk:∀ k,k<w.heap.size→¬ X k→Zeq w k→w'.heap[k]?=w.heap[k]?∧¬ Y k):RowS Y w' B cv n L xs :=
 ⟨Zan h.owns ho,h.len,fun i s hs=>by
  obtain ⟨a,b,c,x0,x1,x2,x3,g⟩:=h.all i s hs
  exact ⟨a,b,c,x0,x1,x2,x3,g.on hk⟩⟩
theorem RowS.ext {X Y:Nat→Prop} {w w':World} {B B' n:Nat} {cv:Value} {L:List (Nat × List Sym)} {xs:List Value} (h:RowS X w B cv n L xs) (e:Ext w w') (hy:∀ k,Y k→X k) (hB:B'≤B):RowS Y w' B' cv n L xs:=by
 have:=h.on (Y:=Y) (w':=w') (fun k hk=>e.block k (h.owns.lt k hk).2) (fun k hk hn _=>⟨e.block k hk,fun h=>hn (hy k h)⟩)
 exact ⟨Zbe this.owns hB,this.len,this.all⟩
theorem RowS.step {X:Nat→Prop} {w w':World} {B n:Nat} {cv cv':Value} {L:List (Nat × List Sym)} {xs:List Value} {a b c:Value} {v:Nat} {t:List Sym} (h:RowS X w B cv n L xs) (hr:Rep X w a b c t) (ha:Appended w B 300 4 cv (n+1) (xs++[.int .i64 v,a,b,c]) cv' w') :
  RowS X w' B cv' (n+1) (L++[(v,t)]) (xs++[.int .i64 v,a,b,c]):=by
 have hon:∀ {a b c:Value} {l:List Sym},Rep X w a b c l→Rep X w' a b c l:=fun hr=>hr.on (fun k hk hx ht=>by
  obtain ⟨cur,hc⟩:=ht
  exact ⟨ha.kept.block k hk (Zah h.owns (by decide) hc),hx⟩)
 have hxl:=h.owns.1
 have hL:=h.len
 refine ⟨ha.owns,by simp [hL],fun i s hs => ?_⟩
 rcases Nat.lt_or_ge i L.length with hi | hi
 ·rw [List.getElem?_append_left hi] at hs
  obtain ⟨a',b',c',x0,x1,x2,x3,g⟩:=h.all i s hs
  refine ⟨a',b',c',?_,?_,?_,?_,hon g⟩
  ·rw [List.getElem?_append_left (by omega)]; exact x0
  ·rw [List.getElem?_append_left (by omega)]; exact x1
  ·rw [List.getElem?_append_left (by omega)]; exact x2
  ·rw [List.getElem?_append_left (by omega)]; exact x3
 ·have:=(List.getElem?_eq_some_iff.1 hs).1
  simp at this
  have e:i=L.length:=by omega
  subst e
  simp at hs
  subst hs
  rw [hL]
  refine ⟨a,b,c,?_,?_,?_,?_,hon hr⟩
  ·rw [List.getElem?_append_right (by omega),hxl]; simp
  ·rw [List.getElem?_append_right (by omega),hxl]; simp
  ·rw [List.getElem?_append_right (by omega),hxl]; simp
  ·rw [List.getElem?_append_right (by omega),hxl]; simp
structure Stay (Y:Nat→Prop) (B:Nat) (u u':World):Prop where
 size:u.heap.size≤u'.heap.size
 block:∀ k,k<u.heap.size→¬ Y k→u'.heap[k]?=u.heap[k]?
 low:Below B u u'
theorem Stay.ext {Y:Nat→Prop} {B:Nat} {u u':World} (h:Ext u u') (hB:B≤u.heap.size):Stay Y B u u':=⟨h.size,fun k hk _=>h.block k hk,h.mono hB⟩
theorem Stay.of {Y:Nat→Prop} {B:Nat} {S:Nat→Prop} {u u':World} (h:Kept S u u') (hB:B≤u.heap.size) (h1:∀ k,S k→Y k) (h2:∀ k,S k→B≤k):Stay Y B u u':=⟨h.size,fun k hk hn=>h.block k hk (fun e=>hn (h1 k e)),h.below hB h2⟩
theorem Stay.trans {Y:Nat→Prop} {B:Nat} {u u' u'':World} (h:Stay Y B u u') (k:Stay Y B u' u''):Stay Y B u u'':=⟨Nat.le_trans h.size k.size,fun i hi hn=>(k.block i (Nat.lt_of_lt_of_le hi h.size) hn).trans (h.block i hi hn),h.low.trans k.low⟩
theorem Rep.stay {Y:Nat→Prop} {B:Nat} {u u':World} {a b c:Value} {l:List Sym} (h:Rep Y u a b c l) (hs:Stay Y B u u'):Rep Y u' a b c l:=h.on (fun k hk hn _=>⟨hs.block k hk hn,hn⟩)
theorem RowS.stay {Y:Nat→Prop} {B:Nat} {u u':World} {B' n:Nat} {cv:Value} {L:List (Nat × List Sym)} {xs:List Value} (h:RowS Y u B' cv n L xs) (hs:Stay Y B u u') (hc:∀ k,B'≤k→¬ Y k):RowS Y u' B' cv n L xs :=
 h.on (fun k e=>hs.block k (h.owns.lt k e).2 (hc k (h.owns.lt k e).1)) (fun k hk hn _=>⟨hs.block k hk hn,hn⟩)
theorem Stay.put3 {X:Nat→Prop} {B n b:Nat} {u:World} (hb:B≤b∧b<B+n) (hB:B≤u.heap.size) (x y z:Value):Stay (boxed X B n) B u (((u.setCell ⟨b,0,none⟩ x).setCell ⟨b,1,none⟩ y).setCell ⟨b,2,none⟩ z) :=
 Stay.of (S:=only b) ((((Kept.refl (only b) u).put 0 x).put 1 y).put 2 z) hB (fun k e=>Or.inr (by have e:k=b:=e; omega)) (fun k e=>by have e:k=b:=e; omega)
theorem Zfu {X:Nat→Prop} {B n k:Nat} (h:boxed X B n k) (hk:k<B):X k:=by
 rcases h with h | h
 ·exact h
 ·omega
def Zgz (V:List Nat) (l:List Sym):Nat:=(V.filter (fun v=>l.any (fun s=>s.name.isEmpty && s.num == v))).length
theorem Zqj {v:Nat} {l:List Sym}:l.any (fun s=>s.name.isEmpty && s.num == v)=true↔Occ v l:=by
 simp only [List.any_eq_true,Bool.and_eq_true,beq_iff_eq,List.isEmpty_iff]
 constructor
 ·rintro ⟨s,h,h1,h2⟩; exact ⟨s,h,h1,h2⟩
 ·rintro ⟨s,h,h1,h2⟩; exact ⟨s,h,h1,h2⟩
theorem Zse {V:List Nat} {l l':List Sym} {v:Nat} (hv:v ∈ V) (ho:Occ v l) (hn:¬ Occ v l') (hs:∀ n,Occ n l'→Occ n l):Zgz V l'<Zgz V l:=by
 unfold Zgz
 refine Zmu (x:=v) (fun n _ h=>Zqj.2 (hs n (Zqj.1 h))) hv (Zqj.2 ho) ?_
 cases h:l'.any (fun s=>s.name.isEmpty && s.num == v) with
 | false=>rfl
 | true=>exact absurd (Zqj.1 h) hn
theorem Zgn {v n:Nat} {y l:List Sym} (h:Occ n (ap (sub1 v y) l)):(n≠v∧Occ n l)∨(Occ v l∧Occ n y):=by
 rw [Zoi] at h
 obtain ⟨k,h1,h2⟩:=h
 unfold sub1 at h2
 split at h2
 ·rename_i e; subst e; exact Or.inr ⟨h1,h2⟩
 ·rename_i e; rw [Zgg] at h2; subst h2; exact Or.inl ⟨e,h1⟩
def LsOk (L:List (Nat × List Sym)):Prop:=(∀ s ∈ L,Wf 1 s.2∧s.2.length≤30)∧∀ k n,(sgm (L.take k) n).length≤30
theorem LsOk.nil:LsOk []:=⟨by simp,fun k n=>by simp [sgm,vr]⟩
theorem LsOk.snoc {L:List (Nat × List Sym)} (h:LsOk L) {v:Nat} {t l m la lb:List Sym} (ht:Wf 1 t∧t.length≤30) (hc:Carr l m (sgm (L++[(v,t)])) la lb) (ha:la.length≤30) (hb:lb.length≤30):LsOk (L++[(v,t)]):=by
 refine ⟨fun s hs => ?_,fun k n => ?_⟩
 ·rcases List.mem_append.1 hs with hs | hs
  ·exact h.1 s hs
  ·simp at hs; subst hs; exact ht
 ·rcases Nat.lt_or_ge k (L.length+1) with hk | hk
  ·rw [List.take_append_of_le_length (by omega)]
   exact h.2 k n
  ·rw [List.take_of_length_le (by simp; omega)]
   have hp:∀ {l:List Sym},Occ n l→1≤l.length:=fun ⟨s,hs,_⟩=>by cases ‹List Sym› with | nil=>simp at hs | cons _ _=>simp
   by_cases h1:Occ n l
   ·have:=Zgu hc.ts h1
    rw [← hc.ha] at this
    have:=hp h1
    omega
   ·by_cases h2:Occ n m
    ·have:=Zgu hc.ts h2
     rw [← hc.hb] at this
     have:=hp h2
     omega
    ·rw [hc.own n h1 h2]; simp [vr]
def FitOut (X:Nat→Prop) (l m:List Sym) (w w':World) (r:Value):Prop :=
 (r = .tuple #[.slice none 0 0,.int .i64 0]∧NoFit l m)∨(r = .tuple #[.slice none 0 0,.int .i64 3]∧Vast l m) ∨
 (∃ cv L xs,r = .tuple #[cv,.int .i64 1]∧RowS X w' w.heap.size cv L.length L xs∧Mgu (sgm L) l m∧(ap (sgm L) l).length≤30∧LsOk L∧L.length≤60)
theorem Zif {σ:Nat→List Sym} {k:Nat} (hk:1≤k) (h:∀ n,(σ n).length≤k) (l:List Sym):(ap σ l).length≤l.length * k:=by
 induction l with
 | nil=>simp [ap]
 | cons s l ih =>
  rw [Zch]
  have:(ap1 σ s).length≤k:=by
   unfold ap1; split
   ·exact h _
   ·simpa using hk
  simp only [List.length_append,List.length_cons,Nat.add_mul,Nat.one_mul]
  omega
theorem Zgo {v:Nat} {t l:List Sym} (ht:t.length≤30) (hl:l.length≤30):(ap (sub1 v t) l).length≤900:=by
 have:=Zif (σ:=sub1 v t) (k:=30) (by omega) (fun n=>by
  unfold sub1; split
  ·exact ht
  ·simp [vr]) l
 omega
theorem Parts.len {a b x y:List Sym} (h:Parts a b x y):x.length≤a.length∧y.length≤b.length:=by
 obtain ⟨p,ra,rb,rfl,rfl⟩:=h.ex
 simp; omega
set_option maxRecDepth 10000 in
set_option maxHeartbeats 8000000 in
theorem fit_any (w:World) (X:Nat→Prop) (a b c a' b' c':Value) (l m:List Sym) (h:Rep X w a b c l) (h':Rep X w a' b' c' m) (hX:∀ k,X k→k<w.heap.size) (hl:l.length≤30) (hm:m.length≤30) :
  Calls Tryz.prog 181 #[.agg #[a,b,c],.agg #[a',b',c']] w fun e w'=>∃ r,e = .returned r∧Ext w w'∧FitOut X l m w w' r:=by
 have w1:=h.wf _ (Nat.le_refl _)
 have w2:=h'.wf _ (Nat.le_refl _)
 obtain ⟨s1,n1,c1a,c1l,c1c,rfl,rfl,rfl⟩:=h.shape
 obtain ⟨s2,n2,c2a,c2l,c2c,rfl,rfl,rfl⟩:=h'.shape
 have H:=Zaa h
 have H':=Zaa h'
 have HX:=Zaa hX
 have W1:=Zaa w1
 have W2:=Zaa w2
 obtain ⟨V,hV⟩:∃ V:List Nat,V=(l++m).map Sym.num:=⟨_,rfl⟩
 have HV:Hid (V.length≤60∧∀ v,Occ v l∨Occ v m→v ∈ V):=by
  subst hV
  refine ⟨by simp; omega,fun v hv => ?_⟩
  rw [← Zcu] at hv
  obtain ⟨s,hs,_,e⟩:=hv
  exact List.mem_map.2 ⟨s,hs,e⟩
 clear h h' hX w1 w2 hV
 go_enter Tryz.func181,Tryz.ntmps181
 go_wp2
 go_loopg [8] (Zgz V (l++m)+1) (fun gk cv wr=>∃ (L:List (Nat × List Sym)) (xs:List Value) (la lb:List Sym) (s3:ByteArray) (n3:Nat) (c3a:Option Addr) (c3l c3c:Nat) (s4:ByteArray) (n4:Nat) (c4a:Option Addr) (c4l c4c:Nat),
   Ext w wr∧RowS (boxed X w.heap.size 4) wr (w.heap.size+4) cv L.length L xs∧Carr l m (sgm L) la lb∧la.length≤30∧lb.length≤30∧LsOk L∧Zgz V (la++lb)<gk∧L.length+Zgz V (la++lb)≤60 ∧
   wr.heap[w.heap.size]?=some (.cells #[.string s3,.int .i64 n3,.slice c3a c3l c3c] 183 (0,0))∧wr.heap[w.heap.size+1]?=some (.cells #[.string s4,.int .i64 n4,.slice c4a c4l c4c] 183 (0,0)) ∧
   wr.heap[w.heap.size+1+1]?=some (.cells #[.string s1,.int .i64 n1,.slice c1a c1l c1c] 183 (0,0))∧wr.heap[w.heap.size+1+1+1]?=some (.cells #[.string s2,.int .i64 n2,.slice c2a c2l c2c] 183 (0,0)) ∧
   Rep (boxed X w.heap.size 4) wr (.string s3) (.int .i64 n3) (.slice c3a c3l c3c) la∧Rep (boxed X w.heap.size 4) wr (.string s4) (.int .i64 n4) (.slice c4a c4l c4c) lb)
 case atStart =>
  have hbx:∀ k,k<w.heap.size→boxed X w.heap.size 4 k→X k:=fun k hk h=>by
   rcases h with h | h
   ·exact h
   ·omega
  refine ⟨[],[],l,m,s1,n1,c1a,c1l,c1c,s2,n2,c2a,c2l,c2c,(Ext.of (by repeat' (first | with_reducible exact Kept.refl _ _ | with_reducible apply Kept.drew | with_reducible apply Kept.drewN | with_reducible apply Kept.alloc | with_reducible refine Kept.setCell ?_ ?_ _ | exact fun h=>absurd h (by simp <;> omega)))),RowS.nil _ _ _,Carr.start W1.out W2.out,hl,hm,LsOk.nil,by omega,?_,?_,?_,?_,?_,H.out.ext (Ext.of (by repeat' (first | with_reducible exact Kept.refl _ _ | with_reducible apply Kept.drew | with_reducible apply Kept.drewN | with_reducible apply Kept.alloc | with_reducible refine Kept.setCell ?_ ?_ _ | exact fun h=>absurd h (by simp <;> omega)))) hbx,H'.out.ext (Ext.of (by repeat' (first | with_reducible exact Kept.refl _ _ | with_reducible apply Kept.drew | with_reducible apply Kept.drewN | with_reducible apply Kept.alloc | with_reducible refine Kept.setCell ?_ ?_ _ | exact fun h=>absurd h (by simp <;> omega)))) hbx⟩
  ·have:Zgz V (l++m)≤V.length:=List.length_filter_le _ _
   have:=HV.out.1
   simp; omega
  ·exact Zag (Zag (Zag (heap_alloc_new w _) _) _) _
  ·simpa using Zag (Zag (heap_alloc_new (w.alloc _) _) _) _
  ·simpa using Zag (heap_alloc_new ((w.alloc _).alloc _) _) _
  ·simpa using heap_alloc_new (((w.alloc _).alloc _).alloc _) _
 case round =>
  obtain ⟨L,xs,la,lb,s3,n3,c3a,c3l,c3c,s4,n4,c4a,c4l,c4c,hext,hrow,hcarr,hla,hlb,hLs,hg,h60,h0,h1,h2,h3,hra,hrb⟩:=hrel
  obtain ⟨b0,b1,b2,bf⟩:=box3 h0
  obtain ⟨d0,d1,d2,df⟩:=box3 h1
  obtain ⟨cva,cvcap,rfl⟩:=Zad hrow.owns
  have hsz:=Zac h3
  have hYl:∀ k,boxed X w.heap.size 4 k→k<wr.heap.size:=fun k h=>by have:=Zdy HX.out k h; omega
  have HI:=Zaa (Zxt la.length wr (boxed X w.heap.size 4) _ _ _ _ _ _ la lb (Nat.le_refl _) (by omega) (by omega) hra hrb hYl)
  have Hext:=Zaa hext
  have Hrow:=Zaa hrow
  have Hcarr:=Zaa hcarr
  have HLs:=Zaa hLs
  have B0:=Zaa h0
  have B1:=Zaa h1
  have B2:=Zaa h2
  have B3:=Zaa h3
  have Hra:=Zaa hra
  have Hrb:=Zaa hrb
  have Hg:=Zaa hg
  have H60:=Zaa h60
  clear hext hrow hcarr hLs h0 h1 h2 h3 hra hrb hYl hg h60
  go_wp2_with fail
  refine HI.out.mono ?_
  rintro e w1 ⟨r,rfl,hext1,s5,n5,c5a,c5l,c5c,s6,n6,c6a,c6l,c6c,q,rfl,hq1,hq2⟩
  have Hext1:=Zaa hext1
  have hs1:=hext1.size
  have Hq1:=Zaa hq1
  have Hq2:=Zaa hq2
  clear hext1 hq1 hq2
  cases q
  ·have Hm:Hid (la=lb):=Hq1.out rfl
   go_wp2
   go_ret2
   have hk:∀ o o',Ext wr ((w1.alloc o).alloc o'):=fun o o'=>Hext1.out.trans (((Below.refl _ w1).alloc (by omega) _).alloc (by simp; omega) _)
   refine ⟨_,rfl,Hext.out.trans ((hk _ _).mono Hext.out.size),Or.inr (Or.inr ⟨_,L,xs,rfl,?_,Hcarr.out.done Hm.out,by rw [← Hcarr.out.ha]; exact hla,HLs.out,by have:=H60.out; omega⟩)⟩
   exact Hrow.out.ext (hk _ _) (fun k h=>Or.inl h) (by omega)
  ·obtain ⟨x,y,hrx,hry,hpart⟩:=Hq2.out rfl
   have hpl:=hpart.len
   rcases hrx.out with ⟨v,hs5,hn5,hc5,rfl⟩ | ⟨nm,ls,ys,hnm,hs5,hn5,hx,_⟩
   ·simp only [Value.string.injEq,Value.int.injEq,true_and,Value.slice.injEq] at hs5 hn5 hc5
    obtain ⟨rfl,rfl,rfl⟩:=hc5
    subst hs5
    have hn5':n5=v:=by omega
    subst hn5'
    have Hstand:=Zaa (fun wq (hq:Ext w1 wq)=>Zou y.length wq (boxed X w.heap.size 4) _ _ _ y n5 (Nat.le_refl _) (by omega) (hry.ext hq (fun j _ h=>Or.inl h)))
    have Hry:=Zaa hry
    have Hpx:=Zaa hpart
    clear hrx hry hpart
    go_wp2_with fail
    refine (Hstand.out _ (Ext.of (by repeat' (first | with_reducible exact Kept.refl _ _ | with_reducible apply Kept.drew | with_reducible apply Kept.drewN | with_reducible apply Kept.alloc | with_reducible refine Kept.setCell ?_ ?_ _ | exact fun h=>absurd h (by simp <;> omega))))).mono ?_
    rintro e w2 ⟨r,rfl,hext2,hin⟩
    have HE12:Hid (Ext w1 w2):=Below.trans (Ext.of (by repeat' (first | with_reducible exact Kept.refl _ _ | with_reducible apply Kept.drew | with_reducible apply Kept.drewN | with_reducible apply Kept.alloc | with_reducible refine Kept.setCell ?_ ?_ _ | exact fun h=>absurd h (by simp <;> omega)))) (hext2.mono (by simp; omega))
    have Hin:=Zaa hin
    have hs2:=hext2.size
    simp at hs2
    have hb9:w2.heap[w1.heap.size]?=some (.cells #[.string ⟨#[]⟩,.int .i64 n5,.slice none 0 0] 183 (0,0)):=(hext2.block _ (by simp; omega)).trans (Zag (heap_alloc_new w1 _) _)
    have hb10:w2.heap[w1.heap.size+1]?=some (.cells #[.string s6,.int .i64 n6,.slice c6a c6l c6c] 183 (0,0)):=(hext2.block _ (by simp)).trans (by simpa using heap_alloc_new (w1.alloc _) _)
    obtain ⟨z0,z1,z2,zf⟩:=box3 hb9
    obtain ⟨t0,t1,t2,tf⟩:=box3 hb10
    have Hb9:=Zaa hb9
    have Hb10:=Zaa hb10
    clear hext2 hin hb9 hb10
    cases r
    ·have hst2:Stay (boxed X w.heap.size 4) w.heap.size wr w2:=(Stay.ext Hext1.out (by omega)).trans (Stay.ext HE12.out (by omega))
     have hsw:=hst2.size
     have ha2:=((HE12.out.block w.heap.size (by omega)).trans (Hext1.out.block _ (by omega))).trans B0.out
     have hb2:=((HE12.out.block (w.heap.size+1) (by omega)).trans (Hext1.out.block _ (by omega))).trans B1.out
     obtain ⟨g0,g1,g2,gf⟩:=box3 ha2
     obtain ⟨k0,k1,k2,kf⟩:=box3 hb2
     have m0:w.heap.size<w2.heap.size:=by omega
     have m1:w.heap.size+1<w2.heap.size:=by omega
     have m2:w1.heap.size<w2.heap.size:=by omega
     have m3:w1.heap.size+1<w2.heap.size:=by omega
     have Hry2:Hid (Rep (boxed X w.heap.size 4) w2 (.string s6) (.int .i64 n6) (.slice c6a c6l c6c) y):=(Hry.out.ext (Y:=boxed X w.heap.size 4) (w':=w2) HE12.out (fun k _ h=>Or.inl h))
     have HIp:=Zaa (fun wq (hq:Ext w2 wq)=>Zmw la.length wq (boxed X w.heap.size 4) (.string s3) (.int .i64 n3) (.slice c3a c3l c3c) la n5 (.string s6) (.int .i64 n6) (.slice c6a c6l c6c) y (Nat.le_refl _) ((Hra.out.stay hst2).ext hq (fun _ _ h=>h)) (Hry2.out.ext hq (fun _ _ h=>h)) (fun k h=>by have:=Zdy HX.out k h; have:=hq.size; omega) (by have:=Zgo (v:=n5) (t:=y) (l:=la) (by omega) hla; omega))
     have Hst2:=Zaa hst2
     have Ha2:=Zaa ha2
     have Hb2:=Zaa hb2
     clear hst2 ha2 hb2
     go_wp2_with fail
     refine (HIp.out _ (Ext.of (by repeat' (first | with_reducible exact Kept.refl _ _ | with_reducible apply Kept.drew | with_reducible apply Kept.drewN | with_reducible apply Kept.alloc | with_reducible refine Kept.setCell ?_ ?_ _ | exact fun h=>absurd h (by simp <;> omega))))).mono ?_
     rintro e w3 ⟨a7,b7,c7,rfl,hext3,hrep7⟩
     obtain ⟨s7,n7,c7a,c7l,c7c,rfl,rfl,rfl⟩:=hrep7.shape
     have hs3:=hext3.size
     simp at hs3
     have hE3:Ext w2 w3:=((Ext.of (by repeat' (first | with_reducible exact Kept.refl _ _ | with_reducible apply Kept.drew | with_reducible apply Kept.drewN | with_reducible apply Kept.alloc | with_reducible refine Kept.setCell ?_ ?_ _ | exact fun h=>absurd h (by simp <;> omega)))):Ext w2 _).trans (hext3.mono (by simp))
     have hs23:=hE3.size
     obtain ⟨g0,g1,g2,gf⟩:=box3 ((hE3.block _ m0).trans Ha2.out)
     have hb3:=(hE3.block _ m1).trans Hb2.out
     obtain ⟨k0,k1,k2,kf⟩:=box3 hb3
     have hS3:w3.heap[w2.heap.size]?=some (.cells #[.int .i64 n5,.string s6,.int .i64 n6,.slice c6a c6l c6c] 300 (0,0)):=(hext3.block _ (by simp)).trans (heap_alloc_new w2 _)
     have q0:w3.cell? ⟨w2.heap.size,0,none⟩=some (.int .i64 n5):=Zab hS3 0 _ rfl
     have q1:w3.cell? ⟨w2.heap.size,1,none⟩=some (.string s6):=Zab hS3 1 _ rfl
     have q2:w3.cell? ⟨w2.heap.size,2,none⟩=some (.int .i64 n6):=Zab hS3 2 _ rfl
     have q3:w3.cell? ⟨w2.heap.size,3,none⟩=some (.slice c6a c6l c6c):=Zab hS3 3 _ rfl
     have hst3:Stay (boxed X w.heap.size 4) w.heap.size wr w3:=Hst2.out.trans (Stay.ext hE3 (by omega))
     have HE3:=Zaa hE3
     have HS3:=Zaa hS3
     have Hst3:=Zaa hst3
     have Hrep7:=Zaa hrep7
     have Hry3:=Zaa (Hry2.out.ext hE3 (fun _ _ h=>h))
     have Hb3:=Zaa hb3
     have ne0:¬ w2.heap.size=w.heap.size:=by omega
     have ne1:¬ w.heap.size+1=w.heap.size:=by omega
     clear hext3 hrep7 hE3 hS3 hst3 hb3
     have HIq:=Zaa (fun wq (hq:Stay (boxed X w.heap.size 4) w.heap.size w3 wq)=>Zmw lb.length wq (boxed X w.heap.size 4) (.string s4) (.int .i64 n4) (.slice c4a c4l c4c) lb n5 (.string s6) (.int .i64 n6) (.slice c6a c6l c6c) y (Nat.le_refl _) (Hrb.out.stay (Hst3.out.trans hq)) (Hry3.out.stay hq) (fun k h=>by have:=Zdy HX.out k h; have:=hq.size; omega) (by have:=Zgo (v:=n5) (t:=y) (l:=lb) (by omega) hlb; omega))
     go_wp2_with fail
     refine (HIq.out _ (Stay.put3 (by omega) (by omega) _ _ _)).mono ?_
     rintro e w4 ⟨a8,b8,c8,rfl,hext4,hrep8⟩
     obtain ⟨s8,n8,c8a,c8l,c8c,rfl,rfl,rfl⟩:=hrep8.shape
     have hs4:=hext4.size
     simp at hs4
     have hW3:=Zkf ((HE3.out.block _ m0).trans Ha2.out) (.string s7) (.int .i64 n7) (.slice c7a c7l c7c)
     have hst4:Stay (boxed X w.heap.size 4) w.heap.size w3 w4:=(Stay.put3 (by omega) (by omega) _ _ _).trans (Stay.ext hext4 (by simp; omega))
     have ha4:=(hext4.block w.heap.size (by simp; omega)).trans hW3.1
     have hb4:=(hext4.block (w.heap.size+1) (by simp; omega)).trans ((hW3.2.block _ (by omega) (by omega)).trans Hb3.out)
     have hS4:=(hext4.block w2.heap.size (by simp; omega)).trans ((hW3.2.block _ (by omega) (by omega)).trans HS3.out)
     have hc4:=(hext4.block (w.heap.size+1+1) (by simp; omega)).trans ((hW3.2.block _ (by omega) (by omega)).trans ((HE3.out.block _ (by omega)).trans (((HE12.out.block _ (by omega)).trans (Hext1.out.block _ (by omega))).trans B2.out)))
     have hd4:=(hext4.block (w.heap.size+1+1+1) (by simp; omega)).trans ((hW3.2.block _ (by omega) (by omega)).trans ((HE3.out.block _ (by omega)).trans (((HE12.out.block _ (by omega)).trans (Hext1.out.block _ (by omega))).trans B3.out)))
     obtain ⟨g0,g1,g2,gf⟩:=box3 ha4
     obtain ⟨k0,k1,k2,kf⟩:=box3 hb4
     have q0:w4.cell? ⟨w2.heap.size,0,none⟩=some (.int .i64 n5):=Zab hS4 0 _ rfl
     have q1:w4.cell? ⟨w2.heap.size,1,none⟩=some (.string s6):=Zab hS4 1 _ rfl
     have q2:w4.cell? ⟨w2.heap.size,2,none⟩=some (.int .i64 n6):=Zab hS4 2 _ rfl
     have q3:w4.cell? ⟨w2.heap.size,3,none⟩=some (.slice c6a c6l c6c):=Zab hS4 3 _ rfl
     have hW4:=Zkf hb4 (.string s8) (.int .i64 n8) (.slice c8a c8l c8c)
     obtain ⟨W4,hW4e⟩:∃ W,W=((w4.setCell ⟨w.heap.size+1,0,none⟩ (.string s8)).setCell ⟨w.heap.size+1,1,none⟩ (.int .i64 n8)).setCell ⟨w.heap.size+1,2,none⟩ (.slice c8a c8l c8c):=⟨_,rfl⟩
     have hstW:Stay (boxed X w.heap.size 4) w.heap.size w4 W4:=by rw [hW4e]; exact Stay.put3 (by omega) (by omega) _ _ _
     rw [← hW4e] at hW4
     have hsW:=hstW.size
     have hYc:∀ k,w.heap.size+4≤k→¬ boxed X w.heap.size 4 k:=fun k hk h=>by have:=Zdy HX.out k h; omega
     have hrowW:=Hrow.out.stay (Hst3.out.trans (hst4.trans hstW)) hYc
     have hrepA:=Hrep7.out.stay (hst4.trans hstW)
     have hrepB:=hrep8.stay hstW
     have hrepY:=Hry3.out.stay (hst4.trans hstW)
     have hstA:=Hst3.out.trans (hst4.trans hstW)
     have haW:=(hW4.2.block w.heap.size (by omega) (by omega)).trans ha4
     have hcW:=(hW4.2.block (w.heap.size+1+1) (by omega) (by omega)).trans hc4
     have hdW:=(hW4.2.block (w.heap.size+1+1+1) (by omega) (by omega)).trans hd4
     have HrowW:=Zaa hrowW
     have HrepA:=Zaa hrepA
     have HrepB:=Zaa hrepB
     have HrepY:=Zaa hrepY
     have HstA:=Zaa hstA
     have HaW:=Zaa haW
     have HbW:=Zaa hW4.1
     have HcW:=Zaa hcW
     have HdW:=Zaa hdW
     have HW4e:=Zaa hW4e
     have HrowO:Hid ((((w4.setCell ⟨w.heap.size+1,0,none⟩ (.string s8)).setCell ⟨w.heap.size+1,1,none⟩ (.int .i64 n8)).setCell ⟨w.heap.size+1,2,none⟩ (.slice c8a c8l c8c)).ownsRow (w.heap.size+4) 300 4 (.slice cva L.length cvcap) L.length xs):=by
      rw [← hW4e]; exact hrowW.owns
     have ne2:¬ w2.heap.size=w.heap.size+1:=by omega
     have hL60:=H60.out
     clear hext4 hrep8 hst4 ha4 hb4 hS4 hc4 hd4 hW3 hW4 hstW hrowW hrepA hrepB hrepY hstA haW hcW hdW hW4e hYc
     go_wp2_with (at_builtin; refine Zaj _ rfl (.tmp 52) (.tmp 54) 283 rfl (w.heap.size+4) 300 Tryz.infoSub Tryz.underlying283 rfl (by decide) _ L.length xs rfl HrowO.out _ rfl (by simp) rfl sub_one ?_ ?_ ?_)
     ·omega
     ·simp; omega
     rw [← HW4e.out]
     intro cv' w5 hap5
     obtain ⟨c9a,c9cap,rfl⟩:=Zad hap5.owns
     have hnow:∀ k,k<w.heap.size+4→¬ Zbd (.slice cva L.length cvcap) k:=fun k hk e=>by have:=(HrowW.out.owns.lt k e).1; omega
     have ha5:=(hap5.kept.block _ (by omega) (hnow w.heap.size (by omega))).trans HaW.out
     have hb5:=(hap5.kept.block _ (by omega) (hnow (w.heap.size+1) (by omega))).trans HbW.out
     have hc5':=(hap5.kept.block _ (by omega) (hnow (w.heap.size+1+1) (by omega))).trans HcW.out
     have hd5:=(hap5.kept.block _ (by omega) (hnow (w.heap.size+1+1+1) (by omega))).trans HdW.out
     have hon5:∀ {a b c:Value} {t:List Sym},Rep (boxed X w.heap.size 4) W4 a b c t→Rep (boxed X w.heap.size 4) w5 a b c t:=fun hr=>hr.on (fun k hk hx ht=>by
      obtain ⟨cur,hc⟩:=ht
      exact ⟨hap5.kept.block k hk (Zah HrowW.out.owns (by decide) hc),hx⟩)
     have hrow5:=HrowW.out.step HrepY.out hap5
     have hrep5a:=hon5 HrepA.out
     have hrep5b:=hon5 HrepB.out
     have hlow5:Below w.heap.size w w5:=(Hext.out.trans HstA.out.low).trans (hap5.kept.below (by omega) (fun k e=>by have:=(HrowW.out.owns.lt k e).1; omega))
     have hrepC:=hon5 ((H.out.ext Hext.out (fun k hk h=>Zfu h hk)).stay HstA.out)
     have hrepD:=hon5 ((H'.out.ext Hext.out (fun k hk h=>Zfu h hk)).stay HstA.out)
     obtain ⟨g0,g1,g2,gf⟩:=box3 ha5
     obtain ⟨k0,k1,k2,kf⟩:=box3 hb5
     obtain ⟨i0,i1,i2,if'⟩:=box3 hc5'
     obtain ⟨j0,j1,j2,jf⟩:=box3 hd5
     have hs5:=hap5.kept.size
     have hcarr2:=Hcarr.out.step (v:=n5) (y:=y) (Or.inl Hpx.out) rfl
     rw [← Zqi] at hcarr2
     have hla2:=Zgo (v:=n5) (t:=y) (l:=la) (by omega) hla
     have hlb2:=Zgo (v:=n5) (t:=y) (l:=lb) (by omega) hlb
     have HIs:=Zaa (Zgi (ap (sub1 n5 y) la).length w5 (boxed X w.heap.size 4) _ _ _ (ap (sub1 n5 y) la) (Nat.le_refl _) (by omega) hrep5a)
     have HIs2:=Zaa (fun wq (hq:Ext w5 wq)=>Zgi (ap (sub1 n5 y) lb).length wq (boxed X w.heap.size 4) _ _ _ (ap (sub1 n5 y) lb) (Nat.le_refl _) (by omega) (hrep5b.ext hq (fun _ _ h=>h)))
     have Ha5:=Zaa ha5
     have Hb5:=Zaa hb5
     have Hc5:=Zaa hc5'
     have Hd5:=Zaa hd5
     have Hrow5:=Zaa hrow5
     have Hrep5a:=Zaa hrep5a
     have Hrep5b:=Zaa hrep5b
     have Hlow5:=Zaa hlow5
     have HrepC:=Zaa hrepC
     have HrepD:=Zaa hrepD
     have Hcarr2:=Zaa hcarr2
     have Hpv:Hid (Occ n5 la):=Hpx.out.occ.1 (Zgg.2 rfl)
     have Hyb:Hid (∀ k,Occ k y→Occ k lb):=fun k=>Hpx.out.occ.2
     have Hwy:Hid (Wf 1 y∧y.length≤30):=⟨Hpx.out.wy,by omega⟩
     clear ha5 hb5 hc5' hd5 hon5 hrow5 hrep5a hrep5b hlow5 hrepC hrepD hcarr2 hnow hap5
     go_wp2_with fail
     refine HIs.out.mono ?_
     rintro e w6 ⟨rfl,hext6⟩
     have Hext6:=Zaa hext6
     have hs6:=hext6.size
     obtain ⟨k0,k1,k2,kf⟩:=box3 ((hext6.block _ (by omega)).trans Hb5.out)
     obtain ⟨i0,i1,i2,if'⟩:=box3 ((hext6.block _ (by omega)).trans Hc5.out)
     obtain ⟨j0,j1,j2,jf⟩:=box3 ((hext6.block _ (by omega)).trans Hd5.out)
     clear hext6
     by_cases h30:30<(ap (sub1 n5 y) la).length
     ·have h30':(30:Int)<((ap (sub1 n5 y) la).length:Nat):=by omega
      have HIj:=Zaa (fun wq (hq:Ext w5 wq)=>Zkj wq (boxed X w.heap.size 4) _ _ _ _ _ _ l m (HrepC.out.ext hq (fun _ _ h=>h)) (HrepD.out.ext hq (fun _ _ h=>h)) (by omega))
      go_wp2_with fail
      refine (HIj.out _ Hext6.out).mono ?_
      rintro e w8 ⟨qv,rfl,hext8,⟨rfl,hfit⟩ | ⟨rfl,hfit⟩⟩
      ·have Hext8:=Zaa hext8
       have Hfit:=Zaa (Hcarr2.out.vast (Or.inl h30) hfit)
       clear hext8 hfit
       go_wp2
       refine bodyPost_ret (v := .tuple #[.slice none 0 0,.int .i64 3]) (by simp [results,Tryz.results181,go_sem]) rfl ?_
       exact ⟨_,rfl,Hlow5.out.trans ((Below.trans Hext6.out (Hext8.out.mono (by omega))).mono (by omega)),Or.inr (Or.inl ⟨rfl,Hfit.out⟩)⟩
      ·have Hext8:=Zaa hext8
       have Hfit:=Zaa hfit
       clear hext8 hfit
       go_wp2
       refine bodyPost_ret (v := .tuple #[.slice none 0 0,.int .i64 0]) (by simp [results,Tryz.results181,go_sem]) rfl ?_
       exact ⟨_,rfl,Hlow5.out.trans ((Below.trans Hext6.out (Hext8.out.mono (by omega))).mono (by omega)),Or.inl ⟨rfl,Hfit.out⟩⟩
     ·have h30':¬ (30:Int)<((ap (sub1 n5 y) la).length:Nat):=by omega
      have hla3:(ap (sub1 n5 y) la).length≤30:=by omega
      clear h30
      go_wp2_with fail
      refine (HIs2.out _ Hext6.out).mono ?_
      rintro e w7 ⟨rfl,hext7⟩
      have Hext7:=Zaa (Below.trans Hext6.out (hext7.mono hs6))
      have hs7:=hext7.size
      obtain ⟨i0,i1,i2,if'⟩:=box3 ((Hext7.out.block _ (by omega)).trans Hc5.out)
      obtain ⟨j0,j1,j2,jf⟩:=box3 ((Hext7.out.block _ (by omega)).trans Hd5.out)
      clear hext7
      by_cases h30:30<(ap (sub1 n5 y) lb).length
      ·have h30b:(30:Int)<((ap (sub1 n5 y) lb).length:Nat):=by omega
       have HIj:=Zaa (fun wq (hq:Ext w5 wq)=>Zkj wq (boxed X w.heap.size 4) _ _ _ _ _ _ l m (HrepC.out.ext hq (fun _ _ h=>h)) (HrepD.out.ext hq (fun _ _ h=>h)) (by omega))
       go_wp2_with fail
       refine (HIj.out _ Hext7.out).mono ?_
       rintro e w8 ⟨qv,rfl,hext8,⟨rfl,hfit⟩ | ⟨rfl,hfit⟩⟩
       ·have Hext8:=Zaa hext8
        have Hfit:=Zaa (Hcarr2.out.vast (Or.inr h30) hfit)
        clear hext8 hfit
        go_wp2
        refine bodyPost_ret (v := .tuple #[.slice none 0 0,.int .i64 3]) (by simp [results,Tryz.results181,go_sem]) rfl ?_
        exact ⟨_,rfl,Hlow5.out.trans ((Below.trans Hext7.out (Hext8.out.mono (by omega))).mono (by omega)),Or.inr (Or.inl ⟨rfl,Hfit.out⟩)⟩
       ·have Hext8:=Zaa hext8
        have Hfit:=Zaa hfit
        clear hext8 hfit
        go_wp2
        refine bodyPost_ret (v := .tuple #[.slice none 0 0,.int .i64 0]) (by simp [results,Tryz.results181,go_sem]) rfl ?_
        exact ⟨_,rfl,Hlow5.out.trans ((Below.trans Hext7.out (Hext8.out.mono (by omega))).mono (by omega)),Or.inl ⟨rfl,Hfit.out⟩⟩
      ·have h30b:¬ (30:Int)<((ap (sub1 n5 y) lb).length:Nat):=by omega
       have hno:¬ Occ n5 y:=fun h=>by have:=Hin.out.2 h; simp at this
       have hvars:Zgz V (ap (sub1 n5 y) la++ap (sub1 n5 y) lb)<Zgz V (la++lb):=by
        refine Zse (v:=n5) (HV.out.2 n5 (Hcarr.out.occs (Or.inl Hpv.out))) (Zcu.2 (Or.inl Hpv.out)) (fun h => ?_) (fun k h => ?_)
        ·rw [Zcu] at h
         rcases h with h | h
         ·rcases Zgn h with ⟨h,_⟩ | ⟨_,h⟩
          ·exact h rfl
          ·exact hno h
         ·rcases Zgn h with ⟨h,_⟩ | ⟨_,h⟩
          ·exact h rfl
          ·exact hno h
        ·rw [Zcu] at h ⊢
         rcases h with h | h
         ·rcases Zgn h with ⟨_,h⟩ | ⟨_,h⟩
          ·exact Or.inl h
          ·exact Or.inr (Hyb.out k h)
         ·rcases Zgn h with ⟨_,h⟩ | ⟨_,h⟩
          ·exact Or.inr h
          ·exact Or.inr (Hyb.out k h)
       have Hvars:=Zaa hvars
       clear hvars hno
       go_wp2
       go_roundg (Zgz V (la++lb))
       case measure=>exact Hg.out
       case rel =>
        refine ⟨L++[(n5,y)],xs++[.int .i64 n5,.string s6,.int .i64 n6,.slice c6a c6l c6c],ap (sub1 n5 y) la,ap (sub1 n5 y) lb,s7,n7,c7a,c7l,c7c,s8,n8,c8a,c8l,c8c,Hlow5.out.trans (Hext7.out.mono (by omega)),?_,Hcarr2.out,hla3,by omega,?_,Hvars.out,?_,
         (Hext7.out.block _ (by omega)).trans Ha5.out,(Hext7.out.block _ (by omega)).trans Hb5.out,(Hext7.out.block _ (by omega)).trans Hc5.out,(Hext7.out.block _ (by omega)).trans Hd5.out,Hrep5a.out.ext Hext7.out (fun _ _ h=>h),Hrep5b.out.ext Hext7.out (fun _ _ h=>h)⟩
        ·have:=Hrow5.out.ext Hext7.out (Y:=boxed X w.heap.size 4) (B':=w.heap.size+4) (fun _ h=>h) (Nat.le_refl _)
         simpa using this
        ·exact HLs.out.snoc Hwy.out Hcarr2.out hla3 (by omega)
        ·have:=Hvars.out
         have:=H60.out
         simp; omega
    ·go_wp2
     refine bodyPost_ret (v := .tuple #[.slice none 0 0,.int .i64 0]) (by simp [results,Tryz.results181,go_sem]) rfl ?_
     refine ⟨_,rfl,(Hext.out.trans (Hext1.out.mono Hext.out.size)).trans (HE12.out.mono (by omega)),Or.inl ⟨rfl,Hcarr.out.none (Or.inl (Zmj Hpx.out rfl (Hin.out.1 trivial)))⟩⟩
   ·have hx0:s5.toList.isEmpty=false:=by
     simp only [Value.string.injEq] at hs5
     subst hs5
     rw [Zeg]; simpa using hnm
    have hx1:¬ s5.toList=[]:=by
     intro e; rw [e] at hx0; simp at hx0
    have Hx:=Zaa hx
    clear hs5 hn5 hx
    rcases hry.out with ⟨v,hs6,hn6,hc6,rfl⟩ | ⟨nm',ls',ys',hnm',hs6,hn6,hy,_⟩
    ·simp only [Value.string.injEq,Value.int.injEq,true_and,Value.slice.injEq] at hs6 hn6 hc6
     obtain ⟨rfl,rfl,rfl⟩:=hc6
     subst hs6
     have hn6':n6=v:=by omega
     subst hn6'
     have Hstand:=Zaa (fun wq (hq:Ext w1 wq)=>Zou x.length wq (boxed X w.heap.size 4) _ _ _ x n6 (Nat.le_refl _) (by omega) (hrx.ext hq (fun j _ h=>Or.inl h)))
     have Hry:=Zaa hrx
     have Hpx:=Zaa hpart.symm
     clear hry hrx hpart
     go_wp2_with fail
     refine (Hstand.out _ (Ext.of (by repeat' (first | with_reducible exact Kept.refl _ _ | with_reducible apply Kept.drew | with_reducible apply Kept.drewN | with_reducible apply Kept.alloc | with_reducible refine Kept.setCell ?_ ?_ _ | exact fun h=>absurd h (by simp <;> omega))))).mono ?_
     rintro e w2 ⟨r,rfl,hext2,hin⟩
     have HE12:Hid (Ext w1 w2):=Below.trans (Ext.of (by repeat' (first | with_reducible exact Kept.refl _ _ | with_reducible apply Kept.drew | with_reducible apply Kept.drewN | with_reducible apply Kept.alloc | with_reducible refine Kept.setCell ?_ ?_ _ | exact fun h=>absurd h (by simp <;> omega)))) (hext2.mono (by simp; omega))
     have Hin:=Zaa hin
     have hs2:=hext2.size
     simp at hs2
     have hb9:w2.heap[w1.heap.size]?=some (.cells #[.string ⟨#[]⟩,.int .i64 n6,.slice none 0 0] 183 (0,0)):=(hext2.block _ (by simp; omega)).trans (Zag (Zag (heap_alloc_new w1 _) _) _)
     have hb10:w2.heap[w1.heap.size+1]?=some (.cells #[.string s5,.int .i64 n5,.slice c5a c5l c5c] 183 (0,0)):=(hext2.block _ (by simp)).trans (by simpa using Zag (heap_alloc_new (w1.alloc _) _) _)
     obtain ⟨z0,z1,z2,zf⟩:=box3 hb9
     obtain ⟨t0,t1,t2,tf⟩:=box3 hb10
     have Hb9:=Zaa hb9
     have Hb10:=Zaa hb10
     clear hext2 hin hb9 hb10
     cases r
     ·have hst2:Stay (boxed X w.heap.size 4) w.heap.size wr w2:=(Stay.ext Hext1.out (by omega)).trans (Stay.ext HE12.out (by omega))
      have hsw:=hst2.size
      have ha2:=((HE12.out.block w.heap.size (by omega)).trans (Hext1.out.block _ (by omega))).trans B0.out
      have hb2:=((HE12.out.block (w.heap.size+1) (by omega)).trans (Hext1.out.block _ (by omega))).trans B1.out
      obtain ⟨g0,g1,g2,gf⟩:=box3 ha2
      obtain ⟨k0,k1,k2,kf⟩:=box3 hb2
      have m0:w.heap.size<w2.heap.size:=by omega
      have m1:w.heap.size+1<w2.heap.size:=by omega
      have m2:w1.heap.size<w2.heap.size:=by omega
      have m3:w1.heap.size+1<w2.heap.size:=by omega
      have Hry2:Hid (Rep (boxed X w.heap.size 4) w2 (.string s5) (.int .i64 n5) (.slice c5a c5l c5c) x):=(Hry.out.ext (Y:=boxed X w.heap.size 4) (w':=w2) HE12.out (fun k _ h=>Or.inl h))
      have HIp:=Zaa (fun wq (hq:Ext w2 wq)=>Zmw la.length wq (boxed X w.heap.size 4) (.string s3) (.int .i64 n3) (.slice c3a c3l c3c) la n6 (.string s5) (.int .i64 n5) (.slice c5a c5l c5c) x (Nat.le_refl _) ((Hra.out.stay hst2).ext hq (fun _ _ h=>h)) (Hry2.out.ext hq (fun _ _ h=>h)) (fun k h=>by have:=Zdy HX.out k h; have:=hq.size; omega) (by have:=Zgo (v:=n6) (t:=x) (l:=la) (by omega) hla; omega))
      have Hst2:=Zaa hst2
      have Ha2:=Zaa ha2
      have Hb2:=Zaa hb2
      clear hst2 ha2 hb2
      go_wp2_with fail
      refine (HIp.out _ (Ext.of (by repeat' (first | with_reducible exact Kept.refl _ _ | with_reducible apply Kept.drew | with_reducible apply Kept.drewN | with_reducible apply Kept.alloc | with_reducible refine Kept.setCell ?_ ?_ _ | exact fun h=>absurd h (by simp <;> omega))))).mono ?_
      rintro e w3 ⟨a7,b7,c7,rfl,hext3,hrep7⟩
      obtain ⟨s7,n7,c7a,c7l,c7c,rfl,rfl,rfl⟩:=hrep7.shape
      have hs3:=hext3.size
      simp at hs3
      have hE3:Ext w2 w3:=((Ext.of (by repeat' (first | with_reducible exact Kept.refl _ _ | with_reducible apply Kept.drew | with_reducible apply Kept.drewN | with_reducible apply Kept.alloc | with_reducible refine Kept.setCell ?_ ?_ _ | exact fun h=>absurd h (by simp <;> omega)))):Ext w2 _).trans (hext3.mono (by simp))
      have hs23:=hE3.size
      obtain ⟨g0,g1,g2,gf⟩:=box3 ((hE3.block _ m0).trans Ha2.out)
      have hb3:=(hE3.block _ m1).trans Hb2.out
      obtain ⟨k0,k1,k2,kf⟩:=box3 hb3
      have hS3:w3.heap[w2.heap.size]?=some (.cells #[.int .i64 n6,.string s5,.int .i64 n5,.slice c5a c5l c5c] 300 (0,0)):=(hext3.block _ (by simp)).trans (heap_alloc_new w2 _)
      have q0:w3.cell? ⟨w2.heap.size,0,none⟩=some (.int .i64 n6):=Zab hS3 0 _ rfl
      have q1:w3.cell? ⟨w2.heap.size,1,none⟩=some (.string s5):=Zab hS3 1 _ rfl
      have q2:w3.cell? ⟨w2.heap.size,2,none⟩=some (.int .i64 n5):=Zab hS3 2 _ rfl
      have q3:w3.cell? ⟨w2.heap.size,3,none⟩=some (.slice c5a c5l c5c):=Zab hS3 3 _ rfl
      have hst3:Stay (boxed X w.heap.size 4) w.heap.size wr w3:=Hst2.out.trans (Stay.ext hE3 (by omega))
      have HE3:=Zaa hE3
      have HS3:=Zaa hS3
      have Hst3:=Zaa hst3
      have Hrep7:=Zaa hrep7
      have Hry3:=Zaa (Hry2.out.ext hE3 (fun _ _ h=>h))
      have Hb3:=Zaa hb3
      have ne0:¬ w2.heap.size=w.heap.size:=by omega
      have ne1:¬ w.heap.size+1=w.heap.size:=by omega
      clear hext3 hrep7 hE3 hS3 hst3 hb3
      have HIq:=Zaa (fun wq (hq:Stay (boxed X w.heap.size 4) w.heap.size w3 wq)=>Zmw lb.length wq (boxed X w.heap.size 4) (.string s4) (.int .i64 n4) (.slice c4a c4l c4c) lb n6 (.string s5) (.int .i64 n5) (.slice c5a c5l c5c) x (Nat.le_refl _) (Hrb.out.stay (Hst3.out.trans hq)) (Hry3.out.stay hq) (fun k h=>by have:=Zdy HX.out k h; have:=hq.size; omega) (by have:=Zgo (v:=n6) (t:=x) (l:=lb) (by omega) hlb; omega))
      go_wp2_with fail
      refine (HIq.out _ (Stay.put3 (by omega) (by omega) _ _ _)).mono ?_
      rintro e w4 ⟨a8,b8,c8,rfl,hext4,hrep8⟩
      obtain ⟨s8,n8,c8a,c8l,c8c,rfl,rfl,rfl⟩:=hrep8.shape
      have hs4:=hext4.size
      simp at hs4
      have hW3:=Zkf ((HE3.out.block _ m0).trans Ha2.out) (.string s7) (.int .i64 n7) (.slice c7a c7l c7c)
      have hst4:Stay (boxed X w.heap.size 4) w.heap.size w3 w4:=(Stay.put3 (by omega) (by omega) _ _ _).trans (Stay.ext hext4 (by simp; omega))
      have ha4:=(hext4.block w.heap.size (by simp; omega)).trans hW3.1
      have hb4:=(hext4.block (w.heap.size+1) (by simp; omega)).trans ((hW3.2.block _ (by omega) (by omega)).trans Hb3.out)
      have hS4:=(hext4.block w2.heap.size (by simp; omega)).trans ((hW3.2.block _ (by omega) (by omega)).trans HS3.out)
      have hc4:=(hext4.block (w.heap.size+1+1) (by simp; omega)).trans ((hW3.2.block _ (by omega) (by omega)).trans ((HE3.out.block _ (by omega)).trans (((HE12.out.block _ (by omega)).trans (Hext1.out.block _ (by omega))).trans B2.out)))
      have hd4:=(hext4.block (w.heap.size+1+1+1) (by simp; omega)).trans ((hW3.2.block _ (by omega) (by omega)).trans ((HE3.out.block _ (by omega)).trans (((HE12.out.block _ (by omega)).trans (Hext1.out.block _ (by omega))).trans B3.out)))
      obtain ⟨g0,g1,g2,gf⟩:=box3 ha4
      obtain ⟨k0,k1,k2,kf⟩:=box3 hb4
      have q0:w4.cell? ⟨w2.heap.size,0,none⟩=some (.int .i64 n6):=Zab hS4 0 _ rfl
      have q1:w4.cell? ⟨w2.heap.size,1,none⟩=some (.string s5):=Zab hS4 1 _ rfl
      have q2:w4.cell? ⟨w2.heap.size,2,none⟩=some (.int .i64 n5):=Zab hS4 2 _ rfl
      have q3:w4.cell? ⟨w2.heap.size,3,none⟩=some (.slice c5a c5l c5c):=Zab hS4 3 _ rfl
      have hW4:=Zkf hb4 (.string s8) (.int .i64 n8) (.slice c8a c8l c8c)
      obtain ⟨W4,hW4e⟩:∃ W,W=((w4.setCell ⟨w.heap.size+1,0,none⟩ (.string s8)).setCell ⟨w.heap.size+1,1,none⟩ (.int .i64 n8)).setCell ⟨w.heap.size+1,2,none⟩ (.slice c8a c8l c8c):=⟨_,rfl⟩
      have hstW:Stay (boxed X w.heap.size 4) w.heap.size w4 W4:=by rw [hW4e]; exact Stay.put3 (by omega) (by omega) _ _ _
      rw [← hW4e] at hW4
      have hsW:=hstW.size
      have hYc:∀ k,w.heap.size+4≤k→¬ boxed X w.heap.size 4 k:=fun k hk h=>by have:=Zdy HX.out k h; omega
      have hrowW:=Hrow.out.stay (Hst3.out.trans (hst4.trans hstW)) hYc
      have hrepA:=Hrep7.out.stay (hst4.trans hstW)
      have hrepB:=hrep8.stay hstW
      have hrepY:=Hry3.out.stay (hst4.trans hstW)
      have hstA:=Hst3.out.trans (hst4.trans hstW)
      have haW:=(hW4.2.block w.heap.size (by omega) (by omega)).trans ha4
      have hcW:=(hW4.2.block (w.heap.size+1+1) (by omega) (by omega)).trans hc4
      have hdW:=(hW4.2.block (w.heap.size+1+1+1) (by omega) (by omega)).trans hd4
      have HrowW:=Zaa hrowW
      have HrepA:=Zaa hrepA
      have HrepB:=Zaa hrepB
      have HrepY:=Zaa hrepY
      have HstA:=Zaa hstA
      have HaW:=Zaa haW
      have HbW:=Zaa hW4.1
      have HcW:=Zaa hcW
      have HdW:=Zaa hdW
      have HW4e:=Zaa hW4e
      have HrowO:Hid ((((w4.setCell ⟨w.heap.size+1,0,none⟩ (.string s8)).setCell ⟨w.heap.size+1,1,none⟩ (.int .i64 n8)).setCell ⟨w.heap.size+1,2,none⟩ (.slice c8a c8l c8c)).ownsRow (w.heap.size+4) 300 4 (.slice cva L.length cvcap) L.length xs):=by
       rw [← hW4e]; exact hrowW.owns
      have ne2:¬ w2.heap.size=w.heap.size+1:=by omega
      have hL60:=H60.out
      clear hext4 hrep8 hst4 ha4 hb4 hS4 hc4 hd4 hW3 hW4 hstW hrowW hrepA hrepB hrepY hstA haW hcW hdW hW4e hYc
      go_wp2_with (at_builtin; refine Zaj _ rfl (.tmp 52) (.tmp 54) 283 rfl (w.heap.size+4) 300 Tryz.infoSub Tryz.underlying283 rfl (by decide) _ L.length xs rfl HrowO.out _ rfl (by simp) rfl sub_one ?_ ?_ ?_)
      ·omega
      ·simp; omega
      rw [← HW4e.out]
      intro cv' w5 hap5
      obtain ⟨c9a,c9cap,rfl⟩:=Zad hap5.owns
      have hnow:∀ k,k<w.heap.size+4→¬ Zbd (.slice cva L.length cvcap) k:=fun k hk e=>by have:=(HrowW.out.owns.lt k e).1; omega
      have ha5:=(hap5.kept.block _ (by omega) (hnow w.heap.size (by omega))).trans HaW.out
      have hb5:=(hap5.kept.block _ (by omega) (hnow (w.heap.size+1) (by omega))).trans HbW.out
      have hc5':=(hap5.kept.block _ (by omega) (hnow (w.heap.size+1+1) (by omega))).trans HcW.out
      have hd5:=(hap5.kept.block _ (by omega) (hnow (w.heap.size+1+1+1) (by omega))).trans HdW.out
      have hon5:∀ {a b c:Value} {t:List Sym},Rep (boxed X w.heap.size 4) W4 a b c t→Rep (boxed X w.heap.size 4) w5 a b c t:=fun hr=>hr.on (fun k hk hx ht=>by
       obtain ⟨cur,hc⟩:=ht
       exact ⟨hap5.kept.block k hk (Zah HrowW.out.owns (by decide) hc),hx⟩)
      have hrow5:=HrowW.out.step HrepY.out hap5
      have hrep5a:=hon5 HrepA.out
      have hrep5b:=hon5 HrepB.out
      have hlow5:Below w.heap.size w w5:=(Hext.out.trans HstA.out.low).trans (hap5.kept.below (by omega) (fun k e=>by have:=(HrowW.out.owns.lt k e).1; omega))
      have hrepC:=hon5 ((H.out.ext Hext.out (fun k hk h=>Zfu h hk)).stay HstA.out)
      have hrepD:=hon5 ((H'.out.ext Hext.out (fun k hk h=>Zfu h hk)).stay HstA.out)
      obtain ⟨g0,g1,g2,gf⟩:=box3 ha5
      obtain ⟨k0,k1,k2,kf⟩:=box3 hb5
      obtain ⟨i0,i1,i2,if'⟩:=box3 hc5'
      obtain ⟨j0,j1,j2,jf⟩:=box3 hd5
      have hs5:=hap5.kept.size
      have hcarr2:=Hcarr.out.step (v:=n6) (y:=x) (Or.inr Hpx.out) rfl
      rw [← Zqi] at hcarr2
      have hla2:=Zgo (v:=n6) (t:=x) (l:=la) (by omega) hla
      have hlb2:=Zgo (v:=n6) (t:=x) (l:=lb) (by omega) hlb
      have HIs:=Zaa (Zgi (ap (sub1 n6 x) la).length w5 (boxed X w.heap.size 4) _ _ _ (ap (sub1 n6 x) la) (Nat.le_refl _) (by omega) hrep5a)
      have HIs2:=Zaa (fun wq (hq:Ext w5 wq)=>Zgi (ap (sub1 n6 x) lb).length wq (boxed X w.heap.size 4) _ _ _ (ap (sub1 n6 x) lb) (Nat.le_refl _) (by omega) (hrep5b.ext hq (fun _ _ h=>h)))
      have Ha5:=Zaa ha5
      have Hb5:=Zaa hb5
      have Hc5:=Zaa hc5'
      have Hd5:=Zaa hd5
      have Hrow5:=Zaa hrow5
      have Hrep5a:=Zaa hrep5a
      have Hrep5b:=Zaa hrep5b
      have Hlow5:=Zaa hlow5
      have HrepC:=Zaa hrepC
      have HrepD:=Zaa hrepD
      have Hcarr2:=Zaa hcarr2
      have Hpv:Hid (Occ n6 lb):=Hpx.out.occ.1 (Zgg.2 rfl)
      have Hyb:Hid (∀ k,Occ k x→Occ k la):=fun k=>Hpx.out.occ.2
      have Hwy:Hid (Wf 1 x∧x.length≤30):=⟨Hpx.out.wy,by omega⟩
      clear ha5 hb5 hc5' hd5 hon5 hrow5 hrep5a hrep5b hlow5 hrepC hrepD hcarr2 hnow hap5
      go_wp2_with fail
      refine HIs.out.mono ?_
      rintro e w6 ⟨rfl,hext6⟩
      have Hext6:=Zaa hext6
      have hs6:=hext6.size
      obtain ⟨k0,k1,k2,kf⟩:=box3 ((hext6.block _ (by omega)).trans Hb5.out)
      obtain ⟨i0,i1,i2,if'⟩:=box3 ((hext6.block _ (by omega)).trans Hc5.out)
      obtain ⟨j0,j1,j2,jf⟩:=box3 ((hext6.block _ (by omega)).trans Hd5.out)
      clear hext6
      by_cases h30:30<(ap (sub1 n6 x) la).length
      ·have h30':(30:Int)<((ap (sub1 n6 x) la).length:Nat):=by omega
       have HIj:=Zaa (fun wq (hq:Ext w5 wq)=>Zkj wq (boxed X w.heap.size 4) _ _ _ _ _ _ l m (HrepC.out.ext hq (fun _ _ h=>h)) (HrepD.out.ext hq (fun _ _ h=>h)) (by omega))
       go_wp2_with fail
       refine (HIj.out _ Hext6.out).mono ?_
       rintro e w8 ⟨qv,rfl,hext8,⟨rfl,hfit⟩ | ⟨rfl,hfit⟩⟩
       ·have Hext8:=Zaa hext8
        have Hfit:=Zaa (Hcarr2.out.vast (Or.inl h30) hfit)
        clear hext8 hfit
        go_wp2
        refine bodyPost_ret (v := .tuple #[.slice none 0 0,.int .i64 3]) (by simp [results,Tryz.results181,go_sem]) rfl ?_
        exact ⟨_,rfl,Hlow5.out.trans ((Below.trans Hext6.out (Hext8.out.mono (by omega))).mono (by omega)),Or.inr (Or.inl ⟨rfl,Hfit.out⟩)⟩
       ·have Hext8:=Zaa hext8
        have Hfit:=Zaa hfit
        clear hext8 hfit
        go_wp2
        refine bodyPost_ret (v := .tuple #[.slice none 0 0,.int .i64 0]) (by simp [results,Tryz.results181,go_sem]) rfl ?_
        exact ⟨_,rfl,Hlow5.out.trans ((Below.trans Hext6.out (Hext8.out.mono (by omega))).mono (by omega)),Or.inl ⟨rfl,Hfit.out⟩⟩
      ·have h30':¬ (30:Int)<((ap (sub1 n6 x) la).length:Nat):=by omega
       have hla3:(ap (sub1 n6 x) la).length≤30:=by omega
       clear h30
       go_wp2_with fail
       refine (HIs2.out _ Hext6.out).mono ?_
       rintro e w7 ⟨rfl,hext7⟩
       have Hext7:=Zaa (Below.trans Hext6.out (hext7.mono hs6))
       have hs7:=hext7.size
       obtain ⟨i0,i1,i2,if'⟩:=box3 ((Hext7.out.block _ (by omega)).trans Hc5.out)
       obtain ⟨j0,j1,j2,jf⟩:=box3 ((Hext7.out.block _ (by omega)).trans Hd5.out)
       clear hext7
       by_cases h30:30<(ap (sub1 n6 x) lb).length
       ·have h30b:(30:Int)<((ap (sub1 n6 x) lb).length:Nat):=by omega
        have HIj:=Zaa (fun wq (hq:Ext w5 wq)=>Zkj wq (boxed X w.heap.size 4) _ _ _ _ _ _ l m (HrepC.out.ext hq (fun _ _ h=>h)) (HrepD.out.ext hq (fun _ _ h=>h)) (by omega))
        go_wp2_with fail
        refine (HIj.out _ Hext7.out).mono ?_
        rintro e w8 ⟨qv,rfl,hext8,⟨rfl,hfit⟩ | ⟨rfl,hfit⟩⟩
        ·have Hext8:=Zaa hext8
         have Hfit:=Zaa (Hcarr2.out.vast (Or.inr h30) hfit)
         clear hext8 hfit
         go_wp2
         refine bodyPost_ret (v := .tuple #[.slice none 0 0,.int .i64 3]) (by simp [results,Tryz.results181,go_sem]) rfl ?_
         exact ⟨_,rfl,Hlow5.out.trans ((Below.trans Hext7.out (Hext8.out.mono (by omega))).mono (by omega)),Or.inr (Or.inl ⟨rfl,Hfit.out⟩)⟩
        ·have Hext8:=Zaa hext8
         have Hfit:=Zaa hfit
         clear hext8 hfit
         go_wp2
         refine bodyPost_ret (v := .tuple #[.slice none 0 0,.int .i64 0]) (by simp [results,Tryz.results181,go_sem]) rfl ?_
         exact ⟨_,rfl,Hlow5.out.trans ((Below.trans Hext7.out (Hext8.out.mono (by omega))).mono (by omega)),Or.inl ⟨rfl,Hfit.out⟩⟩
       ·have h30b:¬ (30:Int)<((ap (sub1 n6 x) lb).length:Nat):=by omega
        have hno:¬ Occ n6 x:=fun h=>by have:=Hin.out.2 h; simp at this
        have hvars:Zgz V (ap (sub1 n6 x) la++ap (sub1 n6 x) lb)<Zgz V (la++lb):=by
         refine Zse (v:=n6) (HV.out.2 n6 (Hcarr.out.occs (Or.inr Hpv.out))) (Zcu.2 (Or.inr Hpv.out)) (fun h => ?_) (fun k h => ?_)
         ·rw [Zcu] at h
          rcases h with h | h
          ·rcases Zgn h with ⟨h,_⟩ | ⟨_,h⟩
           ·exact h rfl
           ·exact hno h
          ·rcases Zgn h with ⟨h,_⟩ | ⟨_,h⟩
           ·exact h rfl
           ·exact hno h
         ·rw [Zcu] at h ⊢
          rcases h with h | h
          ·rcases Zgn h with ⟨_,h⟩ | ⟨_,h⟩
           ·exact Or.inl h
           ·exact Or.inl (Hyb.out k h)
          ·rcases Zgn h with ⟨_,h⟩ | ⟨_,h⟩
           ·exact Or.inr h
           ·exact Or.inl (Hyb.out k h)
        have Hvars:=Zaa hvars
        clear hvars hno
        go_wp2
        go_roundg (Zgz V (la++lb))
        case measure=>exact Hg.out
        case rel =>
         refine ⟨L++[(n6,x)],xs++[.int .i64 n6,.string s5,.int .i64 n5,.slice c5a c5l c5c],ap (sub1 n6 x) la,ap (sub1 n6 x) lb,s7,n7,c7a,c7l,c7c,s8,n8,c8a,c8l,c8c,Hlow5.out.trans (Hext7.out.mono (by omega)),?_,Hcarr2.out,hla3,by omega,?_,Hvars.out,?_,
          (Hext7.out.block _ (by omega)).trans Ha5.out,(Hext7.out.block _ (by omega)).trans Hb5.out,(Hext7.out.block _ (by omega)).trans Hc5.out,(Hext7.out.block _ (by omega)).trans Hd5.out,Hrep5a.out.ext Hext7.out (fun _ _ h=>h),Hrep5b.out.ext Hext7.out (fun _ _ h=>h)⟩
         ·have:=Hrow5.out.ext Hext7.out (Y:=boxed X w.heap.size 4) (B':=w.heap.size+4) (fun _ h=>h) (Nat.le_refl _)
          simpa using this
         ·exact HLs.out.snoc Hwy.out Hcarr2.out hla3 (by omega)
         ·have:=Hvars.out
          have:=H60.out
          simp; omega
     ·go_wp2
      refine bodyPost_ret (v := .tuple #[.slice none 0 0,.int .i64 0]) (by simp [results,Tryz.results181,go_sem]) rfl ?_
      refine ⟨_,rfl,(Hext.out.trans (Hext1.out.mono Hext.out.size)).trans (HE12.out.mono (by omega)),Or.inl ⟨rfl,Hcarr.out.none (Or.inr (Zmj Hpx.out rfl (Hin.out.1 trivial)))⟩⟩
    ·have hy0:s6.toList.isEmpty=false:=by
      simp only [Value.string.injEq] at hs6
      subst hs6
      rw [Zeg]; simpa using hnm'
     have hy1:¬ s6.toList=[]:=by
      intro e; rw [e] at hy0; simp at hy0
     have Hno:Hid (NoFit l m):=Hcarr.out.none (Or.inl (Zws hpart Hx.out hy hnm hnm'))
     clear hs6 hn6 hy hpart hrx hry
     go_wp2
     refine bodyPost_ret (v := .tuple #[.slice none 0 0,.int .i64 0]) (by simp [results,Tryz.results181,go_sem]) rfl ?_
     exact ⟨_,rfl,(Hext.out.trans (Hext1.out.mono Hext.out.size)).trans (((Ext.of (by repeat' (first | with_reducible exact Kept.refl _ _ | with_reducible apply Kept.drew | with_reducible apply Kept.drewN | with_reducible apply Kept.alloc | with_reducible refine Kept.setCell ?_ ?_ _ | exact fun h=>absurd h (by simp <;> omega)))):Ext w1 _).mono (by omega)),Or.inl ⟨rfl,Hno.out⟩⟩
end Go.Proofs.YtlmjilpjmgjjcaaGreatDoor
