/-
  PROVED HERE: how a tree's text that is held lies in the program's memory; its methods 'pass' and 'leave' (the conditions stand in each statement).
-/
import Derived.Test.YtlmjilpjmgjjcaaGreatDoorT12
set_option linter.unusedSimpArgs false
set_option linter.unusedVariables false
set_option maxRecDepth 10000
set_option maxHeartbeats 4000000
namespace Go.Proofs.YtlmjilpjmgjjcaaGreatDoor
open Go.RowKit
def Ygi (w:World) (B bW:Nat) (v0:Value) (N:Nat) (S:Nat→Prop) (e:Ending) (w':World):Prop :=
 e = .returned (.tuple #[])∧Kept S w w'∧∃ ls' sa sc ka kc,ls'.length=N∧ListsAt w' B bW v0 ls' sa sc ka kc
structure Over (w wr:World) (B:Nat) (m:Value) (i n:Nat) (lv:Value) (xs:List Value):Prop where
 kept:Kept (Zap lv) w wr
 row:wr.ownsRow B 9 1 lv n (List.replicate i m++xs.drop i)
theorem Over.step {w wr:World} {B i n g c:Nat} {m:Value} {xs:List Value} (h:Over w wr B m i n (.slice (some ⟨g,0,none⟩) n c) xs) (hi:i<xs.length):Over w (wr.setCell ⟨g,i,none⟩ m) B m (i+1) n (.slice (some ⟨g,0,none⟩) n c) xs:=by
 refine ⟨h.kept.setCell (p:=⟨g,i,none⟩) (fun _=>by simp [Zap,Value.ownBlock]) _,?_⟩
 rw [← Yhy m xs i hi]
 exact Zju h.row i m
structure Grew (w0 w:World) (lv gv:Value):Prop where
 kept:Kept (Zap lv) w0 w
 own:∀ k,k<w0.heap.size→Zap gv k→Zap lv k
theorem Grew.step {w0 w w':World} {lv gv v':Value} {B e size n:Nat} {xs:List Value} (h:Grew w0 w lv gv) (hA:Appended w B e size gv n xs v' w'):Grew w0 w' lv v' :=
 ⟨h.kept.then hA.kept h.own,fun k hk hj=>by
  rcases hA.where_ with h1 | ⟨g,h1,h2⟩
  ·exact h.own k hk (by unfold Zap at hj ⊢; rw [← h1]; exact hj)
  ·unfold Zap at hj
   rw [h1] at hj
   simp at hj
   have:=h.kept.size
   omega⟩
theorem Yfe {S:Nat→Prop} {w w':World} (h:Ext w w'):Kept S w w':=⟨h.os,h.tape,h.output,h.size,fun k hk _=>h.block k hk⟩
theorem Zkx {w:World} {B e n c j:Nat} {a:Option Addr} {xs:List Value} (h:w.ownsRow B e 1 (.slice a n c) n xs) (hj:j<n):∃ g u,a=some ⟨g,0,none⟩∧g<w.heap.size∧xs[j]?=some u∧w.cell? ⟨g,j,none⟩=some u∧∃ cur,w.heap[g]?=some (.cells cur e (0,0)):=by
 rcases h.2 with ⟨h1,h2⟩ | ⟨g,cap,cur,h1,_,hg,_⟩
 ·omega
 ·simp only [Value.slice.injEq] at h1
  obtain ⟨rfl,_,rfl⟩:=h1
  have hl:=h.1
  obtain ⟨u,hu⟩:∃ u,xs[j]?=some u:=⟨_,Qb (by omega)⟩
  exact ⟨g,u,rfl,(h.lt g rfl).2,hu,Zaf h j u hu,cur,hg⟩
theorem Zur (n:Nat) (m:Value):List.replicate n m++[m]=List.replicate (n+1) m:=List.replicate_succ'.symm
theorem Yhz {w wr w2 w3 w4:World} {B k n:Nat} {lv gv hv jv:Value} (h0:Kept (Zap lv) w wr)
  (hA2:Appended wr B 9 1 lv (n+1) (List.replicate n (Zga k)++[Zga k]) gv w2) (ho2:w2.ownsRow B 9 1 lv n (List.replicate n (Zga k)))
  (hA3:Appended w2 B 9 1 gv (n+1+1) (List.replicate (n+1) (Zga k)++[Zga k]) hv w3) (ho3:w3.ownsRow B 9 1 gv (n+1) (List.replicate (n+1) (Zga k)))
  (hA4:Appended w3 B 9 1 hv (n+2+1) (List.replicate (n+2) (Zga k)++[Zga k]) jv w4) (ho4:w4.ownsRow B 9 1 hv (n+2) (List.replicate (n+2) (Zga k))):Four w w4 B k n lv gv hv jv:=by
 have g1:Grew w w4 lv jv:=(((⟨h0,fun _ _ h=>h⟩:Grew w wr lv lv).step hA2).step hA3).step hA4
 have h2:=hA2.owns
 have h3:=hA3.owns
 have h4:=hA4.owns
 rw [Zur] at h2 h3 h4
 have l3:=Zkw ho2 h2 hA3.kept ho3 (by simp) (by omega)
 have l4:=Zkw l3 h3 hA4.kept ho4 (by simp; omega) (by omega)
 have g4:=Zkw ho3 h3 hA4.kept ho4 (by simp) (by omega)
 exact ⟨g1.kept,l4,g4,ho4,h4⟩
theorem Zsp (w:World) (e:TypeId) (a b c d:Value) (h:∀ u ∈ [a,b,c,d],u.oneCell'=true):Zqf (w.alloc (.cells #[a,b,c,d] e)) 1 (.slice (some ⟨w.heap.size,0,none⟩) 4 4) 4 [a,b,c,d] :=
 ⟨rfl,h,Or.inr ⟨_,_,rfl,fun j u hu=>by
  have hadd:(⟨w.heap.size,0,none⟩:Addr).add j=⟨w.heap.size,j,none⟩:=by unfold Addr.add; split <;> simp_all
  rw [hadd,cell_of_row _ w.heap.size j #[a,b,c,d] e (0,0) (heap_alloc_new w _)]
  simpa using hu⟩⟩
theorem Yia (w:World) (B bW:Nat) (v0:Value) (ls:List (Value × Nat)) (sa:Option Addr) (sc:Nat) (ka:Option Addr) (kc:Nat) (h:ListsAt w B bW v0 ls sa sc ka kc) (hB:B≤bW) (hlen:ls.length≤10000000)
  (la:Option Addr) (n lc:Nat) (xs:List Value) (hr:w.ownsRow B 9 1 (.slice la n lc) n xs) (hn:n≤20000) (hap:∀ x ∈ ls,∀ k,x.1.ownBlock=some k→(Value.slice la n lc).ownBlock≠some k) (T:Nat) (hT:TabAt T w) :
  Calls Tryz.prog 94 #[.pointer (some ⟨bW,0,none⟩),.slice la n lc] w (Ygi w B bW v0 (ls.length+4) (ownL bW (.slice sa ls.length sc) (.slice ka ls.length kc) (.slice la n lc))):=by
 have c1:w.cell? ⟨bW,1,none⟩=some (.slice sa ls.length sc):=Zab h.box 1 _ rfl
 have HM:=Zaa (Zwi ls.length w (by omega) T hT)
 obtain ⟨m,hm⟩:∃ m,Zga ls.length = .string m:=⟨_,rfl⟩
 obtain ⟨L,hL⟩:∃ L,L=ls.length:=⟨_,rfl⟩
 have hbW:=Zac h.box
 have Hm:=Zaa hm
 rw [hm] at HM
 have Hh:=Zaa h
 have Hr:=Zaa hr
 have hxl:xs.length=n:=by have:=hr.1; omega
 have Hap:=Zaa hap
 clear h hr hap hT hm
 go_enter Tryz.func94,Tryz.ntmps94
 go_wp2_with fail
 refine HM.out.mono ?_
 rintro e w1 ⟨rfl,hE⟩
 have HE:=Zaa hE
 have hs1:=hE.size
 clear hE c1
 go_wp2
 go_loopw [6] (fun i wr=>∃ j:Nat,j≤n∧i = .int .i64 j∧Over w1 wr B (.string m) j n (.slice la n lc) xs) (fun i _=>n - (intOf i).toNat)
 case atStart=>exact ⟨0,Qm _,rfl,Qx _ _,by simpa using Zak Hr.out (fun k hk=>HE.out.block k (Hr.out.lt k hk).2)⟩
 case round =>
  obtain ⟨j,hj,rfl,hO⟩:=hrel
  have HO:=Zaa hO
  by_cases hlt:j<n
  ·obtain ⟨g,u,rfl,hg,_,cg,cur,hcur⟩:=Zkx hO.row hlt
   have fg:=Zae hcur j
   clear hO hcur
   go_wp2
   go_roundw
   case rel=>exact ⟨j+1,by omega,by go_num,HO.out.step (by omega)⟩
   case measure=>simp [intOf]; omega
  ·obtain rfl:j=n:=by omega
   have Hk:Hid (Kept (Zap (.slice la j lc)) w wr):=(Yfe HE.out).trans hO.kept
   have Hrow:Hid (wr.ownsRow B 9 1 (.slice la j lc) j (List.replicate j (.string m))):=by
    have:=hO.row
    rw [List.drop_of_length_le (by omega),Qs] at this
    exact this
   have hwr:=hO.kept.size
   clear hO HO
   go_wp2_with (at_builtin; go_loud (refine Zfz wr rfl (.tmp 27) (.tmp 29) 47 rfl B 9 Tryz.infoStr Tryz.underlying47 rfl (by decide) (.slice la j lc) j (List.replicate j (.string m)) rfl Hrow.out #[.string m] (N:=wr.heap.size) rfl rfl rfl (by simp [Value.oneCell']) ?_ ?_ ?_))
   ·omega
   ·omega
   intro gv w2 hA2 ho2
   have HA2:=Zaa hA2
   have Ho2:=Zaa ho2
   have hs2:=hA2.kept.size
   have HR2:Hid (w2.ownsRow B 9 1 gv (j+1) (List.replicate (j+1) (.string m))):=by have:=hA2.owns; rw [Zur] at this; exact this
   clear hA2 ho2
   go_wp2_with (at_builtin; go_loud (refine Zfz w2 rfl (.tmp 31) (.tmp 33) 47 rfl B 9 Tryz.infoStr Tryz.underlying47 rfl (by decide) gv (j+1) (List.replicate (j+1) (.string m)) rfl HR2.out #[.string m] (N:=w2.heap.size) rfl rfl rfl (by simp [Value.oneCell']) ?_ ?_ ?_))
   ·omega
   ·omega
   intro hv w3 hA3 ho3
   have HA3:=Zaa hA3
   have Ho3:=Zaa ho3
   have hs3:=hA3.kept.size
   have HR3:Hid (w3.ownsRow B 9 1 hv (j+2) (List.replicate (j+2) (.string m))):=by have:=hA3.owns; rw [Zur] at this; exact this
   clear hA3 ho3
   go_wp2_with (at_builtin; go_loud (refine Zfz w3 rfl (.tmp 35) (.tmp 37) 47 rfl B 9 Tryz.infoStr Tryz.underlying47 rfl (by decide) hv (j+2) (List.replicate (j+2) (.string m)) rfl HR3.out #[.string m] (N:=w3.heap.size) rfl rfl rfl (by simp [Value.oneCell']) ?_ ?_ ?_))
   ·omega
   ·omega
   intro jv w4 hA4 ho4
   have hF:Four w w4 B ls.length j (.slice la j lc) gv hv jv:=by
    have e:=Hm.out
    refine Yhz (wr:=wr) (w2:=w2) (w3:=w3) Hk.out ?_ ?_ ?_ ?_ ?_ ?_ <;> rw [e]
    ·exact HA2.out
    ·exact Ho2.out
    ·exact HA3.out
    ·exact Ho3.out
    ·exact hA4
    ·exact ho4
   obtain ⟨ga,gc,rfl⟩:=Zad hF.g
   obtain ⟨ha,hc,rfl⟩:=Zad hF.h
   obtain ⟨ja,jc,rfl⟩:=Zad hF.j
   have hs4:=hA4.kept.size
   have HFE:=Zaa (fun (w5 w7:World) (sa' ka':Option Addr) (sc' kc':Nat)=>Yfd (w5:=w5) (w7:=w7) (sa':=sa') (ka':=ka') (sc':=sc') (kc':=kc') Hh.out (Zli Hr.out) Hap.out hn hF)
   clear hF hA4 ho4 HA2 HA3 Ho2 Ho3 HR2 HR3 Hrow Hk Hap Hr
   obtain ⟨hb4,hl5,_⟩:=HFE.out w4 w4 none none 0 0
   have d1:w4.cell? ⟨bW,1,none⟩=some (.slice sa ls.length sc):=Zab hb4 1 _ rfl
   have Hl5:=Zaa hl5
   have HR5:=Zaa (Zsp w4 47 (.slice la j lc) (.slice ga (j+1) gc) (.slice ha (j+2) hc) (.slice ja (j+3) jc) (by simp [Value.oneCell']))
   clear hl5 hb4
   go_wp2_with (at_builtin; go_loud (refine Zcm _ rfl (.tmp 43) (.tmp 48) 74 rfl B 47 Tryz.infoStrs Tryz.underlying74 rfl (by decide) (.slice sa ls.length sc) ls.length (ls.map (·.1)) rfl Hl5.out (.slice (some ⟨w4.heap.size,0,none⟩) 4 4) 4 _ rfl HR5.out ?_ ?_ ?_))
   ·omega
   ·first | omega | (simp; omega)
   intro sv5 w5 hA5
   obtain ⟨sa5,sc5,rfl⟩:=Zad hA5.owns
   obtain ⟨hb5,hbW5,hk6,_⟩:=(HFE.out w5 w4 sa5 none sc5 0).2.2 hA5
   have HA5:=Zaa hA5
   have d2:w5.cell? ⟨bW,1,none⟩=some (.slice sa ls.length sc):=Zab hb5 1 _ rfl
   have d3:w5.cell? ⟨bW,2,none⟩=some (.slice ka ls.length kc):=Zab hb5 2 _ rfl
   have f5:=fun i=>Zae hb5 i
   have hs5:=hA5.kept.size
   simp at hs5
   have Hk6:=Zaa hk6
   clear hA5 hb5 hbW5 hk6 d1
   have HR6:=Zaa (Zsp (w5.setCell ⟨bW,1,none⟩ (.slice sa5 (ls.length+4) sc5)) 3 (.int .i64 ls.length) (.int .i64 ls.length) (.int .i64 ls.length) (.int .i64 ls.length) (by simp [Value.oneCell']))
   rw [World.size_setCell] at HR6
   go_wp2_with (at_builtin; go_loud (refine Zcm _ rfl (.tmp 56) (.tmp 61) 25 rfl B 3 Tryz.infoInt Tryz.underlying25 rfl (by decide) (.slice ka ls.length kc) ls.length (ls.map fun x => .int .i64 x.2) rfl Hk6.out _ 4 _ rfl HR6.out ?_ ?_ ?_))
   ·omega
   ·first | omega | (simp; omega)
   intro kv7 w7 hA7
   obtain ⟨ka7,kc7,rfl⟩:=Zad hA7.owns
   obtain ⟨hb7,hK7,hL7⟩:=((HFE.out w5 w7 sa5 ka7 sc5 kc7).2.2 HA5.out).2.2.2 hA7
   have d4:w7.cell? ⟨bW,2,none⟩=some (.slice ka ls.length kc):=Zab hb7 2 _ rfl
   have f7:=fun i=>Zae hb7 i
   have hs7:=hA7.kept.size
   simp at hs7
   have HK7:=Zaa hK7
   have HL7:=Zaa hL7
   clear hA7 hb7 hK7 hL7 d2 d3 f5
   go_wp2
   go_end0
   exact ⟨rfl,HK7.out,_,_,_,_,_,by simp,HL7.out⟩
theorem ListAt.read {w:World} {v:Value} {k:Nat} (h:ListAt w v k):∃ a n c,v = .slice a n c∧n≤30000∧∀ i,i<n→∃ g,a=some ⟨g,0,none⟩∧g<w.heap.size∧w.cell? ⟨g,i,none⟩=some (Zga k):=by
 obtain ⟨n,hn,h⟩:=h
 obtain ⟨a,c,rfl⟩:=Zad h
 refine ⟨a,n,c,rfl,hn,fun i hi => ?_⟩
 obtain ⟨g,u,rfl,hg,hu,hc,_⟩:=Zkx h hi
 rw [List.getElem?_replicate,if_pos hi] at hu
 cases hu
 exact ⟨g,rfl,hg,hc⟩
theorem TabAt.ext {B:Nat} {w w':World} (h:TabAt B w) (hB:B≤w.heap.size) (e:Ext w w'):TabAt B w':=Lib.TabBelow.on h (e.mono hB)
theorem Ycm (w:World) (B bW:Nat) (v0:Value) (ls:List (Value × Nat)) (sa:Option Addr) (sc:Nat) (ka:Option Addr) (kc:Nat) (h:ListsAt w B bW v0 ls sa sc ka kc) (hlen:ls.length≤50000000) (T:Nat) (hT:TabAt T w) (hTw:T≤w.heap.size) :
  Calls Tryz.prog 39 #[.pointer (some ⟨bW,0,none⟩)] w fun e w'=>e = .returned (.bool true)∧Ext w w':=by
 have H:Hid (∀ u,Ext w u→ListsAt u B bW v0 ls sa sc ka kc):=fun u hu=>h.ext hu
 have HT:Hid (∀ u,Ext w u→TabAt T u):=fun u hu=>hT.ext hTw hu
 have hbW:=Zac h.box
 clear h hT
 go_enter Tryz.func39,Tryz.ntmps39
 go_wp2
 go_loopw [3] (fun i wr=>∃ j:Nat,j≤ls.length∧i = .int .i64 j∧Ext w wr) (fun i _=>ls.length - (intOf i).toNat)
 case atStart=>exact ⟨0,Qm _,rfl,Below.refl _ _⟩
 case round =>
  obtain ⟨j,hj,rfl,hE⟩:=hrel
  have HE:=Zaa hE
  have hL:=H.out wr hE
  have c1:wr.cell? ⟨bW,1,none⟩=some (.slice sa ls.length sc):=Zab hL.box 1 _ rfl
  have c2:wr.cell? ⟨bW,2,none⟩=some (.slice ka ls.length kc):=Zab hL.box 2 _ rfl
  by_cases hlt:j<ls.length
  ·obtain ⟨x,hx⟩:∃ x,ls[j]?=some x:=⟨_,Qb hlt⟩
   obtain ⟨kg,u,rfl,hkg,hu,ck,_⟩:=Zkx hL.krow hlt
   rw [Qj,hx] at hu
   cases hu
   have hx2:=(hL.all x (Qh hx)).2
   have HM:=Zaa (Zwi x.2 wr (by omega) T (HT.out wr hE))
   obtain ⟨m,hm⟩:∃ m,Zga x.2 = .string m:=⟨_,rfl⟩
   rw [hm] at HM
   have Hm:=Zaa hm
   have Hx:=Zaa hx
   have hs:=hE.size
   clear hL hE hx hm
   go_wp2_with fail
   refine HM.out.mono ?_
   rintro e w1 ⟨rfl,hE1⟩
   have HE1:Hid (Ext w w1):=HE.out.trans (hE1.mono hs)
   have hL:=H.out w1 HE1.out
   have d1:w1.cell? ⟨bW,1,none⟩=some (.slice sa ls.length sc):=Zab hL.box 1 _ rfl
   obtain ⟨sg,u,rfl,hsg,hu,cs,_⟩:=Zkx hL.lrow hlt
   rw [Qj,Hx.out] at hu
   cases hu
   obtain ⟨xa,xn,xc,hxv,hxn,hcells⟩:=(hL.all x (Qh Hx.out)).1.read
   simp only [hxv] at cs
   rw [Hm.out] at hcells
   have Hc:=Zaa hcells
   clear c1 c2 ck hE1 hL hcells HM hxv hx2
   go_wp2
   go_loop [5] (fun i=>∃ t:Nat,t≤xn∧i = .int .i64 t) (fun i=>xn - (intOf i).toNat)
   case atStart=>exact ⟨0,Qm _,rfl⟩
   case round =>
    obtain ⟨t,ht,rfl⟩:=hrel
    by_cases hlt2:t<xn
    ·obtain ⟨g,rfl,hg,cg⟩:=Hc.out t hlt2
     go_wp2
     go_round
     case rel=>exact ⟨t+1,by omega,by go_num⟩
     case measure=>simp [intOf]; omega
    ·go_wp2
     go_roundw
     case rel=>exact ⟨j+1,by omega,by go_num,HE1.out⟩
     case measure=>simp [intOf]; omega
  ·clear hL hE
   go_wp2
   go_ret
   exact ⟨rfl,HE.out⟩
def Zdj (l:List UInt8):Nat→Nat→Nat→Bool→Option Nat
 | 0,p,_,_=>some p
 | f+1,p,o,due=>match l[p]? with
  | none=>if due=true∨0<o then some p else none
  | some c=>if due=true then (if c=33 then Zdj l f (p+1) o false else if c=40 then Zdj l f (p+1) (o+1) false else some p)
    else if o=0 then some p
    else if c=41 then Zdj l f (p+1) (o - 1) false
    else if (Zao (l.drop p)).2=0 then some p else Zdj l f (p+(Zao (l.drop p)).2) o true
def Zfd (l:List UInt8):Option Nat:=Zdj l (l.length+1) 0 0 true
def Sh (l:List UInt8) (p o:Nat) (due:Bool):Prop:=∃ f,l.length<f+p∧Zdj l f p o due=none
theorem Sh.start {l:List UInt8} (h:Zfd l=none):Sh l 0 0 true:=⟨l.length+1,by omega,h⟩
theorem Sh.due {l:List UInt8} {p o:Nat} (h:Sh l p o true):(l[p]?=some 33∧Sh l (p+1) o false)∨(l[p]?=some 40∧Sh l (p+1) (o+1) false):=by
 obtain ⟨f,h1,h2⟩:=h
 cases f with
 | zero=>simp [Zdj] at h2
 | succ f =>
  unfold Zdj at h2
  cases hc:l[p]? with
  | none=>rw [hc] at h2; simp at h2
  | some c =>
   rw [hc] at h2
   simp only [if_true] at h2
   split at h2
   ·rename_i e; subst e; exact Or.inl ⟨rfl,f,by omega,h2⟩
   ·split at h2
    ·rename_i e; subst e; exact Or.inr ⟨rfl,f,by omega,h2⟩
    ·simp at h2
theorem Sh.open {l:List UInt8} {p o:Nat} (h:Sh l p (o+1) false):(l[p]?=some 41∧Sh l (p+1) o false)∨(∃ c,l[p]?=some c∧c≠41∧(Zao (l.drop p)).2≠0∧Sh l (p+(Zao (l.drop p)).2) (o+1) true):=by
 obtain ⟨f,h1,h2⟩:=h
 cases f with
 | zero=>simp [Zdj] at h2
 | succ f =>
  unfold Zdj at h2
  cases hc:l[p]? with
  | none=>rw [hc] at h2; simp at h2
  | some c =>
   rw [hc] at h2
   simp only [Bool.false_eq_true,if_false,Nat.add_one_ne_zero,Nat.add_sub_cancel] at h2
   split at h2
   ·rename_i e; subst e; exact Or.inl ⟨rfl,f,by omega,h2⟩
   ·rename_i e
    split at h2
    ·simp at h2
    ·rename_i e2
     exact Or.inr ⟨c,rfl,e,e2,f,by omega,h2⟩
structure HN where
 at':Nat
 wrong:Bool
 ans:List (List UInt8)
mutual
inductive HoldR (cs:List Cls) (names:Names) (l:List UInt8):ND→Nat→List (List UInt8)→HN→Prop
 | leaf (n:ND) (p:Nat) (A:List (List UInt8)) (hc:l[p]?=some 33) (h:n.goals=[]):HoldR cs names l n p A ⟨p+1,false,A++[Zdg names n]⟩
 | noleaf (n:ND) (p:Nat) (A:List (List UInt8)) (hc:l[p]?=some 33) (h:n.goals≠[]):HoldR cs names l n p A ⟨p,true,A⟩
 | nonode (n:ND) (p:Nat) (A:List (List UInt8)) (hc:l[p]?=some 40) (h:n.goals=[]):HoldR cs names l n p A ⟨p,true,A⟩
 | node (n:ND) (p:Nat) (A:List (List UInt8)) (R:HN) (hc:l[p]?=some 40) (h:n.goals≠[]) (hk:KidsR cs names l n cs.length 0 (p+1) A R):HoldR cs names l n p A R
inductive KidsR (cs:List Cls) (names:Names) (l:List UInt8):ND→Nat→Nat→Nat→List (List UInt8)→HN→Prop
 | shut (n:ND) (k p:Nat) (A:List (List UInt8)) (hc:l[p]?=some 41):KidsR cs names l n 0 k p A ⟨p+1,false,A⟩
 | noshut (n:ND) (k p:Nat) (A:List (List UInt8)) (c:UInt8) (hc:l[p]?=some c) (hn:c≠41):KidsR cs names l n 0 k p A ⟨p,true,A⟩
 | miss (n:ND) (f k p:Nat) (A:List (List UInt8)) (c:Cls) (R:HN) (hc:cs[k]?=some c) (hq:(tryN n c k).2=0) (h:KidsR cs names l n f (k+1) p A R):KidsR cs names l n (f+1) k p A R
 | off (n:ND) (f k p:Nat) (A:List (List UInt8)) (c:Cls) (hc:cs[k]?=some c) (hq:(tryN n c k).2≠0) (hw:(Zao (l.drop p)).2=0∨(Zao (l.drop p)).1≠k∨(tryN n c k).2=3):KidsR cs names l n (f+1) k p A ⟨p,true,A⟩
 | bad (n:ND) (f k p:Nat) (A:List (List UInt8)) (c:Cls) (R:HN) (hc:cs[k]?=some c) (hq:(tryN n c k).2=1∨(tryN n c k).2=2) (hs:(Zao (l.drop p)).2≠0) (hv:(Zao (l.drop p)).1=k) (h:HoldR cs names l (tryN n c k).1 (p+(Zao (l.drop p)).2) A R) (hw:R.wrong=true):KidsR cs names l n (f+1) k p A R
 | kid (n:ND) (f k p:Nat) (A:List (List UInt8)) (c:Cls) (R R2:HN) (hc:cs[k]?=some c) (hq:(tryN n c k).2=1∨(tryN n c k).2=2) (hs:(Zao (l.drop p)).2≠0) (hv:(Zao (l.drop p)).1=k) (h:HoldR cs names l (tryN n c k).1 (p+(Zao (l.drop p)).2) A R) (hw:R.wrong=false) (h2:KidsR cs names l n f (k+1) R.at' R.ans R2):KidsR cs names l n (f+1) k p A R2
end
theorem Yib (cs:List Cls) (names:Names) (l:List UInt8):∀ (d:Nat) (n:ND) (p o:Nat) (A:List (List UInt8)),l.length - p≤d→Sh l p o true→∃ R,HoldR cs names l n p A R∧(R.wrong=false→p<R.at'∧Sh l R.at' o false):=by
 intro d
 induction d with
 | zero =>
  intro n p o A hd hs
  exfalso
  rcases hs.due with ⟨h,_⟩ | ⟨h,_⟩
  ·have:=(Qa.1 h).1; omega
  ·have:=(Qa.1 h).1; omega
 | succ d ih =>
  intro n p o A hd hs
  rcases hs.due with ⟨hc,hs1⟩ | ⟨hc,hs1⟩
  ·by_cases hg:n.goals=[]
   ·exact ⟨_,.leaf n p A hc hg,fun _=>⟨Nat.lt_succ_self _,hs1⟩⟩
   ·exact ⟨_,.noleaf n p A hc hg,fun h=>by simp at h⟩
  ·have hpl:=(Qa.1 hc).1
   by_cases hg:n.goals=[]
   ·exact ⟨_,.nonode n p A hc hg,fun h=>by simp at h⟩
   ·have kids:∀ (f k p':Nat) (A:List (List UInt8)),f+k=cs.length→p<p'→Sh l p' (o+1) false→∃ R,KidsR cs names l n f k p' A R∧(R.wrong=false→p<R.at'∧Sh l R.at' o false):=by
     intro f
     induction f with
     | zero =>
      intro k p' A hk hp hs
      rcases hs.open with ⟨h1,h2⟩ | ⟨c,h1,h2,_⟩
      ·exact ⟨_,.shut n k p' A h1,fun _=>⟨by show p<p'+1; omega,h2⟩⟩
      ·exact ⟨_,.noshut n k p' A c h1 h2,fun h=>by simp at h⟩
     | succ f ihf =>
      intro k p' A hk hp hs
      obtain ⟨c,hc⟩:∃ c,cs[k]?=some c:=⟨_,Qb (by omega)⟩
      by_cases hq0:(tryN n c k).2=0
      ·obtain ⟨R,h1,h2⟩:=ihf (k+1) p' A (by omega) hp hs
       exact ⟨R,.miss n f k p' A c R hc hq0 h1,h2⟩
      ·by_cases hw:(Zao (l.drop p')).2=0∨(Zao (l.drop p')).1≠k∨(tryN n c k).2=3
       ·exact ⟨_,.off n f k p' A c hc hq0 hw,fun h=>by simp at h⟩
       ·have hsz:(Zao (l.drop p')).2≠0:=fun h=>hw (Or.inl h)
        have hv:(Zao (l.drop p')).1=k:=by
         by_cases h:(Zao (l.drop p')).1=k
         ·exact h
         ·exact absurd (Or.inr (Or.inl h)) hw
        have hq:(tryN n c k).2=1∨(tryN n c k).2=2:=by
         have:=Zso n c k
         have h3:(tryN n c k).2≠3:=fun h=>hw (Or.inr (Or.inr h))
         omega
        rcases hs.open with ⟨h1,_⟩ | ⟨c',h1,h2,_,h4⟩
        ·exfalso
         have hl:p'<l.length:=(Qa.1 h1).1
         have e:l.drop p'=41::l.drop (p'+1):=by rw [List.drop_eq_getElem_cons hl,(Qa.1 h1).2]
         rw [e] at hsz
         simp [Zao,figB] at hsz
        ·obtain ⟨R,g1,g2⟩:=ih (tryN n c k).1 (p'+(Zao (l.drop p')).2) (o+1) A (by omega) h4
         cases hRw:R.wrong with
         | true=>exact ⟨R,.bad n f k p' A c R hc hq hsz hv g1 hRw,fun h=>by rw [hRw] at h; simp at h⟩
         | false =>
          obtain ⟨g3,g4⟩:=g2 hRw
          obtain ⟨R2,k1,k2⟩:=ihf (k+1) R.at' R.ans (by omega) (by omega) g4
          exact ⟨R2,.kid n f k p' A c R R2 hc hq hsz hv g1 hRw k1,k2⟩
    obtain ⟨R,h1,h2⟩:=kids cs.length 0 (p+1) A (by omega) (by omega) hs1
    exact ⟨R,.node n p A R hc hg h1,h2⟩
def Ycn:Option Nat→Int
 | none => -1
 | some p=>p
theorem Zid {s:ByteArray} {p:Nat} (h:p<s.size):s.data.toList[p]?=some s[p]:=by
 have hl:p<s.data.toList.length:=by simpa using h
 rw [Qb hl]
 rfl
theorem Zsq {c d:UInt8} (h:c≠d):(c.toNat:Int)≠(d.toNat:Int):=fun e=>h (UInt8.toNat.inj (by omega))
theorem Zsr (s:ByteArray) (w:World) (hs:s.size≤100000):Calls Tryz.prog 119 #[.string s] w fun e w'=>e = .returned (.int .i64 (Ycn (Zfd s.data.toList)))∧w'=w:=by
 have hsl:s.data.toList.length=s.size:=by simp
 have HN:=Zaa (fun p u (hp:p≤100001)=>Zjo s p u (by omega) (by omega))
 obtain ⟨l,hl⟩:∃ l,l=s.data.toList:=⟨_,rfl⟩
 rw [← hl] at hsl ⊢
 have Hl:=Zaa hl
 have Hsl:=Zaa hsl
 obtain ⟨N,hN⟩:∃ N,N=Zfd l:=⟨_,rfl⟩
 rw [← hN]
 have HNn:=Zaa hN
 clear hl hN hsl
 go_enter Tryz.func119,Tryz.ntmps119
 go_wp2
 go_loopg [3,4,5] (s.size+1) (fun gk ov bv av wr=>∃ (p o f:Nat) (due:Bool),ov = .int .i64 o∧bv = .bool due∧av = .int .i64 p∧wr=w∧p≤s.size∧s.size - p<gk∧o≤p∧s.size<f+p∧Zdj l f p o due=N)
 case atStart=>exact ⟨0,0,s.size+1,true,by go_num,rfl,by go_num,rfl,by omega,by omega,by omega,by omega,by rw [HNn.out]; unfold Zfd; rw [Hsl.out]⟩
 case round =>
  obtain ⟨p,o,f,due,rfl,rfl,rfl,rfl,hp,hgk,hop,hf,hsh⟩:=hrel
  have Hsh:=Zaa hsh
  clear hsh
  obtain ⟨f,rfl⟩:∃ f',f=f'+1:=⟨f - 1,by omega⟩
  by_cases hlt:p<s.size
  ·have hc:l[p]?=some s[p]:=by rw [Hl.out]; exact Zid hlt
   have h1:=Hsh.out
   unfold Zdj at h1
   rw [hc] at h1
   simp only at h1
   cases due with
   | true =>
    simp only [if_true] at h1
    by_cases h33:s[p]=33
    ·have Hn:Hid (Zdj l f (p+1) o false=N):=by show _=_; rw [if_pos h33] at h1; exact h1
     have k1:((s[p].toNat:Int) != 33)=false:=by rw [h33]; rfl
     have k2:((s[p].toNat:Int) == 40)=false:=by rw [h33]; rfl
     clear h1 h33 hc
     go_wp2
     go_roundg (s.size - p)
     case measure=>omega
     case rel=>exact ⟨p+1,o,f,false,by go_num,rfl,by go_num,rfl,by omega,by omega,by omega,by omega,Hn.out⟩
    ·have k1:((s[p].toNat:Int) != 33)=true:=by
      rw [bne_iff_ne]
      exact Zsq h33
     by_cases h40:s[p]=40
     ·have Hn:Hid (Zdj l f (p+1) (o+1) false=N):=by show _=_; rw [if_neg h33,if_pos h40] at h1; exact h1
      have k2:((s[p].toNat:Int) != 40)=false:=by rw [h40]; rfl
      have k3:((s[p].toNat:Int) == 40)=true:=by rw [h40]; rfl
      clear h1 h33 h40 hc
      go_wp2
      go_roundg (s.size - p)
      case measure=>omega
      case rel=>exact ⟨p+1,o+1,f,false,by go_num,rfl,by go_num,rfl,by omega,by omega,by omega,by omega,Hn.out⟩
     ·have Hn:Hid (some p=N):=by show _=_; rw [if_neg h33,if_neg h40] at h1; exact h1
      have k2:((s[p].toNat:Int) != 40)=true:=by
       rw [bne_iff_ne]
       exact Zsq h40
      clear h1 h33 h40 hc
      go_wp2
      go_ret
      rw [← Hn.out]
      exact ⟨rfl,rfl⟩
   | false =>
    simp only [Bool.false_eq_true,if_false] at h1
    by_cases ho:o=0
    ·have Hn:Hid (some p=N):=by show _=_; rw [if_pos ho] at h1; exact h1
     subst ho
     clear h1 hc
     go_wp2
     go_ret
     rw [← Hn.out]
     exact ⟨rfl,rfl⟩
    ·rw [if_neg ho] at h1
     have ho':((o:Int) == 0)=false:=by rw [Qu]; omega
     by_cases h41:s[p]=41
     ·have Hn:Hid (Zdj l f (p+1) (o - 1) false=N):=by show _=_; rw [if_pos h41] at h1; exact h1
      have k1:((s[p].toNat:Int) == 41)=true:=by rw [h41]; rfl
      have hoi:(o:Int) - 1=((o - 1:Nat):Int):=by omega
      clear h1 h41 hc
      go_wp2
      go_roundg (s.size - p)
      case measure=>omega
      case rel=>exact ⟨p+1,o - 1,f,false,by rw [← hoi],rfl,by go_num,rfl,by omega,by omega,by omega,by omega,Hn.out⟩
     ·rw [if_neg h41] at h1
      have k1:((s[p].toNat:Int) == 41)=false:=by
       rw [Qu]
       exact Zsq h41
      obtain ⟨m,z,hmz⟩:∃ m z,Zao (l.drop p)=(m,z):=⟨_,_,rfl⟩
      have hsz:=Zdu (l.drop p)
      rw [hmz] at hsz h1
      simp only [List.length_drop] at hsz h1
      rw [Hsl.out] at hsz
      have h2:=HN.out p wr (by omega)
      rw [← Hl.out,hmz] at h2
      have H2:=Zaa h2
      clear h2 hmz h41 hc
      by_cases hz:z=0
      ·have Hn:Hid (some p=N):=by show _=_; rw [if_pos hz] at h1; exact h1
       subst hz
       clear h1
       go_wp2_with fail
       refine H2.out.mono ?_
       rintro e w2 ⟨rfl,rfl⟩
       go_wp2
       go_ret
       rw [← Hn.out]
       exact ⟨rfl,rfl⟩
      ·have Hn:Hid (Zdj l f (p+z) o true=N):=by show _=_; rw [if_neg hz] at h1; exact h1
       have hz':(((z:Nat):Int) == 0)=false:=by rw [Qu]; omega
       clear h1
       go_wp2_with fail
       refine H2.out.mono ?_
       rintro e w2 ⟨rfl,rfl⟩
       go_wp2
       go_roundg (s.size - p)
       case measure=>omega
       case rel=>exact ⟨p+z,o,f,true,by go_num,rfl,by go_num,rfl,by omega,by omega,by omega,by omega,Hn.out⟩
  ·have hc:l[p]?=none:=List.getElem?_eq_none_iff.2 (by rw [Hsl.out]; omega)
   have h1:=Hsh.out
   unfold Zdj at h1
   rw [hc] at h1
   simp only at h1
   cases due with
   | true =>
    have Hn:Hid (some p=N):=by show _=_; rw [if_pos (Or.inl rfl)] at h1; exact h1
    clear h1 hc
    go_wp2
    go_ret
    rw [← Hn.out]
    exact ⟨rfl,rfl⟩
   | false =>
    by_cases ho:0<o
    ·have Hn:Hid (some p=N):=by show _=_; rw [if_pos (Or.inr ho)] at h1; exact h1
     have ho':(0:Int)<(o:Int):=by omega
     clear h1 hc ho
     go_wp2
     go_ret
     rw [← Hn.out]
     exact ⟨rfl,rfl⟩
    ·have Hn:Hid (none=N):=by show _=_; rw [if_neg (by simp; omega)] at h1; exact h1
     obtain rfl:o=0:=by omega
     clear h1 hc ho
     go_wp2
     go_ret
     rw [← Hn.out]
     exact ⟨rfl,rfl⟩
def Zql (P:ND→Nat→List (List UInt8)→HN→Prop) (cs:List Cls) (l:List UInt8) (n:ND):Nat→Nat→Nat→List (List UInt8)→HN→Prop
 | 0,k,p,A,R=>(l[p]?=some 41∧R=⟨p+1,false,A⟩)∨(∃ c,l[p]?=some c∧c≠41∧R=⟨p,true,A⟩)
 | f+1,k,p,A,R=>∃ c,cs[k]?=some c∧(((tryN n c k).2=0∧Zql P cs l n f (k+1) p A R) ∨
   ((tryN n c k).2≠0∧((Zao (l.drop p)).2=0∨(Zao (l.drop p)).1≠k∨(tryN n c k).2=3)∧R=⟨p,true,A⟩) ∨
   (((tryN n c k).2=1∨(tryN n c k).2=2)∧(Zao (l.drop p)).2≠0∧(Zao (l.drop p)).1=k∧∃ R1,P (tryN n c k).1 (p+(Zao (l.drop p)).2) A R1∧((R1.wrong=true∧R=R1)∨(R1.wrong=false∧Zql P cs l n f (k+1) R1.at' R1.ans R))))
theorem HoldR.ind {cs:List Cls} {names:Names} {l:List UInt8} {P:ND→Nat→List (List UInt8)→HN→Prop}
  (h1:∀ n p A,l[p]?=some 33→n.goals=[]→P n p A ⟨p+1,false,A++[Zdg names n]⟩) (h2:∀ n p A,l[p]?=some 33→n.goals≠[]→P n p A ⟨p,true,A⟩) (h3:∀ n p A,l[p]?=some 40→n.goals=[]→P n p A ⟨p,true,A⟩)
  (h4:∀ n p A R,l[p]?=some 40→n.goals≠[]→Zql P cs l n cs.length 0 (p+1) A R→P n p A R) {n:ND} {p:Nat} {A:List (List UInt8)} {R:HN} (h:HoldR cs names l n p A R):P n p A R:=by
 refine HoldR.rec (motive_1:=fun n p A R _=>P n p A R) (motive_2:=fun n f k p A R _=>Zql P cs l n f k p A R) ?_ ?_ ?_ ?_ ?_ ?_ ?_ ?_ ?_ ?_ h
 ·intro n p A hc hg; exact h1 n p A hc hg
 ·intro n p A hc hg; exact h2 n p A hc hg
 ·intro n p A hc hg; exact h3 n p A hc hg
 ·intro n p A R hc hg _ ih; exact h4 n p A R hc hg ih
 ·intro n k p A hc; exact Or.inl ⟨hc,rfl⟩
 ·intro n k p A c hc hn; exact Or.inr ⟨c,hc,hn,rfl⟩
 ·intro n f k p A c R hc hq _ ih; exact ⟨c,hc,Or.inl ⟨hq,ih⟩⟩
 ·intro n f k p A c hc hq hw; exact ⟨c,hc,Or.inr (Or.inl ⟨hq,hw,rfl⟩)⟩
 ·intro n f k p A c R hc hq hs hv _ hw ih; exact ⟨c,hc,Or.inr (Or.inr ⟨hq,hs,hv,R,ih,Or.inl ⟨hw,rfl⟩⟩)⟩
 ·intro n f k p A c R R2 hc hq hs hv _ hw _ ih ih2; exact ⟨c,hc,Or.inr (Or.inr ⟨hq,hs,hv,R,ih,Or.inr ⟨hw,ih2⟩⟩)⟩
def Zgk (cs:List Cls) (a:List (List Sym) × Names) (s:ByteArray) (n:ND) (p:Nat) (A:List (List UInt8)) (R:HN):Prop :=
 ∀ (w0 w:World) (lv qv nv:Value) (xs:List Value) (m0 m1 m2 m3 m4 hv:Value),RowC (fun _=>False) w0 lv cs xs→AskAt w0 qv nv a→Ext w0 w→NodeAt (fun _=>False) w m0 m1 m2 m3 m4 n→n.vals.length=a.2.length→w.ownsRow w0.heap.size 9 1 hv A.length (strs A)→A.length≤p →
  Calls Tryz.prog 121 #[lv,.agg #[qv,nv],.agg #[m0,m1,m2,m3,m4],.string s,.agg #[.int .i64 p,.bool false,hv]] w fun e w'=>∃ hv',e = .returned (.agg #[.int .i64 R.at',.bool R.wrong,hv'])∧Kept (Zap hv) w w'∧w'.ownsRow w0.heap.size 9 1 hv' R.ans.length (strs R.ans)∧R.ans.length≤R.at'∧R.at'≤s.size∧∀ k,hv'.ownBlock=some k→hv.ownBlock=some k∨w.heap.size≤k
theorem Zkh {w:World} {b:Nat} {u0 u1 u2:Value} {t:TypeId} (h:w.heap[b]?=some (.cells #[u0,u1,u2] t (0,0))) :
  w.cell? ⟨b,0,none⟩=some u0∧w.cell? ⟨b,1,none⟩=some u1∧w.cell? ⟨b,2,none⟩=some u2∧∀ i,w.frozen? ⟨b,i,none⟩=false :=
 ⟨Zab h 0 _ rfl,Zab h 1 _ rfl,Zab h 2 _ rfl,fun i=>Zae h i⟩
theorem Zwj (cs:List Cls) (a:List (List Sym) × Names) (s:ByteArray) (hs:s.size≤20000) (n:ND) (p:Nat) (A:List (List UInt8)) (hc:(s.data.toList[p]?=some 33∧n.goals≠[])∨(s.data.toList[p]?=some 40∧n.goals=[])):Zgk cs a s n p A ⟨p,true,A⟩:=by
 intro w0 w lv qv nv xs m0 m1 m2 m3 m4 hv hC hA hE hN hvl hrow hAp
 have hp:p<s.size:=by
  have:p<s.data.toList.length:=by rcases hc with ⟨h,_⟩ | ⟨h,_⟩ <;> exact (Qa.1 h).1
  simpa using this
 obtain ⟨h0a,h0c,h1a,h1l,h1c,h2a,h2l,h2c,h3a,h3l,h3c,h4,rfl,rfl,rfl,rfl,rfl⟩:=hN.len
 obtain ⟨la,lcap,rfl⟩:=Zad hC.owns
 obtain ⟨ax,hA0⟩:=hA.atoms
 obtain ⟨aa,acap,rfl⟩:=Zad hA0.1
 obtain ⟨na,ncap,rfl⟩:=Zad hA.names
 obtain ⟨ha,hcap,rfl⟩:=Zad hrow
 have hne:((s[p].toNat:Int) == 33)=true∧((n.goals.length:Int) == 0)=false∨((s[p].toNat:Int) == 33)=false∧((n.goals.length:Int) == 0)=true:=by
  rcases hc with ⟨h,hg⟩ | ⟨h,hg⟩
  ·rw [Zid hp] at h
   simp at h
   refine Or.inl ⟨by rw [h]; rfl,?_⟩
   rw [Qu]
   have:n.goals.length≠0:=fun h=>hg (List.eq_nil_of_length_eq_zero h)
   omega
  ·rw [Zid hp] at h
   simp at h
   exact Or.inr ⟨by rw [h]; rfl,by rw [hg]; rfl⟩
 have Hfin:Hid (∀ w',Ext w w'→∃ hv',(Ending.returned (.agg #[.int .i64 p,.bool true,.slice ha A.length hcap])) = .returned (.agg #[.int .i64 p,.bool true,hv'])∧Kept (Zap (.slice ha A.length hcap)) w w'∧w'.ownsRow w0.heap.size 9 1 hv' A.length (strs A)∧A.length≤p∧p≤s.size∧∀ k,hv'.ownBlock=some k→(Value.slice ha A.length hcap).ownBlock=some k∨w.heap.size≤k):=fun w' hE' =>
  ⟨_,rfl,⟨hE'.os,hE'.tape,hE'.output,hE'.size,fun k hk _=>hE'.block k hk⟩,Zak hrow (fun k hk=>hE'.block k (hrow.lt k hk).2),hAp,by omega,fun k hk=>Or.inl hk⟩
 obtain ⟨L,hL⟩:∃ L,L=A.length:=⟨_,rfl⟩
 obtain ⟨G,hG⟩:∃ G,G=n.goals.length:=⟨_,rfl⟩
 rw [← hL] at Hfin ⊢
 rw [← hG] at hne ⊢
 clear hc hC hA hA0 hE hN hvl hrow hAp hL hG
 rcases hne with ⟨k1,k2⟩ | ⟨k1,k2⟩
 all_goals
  go_enter Tryz.func121,Tryz.ntmps121
  go_wp2_with fail
  go_quiet (fail)
  go_wp2
  refine bodyPost_ret (v := .agg #[.int .i64 p,.bool true,.slice ha L hcap]) (by simp [results,Tryz.results121,go_sem]) rfl ?_
  exact Hfin.out _ (Ext.of (by repeat' (first | with_reducible(first|exact Qx _ _|apply Kept.drew|apply Kept.drewN|apply Qz|refine Qy ?_ ?_ _)|exact fun h=>absurd h (by simp <;> omega))))
theorem Zki {w:World} {k:Nat} (h:k=w.heap.size) (o:Obj):(w.alloc o).heap[k]?=some o:=by subst h; exact heap_alloc_new w o
theorem Ygj (w:World) (A B C D:Obj):((((w.alloc A).alloc B).alloc C).alloc D).heap.size=w.heap.size+4∧((((w.alloc A).alloc B).alloc C).alloc D).heap[w.heap.size]?=some A∧((((w.alloc A).alloc B).alloc C).alloc D).heap[w.heap.size+1]?=some B∧((((w.alloc A).alloc B).alloc C).alloc D).heap[w.heap.size+1+1]?=some C∧((((w.alloc A).alloc B).alloc C).alloc D).heap[w.heap.size+1+1+1]?=some D∧Ext w ((((w.alloc A).alloc B).alloc C).alloc D) :=
 ⟨by simp,Zag (Zag (Zag (Zki rfl _) _) _) _,Zag (Zag (Zki (by simp) _) _) _,Zag (Zki (by simp) _) _,Zki (by simp) _,Ext.of ((((Qx _ _).alloc _).alloc _).alloc _ |>.alloc _)⟩
theorem Yco (cs:List Cls) (a:List (List Sym) × Names) (s:ByteArray) (hs:s.size≤20000) (ha3:a.2.length≤121) (ha4:∀ y ∈ a.2,y.length≤4096) (n:ND) (p:Nat) (A:List (List UInt8)) (hc:s.data.toList[p]?=some 33) (hg:n.goals=[]):Zgk cs a s n p A ⟨p+1,false,A++[Zdg a.2 n]⟩:=by
 intro w0 w lv qv nv xs m0 m1 m2 m3 m4 hv hC hA hE hN hvl hrow hAp
 have hp:p<s.size:=by
  have:p<s.data.toList.length:=(Qa.1 hc).1
  simpa using this
 obtain ⟨h0a,h0c,h1a,h1l,h1c,h2a,h2l,h2c,h3a,h3l,h3c,h4,rfl,rfl,rfl,rfl,rfl⟩:=hN.len
 obtain ⟨la,lcap,rfl⟩:=Zad hC.owns
 obtain ⟨ax,hA0⟩:=hA.atoms
 obtain ⟨aa,acap,rfl⟩:=Zad hA0.1
 obtain ⟨na,ncap,rfl⟩:=Zad hA.names
 obtain ⟨ha,hcap,rfl⟩:=Zad hrow
 have k1:((s[p].toNat:Int) == 33)=true:=by
  rw [Zid hp] at hc
  simp at hc
  rw [hc]; rfl
 have hgl:n.goals.length=0:=by rw [hg]; rfl
 rw [hgl] at hN ⊢
 obtain ⟨X,hX⟩:∃ X,X=Zdg a.2 n:=⟨_,rfl⟩
 have HAn:=Zaa (fun u (hu:Ext w u)=>Zup u _ _ _ _ _ _ _ a n (hA.ext (hE.trans (hu.mono hE.size))) (hN.ext (Y:=fun _=>False) hu (fun _ _ h=>h)) hvl ha3 ha4)
 rw [← hX] at HAn ⊢
 obtain ⟨W0,hW0⟩:∃ W0,W0=(((w.alloc (.cells #[.slice aa a.1.length acap,.slice na a.2.length ncap] 148)).alloc (.cells #[.slice h0a 0 h0c,.slice h1a h1l h1c,.slice h2a h2l h2c,.slice h3a h3l h3c,.int .i64 h4] 152)).alloc (.cells #[.int .i64 p,.bool false,.slice ha A.length hcap] 206)).alloc (.cells #[.int .i64 0,.bool false,.slice none 0 0] 206):=⟨_,rfl⟩
 obtain ⟨hs0,hq0,hn0,hh0,hr0,hE0⟩:=Ygj w (.cells #[.slice aa a.1.length acap,.slice na a.2.length ncap] 148) (.cells #[.slice h0a 0 h0c,.slice h1a h1l h1c,.slice h2a h2l h2c,.slice h3a h3l h3c,.int .i64 h4] 152) (.cells #[.int .i64 p,.bool false,.slice ha A.length hcap] 206) (.cells #[.int .i64 0,.bool false,.slice none 0 0] 206)
 rw [← hW0] at hs0 hq0 hn0 hh0 hr0 hE0
 obtain ⟨q0,q1,qf⟩:=box2 hq0
 obtain ⟨n0',n1',n2',n3',n4',nf⟩:=box5 hn0
 obtain ⟨x0,x1,x2,xf⟩:=Zkh hh0
 obtain ⟨r0,r1,r2,rf⟩:=Zkh hr0
 have hlt:=hrow.lt
 have hE':=hE.size
 have Hrow:=Zaa hrow
 have HE:=Zaa hE
 have HE0:=Zaa hE0
 have Hh0:=Zaa hh0
 have Hr0:=Zaa hr0
 have HW0:=Zaa hW0
 have Hlt:=Zaa hlt
 clear hc hg hC hA hA0 hE hN hvl hrow hX hW0 hq0 hn0 hh0 hr0 hE0 hlt hgl
 go_enter Tryz.func121,Tryz.ntmps121
 go_wp2_with fail
 rw [← HW0.out]
 go_quiet (fail)
 go_wp2_with fail
 have hEq:Ext w (W0.drewN nq):=HE0.out.trans ((Ext.of ((Qx _ W0).drewN nq)).mono HE0.out.size)
 refine (HAn.out _ hEq).mono ?_
 rintro e w1 ⟨rfl,hE1⟩
 have hE01:Ext W0 w1:=(Ext.of ((Qx _ W0).drewN nq):Ext W0 (W0.drewN nq)).trans hE1
 have hs1:=hE01.size
 have hEw1:Ext w w1:=HE0.out.trans (hE01.mono HE0.out.size)
 have hh1:=(hE01.block _ (by omega)).trans Hh0.out
 have hr1:=(hE01.block _ (by omega)).trans Hr0.out
 clear q0 q1 qf n0' n1' n2' n3' n4' nf x0 x1 x2 xf r0 r1 r2 rf
 obtain ⟨x0,x1,x2,xf⟩:=Zkh hh1
 obtain ⟨r0,r1,r2,rf⟩:=Zkh hr1
 have Hrow1:=Zaa (Zak Hrow.out (fun k hk=>hEw1.block k (Hrow.out.lt k hk).2))
 have HEw1:=Zaa hEw1
 have Hh1:=Zaa hh1
 have Hr1:=Zaa hr1
 have hme:w.heap.size+1+1+1<w1.heap.size:=by omega
 clear hE1 hE01 hEw1 hh1 hr1 hEq
 go_wp2_with (at_builtin; go_loud (refine Zal w1 rfl (.tmp 38) (.tmp 40) 47 rfl w0.heap.size 9 Tryz.infoStr Tryz.underlying47 rfl (by decide) (.slice ha A.length hcap) A.length (strs A) rfl Hrow1.out #[.string ⟨X.toArray⟩] rfl (by simp) rfl (by simp [Value.oneCell']) ?_ ?_ ?_))
 ·omega
 ·omega
 intro v2 w2 hap
 obtain ⟨ha2,hc2,rfl⟩:=Zad hap.owns
 have hs2:=hap.kept.size
 have hoff:∀ j,w.heap.size≤j→¬ Zap (.slice ha A.length hcap) j:=fun j hj e=>by have:=(Hlt.out _ e).2; omega
 have hh2:=(hap.kept.block _ (by omega) (hoff _ (by omega))).trans Hh1.out
 have hr2:=(hap.kept.block _ (by omega) (hoff _ (by omega))).trans Hr1.out
 clear x0 x1 x2 xf r0 r1 r2 rf
 obtain ⟨x0,x1,x2,xf⟩:=Zkh hh2
 obtain ⟨r0,r1,r2,rf⟩:=Zkh hr2
 have hme2:w.heap.size+1+1+1<w2.heap.size:=by omega
 have Hfin:Hid (∀ w',Kept (fun k=>w.heap.size+1+1≤k∧k≤w.heap.size+1+1+1) w2 w'→∃ hv',(Ending.returned (.agg #[.int .i64 ((p:Int)+1),.bool false,.slice ha2 (A.length+1) hc2])) = .returned (.agg #[.int .i64 ((p+1:Nat):Int),.bool false,hv'])∧Kept (Zap (.slice ha A.length hcap)) w w'∧w'.ownsRow w0.heap.size 9 1 hv' (A++[X]).length (strs (A++[X]))∧(A++[X]).length≤p+1∧p+1≤s.size∧∀ k,hv'.ownBlock=some k→(Value.slice ha A.length hcap).ownBlock=some k∨w.heap.size≤k):=fun w' hk=>by
  have hw:∀ k,(Value.slice ha2 (A.length+1) hc2).ownBlock=some k→(Value.slice ha A.length hcap).ownBlock=some k∨w1.heap.size≤k:=fun k hj=>by
   rcases hap.where_ with e | ⟨g,e,hg⟩
   ·rw [e] at hj; exact Or.inl hj
   ·rw [e] at hj; simp at hj; subst hj; exact Or.inr hg
  refine ⟨.slice ha2 (A.length+1) hc2,by rw [show ((p+1:Nat):Int)=(p:Int)+1 by omega],?_,?_,by simp; omega,by omega,fun k hj => ?_⟩
  ·have h1:Kept (Zap (.slice ha A.length hcap)) w w1:=⟨HEw1.out.os,HEw1.out.tape,HEw1.out.output,HEw1.out.size,fun k hk _=>HEw1.out.block k hk⟩
   exact (h1.trans hap.kept).then hk (fun i hi h=>by omega)
  ·have h2:w2.ownsRow w0.heap.size 9 1 (.slice ha2 (A.length+1) hc2) (A++[X]).length (strs (A++[X])):=by simpa [strs] using hap.owns
   refine Zak h2 (fun k hj=>hk.block k (h2.lt k hj).2 (fun h => ?_))
   rcases hw k hj with e | e
   ·have:=(Hlt.out _ e).2; omega
   ·omega
  ·rcases hw k hj with e | e
   ·exact Or.inl e
   ·exact Or.inr (by omega)
 clear hap hh2 hr2 hoff
 go_wp2
 refine bodyPost_ret (v := .agg #[.int .i64 ((p:Int)+1),.bool false,.slice ha2 (A.length+1) hc2]) (by simp [results,Tryz.results121,go_sem,r0,r1,r2,rf,x0,x1,x2,xf,hme2]) rfl ?_
 exact Hfin.out _ (by repeat' (first | with_reducible(first|exact Qx _ _|apply Kept.drew|apply Kept.drewN|apply Qz|refine Qy ?_ ?_ _)|(intro _; simp only; omega)))
structure HoldAt (w0 w wr:World) (cs:List Cls) (a:List (List Sym) × Names) (s:ByteArray) (n:ND) (hv:Value) (aa:Option Addr) (acap:Nat) (na:Option Addr) (ncap:Nat) (m0 m1 m2 m3 m4:Value) (k p:Nat) (A:List (List UInt8)) (ha:Option Addr) (hc:Nat):Prop where
 kept:Kept (Zap hv) w wr
 ext:Ext w0 wr
 q:wr.heap[w.heap.size]?=some (.cells #[.slice aa a.1.length acap,.slice na a.2.length ncap] 148 (0,0))
 nd:wr.heap[w.heap.size+1]?=some (.cells #[m0,m1,m2,m3,m4] 152 (0,0))
 h:wr.heap[w.heap.size+1+1]?=some (.cells #[.int .i64 p,.bool false,.slice ha A.length hc] 206 (0,0))
 r:wr.heap[w.heap.size+1+1+1]?=some (.cells #[.int .i64 0,.bool false,.slice none 0 0] 206 (0,0))
 node:NodeAt (fun _=>False) wr m0 m1 m2 m3 m4 n
 row:wr.ownsRow w0.heap.size 9 1 (.slice ha A.length hc) A.length (strs A)
 new:∀ j,(Value.slice ha A.length hc).ownBlock=some j→hv.ownBlock=some j∨w.heap.size+4≤j
 le:A.length≤p
 lt:p≤s.size
theorem HoldAt.ext' {w0 w wr w':World} {cs:List Cls} {a:List (List Sym) × Names} {s:ByteArray} {n:ND} {hv:Value} {aa:Option Addr} {acap:Nat} {na:Option Addr} {ncap:Nat} {m0 m1 m2 m3 m4:Value} {k p:Nat} {A:List (List UInt8)} {ha:Option Addr} {hc:Nat} (h:HoldAt w0 w wr cs a s n hv aa acap na ncap m0 m1 m2 m3 m4 k p A ha hc) (hE:Ext wr w') (k':Nat):HoldAt w0 w w' cs a s n hv aa acap na ncap m0 m1 m2 m3 m4 k' p A ha hc :=
 ⟨h.kept.then (Kept.of_below hE) (fun i hi hj=>by have:=h.kept.size; omega),h.ext.trans (hE.mono h.ext.size),(hE.block _ (Zac h.q)).trans h.q,(hE.block _ (Zac h.nd)).trans h.nd,(hE.block _ (Zac h.h)).trans h.h,(hE.block _ (Zac h.r)).trans h.r,h.node.ext hE (fun _ _ h=>h),Zak h.row (fun j hj=>hE.block j (h.row.lt j hj).2),h.new,h.le,h.lt⟩
theorem Yff {w:World} {B n:Nat} {v:Value} {xs:List Value} (h:w.ownsRow B 9 1 v n xs):∀ k,Zap v k→∃ cl t fr,w.heap[k]?=some (.cells cl t fr)∧t≠183∧t≠200∧t≠3:=fun k hj=>by
 rcases h.2 with ⟨e,_⟩ | ⟨g,cap,cur,e,_,hg,_⟩
 ·rw [Zap,e] at hj; simp [Value.ownBlock] at hj
 ·rw [Zap,e] at hj
  simp [Value.ownBlock] at hj
  subst hj
  exact ⟨_,_,_,hg,by decide,by decide,by decide⟩
theorem HoldAt.fin {w0 w wr w':World} {cs:List Cls} {a:List (List Sym) × Names} {s:ByteArray} {n:ND} {hv:Value} {aa:Option Addr} {acap:Nat} {na:Option Addr} {ncap:Nat} {m0 m1 m2 m3 m4:Value} {k p:Nat} {A:List (List UInt8)} {ha:Option Addr} {hc:Nat} (h:HoldAt w0 w wr cs a s n hv aa acap na ncap m0 m1 m2 m3 m4 k p A ha hc) (hlt:∀ j,hv.ownBlock=some j→w0.heap.size≤j∧j<w.heap.size) (hk:Kept (fun j=>w.heap.size+1+1≤j∧j≤w.heap.size+1+1+1) wr w'):Kept (Zap hv) w w'∧w'.ownsRow w0.heap.size 9 1 (.slice ha A.length hc) A.length (strs A)∧∀ j,(Value.slice ha A.length hc).ownBlock=some j→hv.ownBlock=some j∨w.heap.size≤j :=
 ⟨h.kept.then hk (fun i hi hj=>by omega),Zak h.row (fun j hj=>hk.block j (h.row.lt j hj).2 (fun hs=>by
  rcases h.new j hj with e | e
  ·have:=(hlt j e).2; omega
  ·omega)),fun j hj=>by
  rcases h.new j hj with e | e
  ·exact Or.inl e
  ·exact Or.inr (by omega)⟩
set_option maxHeartbeats 8000000 in
theorem Ycp (cs:List Cls) (hcs:∀ c ∈ cs,COk c∧CNm c) (hcl:cs.length≤24) (a:List (List Sym) × Names) (s:ByteArray) (hs:s.size≤20000) (n:ND) (p:Nat) (A:List (List UInt8)) (R:HN) (hc:s.data.toList[p]?=some 40) (hg:n.goals≠[]) (hK:Zql (Zgk cs a s) cs s.data.toList n cs.length 0 (p+1) A R):Zgk cs a s n p A R:=by
 intro w0 w lv qv nv xs m0 m1 m2 m3 m4 hv hC hA hE hN hvl hrow hAp
 have hp:p<s.size:=by
  have:p<s.data.toList.length:=(Qa.1 hc).1
  simpa using this
 obtain ⟨h0a,h0c,h1a,h1l,h1c,h2a,h2l,h2c,h3a,h3l,h3c,h4,rfl,rfl,rfl,rfl,rfl⟩:=hN.len
 obtain ⟨la,lcap,rfl⟩:=Zad hC.owns
 obtain ⟨ax,hA0⟩:=hA.atoms
 obtain ⟨aa,acap,rfl⟩:=Zad hA0.1
 obtain ⟨na,ncap,rfl⟩:=Zad hA.names
 obtain ⟨ha,hcap,rfl⟩:=Zad hrow
 have k1:((s[p].toNat:Int) == 33)=false:=by
  rw [Zid hp] at hc
  simp at hc
  rw [hc]; rfl
 obtain ⟨G,hG⟩:∃ G,G=n.goals.length:=⟨_,rfl⟩
 have k2:((G:Int) == 0)=false:=by
  rw [Qu]
  have:n.goals.length≠0:=fun h=>hg (List.eq_nil_of_length_eq_zero h)
  omega
 rw [← hG] at hN ⊢
 obtain ⟨W0,hW0⟩:∃ W0,W0=(((w.alloc (.cells #[.slice aa a.1.length acap,.slice na a.2.length ncap] 148)).alloc (.cells #[.slice h0a G h0c,.slice h1a h1l h1c,.slice h2a h2l h2c,.slice h3a h3l h3c,.int .i64 h4] 152)).alloc (.cells #[.int .i64 p,.bool false,.slice ha A.length hcap] 206)).alloc (.cells #[.int .i64 0,.bool false,.slice none 0 0] 206):=⟨_,rfl⟩
 obtain ⟨hs0,hq0,hn0,hh0,hr0,hE0⟩:=Ygj w (.cells #[.slice aa a.1.length acap,.slice na a.2.length ncap] 148) (.cells #[.slice h0a G h0c,.slice h1a h1l h1c,.slice h2a h2l h2c,.slice h3a h3l h3c,.int .i64 h4] 152) (.cells #[.int .i64 p,.bool false,.slice ha A.length hcap] 206) (.cells #[.int .i64 0,.bool false,.slice none 0 0] 206)
 rw [← hW0] at hs0 hq0 hn0 hh0 hr0 hE0
 obtain ⟨q0,q1,qf⟩:=box2 hq0
 obtain ⟨n0',n1',n2',n3',n4',nf⟩:=box5 hn0
 obtain ⟨x0,x1,x2,xf⟩:=Zkh hh0
 have hE':=hE.size
 have Hst:Hid (∀ nq,HoldAt w0 w ((W0.drewN nq).setCell ⟨w.heap.size+1+1,0,none⟩ (.int .i64 ((p+1:Nat):Int))) cs a s n (.slice ha A.length hcap) aa acap na ncap (.slice h0a G h0c) (.slice h1a h1l h1c) (.slice h2a h2l h2c) (.slice h3a h3l h3c) (.int .i64 h4) 0 (p+1) A ha hcap):=fun nq=>by
  have hE1:Ext w (W0.drewN nq):=hE0.trans ((Ext.of ((Qx _ W0).drewN nq)).mono hE0.size)
  have hk:Kept (only (w.heap.size+1+1)) (W0.drewN nq) ((W0.drewN nq).setCell ⟨w.heap.size+1+1,0,none⟩ (.int .i64 ((p+1:Nat):Int))):=(Qx _ _).put 0 _
  have hE2:Ext w ((W0.drewN nq).setCell ⟨w.heap.size+1+1,0,none⟩ (.int .i64 ((p+1:Nat):Int))):=hE1.trans (hk.below hE1.size (fun j hj=>by have:j=w.heap.size+1+1:=hj; omega))
  have blk:∀ (j:Nat) (o:Obj),j≠w.heap.size+1+1→W0.heap[j]?=some o→((W0.drewN nq).setCell ⟨w.heap.size+1+1,0,none⟩ (.int .i64 ((p+1:Nat):Int))).heap[j]?=some o:=fun j o hj ho=>(hk.block j (by show j<W0.heap.size; exact (Array.getElem?_eq_some_iff.1 ho).1) hj).trans ho
  exact ⟨⟨hE2.os,hE2.tape,hE2.output,hE2.size,fun j hj _=>hE2.block j hj⟩,hE.trans (hE2.mono hE'),blk _ _ (by omega) hq0,blk _ _ (by omega) hn0,Zai (w:=W0.drewN nq) hh0 0 _,blk _ _ (by omega) hr0,hN.ext hE2 (fun _ _ h=>h),Zak hrow (fun j hj=>hE2.block j (hrow.lt j hj).2),fun j hj=>Or.inl hj,by omega,by omega⟩
 have HK:=Zaa hK
 have HC:=Zaa hC
 have HA:=Zaa hA
 have HW0:=Zaa hW0
 have Hcs:=Zaa hcs
 have Hg:=Zaa hg
 have Hlt:=Zaa hrow.lt
 clear hc hg hC hA hA0 hE hN hrow hG hK hcs hW0 hq0 hn0 hh0 hr0 hE0
 go_enter Tryz.func121,Tryz.ntmps121
 go_wp2_with fail
 rw [← HW0.out]
 go_quiet (fail)
 go_wp2
 have hst:=Hst.out nq
 rw [show ((p+1:Nat):Int)=(p:Int)+1 by omega] at hst
 have Hst1:=Zaa hst
 clear hst Hst
 go_loopg [12] (cs.length+1) (fun gk kv wr=>∃ (k p':Nat) (A':List (List UInt8)) (ha':Option Addr) (hc':Nat),kv = .int .i64 k∧k≤cs.length∧cs.length - k<gk∧HoldAt w0 w wr cs a s n (.slice ha A.length hcap) aa acap na ncap (.slice h0a G h0c) (.slice h1a h1l h1c) (.slice h2a h2l h2c) (.slice h3a h3l h3c) (.int .i64 h4) k p' A' ha' hc'∧Zql (Zgk cs a s) cs s.data.toList n (cs.length - k) k p' A' R)
 case atStart=>exact ⟨0,p+1,A,ha,hcap,by go_num,by omega,by omega,Hst1.out,HK.out⟩
 case round =>
  clear q0 q1 qf n0' n1' n2' n3' n4' nf x0 x1 x2 xf Hst1
  obtain ⟨k,p',A',ha',hc',rfl,hk,hgk,hH,hSg⟩:=hrel
  obtain ⟨q0,q1,qf⟩:=box2 hH.q
  obtain ⟨n0',n1',n2',n3',n4',nf⟩:=box5 hH.nd
  obtain ⟨x0,x1,x2,xf⟩:=Zkh hH.h
  obtain ⟨r0,r1,r2,rf⟩:=Zkh hH.r
  have hrl:=Zac hH.r
  have HH:=Zaa hH
  have HSg:=Zaa hSg
  have hpl:=hH.lt
  clear hH hSg
  have Hw:Hid (∀ u w',HoldAt w0 w u cs a s n (.slice ha A.length hcap) aa acap na ncap (.slice h0a G h0c) (.slice h1a h1l h1c) (.slice h2a h2l h2c) (.slice h3a h3l h3c) (.int .i64 h4) k p' A' ha' hc'→R=⟨p',true,A'⟩→Kept (fun j=>w.heap.size+1+1≤j∧j≤w.heap.size+1+1+1) u w'→∃ hv',(Ending.returned (.agg #[.int .i64 p',.bool true,.slice ha' A'.length hc'])) = .returned (.agg #[.int .i64 R.at',.bool R.wrong,hv'])∧Kept (Zap (.slice ha A.length hcap)) w w'∧w'.ownsRow w0.heap.size 9 1 hv' R.ans.length (strs R.ans)∧R.ans.length≤R.at'∧R.at'≤s.size∧∀ j,hv'.ownBlock=some j→(Value.slice ha A.length hcap).ownBlock=some j∨w.heap.size≤j):=fun u w' hu hR hk=>by
   obtain ⟨g1,g2,g3⟩:=hu.fin Hlt.out hk
   rw [hR]
   exact ⟨_,rfl,g1,g2,hu.le,hu.lt,g3⟩
  have Hs:Hid (∀ u w',HoldAt w0 w u cs a s n (.slice ha A.length hcap) aa acap na ncap (.slice h0a G h0c) (.slice h1a h1l h1c) (.slice h2a h2l h2c) (.slice h3a h3l h3c) (.int .i64 h4) k p' A' ha' hc'→R=⟨p'+1,false,A'⟩→p'<s.size→Kept (fun j=>w.heap.size+1+1≤j∧j≤w.heap.size+1+1+1) u w'→∃ hv',(Ending.returned (.agg #[.int .i64 ((p':Int)+1),.bool false,.slice ha' A'.length hc'])) = .returned (.agg #[.int .i64 R.at',.bool R.wrong,hv'])∧Kept (Zap (.slice ha A.length hcap)) w w'∧w'.ownsRow w0.heap.size 9 1 hv' R.ans.length (strs R.ans)∧R.ans.length≤R.at'∧R.at'≤s.size∧∀ j,hv'.ownBlock=some j→(Value.slice ha A.length hcap).ownBlock=some j∨w.heap.size≤j):=fun u w' hu hR hp2 hk=>by
   obtain ⟨g1,g2,g3⟩:=hu.fin Hlt.out hk
   rw [hR]
   have hle:=hu.le
   refine ⟨.slice ha' A'.length hc',?_,g1,g2,?_,?_,g3⟩
   ·simp only
    rw [show ((p'+1:Nat):Int)=(p':Int)+1 by omega]
   ·simp only; omega
   ·simp only; omega
  by_cases hlt:k<cs.length
  ·obtain ⟨f,hf⟩:∃ f,cs.length - k=f+1:=⟨cs.length - k - 1,by omega⟩
   have hSg:=HSg.out
   rw [hf] at hSg
   obtain ⟨c,hc,hcase⟩:=hSg
   have HTy:=Zaa (Yes wr (fun _=>False) _ cs xs _ _ _ _ _ n k c (HC.out.ext (Y:=fun _=>False) HH.out.ext (fun _ _ h=>h)) Hcs.out hcl HH.out.node (fun _ h=>h.elim) hc Hg.out)
   have Hcase:=Zaa hcase
   clear hc hcase
   go_wp2_with fail
   refine HTy.out.mono ?_
   rintro e w1 ⟨rv,rfl,hE1,p0,p1,p2,p3,p4,q,rfl,hval,hq,hkid⟩
   obtain ⟨e0a,e0l,e0c,e1a,e1l,e1c,e2a,e2l,e2c,e3a,e3l,e3c,e4,hpe⟩:=hval
   simp only [Value.agg.injEq,Array.mk.injEq,List.cons.injEq,and_true] at hpe
   obtain ⟨rfl,rfl,rfl,rfl,rfl⟩:=hpe
   have hH1:=HH.out.ext' hE1 k
   have hs1:=hE1.size
   clear q0 q1 qf n0' n1' n2' n3' n4' nf x0 x1 x2 xf r0 r1 r2 rf hrl HTy
   obtain ⟨q0,q1,qf⟩:=box2 hH1.q
   obtain ⟨n0',n1',n2',n3',n4',nf⟩:=box5 hH1.nd
   obtain ⟨x0,x1,x2,xf⟩:=Zkh hH1.h
   obtain ⟨r0,r1,r2,rf⟩:=Zkh hH1.r
   have hrl:=Zac hH1.r
   have hhl:w.heap.size+1+1<w1.heap.size:=by omega
   have hnl:w.heap.size+1<w1.heap.size:=by omega
   have hql:w.heap.size<w1.heap.size:=by omega
   have HH1:=Zaa hH1
   have Hkid:=Zaa hkid
   have Hq:=Zaa hq
   clear hE1 hH1 hkid
   rcases Hcase.out with ⟨h0,hnext⟩ | ⟨hne,hw,hR⟩ | ⟨h12,hsz,hv',R1,hP,hres⟩
   ·have hq0:q=0:=by rw [hq,h0]
    subst hq0
    have Hnext:=Zaa hnext
    clear Hcase h0 hnext hq
    go_wp2
    go_roundg (cs.length - k)
    case measure=>omega
    case rel=>exact ⟨k+1,p',A',ha',hc',by go_num,by omega,by omega,HH1.out.ext' (Ext.of (by repeat' (first | with_reducible(first|exact Qx _ _|apply Kept.drew|apply Kept.drewN|apply Qz|refine Qy ?_ ?_ _)|exact fun h=>absurd h (by simp <;> omega)))) (k+1),by rw [show cs.length - (k+1)=f by omega]; exact Hnext.out⟩
   ·obtain ⟨v,z,hmz⟩:∃ v z,Zao (s.data.toList.drop p')=(v,z):=⟨_,_,rfl⟩
    have hnu:=fun u=>Zjo s p' u (by omega) (by omega)
    rw [hmz] at hnu hw
    simp only at hw
    have HNu:=Zaa hnu
    have HR:=Zaa hR
    have hsz:=Zdu (s.data.toList.drop p')
    rw [hmz] at hsz
    simp only at hsz
    rw [← hq] at hne hw
    have hq0:((q:Int) == 0)=false:=by rw [Qu]; omega
    clear Hcase hR hmz hnu hq
    by_cases hz:z=0
    ·subst hz
     clear hw
     go_wp2_with fail
     refine (HNu.out _).mono ?_
     rintro e w2 ⟨rfl,rfl⟩
     go_wp2
     refine bodyPost_ret (v := .agg #[.int .i64 p',.bool true,.slice ha' A'.length hc']) (by simp [results,Tryz.results121,go_sem,r0,r1,r2,rf,x0,x1,x2,xf,hrl]) rfl ?_
     exact Hw.out _ _ HH1.out HR.out (by repeat' (first | with_reducible(first|exact Qx _ _|apply Kept.drew|apply Kept.drewN|apply Qz|refine Qy ?_ ?_ _)|(intro _; simp only; omega)))
    ·have hz':((z:Int) == 0)=false:=by rw [Qu]; omega
     by_cases hvk:v=k
     ·have hq3:q=3:=by omega
      subst hq3
      subst hvk
      clear hw hz
      go_wp2_with fail
      refine (HNu.out _).mono ?_
      rintro e w2 ⟨rfl,rfl⟩
      go_wp2
      refine bodyPost_ret (v := .agg #[.int .i64 p',.bool true,.slice ha' A'.length hc']) (by simp [results,Tryz.results121,go_sem,r0,r1,r2,rf,x0,x1,x2,xf,hrl]) rfl ?_
      exact Hw.out _ _ HH1.out HR.out (by repeat' (first | with_reducible(first|exact Qx _ _|apply Kept.drew|apply Kept.drewN|apply Qz|refine Qy ?_ ?_ _)|(intro _; simp only; omega)))
     ·have hv2:((v:Int) != (k:Int))=true:=by rw [bne_iff_ne]; omega
      clear hw hz hvk
      go_wp2_with fail
      refine (HNu.out _).mono ?_
      rintro e w2 ⟨rfl,rfl⟩
      go_wp2
      refine bodyPost_ret (v := .agg #[.int .i64 p',.bool true,.slice ha' A'.length hc']) (by simp [results,Tryz.results121,go_sem,r0,r1,r2,rf,x0,x1,x2,xf,hrl]) rfl ?_
      exact Hw.out _ _ HH1.out HR.out (by repeat' (first | with_reducible(first|exact Qx _ _|apply Kept.drew|apply Kept.drewN|apply Qz|refine Qy ?_ ?_ _)|(intro _; simp only; omega)))
   ·have hkind:q=1∨q=2:=by rw [hq]; exact h12
    have hq0:((q:Int) == 0)=false:=by rw [Qu]; omega
    have hq3:((q:Int) == 3)=false:=by rw [Qu]; omega
    obtain ⟨at1,wr1,an1⟩:=R1
    obtain ⟨z,hz⟩:∃ z,z=(Zao (s.data.toList.drop p')).2:=⟨_,rfl⟩
    have hmz:Zao (s.data.toList.drop p')=(k,z):=by rw [hz,← hv']
    have hnu:=fun u=>Zjo s p' u (by omega) (by omega)
    have hszl:=Zdu (s.data.toList.drop p')
    rw [hmz] at hnu hszl
    rw [hmz] at hP
    simp only at hszl hP
    have hz2:z≤2:=hszl.2.1
    have hz0:z≠0:=by rw [hz]; exact hsz
    have hz':((z:Int) == 0)=false:=by rw [Qu]; omega
    obtain ⟨U,hU⟩:∃ U,U=(w1.setCell ⟨w.heap.size+1+1,0,none⟩ (.int .i64 ((p':Int)+z))).alloc (.cells #[.slice e0a e0l e0c,.slice e1a e1l e1c,.slice e2a e2l e2c,.slice e3a e3l e3c,.int .i64 e4] 152):=⟨_,rfl⟩
    have hkU:Kept (only (w.heap.size+1+1)) w1 U:=by rw [hU]; exact ((Qx _ _).put 0 _).alloc _
    have hsU:U.heap.size=w1.heap.size+1:=by rw [hU]; simp
    have hhU:U.heap[w.heap.size+1+1]?=some (.cells #[.int .i64 ((p':Int)+z),.bool false,.slice ha' A'.length hc'] 206 (0,0)):=by rw [hU]; exact Zag (Zai HH1.out.h 0 _) _
    have tyU:∀ j,only (w.heap.size+1+1) j→∃ cl t fr,w1.heap[j]?=some (.cells cl t fr)∧t≠183∧t≠200∧t≠3:=fun j hj=>by
     have hj:j=w.heap.size+1+1:=hj
     subst hj
     exact ⟨_,_,_,HH1.out.h,by decide,by decide,by decide⟩
    have hsw:w0.heap.size≤w.heap.size:=hE'
    have hEU:Ext w0 U:=HH1.out.ext.trans (hkU.below HH1.out.ext.size (fun j hj=>by have:j=w.heap.size+1+1:=hj; omega))
    have offj:∀ j,(Value.slice ha' A'.length hc').ownBlock=some j→j<w.heap.size∨w.heap.size+4≤j:=fun j hj=>by
     rcases HH1.out.new j hj with e | e
     ·exact Or.inl (Hlt.out j e).2
     ·exact Or.inr e
    have hrowU:U.ownsRow w0.heap.size 9 1 (.slice ha' A'.length hc') A'.length (strs A'):=Zak HH1.out.row (fun j hj=>hkU.block j (HH1.out.row.lt j hj).2 (fun e=>by
     have e:j=w.heap.size+1+1:=e
     rcases offj j hj with h | h <;> omega))
    have hrec:=hP w0 U _ _ _ xs _ _ _ _ _ (.slice ha' A'.length hc') HC.out HA.out hEU ((Hkid.out hkind).keep hkU tyU) (by rw [Znc h12]; exact hvl) hrowU (by have:=HH1.out.le; omega)
    rw [show ((p'+z:Nat):Int)=(p':Int)+z by omega] at hrec
    have HRec:=Zaa hrec
    have HBack:Hid (∀ w3 ha3 hc3,Kept (Zap (.slice ha' A'.length hc')) U w3→w3.ownsRow w0.heap.size 9 1 (.slice ha3 an1.length hc3) an1.length (strs an1)→(∀ j,(Value.slice ha3 an1.length hc3).ownBlock=some j→(Value.slice ha' A'.length hc').ownBlock=some j∨U.heap.size≤j) →
      (∀ j o,w.heap.size≤j→j≤w.heap.size+1+1+1→U.heap[j]?=some o→w3.heap[j]?=some o)∧∀ w',Kept (fun j=>w.heap.size+1+1≤j∧j≤w.heap.size+1+1+1) w3 w'→Kept (Zap (.slice ha A.length hcap)) w w'∧Ext w0 w'∧w'.ownsRow w0.heap.size 9 1 (.slice ha3 an1.length hc3) an1.length (strs an1)∧(∀ j,(Value.slice ha3 an1.length hc3).ownBlock=some j→(Value.slice ha A.length hcap).ownBlock=some j∨w.heap.size+4≤j)∧NodeAt (fun _=>False) w' (.slice h0a G h0c) (.slice h1a h1l h1c) (.slice h2a h2l h2c) (.slice h3a h3l h3c) (.int .i64 h4) n∧(∀ j o,w.heap.size≤j→j≤w.heap.size+1→U.heap[j]?=some o→w'.heap[j]?=some o)):=fun w3 ha3 hc3 hK3 hrow3 hnew3=>by
     have hU3:=hK3.size
     have blk:∀ j o,w.heap.size≤j→j≤w.heap.size+1+1+1→U.heap[j]?=some o→w3.heap[j]?=some o:=fun j o h1 h2 ho=>(hK3.block j (Array.getElem?_eq_some_iff.1 ho).1 (fun e=>by rcases offj j e with h | h <;> omega)).trans ho
     refine ⟨blk,fun w' hk' => ?_⟩
     have new3:∀ j,(Value.slice ha3 an1.length hc3).ownBlock=some j→(Value.slice ha A.length hcap).ownBlock=some j∨w.heap.size+4≤j:=fun j hj=>by
      rcases hnew3 j hj with e | e
      ·exact HH1.out.new j e
      ·exact Or.inr (by omega)
     have k01:Kept (Zap (.slice ha A.length hcap)) w U:=HH1.out.kept.then hkU (fun i hi hj=>by have:i=w.heap.size+1+1:=hj; omega)
     have k02:Kept (Zap (.slice ha A.length hcap)) w w3:=k01.then hK3 (fun i hi hj=>by
      rcases HH1.out.new i hj with e | e
      ·exact e
      ·omega)
     have k03:Kept (Zap (.slice ha A.length hcap)) w w':=k02.then hk' (fun i hi hj=>by omega)
     have hE3:Ext w0 w3:=hEU.trans (hK3.below hEU.size (fun j hj=>(hrowU.lt j hj).1))
     have hE4:Ext w0 w':=hE3.trans (hk'.below hE3.size (fun j hj=>by omega))
     have nd3:=(HH1.out.node.keep hkU tyU).keep hK3 (Yff hrowU)
     have nd4:=nd3.keep hk' (fun j hj=>by
      have hj2:j=w.heap.size+1+1∨j=w.heap.size+1+1+1:=by omega
      rcases hj2 with rfl | rfl
      ·exact ⟨_,_,_,blk _ _ (by omega) (by omega) hhU,by decide,by decide,by decide⟩
      ·exact ⟨_,_,_,blk _ _ (by omega) (by omega) ((hkU.block _ hrl (fun e=>by have:w.heap.size+1+1+1=w.heap.size+1+1:=e; omega)).trans HH1.out.r),by decide,by decide,by decide⟩)
     refine ⟨k03,hE4,Zak hrow3 (fun j hj=>hk'.block j (hrow3.lt j hj).2 (fun hs=>by
      rcases new3 j hj with e | e
      ·have:=(Hlt.out j e).2; omega
      ·omega)),new3,nd4,fun j o h1 h2 ho=>(hk'.block j (Array.getElem?_eq_some_iff.1 (blk j o h1 (by omega) ho)).1 (fun hs=>by omega)).trans (blk j o h1 (by omega) ho)⟩
    have hrU:=(hkU.block _ hrl (fun e=>by have:w.heap.size+1+1+1=w.heap.size+1+1:=e; omega)).trans HH1.out.r
    have hqU:=(hkU.block _ hql (fun e=>by have:w.heap.size=w.heap.size+1+1:=e; omega)).trans HH1.out.q
    have hnU:=(hkU.block _ hnl (fun e=>by have:w.heap.size+1=w.heap.size+1+1:=e; omega)).trans HH1.out.nd
    have HhU:=Zaa hhU
    have HrU:=Zaa hrU
    have HqU:=Zaa hqU
    have HnU:=Zaa hnU
    have HU:=Zaa hU
    have HNu:=Zaa hnu
    have Hres:=Zaa hres
    clear Hcase hq h12 hsz hv' hP hres hz hmz hnu hszl hz0 hU hkU hhU tyU hEU offj hrowU hrec hrU hqU hnU
    go_wp2_with fail
    refine (HNu.out _).mono ?_
    rintro e w2 ⟨rfl,rfl⟩
    go_wp2_with fail
    rw [← HU.out]
    refine HRec.out.mono ?_
    rintro e w3 ⟨hv3,rfl,hK3,hrow3,hle3,hlt3,hnew3⟩
    obtain ⟨ha3,hc3,rfl⟩:=Zad hrow3
    try simp only at hrow3 hle3 hlt3 hnew3
    obtain ⟨blk,hback⟩:=HBack.out w3 ha3 hc3 hK3 hrow3 hnew3
    have hs3:=hK3.size
    have hh3:=blk _ _ (by omega) (by omega) HhU.out
    have hr3:=blk _ _ (by omega) (by omega) HrU.out
    clear x0 x1 x2 xf r0 r1 r2 rf q0 q1 qf n0' n1' n2' n3' n4' nf hrl hhl hnl hql
    obtain ⟨x0,x1,x2,xf⟩:=Zkh hh3
    obtain ⟨r0,r1,r2,rf⟩:=Zkh hr3
    have hrl:=Zac hr3
    have hhl:=Zac hh3
    have Hback:=Zaa hback
    have Hh3:=Zaa hh3
    have Hr3:=Zaa hr3
    clear blk hback hK3 hrow3 hnew3 hh3 hr3 HBack HRec HU HH HH1
    cases wr1 with
    | true =>
     have HR:Hid (R=⟨at1,true,an1⟩):=by
      rcases Hres.out with ⟨_,h⟩ | ⟨h,_⟩
      ·exact h
      ·simp at h
     go_wp2
     refine bodyPost_ret (v := .agg #[.int .i64 at1,.bool true,.slice ha3 an1.length hc3]) (by simp [results,Tryz.results121,go_sem,r0,r1,r2,rf,x0,x1,x2,xf,hrl,hhl]) rfl ?_
     refine (fun (hb:∀ w',Kept (fun j=>w.heap.size+1+1≤j∧j≤w.heap.size+1+1+1) w3 w'→∃ hv',(Ending.returned (.agg #[.int .i64 at1,.bool true,.slice ha3 an1.length hc3])) = .returned (.agg #[.int .i64 R.at',.bool R.wrong,hv'])∧Kept (Zap (.slice ha A.length hcap)) w w'∧w'.ownsRow w0.heap.size 9 1 hv' R.ans.length (strs R.ans)∧R.ans.length≤R.at'∧R.at'≤s.size∧∀ j,hv'.ownBlock=some j→(Value.slice ha A.length hcap).ownBlock=some j∨w.heap.size≤j)=>hb _ (by repeat' (first | with_reducible(first|exact Qx _ _|apply Kept.drew|apply Kept.drewN|apply Qz|refine Qy ?_ ?_ _)|(intro _; simp only; omega)))) (fun w' hk' => ?_)
     obtain ⟨g1,_,g2,g3,_⟩:=Hback.out w' hk'
     rw [HR.out]
     exact ⟨_,rfl,g1,g2,hle3,hlt3,fun j hj=>by rcases g3 j hj with e | e; exact Or.inl e; exact Or.inr (by omega)⟩
    | false =>
     have Hnx:Hid (Zql (Zgk cs a s) cs s.data.toList n f (k+1) at1 an1 R):=by
      rcases Hres.out with ⟨h,_⟩ | ⟨_,h⟩
      ·simp at h
      ·exact h
     go_wp2
     go_roundg (cs.length - k)
     case measure=>omega
     case rel =>
      have hk4:Kept (only (w.heap.size+1+1)) w3 (((w3.setCell ⟨w.heap.size+1+1,0,none⟩ (.int .i64 at1)).setCell ⟨w.heap.size+1+1,1,none⟩ (.bool false)).setCell ⟨w.heap.size+1+1,2,none⟩ (.slice ha3 an1.length hc3)):=(((Qx _ _).put 0 _).put 1 _).put 2 _
      obtain ⟨g1,g0,g2,g3,g4,g5⟩:=Hback.out _ (hk4.mono (fun i _ hi=>by have:i=w.heap.size+1+1:=hi; omega))
      exact ⟨k+1,at1,an1,ha3,hc3,by go_num,by omega,by omega,⟨g1,g0,g5 _ _ (by omega) (by omega) HqU.out,g5 _ _ (by omega) (by omega) HnU.out,Zai (Zai (Zai Hh3.out 0 _) 1 _) 2 _,(hk4.block _ hrl (fun e=>by have:w.heap.size+1+1+1=w.heap.size+1+1:=e; omega)).trans Hr3.out,g4,g2,g3,hle3,hlt3⟩,by rw [show cs.length - (k+1)=f by omega]; exact Hnx.out⟩
  ·have he:k=cs.length:=by omega
   have hSg:=HSg.out
   rw [he,Nat.sub_self] at hSg
   rcases hSg with ⟨hc,hR⟩ | ⟨c,hc,hn41,hR⟩
   ·have hp2:p'<s.size:=by
     have:p'<s.data.toList.length:=(Qa.1 hc).1
     simpa using this
    have kk:((s[p'].toNat:Int) != 41)=false:=by
     rw [Zid hp2] at hc
     simp at hc
     rw [hc]; rfl
    have HR:=Zaa hR
    clear hc hR he
    go_wp2
    refine bodyPost_ret (v := .agg #[.int .i64 ((p':Int)+1),.bool false,.slice ha' A'.length hc']) (by simp [results,Tryz.results121,go_sem,r0,r1,r2,rf,x0,x1,x2,xf,hrl]) rfl ?_
    refine Hs.out _ _ HH.out HR.out hp2 (by repeat' (first | with_reducible(first|exact Qx _ _|apply Kept.drew|apply Kept.drewN|apply Qz|refine Qy ?_ ?_ _)|(intro _; simp only; omega)))
   ·have hp2:p'<s.size:=by
     have:p'<s.data.toList.length:=(Qa.1 hc).1
     simpa using this
    have kk:((s[p'].toNat:Int) != 41)=true:=by
     rw [Zid hp2] at hc
     simp at hc
     have h5:s[p']≠41:=by rw [hc]; exact hn41
     rw [bne_iff_ne]
     exact Zsq h5
    have HR:=Zaa hR
    clear hc hR he hn41
    go_wp2
    refine bodyPost_ret (v := .agg #[.int .i64 p',.bool true,.slice ha' A'.length hc']) (by simp [results,Tryz.results121,go_sem,r0,r1,r2,rf,x0,x1,x2,xf,hrl]) rfl ?_
    exact Hw.out _ _ HH.out HR.out (by repeat' (first | with_reducible(first|exact Qx _ _|apply Kept.drew|apply Kept.drewN|apply Qz|refine Qy ?_ ?_ _)|(intro _; simp only; omega)))
theorem Zus (cs:List Cls) (hcs:∀ c ∈ cs,COk c∧CNm c) (hcl:cs.length≤24) (a:List (List Sym) × Names) (ha3:a.2.length≤121) (ha4:∀ y ∈ a.2,y.length≤4096) (s:ByteArray) (hs:s.size≤20000) {n:ND} {p:Nat} {A:List (List UInt8)} {R:HN} (h:HoldR cs a.2 s.data.toList n p A R):Zgk cs a s n p A R :=
 h.ind (P:=Zgk cs a s) (fun n p A hc hg=>Yco cs a s hs ha3 ha4 n p A hc hg) (fun n p A hc hg=>Zwj cs a s hs n p A (Or.inl ⟨hc,hg⟩)) (fun n p A hc hg=>Zwj cs a s hs n p A (Or.inr ⟨hc,hg⟩)) (fun n p A R hc hg hk=>Ycp cs hcs hcl a s hs n p A R hc hg hk)
open Classical in
noncomputable def Znf (cs:List Cls) (a:List (List Sym) × Names) (l:List UInt8):HN:=if h:∃ R,HoldR cs a.2 l (topN a) 0 [] R then Classical.choose h else ⟨0,true,[]⟩
theorem Zqm (cs:List Cls) (a:List (List Sym) × Names) {l:List UInt8} (h:Zfd l=none):HoldR cs a.2 l (topN a) 0 [] (Znf cs a l):=by
 obtain ⟨R,hR,_⟩:=Yib cs a.2 l l.length (topN a) 0 0 [] (by omega) (Sh.start h)
 have hex:∃ R,HoldR cs a.2 l (topN a) 0 [] R:=⟨R,hR⟩
 unfold Znf
 rw [dif_pos hex]
 exact Classical.choose_spec hex
noncomputable def allN (p q t:ByteArray):List (List UInt8) × Nat × Nat :=
 match Zee p with
 | none=>([],4,0)
 | some cs=>match Zgm q with
  | none=>([],5,0)
  | some a=>if 20000<t.size then ([],1,0) else match Zfd t.data.toList with
   | some pl=>([],6,pl)
   | none=>if (Znf cs a t.data.toList).wrong=true then ([],7,(Znf cs a t.data.toList).at') else ((Znf cs a t.data.toList).ans,0,0)
def Zlj (p q t:ByteArray) (w:World) (e:Ending) (w':World):Prop:=Ext w w'∧∃ va vc,e = .returned (.tuple #[.slice va (allN p q t).1.length vc,.int .i64 (allN p q t).2.1,.int .i64 (allN p q t).2.2])∧w'.ownsRow w.heap.size 9 1 (.slice va (allN p q t).1.length vc) (allN p q t).1.length (strs (allN p q t).1)
theorem Zgx {p q t:ByteArray} {w w':World} {er pl:Nat} (h:allN p q t=([],er,pl)) (hE:Ext w w'):Zlj p q t w (.returned (.tuple #[.slice none 0 0,.int .i64 er,.int .i64 pl])) w':=by
 refine ⟨hE,none,0,?_,?_⟩
 ·rw [h]; rfl
 ·rw [h]; exact World.ownsRow_nil _ _ _ _
theorem Zzb (p q t:ByteArray) (w:World) (hp:p.size≤maxLen) (hq:q.size≤maxLen) (ht:t.size≤maxLen):Calls Tryz.prog 93 #[.string p,.string q,.string t] w (Zlj p q t w):=by
 have HB:=Zaa (fun u=>Zuj p q u hp hq)
 unfold maxLen at ht
 clear hp hq
 go_enter Tryz.func93,Tryz.ntmps93
 go_wp2_with fail
 refine (HB.out _).mono ?_
 rintro e w1 ⟨hE1,hB⟩
 have HE1:=Zaa hE1
 have hs1:=hE1.size
 clear hE1
 have Hx:Hid (∀ o,Ext w (w1.alloc o)):=fun o=>HE1.out.trans (((Ext.of (by repeat' (first | with_reducible(first|exact Qx _ _|apply Kept.drew|apply Kept.drewN|apply Qz|refine Qy ?_ ?_ _)|exact fun h=>absurd h (by simp <;> omega)))):Ext w1 (w1.alloc o)).mono hs1)
 rcases hB with ⟨hno,rfl⟩ | ⟨⟨cs,hsome⟩,hno,rfl⟩ | ⟨cs,a,lv,av,nv,xs,hsome,hask,rfl,hrow,hA⟩
 ·have Hh:Hid (allN p q t=([],4,0)):=by show _=_; simp [allN,hno]
  clear hno
  go_wp2
  go_ret3
  exact Zgx Hh.out (Hx.out _)
 ·have Hh:Hid (allN p q t=([],5,0)):=by show _=_; simp [allN,hno,hsome]
  clear hno hsome
  go_wp2
  go_ret3
  exact Zgx Hh.out (Hx.out _)
 ·obtain ⟨ax,hA0⟩:=hA.atoms
  obtain ⟨la,lcap,rfl⟩:=Zad hrow.owns
  obtain ⟨aa,acap,rfl⟩:=Zad hA0.1
  obtain ⟨na,ncap,rfl⟩:=Zad hA.names
  obtain ⟨_,_,_,hcs,hcl⟩:=Zjg hsome
  obtain ⟨_,_,_,hOk,hNm,ha1,ha2,ha3,ha8⟩:=Zkp hask
  by_cases ht2:20000<t.size
  ·have Hh:Hid (allN p q t=([],1,0)):=by show _=_; simp [allN,hsome,hask,ht2]
   have ht3:(20000:Int)<(t.size:Int):=by omega
   clear hrow hA hA0 hcs hOk hNm hsome hask ha8 ht2
   go_wp2
   go_ret3
   exact Zgx Hh.out (Hx.out _)
  ·have ht3:¬ (20000:Int)<(t.size:Int):=by omega
   have HSh:=Zaa (fun u=>Zsr t u (by omega))
   cases hsh:Zfd t.data.toList with
   | some pl =>
    have Hh:Hid (allN p q t=([],6,pl)):=by show _=_; simp [allN,hsome,hask,ht2,hsh]
    rw [hsh] at HSh
    simp only [Ycn] at HSh
    have hpl:(0:Int)≤(pl:Int):=by omega
    clear hrow hA hA0 hcs hOk hNm hsome hask ha8 ht2 hsh
    go_wp2_with fail
    refine (HSh.out _).mono ?_
    rintro e w2 ⟨rfl,rfl⟩
    go_wp2
    go_ret3
    exact Zgx Hh.out (Hx.out _)
   | none =>
    rw [hsh] at HSh
    simp only [Ycn] at HSh
    obtain ⟨R,hR⟩:∃ R,R=Znf cs a t.data.toList:=⟨_,rfl⟩
    have hH:=Zqm cs a hsh
    rw [← hR] at hH
    have Hh:Hid (allN p q t=if R.wrong=true then ([],7,R.at') else (R.ans,0,0)):=by show _=_; simp [allN,hsome,hask,ht2,hsh,hR]
    have Hsaid:=Zaa (Zus cs hcs hcl a ha3 (fun y hy=>Qq (ha8 y hy) (by omega)) t (by omega) hH)
    have HT:=Zaa (fun u (hu:Ext w1 u)=>by
     obtain ⟨ax,g⟩:=(hA.ext hu).atoms
     exact Yet u _ (.slice na a.2.length ncap) a ax g ⟨_,_,rfl⟩ hOk hNm ha1 ha3)
    have Hrow:=Zaa hrow
    have HA:=Zaa hA
    clear hrow hA hA0 hcs hOk hNm hsome hask ha8 ht2 hsh hH hR
    go_wp2_with fail
    refine (HSh.out _).mono ?_
    rintro e w2 ⟨rfl,rfl⟩
    go_wp2_with fail
    refine (HT.out _ (Ext.of (by repeat' (first | with_reducible(first|exact Qx _ _|apply Kept.drew|apply Kept.drewN|apply Qz|refine Qy ?_ ?_ _)|exact fun h=>absurd h (by simp <;> omega))))).mono ?_
    rintro e w2 ⟨m0,m1,m2,m3,m4,rfl,hE2,hnode⟩
    obtain ⟨g0a,g0c,g1a,g1l,g1c,g2a,g2l,g2c,g3a,g3l,g3c,g4,rfl,rfl,rfl,rfl,rfl⟩:=hnode.len
    have hs2:=hE2.size
    simp at hs2
    have hE12:Ext w1 w2:=((Ext.of (by repeat' (first | with_reducible(first|exact Qx _ _|apply Kept.drew|apply Kept.drewN|apply Qz|refine Qy ?_ ?_ _)|exact fun h=>absurd h (by simp <;> omega)))):Ext w1 (w1.alloc _)).trans (hE2.mono (by simp))
    have hq2:w2.heap[w1.heap.size]?=some (.cells #[.slice aa a.1.length acap,.slice na a.2.length ncap] 148 (0,0)):=(hE2.block _ (by simp)).trans (heap_alloc_new w1 _)
    obtain ⟨q0,q1,qf⟩:=box2 hq2
    obtain ⟨W3,hW3⟩:∃ W3,W3=w2.alloc (.cells #[.slice g0a (topN a).goals.length g0c,.slice g1a g1l g1c,.slice g2a g2l g2c,.slice g3a g3l g3c,.int .i64 g4] 152):=⟨_,rfl⟩
    have hE23:Ext w2 W3:=by rw [hW3]; exact (Ext.of (by repeat' (first | with_reducible(first|exact Qx _ _|apply Kept.drew|apply Kept.drewN|apply Qz|refine Qy ?_ ?_ _)|exact fun h=>absurd h (by simp <;> omega))))
    have hE13:Ext w1 W3:=hE12.trans (hE23.mono hE12.size)
    have hEw3:Ext w W3:=HE1.out.trans (hE13.mono HE1.out.size)
    have hsaid:=Hsaid.out W3 W3 _ _ _ xs _ _ _ _ _ (.slice none 0 0) (Hrow.out.ext hE13 (fun _ _ h=>h)) (HA.out.ext hE13) (Ext.of (Qx _ _)) (hnode.ext hE23 (fun _ _ h=>h)) (by simp [topN]) (World.ownsRow_nil _ _ _ _) (Qe _)
    have HSd:=Zaa hsaid
    have HW3:=Zaa hW3
    have HEw3:=Zaa hEw3
    have hme:w1.heap.size<w2.heap.size:=by omega
    clear hE2 hnode hE12 hq2 hE23 hE13 hEw3 hsaid hW3 Hsaid HT
    go_wp2_with fail
    rw [← HW3.out]
    refine HSd.out.mono ?_
    rintro e w4 ⟨hv,rfl,hK4,hrow4,hle4,hlt4,_⟩
    obtain ⟨va,vc,rfl⟩:=Zad hrow4
    have hE4:Ext W3 w4:=hK4.below (Qe _) (fun k e=>by simp [Zap,Value.ownBlock] at e)
    have HEw4:=Zaa (HEw3.out.trans (hE4.mono HEw3.out.size))
    have Hrow4:=Zaa hrow4
    have hEW:=HEw3.out.size
    have Hfin:Hid (∀ o,R.wrong=false→Zlj p q t w (.returned (.tuple #[.slice va R.ans.length vc,.int .i64 0,.int .i64 0])) (w4.alloc o)):=fun o hw=>by
     have e:allN p q t=(R.ans,0,0):=by rw [Hh.out,hw]; rfl
     have hEo:Ext w4 (w4.alloc o):=(Ext.of (by repeat' (first | with_reducible(first|exact Qx _ _|apply Kept.drew|apply Kept.drewN|apply Qz|refine Qy ?_ ?_ _)|exact fun h=>absurd h (by simp <;> omega))))
     refine ⟨HEw4.out.trans (hEo.mono HEw4.out.size),va,vc,by rw [e]; rfl,?_⟩
     rw [e]
     exact Zbb (Zak Hrow4.out (fun k hk=>hEo.block k (Hrow4.out.lt k hk).2)) hEW
    have Hfw:Hid (∀ w',Ext w4 w'→R.wrong=true→Zlj p q t w (.returned (.tuple #[.slice none 0 0,.int .i64 7,.int .i64 R.at'])) w'):=fun w' hE' hw=>Zgx (by rw [Hh.out,hw]; rfl) (HEw4.out.trans (hE'.mono HEw4.out.size))
    clear hK4 hrow4 hE4
    obtain ⟨at1,wr1,an1⟩:=R
    simp only at *
    cases wr1 with
    | true =>
     go_wp2_with fail
     go_quiet (fail)
     go_wp2
     go_ret3
     exact Hfw.out _ (Ext.of (by repeat' (first | with_reducible(first|exact Qx _ _|apply Kept.drew|apply Kept.drewN|apply Qz|refine Qy ?_ ?_ _)|exact fun h=>absurd h (by simp <;> omega)))) (by simp)
    | false =>
     go_wp2
     go_ret3
     exact Hfin.out _ (by simp)
noncomputable def Zgn (cs:List Cls) (n:ND):Nat→Nat→Option (Nat × Cls)
 | 0,_=>none
 | f+1,k=>match cs[k]? with
  | none=>none
  | some c=>if (tryN n c k).2=0 then Zgn cs n f (k+1) else some (k,c)
structure HM where
 ok:Bool
 at':Nat
 way:List (ND × Nat)
 ans:List (List UInt8)
def Zdk (names:Names) (l:List UInt8) (n:ND) (p:Nat) (way:List (ND × Nat)) (A:List (List UInt8)):HM :=
 if n.goals=[] then (if l[p]?=some 33 then ⟨true,p+1,way,A++[Zdg names n]⟩ else ⟨false,p,way,A⟩)
 else if l[p]?=some 40 then ⟨true,p+1,(n,0)::way,A⟩ else ⟨false,p,way,A⟩
noncomputable def goM (cs:List Cls) (names:Names) (l:List UInt8) (n:ND) (k p:Nat) (r:List (ND × Nat)) (A:List (List UInt8)):HM :=
 match Zgn cs n (cs.length - k) k with
 | none=>if l[p]?=some 41 then ⟨true,p+1,r,A⟩ else ⟨false,p,(n,cs.length)::r,A⟩
 | some (j,c)=>if (tryN n c j).2=3∨(Zao (l.drop p)).2=0∨(Zao (l.drop p)).1≠j then ⟨false,p,(n,j+1)::r,A⟩ else Zdk names l (tryN n c j).1 (p+(Zao (l.drop p)).2) ((n,j+1)::r) A
inductive Goes (cs:List Cls) (names:Names) (l:List UInt8):Nat→List (ND × Nat)→List (List UInt8)→HN→Prop
 | done (p:Nat) (A:List (List UInt8)):Goes cs names l p [] A ⟨p,false,A⟩
 | wrong (n:ND) (k p:Nat) (r:List (ND × Nat)) (A:List (List UInt8)) (R:HN) (h:(goM cs names l n k p r A).ok=false) (hw:R.wrong=true) (ha:R.at'=(goM cs names l n k p r A).at'):Goes cs names l p ((n,k)::r) A R
 | step (n:ND) (k p:Nat) (r:List (ND × Nat)) (A:List (List UInt8)) (R:HN) (h:(goM cs names l n k p r A).ok=true) (hg:Goes cs names l (goM cs names l n k p r A).at' (goM cs names l n k p r A).way (goM cs names l n k p r A).ans R):Goes cs names l p ((n,k)::r) A R
def Zss (cs:List Cls) (names:Names) (l:List UInt8) (M:HM) (R:HN):Prop:=(M.ok=true→Goes cs names l M.at' M.way M.ans R)∧(M.ok=false→R.wrong=true∧R.at'=M.at')
theorem Zqn {cs:List Cls} {names:Names} {l:List UInt8} {n:ND} {k p:Nat} {r:List (ND × Nat)} {A:List (List UInt8)} {R:HN} (h:Zss cs names l (goM cs names l n k p r A) R):Goes cs names l p ((n,k)::r) A R:=by
 cases hk:(goM cs names l n k p r A).ok with
 | true=>exact .step n k p r A R hk (h.1 hk)
 | false=>exact .wrong n k p r A R hk (h.2 hk).1 (h.2 hk).2
theorem Ycq {cs:List Cls} {names:Names} {l:List UInt8} {n:ND} {k p:Nat} {r:List (ND × Nat)} {A:List (List UInt8)} {R:HN} (h:Goes cs names l p ((n,k)::r) A R):Zss cs names l (goM cs names l n k p r A) R:=by
 cases h with
 | wrong _ _ _ _ _ _ h hw ha=>exact ⟨fun e=>by rw [h] at e; simp at e,fun _=>⟨hw,ha⟩⟩
 | step _ _ _ _ _ _ h hg=>exact ⟨fun _=>hg,fun e=>by rw [h] at e; simp at e⟩
theorem Yfg {cs:List Cls} {names:Names} {l:List UInt8} {p:Nat} {A:List (List UInt8)} {R:HN} (h:Goes cs names l p [] A R):R=⟨p,false,A⟩:=by
 cases h; rfl
theorem Yfh {cs:List Cls} {names:Names} {l:List UInt8} {n:ND} {k p:Nat} {r:List (ND × Nat)} {A:List (List UInt8)} {c:Cls} (hc:cs[k]?=some c) (hq:(tryN n c k).2=0):goM cs names l n k p r A=goM cs names l n (k+1) p r A:=by
 have hk:=(Qa.1 hc).1
 unfold goM
 rw [show cs.length - k=(cs.length - (k+1))+1 by omega,Zgn,hc]
 simp only [hq,if_true]
theorem Ycr {cs:List Cls} {names:Names} {l:List UInt8} {n:ND} {p:Nat} {A:List (List UInt8)} {R:HN} (h:HoldR cs names l n p A R):∀ (way:List (ND × Nat)) (Rf:HN),(R.wrong=false→Goes cs names l R.at' way R.ans Rf)→(R.wrong=true→Rf.wrong=true∧Rf.at'=R.at')→Zss cs names l (Zdk names l n p way A) Rf:=by
 refine HoldR.ind (P:=fun n p A R=>∀ (way:List (ND × Nat)) (Rf:HN),(R.wrong=false→Goes cs names l R.at' way R.ans Rf)→(R.wrong=true→Rf.wrong=true∧Rf.at'=R.at')→Zss cs names l (Zdk names l n p way A) Rf) ?_ ?_ ?_ ?_ h
 ·intro n p A hc hg way Rf h1 _
  unfold Zdk
  rw [if_pos hg,if_pos hc]
  exact ⟨fun _=>h1 rfl,fun e=>by simp at e⟩
 ·intro n p A hc hg way Rf _ h2
  unfold Zdk
  rw [if_neg hg,if_neg (by rw [hc]; simp)]
  exact ⟨fun e=>by simp at e,fun _=>h2 rfl⟩
 ·intro n p A hc hg way Rf _ h2
  unfold Zdk
  rw [if_pos hg,if_neg (by rw [hc]; simp)]
  exact ⟨fun e=>by simp at e,fun _=>h2 rfl⟩
 ·intro n p A R hc hg hk way Rf h1 h2
  unfold Zdk
  rw [if_neg hg,if_pos hc]
  refine ⟨fun _ => ?_,fun e=>by simp at e⟩
  show Goes cs names l (p+1) ((n,0)::way) A Rf
  have key:∀ (f k p:Nat) (A:List (List UInt8)),f+k=cs.length→Zql (fun n p A R=>∀ (way:List (ND × Nat)) (Rf:HN),(R.wrong=false→Goes cs names l R.at' way R.ans Rf)→(R.wrong=true→Rf.wrong=true∧Rf.at'=R.at')→Zss cs names l (Zdk names l n p way A) Rf) cs l n f k p A R→Goes cs names l p ((n,k)::way) A Rf:=by
   intro f
   induction f with
   | zero =>
    intro k p A hf hs
    refine Zqn ?_
    unfold goM
    rw [show cs.length - k=0 by omega,Zgn]
    simp only
    rcases hs with ⟨h3,rfl⟩ | ⟨c,h3,h4,rfl⟩
    ·rw [if_pos h3]
     exact ⟨fun _=>h1 rfl,fun e=>by simp at e⟩
    ·rw [if_neg (by rw [h3]; simpa using h4)]
     exact ⟨fun e=>by simp at e,fun _=>h2 rfl⟩
   | succ f ih =>
    intro k p A hf hs
    obtain ⟨c,hc,h⟩:=hs
    rcases h with ⟨hq,h⟩ | ⟨hq,hw,rfl⟩ | ⟨hq,hs,hv,R1,hP,h⟩
    ·have:=Ycq (ih (k+1) p A (by omega) h)
     rw [← Yfh hc hq] at this
     exact Zqn this
    ·refine Zqn ?_
     unfold goM
     rw [show cs.length - k=f+1 by omega,Zgn,hc]
     simp only
     rw [if_neg hq]
     simp only
     rw [if_pos (by rcases hw with h | h | h <;> simp [h])]
     exact ⟨fun e=>by simp at e,fun _=>h2 rfl⟩
    ·refine Zqn ?_
     unfold goM
     rw [show cs.length - k=f+1 by omega,Zgn,hc]
     simp only
     rw [if_neg (by omega)]
     simp only
     rw [if_neg (by rintro (h | h | h); omega; exact hs h; exact h hv)]
     refine hP _ Rf (fun hw => ?_) (fun hw => ?_)
     ·rcases h with ⟨h,_⟩ | ⟨_,h⟩
      ·rw [hw] at h; simp at h
      ·exact ih (k+1) _ _ (by omega) h
     ·rcases h with ⟨_,rfl⟩ | ⟨h,_⟩
      ·exact h2 hw
      ·rw [hw] at h; simp at h
  exact key cs.length 0 (p+1) A (by omega) hk
theorem Ycs (cs:List Cls) (a:List (List Sym) × Names) {l:List UInt8} (h:Zfd l=none):Zss cs a.2 l (Zdk a.2 l (topN a) 0 [] []) (Znf cs a l) :=
 Ycr (Zqm cs a h) [] _ (fun hw=>by
  have:Znf cs a l=⟨(Znf cs a l).at',false,(Znf cs a l).ans⟩:=by
   rw [← hw]
  rw [this]
  exact .done _ _) (fun hw=>⟨hw,rfl⟩)
def Zkj (l:List UInt8) (p:Nat):UInt8:=(l[p]?).getD 0
theorem Yfi {s:ByteArray} {p:Nat} (h:p<s.size):Zkj s.data.toList p=s[p]:=by unfold Zkj; rw [Zid h]; rfl
theorem Yfj {s:ByteArray} {p:Nat} (h:s.size≤p):Zkj s.data.toList p=0:=by
 unfold Zkj
 rw [List.getElem?_eq_none (by simpa using h)]
 rfl
theorem Zwk {l:List UInt8} {p:Nat} {c:UInt8} (hc:c≠0):Zkj l p=c↔l[p]?=some c:=by
 unfold Zkj
 cases l[p]? with
 | none=>simp; exact fun h=>hc h.symm
 | some d=>simp
theorem Zst (s:ByteArray) (p:Nat) (w:World) (hs:s.size≤100000) (hp:p≤100000):Calls Tryz.prog 136 #[.string s,.int .i64 p] w fun e w'=>e = .returned (.int .u8 (Zkj s.data.toList p).toNat)∧w'=w:=by
 by_cases h:p<s.size
 ·have Hb:=Zaa (Yfi h)
  have h1:¬ ((s.size:Int)≤(p:Int)):=by omega
  go_enter Tryz.func136,Tryz.ntmps136
  go_wp2
  go_ret
  exact ⟨by rw [Hb.out]; rfl,rfl⟩
 ·have Hb:=Zaa (Yfj (Nat.le_of_not_lt h))
  have h1:((s.size:Int)≤(p:Int)):=by omega
  go_enter Tryz.func136,Tryz.ntmps136
  go_wp2
  go_ret
  exact ⟨by rw [Hb.out]; rfl,rfl⟩
theorem Zut (w:World) (b:Nat) (o:Int) (due:Bool) (hb:w.heap[b]?=some (.cells #[.int .i64 o,.bool due] 173 (0,0))):Calls Tryz.prog 101 #[.pointer (some ⟨b,0,none⟩)] w fun e w'=>e = .returned (.bool (!due && (o == 0)))∧w'=w:=by
 obtain ⟨b0,b1,bf⟩:=box2 hb
 have hbl:=Zac hb
 clear hb
 cases due with
 | true =>
  go_enter Tryz.func101,Tryz.ntmps101
  go_wp2
  go_ret
  exact ⟨rfl,rfl⟩
 | false =>
  go_enter Tryz.func101,Tryz.ntmps101
  go_wp2
  go_ret
  exact ⟨rfl,rfl⟩
def Zey (l:List UInt8) (p o:Nat) (due:Bool):Nat × Nat × Bool :=
 if due=true then (if Zkj l p=33 then (p+1,o,false) else if Zkj l p=40 then (p+1,o+1,false) else (p,o,true))
 else if Zkj l p=41 then (p+1,o - 1,false) else (p+(Zao (l.drop p)).2,o,decide (0<(Zao (l.drop p)).2))
def Zie (l:List UInt8) (p o:Nat) (due:Bool) (b:Nat) (w:World) (e:Ending) (w':World):Prop:=e = .returned (.int .i64 (Zey l p o due).1)∧Kept (only b) w w'∧w'.heap[b]?=some (.cells #[.int .i64 (Zey l p o due).2.1,.bool (Zey l p o due).2.2] 173 (0,0))
theorem Yct (s:ByteArray) (p o:Nat) (due:Bool) (b:Nat) (w:World) (hs:s.size≤20000) (hp:p≤20000) (ho:o≤20000) (ho1:due=false→0<o) (hb:w.heap[b]?=some (.cells #[.int .i64 o,.bool due] 173 (0,0))) :
  Calls Tryz.prog 102 #[.pointer (some ⟨b,0,none⟩),.string s,.int .i64 p] w (Zie s.data.toList p o due b w):=by
 obtain ⟨b0,b1,bf⟩:=box2 hb
 have hbl:=Zac hb
 have Hb:=Zaa hb
 have HB:=Zaa (Zst s p w (by omega) (by omega))
 obtain ⟨c,hc⟩:∃ c,c=Zkj s.data.toList p:=⟨_,rfl⟩
 rw [← hc] at HB
 clear hb
 cases due with
 | true =>
  by_cases h33:c=33
  ·have Hfin:Hid (Zey s.data.toList p o true=(p+1,o,false)):=by show _=_; unfold Zey; rw [if_pos rfl,if_pos (by rw [← hc]; exact h33)]
   have k1:((c.toNat:Int) != 33)=false:=by rw [h33]; rfl
   have k2:((c.toNat:Int) == 40)=false:=by rw [h33]; rfl
   clear hc h33 ho1
   go_enter Tryz.func102,Tryz.ntmps102
   go_wp2_with fail
   refine HB.out.mono ?_
   rintro e w1 ⟨rfl,rfl⟩
   go_wp2
   go_ret
   unfold Zie
   rw [Hfin.out]
   exact ⟨by simp,(Qx _ _).put 1 _,Zai Hb.out 1 _⟩
  ·have k1:((c.toNat:Int) != 33)=true:=by rw [bne_iff_ne]; exact Zsq h33
   by_cases h40:c=40
   ·have Hfin:Hid (Zey s.data.toList p o true=(p+1,o+1,false)):=by show _=_; unfold Zey; rw [if_pos rfl,if_neg (by rw [← hc]; exact h33),if_pos (by rw [← hc]; exact h40)]
    have k2:((c.toNat:Int) != 40)=false:=by rw [h40]; rfl
    have k3:((c.toNat:Int) == 40)=true:=by rw [h40]; rfl
    clear hc h33 h40 ho1
    go_enter Tryz.func102,Tryz.ntmps102
    go_wp2_with fail
    refine HB.out.mono ?_
    rintro e w1 ⟨rfl,rfl⟩
    go_wp2
    go_ret
    unfold Zie
    rw [Hfin.out]
    exact ⟨by simp,((Qx _ _).put 0 _).put 1 _,Zai (Zai Hb.out 0 _) 1 _⟩
   ·have Hfin:Hid (Zey s.data.toList p o true=(p,o,true)):=by show _=_; unfold Zey; rw [if_pos rfl,if_neg (by rw [← hc]; exact h33),if_neg (by rw [← hc]; exact h40)]
    have k2:((c.toNat:Int) != 40)=true:=by rw [bne_iff_ne]; exact Zsq h40
    clear hc h33 h40 ho1
    go_enter Tryz.func102,Tryz.ntmps102
    go_wp2_with fail
    refine HB.out.mono ?_
    rintro e w1 ⟨rfl,rfl⟩
    go_wp2
    go_ret
    unfold Zie
    rw [Hfin.out]
    exact ⟨rfl,Qx _ _,Hb.out⟩
 | false =>
  have ho2:=ho1 rfl
  by_cases h41:c=41
  ·have Hfin:Hid (Zey s.data.toList p o false=(p+1,o - 1,false)):=by show _=_; unfold Zey; rw [if_neg (by simp),if_pos (by rw [← hc]; exact h41)]
   have k1:((c.toNat:Int) == 41)=true:=by rw [h41]; rfl
   clear hc h41 ho1
   go_enter Tryz.func102,Tryz.ntmps102
   go_wp2_with fail
   refine HB.out.mono ?_
   rintro e w1 ⟨rfl,rfl⟩
   go_wp2
   go_ret
   unfold Zie
   rw [Hfin.out]
   refine ⟨by simp,(Qx _ _).put 0 _,?_⟩
   rw [show ((p+1,o - 1,false):Nat × Nat × Bool).2.1=o - 1 from rfl,show ((o - 1:Nat):Int)=(o:Int) - 1 by omega]
   exact Zai Hb.out 0 _
  ·obtain ⟨N,hN⟩:∃ N,N=(Zao (s.data.toList.drop p)).2:=⟨_,rfl⟩
   have Hfin:Hid (Zey s.data.toList p o false=(p+N,o,decide (0<N))):=by show _=_; unfold Zey; rw [if_neg (by simp),if_neg (by rw [← hc]; exact h41),← hN]
   have k1:((c.toNat:Int) == 41)=false:=by rw [Qu]; exact Zsq h41
   have HA:=Zaa (Ygf s p w (by omega) (by omega))
   obtain ⟨V,hV⟩:∃ V,V=(Zao (s.data.toList.drop p)).1:=⟨_,rfl⟩
   rw [← hN,← hV] at HA
   clear hc h41 ho1 hN hV
   go_enter Tryz.func102,Tryz.ntmps102
   go_wp2_with fail
   refine HB.out.mono ?_
   rintro e w1 ⟨rfl,rfl⟩
   go_wp2_with fail
   refine HA.out.mono ?_
   rintro e w1 ⟨rfl,rfl⟩
   by_cases h0:0<N
   ·have h2:(p:Int)<(p:Int)+(N:Int):=by omega
    go_wp2
    go_ret
    unfold Zie
    rw [Hfin.out]
    refine ⟨by simp,(Qx _ _).put 1 _,?_⟩
    rw [show ((p+N,o,decide (0<N)):Nat × Nat × Bool).2.2=true from decide_eq_true h0]
    exact Zai Hb.out 1 _
   ·obtain rfl:N=0:=by omega
    go_wp2
    go_ret
    unfold Zie
    rw [Hfin.out]
    refine ⟨by simp,(Qx _ _).put 1 _,?_⟩
    exact Zai Hb.out 1 _
def Zuu (l:List UInt8) (w:World) (e:Ending) (w':World):Prop:=Ext w w'∧e = .returned (match Zfd l with | none => .agg #[.int .i64 0,.int .i64 0] | some p => .agg #[.int .i64 6,.int .i64 p])
theorem Zzc {l:List UInt8} {f p o:Nat} {due:Bool} (h:l.length≤p):Zdj l (f+1) p o due=if due=true∨0<o then some p else none:=by
 unfold Zdj
 rw [List.getElem?_eq_none h]
theorem Zsu {l:List UInt8} {f p:Nat} (h:p<l.length):Zdj l (f+1) p 0 false=some p:=by
 unfold Zdj
 rw [Qb h]
 simp
theorem Zuv {l:List UInt8} {f p o:Nat} {due:Bool} (h:p<l.length) (ho:due=false→0<o):Zdj l (f+1) p o due=if (Zey l p o due).1=p then some p else Zdj l f (Zey l p o due).1 (Zey l p o due).2.1 (Zey l p o due).2.2:=by
 have hb:Zkj l p=l[p]:=by unfold Zkj; rw [Qb h]; rfl
 rw [Zdj,Zey,Qb h,hb]
 simp only
 cases due with
 | true =>
  simp only [if_true]
  split
  ·simp
  ·split
   ·simp
   ·simp
 | false =>
  have:=ho rfl
  simp only [Bool.false_eq_true,if_false]
  rw [if_neg (by omega)]
  split
  ·simp
  ·by_cases h0:(Zao (l.drop p)).2=0
   ·simp [h0]
   ·rw [if_neg h0,if_neg (by simp only; omega)]
    simp [show 0<(Zao (l.drop p)).2 by omega]
theorem Yfk {l:List UInt8} {p o:Nat} {due:Bool} (h:p<l.length) (ho:o≤p):p≤(Zey l p o due).1∧(Zey l p o due).1≤l.length∧((Zey l p o due).1≠p→(Zey l p o due).2.1≤(Zey l p o due).1):=by
 have hn:=Zdu (l.drop p)
 simp only [List.length_drop] at hn
 unfold Zey
 split
 ·split
  ·exact ⟨Nat.le_succ _,h,fun _=>by show o≤p+1; omega⟩
  ·split
   ·exact ⟨Nat.le_succ _,h,fun _=>by show o+1≤p+1; omega⟩
   ·exact ⟨Qe _,Nat.le_of_lt h,fun h=>absurd rfl h⟩
 ·split
  ·exact ⟨Nat.le_succ _,h,fun _=>by show o - 1≤p+1; omega⟩
  ·exact ⟨Nat.le_add_right _ _,by show p+_≤_; omega,fun _=>by show o≤p+_; omega⟩
theorem Zea {w w1 w2:World} {b:Nat} (h:Ext w w1) (hk:Kept (only b) w1 w2) (hb:w.heap.size≤b):Ext w w2 :=
 h.trans (hk.below h.size (fun k e=>by have e:k=b:=e; omega))
theorem Zqo (s:ByteArray) (w:World) (hs:s.size≤20000):Calls Tryz.prog 81 #[.string s] w (Zuu s.data.toList w):=by
 have hsl:s.data.toList.length=s.size:=by simp
 obtain ⟨l,hl⟩:∃ l,l=s.data.toList:=⟨_,rfl⟩
 have HT:=Zaa (fun p o due b u (h1:p≤20000) (h2:o≤20000) h3 h4=>Yct s p o due b u hs h1 h2 h3 h4)
 rw [← hl] at hsl HT ⊢
 have HW:=Zaa (fun u b o due hb=>Zut u b o due hb)
 have Hsl:=Zaa hsl
 clear hsl
 go_enter Tryz.func81,Tryz.ntmps81
 go_wp2
 go_loopg [4] (s.size+1) (fun gk av wr=>∃ (p o f:Nat) (due:Bool),av = .int .i64 p∧p≤s.size∧s.size - p<gk∧o≤p∧s.size<f+p∧Zdj l f p o due=Zfd l∧Ext w wr∧wr.heap[w.heap.size]?=some (.cells #[.int .i64 0,.int .i64 0] 91 (0,0))∧wr.heap[w.heap.size+1]?=some (.cells #[.int .i64 o,.bool due] 173 (0,0)))
 case atStart=>exact ⟨0,0,s.size+1,true,by go_num,by omega,by omega,by omega,by omega,by unfold Zfd; rw [Hsl.out],(Ext.of (by repeat' (first | with_reducible(first|exact Qx _ _|apply Kept.drew|apply Kept.drewN|apply Qz|refine Qy ?_ ?_ _)|exact fun h=>absurd h (by simp <;> omega)))),Zag (heap_alloc_new w _) _,Zfj (by simp) _⟩
 case round =>
  obtain ⟨p,o,f,due,rfl,hp,hgk,hop,hf,hsh,hE,hb0,hb1⟩:=hrel
  obtain ⟨f,rfl⟩:∃ f',f=f'+1:=⟨f - 1,by omega⟩
  have hs1:=Zac hb1
  have HWr:=Zaa (HW.out wr _ o due hb1)
  by_cases hgo:p<s.size∧¬ (due=false∧o=0)
  ·obtain ⟨hlt,hnw⟩:=hgo
   have how:due=false→0<o:=fun h=>Nat.pos_of_ne_zero (fun h'=>hnw ⟨h,h'⟩)
   have hw0:(!due && ((o:Int) == 0))=false:=by
    cases due with
    | true=>rfl
    | false =>
     have:=how rfl
     simp
     omega
   rw [hw0] at HWr
   have HTr:=Zaa (HT.out p o due (w.heap.size+1) wr (by omega) (by omega) how hb1)
   rw [Zuv (by rw [Hsl.out]; exact hlt) how] at hsh
   obtain ⟨p2,hp2⟩:∃ p2,p2=(Zey l p o due).1:=⟨_,rfl⟩
   obtain ⟨o2,ho2⟩:∃ o2,o2=(Zey l p o due).2.1:=⟨_,rfl⟩
   obtain ⟨d2,hd2⟩:∃ d2,d2=(Zey l p o due).2.2:=⟨_,rfl⟩
   unfold Zie at HTr
   rw [← hp2,← ho2,← hd2] at hsh HTr
   have hbd:=Yfk (l:=l) (p:=p) (o:=o) (due:=due) (by rw [Hsl.out]; exact hlt) hop
   rw [← hp2,← ho2,Hsl.out] at hbd
   obtain ⟨hbd1,hbd2,hbd3⟩:=hbd
   have Hsh:=Zaa hsh
   have HE:=Zaa hE
   have Hb0:=Zaa hb0
   have hlt':(p:Int)<(s.size:Int):=by omega
   clear hsh hE hb0 hb1 hw0 hp2 ho2 hd2
   go_wp2_with fail
   refine HWr.out.mono ?_
   rintro e w1 ⟨rfl,rfl⟩
   go_wp2_with fail
   refine HTr.out.mono ?_
   rintro e w2 ⟨rfl,hK2,hb2⟩
   have hb0':=(hK2.block w.heap.size (by omega) (fun e=>by have e:w.heap.size=w.heap.size+1:=e; omega)).trans Hb0.out
   have HE2:Hid (Ext w w2):=Zea HE.out hK2 (by omega)
   by_cases he:p2=p
   ·have Hn:Hid (Zfd l=some p):=by show _=_; rw [← Hsh.out,if_pos he]
    subst he
    obtain ⟨c0,c1,cf⟩:=box2 hb0'
    have hlb:=Zac hb0'
    clear hb0' hK2 hb2
    go_wp2
    refine bodyPost_ret (v := .agg #[.int .i64 6,.int .i64 p2]) (by simp [results,Tryz.results81,go_sem,c0,c1,cf]) rfl ?_
    exact ⟨Zea HE2.out (((Qx _ _).put 0 _).put 1 _) (Qe _),by rw [Hn.out]⟩
   ·have he2:((p2:Int) == (p:Int))=false:=by rw [Qu]; omega
    have Hn:Hid (Zdj l f p2 o2 d2=Zfd l):=by show _=_; rw [← Hsh.out,if_neg he]
    have Hb0':=Zaa hb0'
    have Hb2:=Zaa hb2
    have ho3:=hbd3 he
    clear hb0' hK2 hb2 Hsh
    go_wp2
    go_roundg (s.size - p)
    case measure=>omega
    case rel=>exact ⟨p2,o2,f,d2,rfl,hbd2,by omega,ho3,by omega,Hn.out,HE2.out,Hb0'.out,Hb2.out⟩
  ·have hend:¬ (((!(!due && ((o:Int) == 0))) && decide ((p:Int)<(s.size:Int)))=true):=fun h=>by
    rw [Bool.and_eq_true,decide_eq_true_iff] at h
    refine hgo ⟨by omega,fun ⟨h1,h2⟩ => ?_⟩
    rw [h1,h2] at h
    simp at h
   obtain ⟨c0,c1,cf⟩:=box2 hb0
   have HE:=Zaa hE
   have hlb:=Zac hb0
   by_cases hlt:p<s.size
   ·have hwh:due=false∧o=0:=by
     by_cases h:due=false∧o=0
     ·exact h
     ·exact absurd ⟨hlt,h⟩ hgo
    obtain ⟨rfl,rfl⟩:=hwh
    have Hn:Hid (Zfd l=some p):=by show _=_; rw [← hsh]; exact Zsu (by rw [Hsl.out]; exact hlt)
    have hlt':(p:Int)<(s.size:Int):=by omega
    clear hsh hE hb0 hb1 hend hgo
    go_wp2_with fail
    refine HWr.out.mono ?_
    rintro e w1 ⟨rfl,rfl⟩
    go_wp2
    refine bodyPost_ret (v := .agg #[.int .i64 6,.int .i64 p]) (by simp [results,Tryz.results81,go_sem,c0,c1,cf]) rfl ?_
    exact ⟨Zea HE.out (((Qx _ _).put 0 _).put 1 _) (Qe _),by rw [Hn.out]⟩
   ·have hlt':¬ (p:Int)<(s.size:Int):=by omega
    have hn:=Zzc (l:=l) (f:=f) (p:=p) (o:=o) (due:=due) (by rw [Hsl.out]; omega)
    rw [hsh] at hn
    by_cases hwh:due=false∧o=0
    ·obtain ⟨rfl,rfl⟩:=hwh
     have Hn:Hid (Zfd l=none):=by show _=_; rw [hn]; simp
     clear hsh hE hb0 hb1 hend hgo hn
     go_wp2_with fail
     refine HWr.out.mono ?_
     rintro e w1 ⟨rfl,rfl⟩
     go_wp2_with fail
     refine HWr.out.mono ?_
     rintro e w1 ⟨rfl,rfl⟩
     go_wp2
     refine bodyPost_ret (v := .agg #[.int .i64 0,.int .i64 0]) (by simp [results,Tryz.results81,go_sem,c0,c1,cf]) rfl ?_
     exact ⟨Zea HE.out (((Qx _ _).put 0 _).put 1 _) (Qe _),by rw [Hn.out]⟩
    ·have Hn:Hid (Zfd l=some p):=by
      show _=_
      rw [hn,if_pos]
      by_cases h:due=true
      ·exact Or.inl h
      ·refine Or.inr (Nat.pos_of_ne_zero (fun h'=>hwh ⟨by simpa using h,h'⟩))
     have hw0:(!due && ((o:Int) == 0))=false:=by
      cases due with
      | true=>rfl
      | false =>
       simp
       intro h
       exact hwh ⟨rfl,by omega⟩
     rw [hw0] at HWr
     clear hsh hE hb0 hb1 hend hgo hn hw0 hwh
     go_wp2_with fail
     refine HWr.out.mono ?_
     rintro e w1 ⟨rfl,rfl⟩
     go_wp2_with fail
     refine HWr.out.mono ?_
     rintro e w1 ⟨rfl,rfl⟩
     go_wp2
     refine bodyPost_ret (v := .agg #[.int .i64 6,.int .i64 p]) (by simp [results,Tryz.results81,go_sem,c0,c1,cf]) rfl ?_
     exact ⟨Zea HE.out (((Qx _ _).put 0 _).put 1 _) (Qe _),by rw [Hn.out]⟩
def HoTy (t:TypeId):Prop:=t=142∨t=235∨t=9
def FrT (w w':World):Prop:=∀ (k:Nat) (cl:Array Value) (t:TypeId) (fr:Nat × Nat),w.heap[k]?=some (.cells cl t fr)→¬ HoTy t→w'.heap[k]?=some (.cells cl t fr)
theorem FrT.trans {w1 w2 w3:World} (h:FrT w1 w2) (h':FrT w2 w3):FrT w1 w3:=fun k cl t fr e ht=>h' k cl t fr (h k cl t fr e ht) ht
theorem FrT.of_ext {w w':World} (h:Ext w w'):FrT w w':=fun k cl t fr e _=>(h.block k (Zac e)).trans e
theorem FrT.of_kept {S:Nat→Prop} {w w':World} (h:Kept S w w') (hS:∀ k,S k→∃ cl t fr,w.heap[k]?=some (.cells cl t fr)∧HoTy t):FrT w w':=fun k cl t fr e ht=>(h.block k (Zac e) (fun hs=>by
 obtain ⟨cl',t',fr',h1,h2⟩:=hS k hs
 rw [h1] at e
 simp at e
 exact ht (e.2.1 ▸ h2))).trans e
theorem FrT.own {w w':World} {B:Nat} {e:TypeId} {size n:Nat} {v:Value} {xs:List Value} (hF:FrT w w') (he:¬ HoTy e) (h:w.ownsRow B e size v n xs):w'.ownsRow B e size v n xs :=
 Zak h (fun k hj=>by
  rcases h.2 with ⟨rfl,_⟩ | ⟨g,cap,cur,rfl,_,hg,_⟩
  ·simp [Value.ownBlock] at hj
  ·simp [Value.ownBlock] at hj
   subst hj
   rw [hF _ _ _ _ hg he,hg])
theorem FrT.terms {w w':World} {v:Value} {ls:List (List Sym)} (hF:FrT w w') (h:TermsIn w v ls):TermsIn w' v ls:=by
 obtain ⟨vs,h⟩:=h
 exact ⟨vs,hF.own (by simp [HoTy]) h.owns,fun i l hl=>by
  obtain ⟨x,h1,h2⟩:=h.all i l hl
  exact ⟨x,h1,hF.own (by simp [HoTy]) h2⟩⟩
theorem CNode.fr {w w':World} {gv vv rv uv:Value} {n0:ND} (h:CNode w gv vv rv uv n0) (hF:FrT w w'):CNode w' gv vv rv uv n0:=by
 obtain ⟨n,h1,h2⟩:=h
 exact ⟨n,⟨hF.terms h1.goals,hF.terms h1.vals,hF.terms h1.done⟩,h2⟩
structure RowH (B:Nat) (w:World) (v:Value) (ds:List (ND × Nat)) (xs:List Value):Prop where
 owns:w.ownsRow B 235 5 v ds.length xs
 all:∀ (i:Nat) (d:ND × Nat),ds[i]?=some d→∃ x0 x1 x2 x3,xs[i * 5]?=some x0∧xs[i * 5+1]?=some x1∧xs[i * 5+2]?=some x2∧xs[i * 5+3]?=some x3∧xs[i * 5+4]?=some (.int .i64 d.2)∧CNode w x0 x1 x2 x3 d.1
theorem RowH.keep {B:Nat} {w w':World} {v:Value} {ds:List (ND × Nat)} {xs:List Value} (h:RowH B w v ds xs) (hF:FrT w w') (ho:∀ k,v.ownBlock=some k→w'.heap[k]?=w.heap[k]?):RowH B w' v ds xs :=
 ⟨Zak h.owns ho,fun i d hd=>by
  obtain ⟨x0,x1,x2,x3,y0,y1,y2,y3,y4,g⟩:=h.all i d hd
  exact ⟨x0,x1,x2,x3,y0,y1,y2,y3,y4,g.fr hF⟩⟩
theorem RowH.pop {B:Nat} {w:World} {g n cap:Nat} {ds:List (ND × Nat)} {d:ND × Nat} {xs:List Value} (h:RowH B w (.slice (some ⟨g,0,none⟩) (n+1) cap) (ds++[d]) xs) (hn:ds.length=n):RowH B w (.slice (some ⟨g,0,none⟩) n cap) ds (xs.take (n * 5)):=by
 have ho:=h.owns
 rw [Qg,Qn,hn] at ho
 refine ⟨by rw [hn]; exact Yck ho,fun i x hx => ?_⟩
 have hi:=(Qa.1 hx).1
 obtain ⟨x0,x1,x2,x3,y0,y1,y2,y3,y4,g⟩:=h.all i x (by rw [Qc hi]; exact hx)
 exact ⟨x0,x1,x2,x3,by rw [List.getElem?_take_of_lt (by omega)]; exact y0,by rw [List.getElem?_take_of_lt (by omega)]; exact y1,by rw [List.getElem?_take_of_lt (by omega)]; exact y2,by rw [List.getElem?_take_of_lt (by omega)]; exact y3,by rw [List.getElem?_take_of_lt (by omega)]; exact y4,g⟩
structure CHo (w0 w:World) (b:Nat) (cv nv:Value) (s:ByteArray) (p:Nat) (way:List (ND × Nat)) (A:List (List UInt8)) (wa:Option Addr) (wc:Nat) (aa:Option Addr) (ac:Nat):Prop where
 ext:Ext w0 w
 low:w0.heap.size≤b
 box:w.heap[b]?=some (.cells #[cv,nv,.string s,.int .i64 p,.slice wa way.length wc,.slice aa A.length ac] 142 (0,0))
 row:∃ ys,RowH w0.heap.size w (.slice wa way.length wc) way.reverse ys
 ans:w.ownsRow w0.heap.size 9 1 (.slice aa A.length ac) A.length (strs A)
def HoIn (w0 w:World) (b:Nat) (cv nv:Value) (s:ByteArray) (p:Nat) (way:List (ND × Nat)) (A:List (List UInt8)):Prop:=∃ wa wc aa ac,CHo w0 w b cv nv s p way A wa wc aa ac
theorem Zfh {w:World} {B e size n:Nat} {v:Value} {xs:List Value} {b:Nat} {cl:Array Value} {t:TypeId} {fr:Nat × Nat} (h:w.ownsRow B e size v n xs) (hb:w.heap[b]?=some (.cells cl t fr)) (ht:e≠t):∀ k,v.ownBlock=some k→k≠b:=fun k hj e'=>by
 subst e'
 rcases h.2 with ⟨rfl,_⟩ | ⟨g,cap,cur,rfl,_,hg,_⟩
 ·simp [Value.ownBlock] at hj
 ·simp [Value.ownBlock] at hj
  subst hj
  rw [hg] at hb
  simp at hb
  exact ht hb.2.1
theorem CHo.grow {w0 w w':World} {b:Nat} {cv nv:Value} {s:ByteArray} {p:Nat} {way:List (ND × Nat)} {A:List (List UInt8)} {wa:Option Addr} {wc:Nat} {aa:Option Addr} {ac:Nat} (h:CHo w0 w b cv nv s p way A wa wc aa ac) (e:Ext w w'):CHo w0 w' b cv nv s p way A wa wc aa ac:=by
 obtain ⟨ys,h2⟩:=h.row
 exact ⟨h.ext.trans (e.mono h.ext.size),h.low,(e.block _ (Zac h.box)).trans h.box,⟨ys,h2.keep (FrT.of_ext e) (fun k hk=>e.block k (h2.owns.lt k hk).2)⟩,Zak h.ans (fun k hk=>e.block k (h.ans.lt k hk).2)⟩
theorem CHo.upd {w0 w w':World} {b:Nat} {cv nv:Value} {s:ByteArray} {p p':Nat} {way way':List (ND × Nat)} {A:List (List UInt8)} {wa wa':Option Addr} {wc wc':Nat} {aa:Option Addr} {ac:Nat} (h:CHo w0 w b cv nv s p way A wa wc aa ac) (hk:Kept (only b) w w') (hbox:w'.heap[b]?=some (.cells #[cv,nv,.string s,.int .i64 p',.slice wa' way'.length wc',.slice aa A.length ac] 142 (0,0)))
  (hrow:∃ ys,RowH w0.heap.size w (.slice wa' way'.length wc') way'.reverse ys):CHo w0 w' b cv nv s p' way' A wa' wc' aa ac∧FrT w w':=by
 obtain ⟨ys,h2⟩:=hrow
 have hF:FrT w w':=FrT.of_kept hk (fun k e=>by
  have e:k=b:=e
  subst e
  exact ⟨_,_,_,h.box,by simp [HoTy]⟩)
 refine ⟨⟨Zea h.ext hk h.low,h.low,hbox,⟨ys,h2.keep hF (fun k hj=>hk.block k (h2.owns.lt k hj).2 (Zfh h2.owns h.box (by decide) k hj))⟩,Zak h.ans (fun k hj=>hk.block k (h.ans.lt k hj).2 (Zfh h.ans h.box (by decide) k hj))⟩,hF⟩
theorem Zqp (w0 w:World) (b:Nat) (cv nv:Value) (s:ByteArray) (p:Nat) (way:List (ND × Nat)) (A:List (List UInt8)) (c:UInt8) (hc:c≠0) (h:HoIn w0 w b cv nv s p way A) (hs:s.size≤20000) (hp:p≤s.size) :
  Calls Tryz.prog 137 #[.pointer (some ⟨b,0,none⟩),.int .u8 c.toNat] w fun e w'=>FrT w w'∧((s.data.toList[p]?=some c∧e = .returned (.bool true)∧HoIn w0 w' b cv nv s (p+1) way A)∨(s.data.toList[p]?≠some c∧e = .returned (.bool false)∧HoIn w0 w' b cv nv s p way A)):=by
 obtain ⟨wa,wc,aa,ac,h⟩:=h
 obtain ⟨b0,b1,b2,b3,b4,b5,bf⟩:=box6 h.box
 have hbl:=Zac h.box
 have H:=Zaa h
 have HB:=Zaa (fun u=>Zst s p u (by omega) (by omega))
 by_cases he:s.data.toList[p]?=some c
 ·rw [(Zwk hc).2 he] at HB
  have k1:((c.toNat:Int) != (c.toNat:Int))=false:=by simp
  clear h
  go_enter Tryz.func137,Tryz.ntmps137
  go_wp2_with fail
  go_quiet ((go_at_call 136; exact Calls.quiet_of_same (HB.out _)))
  go_wp2
  go_ret
  obtain ⟨g1,g2⟩:=H.out.upd (p':=p+1) (((Qx (only b) w).drewN nq).put 3 (.int .i64 ((p:Int)+1))) (Zai (w:=w.drewN nq) H.out.box 3 _) H.out.row
  exact ⟨g2,Or.inl ⟨he,rfl,_,_,_,_,g1⟩⟩
 ·obtain ⟨d,hd⟩:∃ d,d=Zkj s.data.toList p:=⟨_,rfl⟩
  rw [← hd] at HB
  have k1:((d.toNat:Int) != (c.toNat:Int))=true:=by
   rw [bne_iff_ne]
   exact Zsq (fun e=>he ((Zwk hc).1 (hd ▸ e)))
  clear h hd
  go_enter Tryz.func137,Tryz.ntmps137
  go_wp2_with fail
  go_quiet ((go_at_call 136; exact Calls.quiet_of_same (HB.out _)))
  go_wp2
  go_ret
  have hE:Ext w (w.drewN nq):=Ext.of ((Qx _ w).drewN _)
  exact ⟨FrT.of_ext hE,Or.inr ⟨he,rfl,_,_,_,_,H.out.grow hE⟩⟩
theorem Zzd (w0 w:World) (b:Nat) (cv nv:Value) (s:ByteArray) (p:Nat) (d:ND × Nat) (r:List (ND × Nat)) (A:List (List UInt8)) (h:HoIn w0 w b cv nv s p (d::r) A) (hs:s.size≤20000) (hp:p≤s.size) (hr:r.length≤20000) :
  Calls Tryz.prog 139 #[.pointer (some ⟨b,0,none⟩)] w fun e w'=>FrT w w'∧((s.data.toList[p]?=some 41∧e = .returned (.bool true)∧HoIn w0 w' b cv nv s (p+1) r A)∨(s.data.toList[p]?≠some 41∧e = .returned (.bool false)∧HoIn w0 w' b cv nv s p (d::r) A)):=by
 have HP:=Zaa (Zqp w0 w b cv nv s p (d::r) A 41 (by decide) h hs hp)
 obtain ⟨wa,wc,aa,ac,h⟩:=h
 have hbx:=h.box
 simp only [Qf] at hbx
 obtain ⟨b0,b1,b2,b3,b4,b5,bf⟩:=box6 hbx
 have hbl:=Zac hbx
 have hgd:decide ((r.length:Int)<0)=false:=by rw [decide_eq_false_iff_not]; omega
 simp only [show ((41:UInt8).toNat:Int)=41 from rfl] at HP
 clear h hbx
 go_enter Tryz.func139,Tryz.ntmps139
 go_wp2_with fail
 refine HP.out.mono ?_
 rintro e w1 ⟨hF1,⟨hc,rfl,h1⟩ | ⟨hc,rfl,h1⟩⟩
 ·obtain ⟨wa1,wc1,aa1,ac1,h1⟩:=h1
  have hbx1:=h1.box
  simp only [Qf] at hbx1
  clear b0 b1 b2 b3 b4 b5 bf
  obtain ⟨b0,b1,b2,b3,b4,b5,bf⟩:=box6 hbx1
  obtain ⟨ys,hrow⟩:=h1.row
  simp only [Qf,List.reverse_cons] at hrow
  have ho:=hrow.owns
  rw [Qg,List.length_reverse,Qn] at ho
  obtain ⟨wb,wcap,wcur,hwe,_,hwb,hwcap⟩:=Zan ho (by omega)
  simp only [Value.slice.injEq] at hwe
  obtain ⟨rfl,_,rfl⟩:=hwe
  have hpop:=Zaa (hrow.pop List.length_reverse)
  have hbl1:=Zac hbx1
  have H1:=Zaa h1
  have HF1:=Zaa hF1
  have Hbx1:=Zaa hbx1
  have Hc:=Zaa hc
  clear h1 hbx1 hrow ho hwb hF1 hc HP
  go_wp2
  go_ret
  obtain ⟨g1,g2⟩:=H1.out.upd (way':=r) ((Qx (only b) w1).put 4 (.slice (some ⟨wb,0,none⟩) r.length wc1)) (Zai Hbx1.out 4 _) ⟨_,hpop.out⟩
  exact ⟨HF1.out.trans g2,Or.inl ⟨Hc.out,rfl,_,_,_,_,g1⟩⟩
 ·have H1:=Zaa h1
  have HF1:=Zaa hF1
  have Hc:=Zaa hc
  clear h1 hF1 hc HP
  go_wp2
  go_ret
  exact ⟨HF1.out,Or.inr ⟨Hc.out,rfl,H1.out⟩⟩
end Go.Proofs.YtlmjilpjmgjjcaaGreatDoor
