/-
  PROVED HERE: what the program's 'substitution' makes of cells that lie in memory (the conditions stand in each statement).
-/
import Derived.Test.YtlmjilpjmgjjcaaGreatDoorT6
set_option linter.unusedSimpArgs false
set_option linter.unusedVariables false
set_option maxRecDepth 10000
set_option maxHeartbeats 4000000
namespace Go.Proofs.YtlmjilpjmgjjcaaGreatDoor
open Go.RowKit
structure GC where
 sym:Sym
 behind:Nat
 leader:Nat
 size:Int
def gcV (c:GC):List Value:=[.string ⟨c.sym.name.toArray⟩,.int .i64 c.sym.num,.int .i64 c.sym.args,.int .i64 c.behind,.int .i64 c.leader,.int .i64 c.size]
def gcs (l:List GC):List Value:=l.flatMap gcV
theorem Yog {l:List GC} {i:Nat} {c:GC} (h:l[i]?=some c) (j:Nat) (hj:j<6):(gcs l)[i * 6+j]?=(gcV c)[j]?:=by
 induction l generalizing i with
 | nil=>simp at h
 | cons a l ih =>
  have hl:(gcV a).length=6:=rfl
  cases i with
  | zero =>
   simp at h; subst h
   show (gcV a++gcs l)[_]?=_
   rw [Qc (by omega)]
   simp
  | succ i =>
   show (gcV a++gcs l)[_]?=_
   rw [Qd (by omega),← ih (by simpa using h),hl]
   congr 1; omega
theorem Yjc (l:List GC) (c:GC):gcs (l++[c])=gcs l++gcV c:=by simp [gcs]
theorem Yax {l:List GC} {x:Nat} {c:GC} {f:GC→GC} {j:Nat} {u:Value} (h:l[x]?=some c) (hj:j<6) (hf:gcV (f c)=(gcV c).set j u):gcs (l.modify x f)=(gcs l).set (x * 6+j) u:=by
 induction l generalizing x with
 | nil=>simp at h
 | cons a l ih =>
  have hl:(gcV a).length=6:=rfl
  cases x with
  | zero =>
   simp at h; subst h
   show gcV (f a)++gcs l=(gcV a++gcs l).set _ _
   rw [List.set_append_left _ _ (by omega),hf]
   simp
  | succ x =>
   show gcV a++gcs (l.modify x f)=(gcV a++gcs l).set _ _
   rw [List.set_append_right _ _ (by omega),ih (by simpa using h),hl]
   congr 2; omega
structure GAt (w:World) (gb:Nat) (v:Value) (gs:List GC):Prop where
 box:w.heap[gb]?=some (.cells #[v] 266 (0,0))
 owns:w.ownsRow 0 292 6 v gs.length (gcs gs)
theorem Zyf {w:World} {B:Nat} {e:TypeId} {size n g cap:Nat} {xs:List Value} (h:w.ownsRow B e size (.slice (some ⟨g,0,none⟩) n cap) n xs) (i:Nat) (u:Value):(w.setCell ⟨g,i,none⟩ u).ownsRow B e size (.slice (some ⟨g,0,none⟩) n cap) n (xs.set i u):=by
 refine ⟨by simpa using h.1,?_⟩
 rcases h.2 with ⟨h1,_⟩ | ⟨g',cap',cur,h1,hb,hg,hn,hc,hs,ht⟩
 ·simp at h1
 ·simp at h1
  obtain ⟨rfl,rfl⟩:=h1
  refine .inr ⟨g,cap,cur.setIfInBounds i u,rfl,hb,Zaf hg _ _,hn,hc,by simpa using hs,?_⟩
  rw [← ht]
  simp [List.take_set]
theorem GAt.shape {w:World} {gb:Nat} {v:Value} {gs:List GC} (h:GAt w gb v gs) (hi:0<gs.length):∃ cb cap,v = .slice (some ⟨cb,0,none⟩) gs.length cap∧cb<w.heap.size∧gs.length≤cap∧cb≠gb∧(∀ j,w.frozen? ⟨cb,j,none⟩=false):=by
 obtain ⟨g,cap,cur,rfl,hB,hb,hc⟩:=Zao h.owns hi
 refine ⟨g,cap,rfl,Zab hb,hc,fun e => ?_,fun j=>Zad hb j⟩
 subst e
 rw [h.box] at hb
 simp at hb
theorem GAt.cell {w:World} {gb cb cap:Nat} {gs:List GC} (h:GAt w gb (.slice (some ⟨cb,0,none⟩) gs.length cap) gs) {i:Nat} {c:GC} (hc:gs[i]?=some c) :
  w.cell? ⟨cb,i * 6,none⟩=some (.string ⟨c.sym.name.toArray⟩)∧w.cell? ⟨cb,i * 6+1,none⟩=some (.int .i64 c.sym.num)∧w.cell? ⟨cb,i * 6+2,none⟩=some (.int .i64 c.sym.args)∧w.cell? ⟨cb,i * 6+3,none⟩=some (.int .i64 c.behind)∧w.cell? ⟨cb,i * 6+4,none⟩=some (.int .i64 c.leader)∧w.cell? ⟨cb,i * 6+5,none⟩=some (.int .i64 c.size):=by
 have e:=fun j hj=>Yog hc j hj
 refine ⟨Zag h.owns _ _ ?_,Zag h.owns _ _ (by rw [e 1 (by omega)]; rfl),Zag h.owns _ _ (by rw [e 2 (by omega)]; rfl),Zag h.owns _ _ (by rw [e 3 (by omega)]; rfl),Zag h.owns _ _ (by rw [e 4 (by omega)]; rfl),Zag h.owns _ _ (by rw [e 5 (by omega)]; rfl)⟩
 have:=e 0 (by omega)
 simp only [Nat.add_zero] at this
 rw [this]; rfl
theorem GAt.on {w w':World} {gb:Nat} {v:Value} {gs:List GC} (h:GAt w gb v gs) (hk:∀ k,k<w.heap.size→w'.heap[k]?=w.heap[k]?):GAt w' gb v gs :=
 ⟨(hk gb (Zab h.box)).trans h.box,Zai h.owns (fun k e=>hk k (h.owns.lt k e).2)⟩
theorem GAt.ext {w w':World} {gb:Nat} {v:Value} {gs:List GC} (h:GAt w gb v gs) (e:Ext w w'):GAt w' gb v gs:=h.on (fun k hk=>e.block k hk)
theorem GAt.put {w:World} {gb cb cap:Nat} {gs:List GC} (h:GAt w gb (.slice (some ⟨cb,0,none⟩) gs.length cap) gs) {x:Nat} {c:GC} (hc:gs[x]?=some c) {f:GC→GC} {j:Nat} {u:Value} (hj:j<6) (hf:gcV (f c)=(gcV c).set j u) :
  GAt (w.setCell ⟨cb,x * 6+j,none⟩ u) gb (.slice (some ⟨cb,0,none⟩) gs.length cap) (gs.modify x f):=by
 have hne:cb≠gb:=by
  obtain ⟨cb',cap',e,_,_,hne,_⟩:=h.shape (by have:=(Qa.1 hc).1; omega)
  simp at e
  rw [e.1]; exact hne
 refine ⟨(Below.heap_setCell _ _ _ _ (fun e=>hne e.symm)).trans h.box,?_⟩
 rw [Yax hc hj hf,List.length_modify]
 exact Zyf h.owns _ _
def GC.up (c:GC):CellS:=⟨c.sym,[],c.leader⟩
def Zib (gs:List GC) (x y:Nat):List GC:=gs.modify x (fun c => { c with leader:=y })
theorem Zyg (gs:List GC) (x y:Nat):(Zib gs x y).map GC.up=turn (gs.map GC.up) x y:=by
 apply List.ext_getElem?
 intro i
 rw [Zqy,Qj,Zib,List.getElem?_modify,Qj]
 cases gs[i]? with
 | none=>rfl
 | some c=>simp; split <;> simp_all [GC.up]
theorem Zik (gs:List GC) (x y:Nat):(Zib gs x y).length=gs.length:=by simp [Zib]
structure CellsOf (gs:List GC) (l:List Sym):Prop where
 len:gs.length=l.length
 all:∀ i c,gs[i]?=some c→c.sym=Zax l i∧c.behind=Zbj l i
theorem CellsOf.lead {gs:List GC} {l:List Sym} (h:CellsOf gs l) (x y:Nat):CellsOf (Zib gs x y) l :=
 ⟨by rw [Zik]; exact h.len,fun i c hc=>by
  rw [Zib,List.getElem?_modify] at hc
  cases hd:gs[i]? with
  | none=>rw [hd] at hc; simp at hc
  | some d =>
   rw [hd] at hc
   obtain ⟨h1,h2⟩:=h.all i d hd
   simp only [Option.map_eq_map,Option.map_some,Qo] at hc
   subst hc
   split <;> exact ⟨h1,h2⟩⟩
theorem Zgp (w:World) (gb:Nat) (v:Value) (gs:List GC) (ρ rk:Nat→Nat) (i:Nat) (h:GAt w gb v gs) (hu:UpOk (gs.map GC.up) ρ rk) (hi:i<gs.length) (hl:gs.length≤4000) :
  Calls Tryz.prog 189 #[.pointer (some ⟨gb,0,none⟩),.int .i64 i] w fun e w'=>e = .returned (.int .i64 (ρ i))∧w'=w:=by
 obtain ⟨cb,cap,rfl,hcb,hcap,_,_⟩:=h.shape (by omega)
 have b0:w.cell? ⟨gb,0,none⟩=some (.slice (some ⟨cb,0,none⟩) gs.length cap):=Zaa h.box 0 _ rfl
 have hgb:=Zab h.box
 have H:=Zac h
 have Hu:=Zac hu
 clear h hu
 go_enter Tryz.func189,Tryz.ntmps189
 go_wp2
 go_loopg [1] (rk i+1) (fun gk iv wr=>∃ (k:Nat),iv = .int .i64 k∧k<gs.length∧rk k<gk∧ρ k=ρ i∧wr=w)
 case atStart=>exact ⟨i,rfl,hi,by omega,rfl,rfl⟩
 case round =>
  obtain ⟨k,rfl,hk,hg,hρ,rfl⟩:=hrel
  obtain ⟨c,hc⟩:∃ c,gs[k]?=some c:=⟨_,Qb hk⟩
  obtain ⟨c0,c1,c2,c3,c4,c5⟩:=H.out.cell hc
  obtain ⟨h1,h2,h3,h4⟩:=Hu.out k c.up (by rw [Qj,hc]; rfl)
  have h1:c.leader<gs.length:=by simpa [GC.up] using h1
  have h2:ρ c.leader=ρ k:=h2
  by_cases e:c.leader=k
  ·have e':((c.leader:Int) != (k:Int))=false:=by rw [e]; simp
   have Hr:=Zac (h3 e)
   have Hρ:=Zac hρ
   clear hc h2 h3 h4 hρ
   go_wp2
   go_ret
   exact ⟨by rw [← Hρ.out,Hr.out]; rfl,rfl⟩
  ·have e':((c.leader:Int) != (k:Int))=true:=by rw [bne_iff_ne]; omega
   have Hr:=Zac (h2.trans hρ)
   have h4':=h4 e
   clear hc h2 h3 h4 hρ
   go_wp2
   go_roundg (rk k)
   case measure=>omega
   case rel=>exact ⟨c.leader,rfl,h1,h4',Hr.out,rfl⟩
theorem Zje (w:World) (gb:Nat) (v:Value) (gs:List GC) (i:Nat) (c:GC) (h:GAt w gb v gs) (hc:gs[i]?=some c) (hl:gs.length≤4000) :
  Calls Tryz.prog 190 #[.pointer (some ⟨gb,0,none⟩),.int .i64 i] w fun e w'=>e = .returned (.bool c.sym.name.isEmpty)∧w'=w:=by
 have hi:=(Qa.1 hc).1
 obtain ⟨cb,cap,rfl,hcb,hcap,_,_⟩:=h.shape (by omega)
 have b0:w.cell? ⟨gb,0,none⟩=some (.slice (some ⟨cb,0,none⟩) gs.length cap):=Zaa h.box 0 _ rfl
 have hgb:=Zab h.box
 obtain ⟨c0,c1,c2,c3,c4,c5⟩:=h.cell hc
 clear h hc
 go_enter Tryz.func190,Tryz.ntmps190
 go_wp2
 go_ret
 exact ⟨by simp,rfl⟩
def Zel (s t:Sym):Bool:=s.name.isEmpty && (t.name.isEmpty && s.num == t.num)
theorem Yay (w:World) (s t:Sym) :
  Calls Tryz.prog 207 #[.agg #[.string ⟨s.name.toArray⟩,.int .i64 s.num,.int .i64 s.args],.agg #[.string ⟨t.name.toArray⟩,.int .i64 t.num,.int .i64 t.args]] w fun e w'=>e = .returned (.bool (Zel s t))∧Ext w w':=by
 have Hs:Hid (∀ a b c,a=s.name.isEmpty→b=t.name.isEmpty→c=(s.num == t.num)→Zel s t=(a && (b && c))):=fun a b c h1 h2 h3=>by rw [h1,h2,h3]; rfl
 cases h1:s.name.isEmpty with
 | false =>
  go_enter Tryz.func207,Tryz.ntmps207
  go_wp2
  go_ret
  refine ⟨?_,(Ext.of (by repeat' (first | with_reducible(first|exact Qx _ _|apply Kept.drew|apply Kept.drewN|apply Qz|refine Qy ?_ ?_ _)|exact fun h=>absurd h (by simp <;> omega))))⟩
  rw [Hs.out false _ _ h1.symm rfl rfl]; rfl
 | true =>
  cases h2:t.name.isEmpty with
  | false =>
   go_enter Tryz.func207,Tryz.ntmps207
   go_wp2
   go_ret
   refine ⟨?_,(Ext.of (by repeat' (first | with_reducible(first|exact Qx _ _|apply Kept.drew|apply Kept.drewN|apply Qz|refine Qy ?_ ?_ _)|exact fun h=>absurd h (by simp <;> omega))))⟩
   rw [Hs.out true false _ h1.symm h2.symm rfl]; rfl
  | true =>
   have Hn:Hid (((s.num:Int) == (t.num:Int))=(s.num == t.num)):=by
    show _=_
    rw [Bool.eq_iff_iff,beq_iff_eq,beq_iff_eq]; omega
   go_enter Tryz.func207,Tryz.ntmps207
   go_wp2
   go_ret
   refine ⟨?_,(Ext.of (by repeat' (first | with_reducible(first|exact Qx _ _|apply Kept.drew|apply Kept.drewN|apply Qz|refine Qy ?_ ?_ _)|exact fun h=>absurd h (by simp <;> omega))))⟩
   rw [Hs.out true true _ h1.symm h2.symm rfl,← Hn.out]; rfl
theorem Joined.swap {G:Gr} {ρ ρ':Nat→Nat} {xs ys:List Nat} (h:Joined G ρ ρ' xs ys):Joined G ρ ρ' ys xs:=⟨h.rt,h.grow,h.eq.symm,h.cg,fun val hv hc e=>h.con val hv hc e.symm⟩
theorem Clash.swap {G:Gr} {ρ:Nat→Nat} {xs ys:List Nat} (h:Clash G ρ xs ys):Clash G ρ ys xs:=fun val hv hc e=>h val hv hc e.symm
theorem Ymp {l:List Sym} (hw:Wf 2 l):∃ a b,l=a++b∧Wf 1 a∧Wf 1 b∧Lay (grOf l) (tmAt l) a b:=by
  obtain ⟨a,b,e,ha,hb⟩:=Zjw (j:=1) (k:=1) hw
  exact ⟨a,b,e,ha,hb,by rw [e]; exact Yff ha hb⟩
theorem Yjd {l:List Sym} (hw:Wf 2 l):(grOf l).Ok:=by
  obtain ⟨a,b,_,_,_,h⟩:=Ymp hw
  exact h.ok
structure JoinLeft (gb:Nat) (v:Value) (gs:List GC) (l:List Sym) (w w':World) (gs':List GC):Prop where
  at':GAt w' gb v gs'
  cells:CellsOf gs' l
  sizes:gs'.map (·.size)=gs.map (·.size)
  kept:Kept (Zbn v) w w'
  roots:Zgx (gs'.map GC.up)≤Zgx (gs.map GC.up)
def Ymq (gb:Nat) (v:Value) (gs:List GC) (l:List Sym) (ρ:Nat→Nat) (a b:Nat) (w:World) (e:Ending) (w':World):Prop:=∃ gs',JoinLeft gb v gs l w w' gs'∧∃ ρ' rk',UpOk (gs'.map GC.up) ρ' rk' ∧
  ((e = .returned (.bool true)∧Joined (grOf l) ρ ρ' [a] [b])∨(e = .returned (.bool false)∧Clash (grOf l) ρ [a] [b]))
def Zrk (m:Nat):Prop:=∀ (w:World) (gb:Nat) (v:Value) (gs:List GC) (l:List Sym) (ρ rk:Nat→Nat) (a b:Nat),GAt w gb v gs→CellsOf gs l→Wf 2 l→UpOk (gs.map GC.up) ρ rk→Zgx (gs.map GC.up)≤m→a<gs.length→b<gs.length→gs.length≤4000 →
  Calls Tryz.prog 158 #[.pointer (some ⟨gb,0,none⟩),.int .i64 a,.int .i64 b] w fun e w'=>Ymq gb v gs l ρ a b w e w'
abbrev kidsAt (l:List Sym) (x:Nat):List Nat:=(grOf l).kids x
def Ztu (gb:Nat) (v:Value) (gs:List GC) (l:List Sym) (ρ:Nat→Nat) (x y:Nat) (w:World) (e:Ending) (w':World):Prop:=∃ gs',JoinLeft gb v gs l w w' gs'∧∃ ρ' rk',UpOk (gs'.map GC.up) ρ' rk' ∧
    ((e = .returned (.bool true)∧(Zax l x).name=(Zax l y).name∧(Zax l x).args=(Zax l y).args∧Joined (grOf l) ρ ρ' (kidsAt l x) (kidsAt l y)) ∨
     (e = .returned (.bool false)∧((Zax l x).name≠(Zax l y).name∨(Zax l x).args≠(Zax l y).args∨Clash (grOf l) ρ (kidsAt l x) (kidsAt l y))))
def Zpp (m:Nat):Prop:=∀ (w:World) (gb:Nat) (v:Value) (gs:List GC) (l:List Sym) (ρ rk:Nat→Nat) (x y:Nat),GAt w gb v gs→CellsOf gs l→Wf 2 l→UpOk (gs.map GC.up) ρ rk→Zgx (gs.map GC.up)≤m→x<gs.length→y<gs.length→gs.length≤4000 →
  Calls Tryz.prog 191 #[.pointer (some ⟨gb,0,none⟩),.int .i64 x,.int .i64 y] w fun e w'=>Ztu gb v gs l ρ x y w e w'
theorem JoinLeft.trans {gb:Nat} {v:Value} {gs gs1 gs2:List GC} {l:List Sym} {w w1 w2:World} (h:JoinLeft gb v gs l w w1 gs1) (k:JoinLeft gb v gs1 l w1 w2 gs2):JoinLeft gb v gs l w w2 gs2 :=
  ⟨k.at',k.cells,k.sizes.trans h.sizes,h.kept.trans k.kept,Qq k.roots h.roots⟩
theorem JoinLeft.len {gb:Nat} {v:Value} {gs:List GC} {l:List Sym} {w w':World} {gs':List GC} (h:JoinLeft gb v gs l w w' gs'):gs'.length=gs.length:=by simpa using congrArg List.length h.sizes
theorem Yfh {l:List Sym} {x k m:Nat} (h:k≤m):(Zbd l x m).take k=Zbd l x k:=by
  induction m generalizing x k with
  | zero =>
    have:k=0:=by omega
    subst this; rfl
  | succ m ih =>
    cases k with
    | zero=>rfl
    | succ k=>simp only [Zbd,List.take_succ_cons]; rw [ih (by omega)]
theorem Ztv (l:List Sym) (x k:Nat):Zbd l x (k+1)=Zbd l x k++[Zav l x k]:=by
  induction k generalizing x with
  | zero=>rfl
  | succ k ih =>
    have e:Zbd l x (k+1+1)=x::Zbd l (Zbj l x) (k+1):=rfl
    rw [e,ih]
    rfl
theorem Znp {l:List Nat} {k n:Nat} (h:l[k]?=some n):l=l.take k++n::l.drop (k+1):=by
  obtain ⟨hk,e⟩:=Qa.1 h
  have:=List.drop_eq_getElem_cons hk
  rw [e] at this
  rw [← this,List.take_append_drop]
theorem Zpq {l:List Sym} {x k m:Nat} (h:k<m):Zbd l x m=Zbd l x k++Zav l x k::(Zbd l x m).drop (k+1):=by
  have h2:=Zcc l x m k h
  have:=Znp h2
  rw [Yfh (by omega)] at this
  exact this
theorem Zvz (m:Nat) (IH:Zrk m):Zpp m:=by
  intro w gb v gs l ρ rk x y h hc hw hu hm hx hy hl
  obtain ⟨cx,hcx⟩:∃ c,gs[x]?=some c:=⟨_,Qb hx⟩
  obtain ⟨cy,hcy⟩:∃ c,gs[y]?=some c:=⟨_,Qb hy⟩
  obtain ⟨cb,cap,rfl,hcb,hcap,hne,hfz⟩:=h.shape (by omega)
  have b0:w.cell? ⟨gb,0,none⟩=some (.slice (some ⟨cb,0,none⟩) gs.length cap):=Zaa h.box 0 _ rfl
  have hgb:=Zab h.box
  obtain ⟨x0,x1,x2,_,_,_⟩:=h.cell hcx
  obtain ⟨y0,y1,y2,_,_,_⟩:=h.cell hcy
  obtain ⟨sx,_⟩:=hc.all x cx hcx
  obtain ⟨sy,_⟩:=hc.all y cy hcy
  have hlen:=hc.len
  obtain ⟨ex1,ex2,ex3⟩:=Zhu hw (i:=x) (by omega)
  obtain ⟨ey1,ey2,ey3⟩:=Zhu hw (i:=y) (by omega)
  obtain ⟨_,_,_,_,_,hbx,_⟩:=Zfd hw (i:=x) (by omega)
  obtain ⟨_,_,_,_,_,hby,_⟩:=Zfd hw (i:=y) (by omega)
  have hkl:∀ k,k<(Zax l x).args→Zav l (x+1) k<gs.length:=fun k hk=>by
    have:=ex2 _ (Qh (Zcc l (x+1) _ k hk))
    omega
  have hkr:∀ k,k<(Zax l y).args→Zav l (y+1) k<gs.length:=fun k hk=>by
    have:=ey2 _ (Qh (Zcc l (y+1) _ k hk))
    omega
  have hargs:(Zax l x).args≤4000:=by
    have h1:=congrArg List.length ex1
    have h2:=Zde l (x+1) (Zax l x).args
    rcases Nat.lt_or_ge 4000 (Zax l x).args with h3 | h3
    · exfalso
      have h4:=hkl 4000 h3
      have mono:∀ k,k≤(Zax l x).args→x+1+k≤Zav l (x+1) k:=by
        intro k
        induction k with
        | zero=>intro _; simp [Zav]
        | succ k ih =>
          intro hk
          have:=ih (by omega)
          rw [Zcf]
          have:=hkl k (by omega)
          obtain ⟨_,_,_,_,h6,_⟩:=Zfd hw (i:=Zav l (x+1) k) (by omega)
          omega
      have:=mono 4000 (by omega)
      omega
    · exact h3
  rw [sx] at x0 x1 x2
  rw [sy] at y0 y1 y2
  obtain ⟨s,hs⟩:∃ s,s=Zax l x:=⟨_,rfl⟩
  obtain ⟨t,ht⟩:∃ t,t=Zax l y:=⟨_,rfl⟩
  rw [← hs] at x0 x1 x2 hkl hargs
  rw [← ht] at y0 y1 y2 hkr
  have Hs:=Zac hs
  have Ht:=Zac ht
  have H:=Zac h
  have Hc:=Zac hc
  have Hw:=Zac hw
  have Hu:=Zac hu
  have Hm:=Zac hm
  have Hih:=Zac IH
  have Hkl:=Zac hkl
  have Hkr:=Zac hkr
  have Hkx:Hid (kidsAt l x=Zbd l (x+1) s.args):=by show _=_; rw [hs]; rfl
  have Hky:Hid (kidsAt l y=Zbd l (y+1) t.args):=by show _=_; rw [ht]; rfl
  have hxl:x<l.length:=by omega
  have hyl:y<l.length:=by omega
  clear h hc hw hu hm IH hkl hkr hcx hcy sx sy ex1 ex2 ex3 ey1 ey2 ey3 hbx hby hlen hs ht
  have Hno:Hid (∀ w',Kept Zdf w w'→(s.name≠t.name∨s.args≠t.args)→Ztu gb (.slice (some ⟨cb,0,none⟩) gs.length cap) gs l ρ x y w (.returned (.bool false)) w'):=fun w' hk hd=>by
    refine ⟨gs,⟨H.out.on (fun k hk'=>hk.block k hk' (fun h=>h)),Hc.out,rfl,hk.mono (fun _ _ h=>h.elim),Qe _⟩,ρ,rk,Hu.out,Or.inr ⟨rfl,?_⟩⟩
    rw [← Hs.out,← Ht.out]
    rcases hd with hd | hd
    · exact Or.inl hd
    · exact Or.inr (Or.inl hd)
  by_cases hnm:s.name=t.name
  · by_cases har:s.args=t.args
    · have hnb:(s.name != t.name)=false:=by rw [hnm]; simp
      have hab:((s.args:Int) != (t.args:Int))=false:=by rw [har]; simp
      have Hnm:=Zac hnm
      have Har:=Zac har
      clear hnm har
      go_enter Tryz.func191,Tryz.ntmps191
      go_wp2
      go_loopg [9,10,11] (s.args+1) (fun gk av bv nv wr=>∃ (k:Nat) (gs':List GC) (ρ' rk':Nat→Nat),av = .int .i64 (Zav l (x+1) k:Nat)∧bv = .int .i64 (Zav l (y+1) k:Nat)∧nv = .int .i64 k∧k≤s.args∧s.args - k<gk∧JoinLeft gb (.slice (some ⟨cb,0,none⟩) gs.length cap) gs l w wr gs'∧UpOk (gs'.map GC.up) ρ' rk' ∧
        Joined (grOf l) ρ ρ' (Zbd l (x+1) k) (Zbd l (y+1) k)∧wr.heap[w.heap.size]?=some (.cells #[.string ⟨t.name.toArray⟩,.int .i64 s.num,.int .i64 s.args] 133 (0,0)))
      case atStart =>
        have hrt:=Hu.out.rt
        rw [Ql,Hc.out.len] at hrt
        refine ⟨0,gs,ρ,rk,by simp [Zav],by simp [Zav],by go_num,Qm _,by omega,⟨H.out.ext (Ext.of (by repeat' (first | with_reducible(first|exact Qx _ _|apply Kept.drew|apply Kept.drewN|apply Qz|refine Qy ?_ ?_ _)|exact fun h=>absurd h (by simp <;> omega)))),Hc.out,rfl,((Qx _ w).alloc _).alloc _,Qe _⟩,Hu.out,Joined.nil hrt,?_⟩
        have:=Zau (heap_alloc_new w (.cells #[.string ⟨t.name.toArray⟩,.int .i64 s.num,.int .i64 s.args] 133)) (.cells #[.string ⟨t.name.toArray⟩,.int .i64 t.num,.int .i64 t.args] 133)
        simpa using this
      case round =>
        obtain ⟨k,gs',ρ',rk',rfl,rfl,rfl,hk,hgk,hJ,hup,hj,hbox⟩:=hrel
        obtain ⟨s0,s1,s2,sf⟩:=box3 hbox
        have hsr:=hJ.kept.size
        have hl':=hJ.len
        have b0:wr.cell? ⟨gb,0,none⟩=some (.slice (some ⟨cb,0,none⟩) gs.length cap):=Zaa hJ.at'.box 0 _ rfl
        have hgb':=Zab hJ.at'.box
        have hwb:=Zab hbox
        have HJ:=Zac hJ
        have Hup:=Zac hup
        have Hj:=Zac hj
        have Hbox:=Zac hbox
        clear hJ hup hj hbox
        by_cases hlt:k<s.args
        · have ha:=Hkl.out k hlt
          have hb:=Hkr.out k (by have:=Har.out; omega)
          obtain ⟨ak,hak⟩:∃ a,a=Zav l (x+1) k:=⟨_,rfl⟩
          obtain ⟨bk,hbk⟩:∃ b,b=Zav l (y+1) k:=⟨_,rfl⟩
          rw [← hak] at ha ⊢
          rw [← hbk] at hb ⊢
          have hna:¬ ((gs.length:Int)≤(ak:Int)):=by omega
          have hnb2:¬ ((gs.length:Int)≤(bk:Int)):=by omega
          have HI:=Zac (Hih.out wr gb (.slice (some ⟨cb,0,none⟩) gs.length cap) gs' l ρ' rk' ak bk HJ.out.at' HJ.out.cells Hw.out Hup.out (Qq HJ.out.roots Hm.out) (by omega) (by omega) (by omega))
          have Hak:=Zac hak
          have Hbk:=Zac hbk
          clear hak hbk
          go_wp2_with fail
          refine HI.out.mono ?_
          rintro e w1 ⟨gs2,hJ2,ρ2,rk2,hup2,hres⟩
          have hl2:=hJ2.len
          have hbox2:=(hJ2.kept.block _ hwb (fun e=>by
            have e:cb=w.heap.size:=by simpa [Zbn,Value.ownBlock] using e
            omega)).trans Hbox.out
          have b0:w1.cell? ⟨gb,0,none⟩=some (.slice (some ⟨cb,0,none⟩) gs.length cap):=Zaa hJ2.at'.box 0 _ rfl
          have hgb2:=Zab hJ2.at'.box
          have hs2:=hJ2.kept.size
          obtain ⟨ca,hca⟩:∃ c,gs2[ak]?=some c:=⟨_,Qb (by omega)⟩
          obtain ⟨cb2,hcb2⟩:∃ c,gs2[bk]?=some c:=⟨_,Qb (by omega)⟩
          have hat2:GAt w1 gb (.slice (some ⟨cb,0,none⟩) gs2.length cap) gs2:=by rw [hl2,hl']; exact hJ2.at'
          obtain ⟨_,_,_,a3,_,_⟩:=hat2.cell hca
          obtain ⟨_,_,_,b3,_,_⟩:=hat2.cell hcb2
          rw [(hJ2.cells.all _ _ hca).2] at a3
          rw [(hJ2.cells.all _ _ hcb2).2] at b3
          have HJ2:=Zac hJ2
          have Hup2:=Zac hup2
          have Hbox2:=Zac hbox2
          clear hJ2 hup2 hbox2 hat2 hca hcb2
          rcases hres with ⟨rfl,hj2⟩ | ⟨rfl,hcl⟩
          · have Hj2:=Zac hj2
            clear hj2
            go_wp2
            go_roundg (s.args - k)
            case measure=>omega
            case rel =>
              refine ⟨k+1,gs2,ρ2,rk2,by rw [Zcf,← Hak.out],by rw [Zcf,← Hbk.out],by go_num,by omega,by omega,HJ.out.trans HJ2.out,Hup2.out,?_,Hbox2.out⟩
              rw [Ztv,Ztv,← Hak.out,← Hbk.out]
              have hG:=Yjd Hw.out
              refine Joined.snoc hG Hj.out Hj2.out (fun j hj => ?_) (fun j hj => ?_)
              · obtain ⟨i,hi⟩:=List.mem_iff_getElem?.1 hj
                have hi2:=(Qa.1 hi).1
                rw [Zde] at hi2
                rw [Zcc l (x+1) k i hi2] at hi
                simp at hi
                subst hi
                have:=Hkl.out i (by omega)
                show _<l.length
                have:=Hc.out.len; omega
              · obtain ⟨i,hi⟩:=List.mem_iff_getElem?.1 hj
                have hi2:=(Qa.1 hi).1
                rw [Zde] at hi2
                rw [Zcc l (y+1) k i hi2] at hi
                simp at hi
                subst hi
                have:=Hkr.out i (by have:=Har.out; omega)
                show _<l.length
                have:=Hc.out.len; omega
          · have Hcl:=Zac hcl
            clear hcl
            go_wp2
            go_ret
            refine ⟨gs2,HJ.out.trans HJ2.out,ρ2,rk2,Hup2.out,Or.inr ⟨rfl,Or.inr (Or.inr ?_)⟩⟩
            have hc1:=Hcl.out
            rw [Hak.out,Hbk.out] at hc1
            have:=Clash.snoc Hj.out hc1 ((Zbd l (x+1) s.args).drop (k+1)) ((Zbd l (y+1) t.args).drop (k+1))
            rw [← Zpq hlt,← Zpq (by have:=Har.out; omega)] at this
            rw [Hkx.out,Hky.out]; exact this
        · have hek:k=s.args:=by omega
          subst hek
          go_wp2
          go_ret
          refine ⟨gs',HJ.out,ρ',rk',Hup.out,Or.inl ⟨rfl,?_,?_,?_⟩⟩
          · rw [← Hs.out,← Ht.out]; exact Hnm.out
          · rw [← Hs.out,← Ht.out]; exact Har.out
          · rw [Hkx.out,Hky.out,← Har.out]; exact Hj.out
    · have hnb:(s.name != t.name)=false:=by rw [hnm]; simp
      have hab:((s.args:Int) != (t.args:Int))=true:=by rw [bne_iff_ne]; omega
      have Hd:=Zac har
      clear hnm har
      go_enter Tryz.func191,Tryz.ntmps191
      go_wp2
      all_goals
        go_ret
        exact Hno.out _ (((Qx _ w).alloc _).alloc _) (Or.inr Hd.out)
  · have hnb:(s.name == t.name)=false:=by simpa using hnm
    have Hd:=Zac hnm
    clear hnm
    go_enter Tryz.func191,Tryz.ntmps191
    go_wp2
    all_goals
      go_ret
      exact Hno.out _ (((Qx _ w).alloc _).alloc _) (Or.inl Hd.out)
theorem Yfi (m:Nat) (IH:∀ k,k<m→Zpp k):Zrk m:=by
  intro w gb v gs l ρ rk a b h hc hw hu hm ha hb hl
  have hrt:=hu.rt
  rw [Ql] at hrt
  have hx:=hrt.lt a ha
  have hy:=hrt.lt b hb
  have rx:=hrt.idem a ha
  have ry:=hrt.idem b hb
  obtain ⟨x,hxe⟩:∃ x,x=ρ a:=⟨_,rfl⟩
  obtain ⟨y,hye⟩:∃ y,y=ρ b:=⟨_,rfl⟩
  rw [← hxe] at hx rx
  rw [← hye] at hy ry
  obtain ⟨cx,hcx⟩:∃ c,gs[x]?=some c:=⟨_,Qb hx⟩
  obtain ⟨cy,hcy⟩:∃ c,gs[y]?=some c:=⟨_,Qb hy⟩
  obtain ⟨cb,cap,rfl,hcb,hcap,hne,hfz⟩:=h.shape (by omega)
  have b0:w.cell? ⟨gb,0,none⟩=some (.slice (some ⟨cb,0,none⟩) gs.length cap):=Zaa h.box 0 _ rfl
  have hgb:=Zab h.box
  have x4:=(h.cell hcx).2.2.2.2.1
  have y4:=(h.cell hcy).2.2.2.2.1
  obtain ⟨sx,_⟩:=hc.all x cx hcx
  obtain ⟨sy,_⟩:=hc.all y cy hcy
  have hlen:=hc.len
  rw [hlen] at hrt
  have hG:=Yjd hw
  have Hra:=Zac (Zgp w gb _ gs ρ rk a h hu ha hl)
  have Hrb:=Zac (Zgp w gb _ gs ρ rk b h hu hb hl)
  rw [← hxe] at Hra
  rw [← hye] at Hrb
  have HVx:=Zac (Zje w gb _ gs x cx h hcx hl)
  have hax:a<(grOf l).n:=by show a<l.length; omega
  have hbx:b<(grOf l).n:=by show b<l.length; omega
  have hul:∀ x y,x<gs.length→y<gs.length→ρ x=x→ρ y=y→x≠y→UpOk ((Zib gs x y).map GC.up) (mg ρ x y) (fun i=>if ρ i=x then rk i+rk y+1 else rk i):=fun x y h1 h2 h3 h4 h5=>by
    rw [Zyg]
    exact hu.turn (by simpa using h1) (by simpa using h2) h3 h4 h5
  have hro:∀ x y,x<gs.length→ρ x=x→x≠y→Zgx ((Zib gs x y).map GC.up)<Zgx (gs.map GC.up):=fun x y h1 h3 h5=>by
    rw [Zyg]
    obtain ⟨c',e1,e2,_⟩:=hu.root _ x _ (Qe _) (Qb (by simpa using h1))
    rw [h3] at e1 e2
    exact Zsw e1 e2 h5
  have hla:∀ (x y:Nat) c,gs[x]?=some c→GAt (w.setCell ⟨cb,x * 6+4,none⟩ (.int .i64 y)) gb (.slice (some ⟨cb,0,none⟩) gs.length cap) (Zib gs x y):=fun x y c h1=>h.put h1 (f:=fun c => { c with leader:=y }) (by omega) rfl
  have hsz:∀ x y,(Zib gs x y).map (·.size)=gs.map (·.size):=fun x y=>by
    apply List.ext_getElem?
    intro i
    rw [Qj,Qj,Zib,List.getElem?_modify]
    cases gs[i]? with
    | none=>rfl
    | some c=>simp; split <;> rfl
  have hkp:∀ i u,Kept (Zbn (.slice (some ⟨cb,0,none⟩) gs.length cap)) w (w.setCell ⟨cb,i,none⟩ u):=fun i u=>(Qx _ w).setCell (p:=⟨cb,i,none⟩) (fun _=>(rfl:some cb=some cb)) u
  have H:=Zac h
  have Hc:=Zac hc
  have Hw:=Zac hw
  have Hu:=Zac hu
  have Hm:=Zac hm
  have Hrt:=Zac hrt
  have HG:=Zac hG
  have Hih:=Zac IH
  have Hxe:=Zac hxe
  have Hye:=Zac hye
  have Hrx:=Zac rx
  have Hry:=Zac ry
  have Hcx:=Zac hcx
  have Hcy:=Zac hcy
  have Hul:=Zac hul
  have Hro:=Zac hro
  have Hla:=Zac hla
  have Hsz:=Zac hsz
  have Hkp:=Zac hkp
  have Hsx:=Zac sx
  have Hsy:=Zac sy
  clear h hc hw hu hm hrt hG IH hxe hye rx ry hcx hcy hul hro hla hsz hkp sx sy
  by_cases hxy:x=y
  · have hxy':((x:Int) == (y:Int))=true:=by rw [beq_iff_eq]; omega
    have Hxy:=Zac hxy
    clear hxy
    go_enter Tryz.func158,Tryz.ntmps158
    go_wp2_with fail
    refine Hra.out.mono ?_
    rintro e w1 ⟨rfl,rfl⟩
    go_wp2_with fail
    refine Hrb.out.mono ?_
    rintro e w1 ⟨rfl,rfl⟩
    go_wp2
    go_ret
    exact ⟨gs,⟨H.out,Hc.out,rfl,Qx _ _,Qe _⟩,ρ,rk,Hu.out,Or.inl ⟨rfl,Joined.same Hrt.out (Hxe.out.symm.trans (Hxy.out.trans Hye.out))⟩⟩
  · have hxy':((x:Int) == (y:Int))=false:=by rw [Qu]; omega
    have Hxy:=Zac hxy
    clear hxy
    by_cases hvx:cx.sym.name=[]
    · have hv:cx.sym.name.isEmpty=true:=by simpa using hvx
      rw [hv] at HVx
      go_enter Tryz.func158,Tryz.ntmps158
      go_wp2_with fail
      refine Hra.out.mono ?_
      rintro e w1 ⟨rfl,rfl⟩
      go_wp2_with fail
      refine Hrb.out.mono ?_
      rintro e w1 ⟨rfl,rfl⟩
      go_wp2_with fail
      refine HVx.out.mono ?_
      rintro e w1 ⟨rfl,rfl⟩
      go_wp2
      go_ret
      exact ⟨Zib gs x y,⟨Hla.out x y cx Hcx.out,Hc.out.lead _ _,Hsz.out _ _,Hkp.out _ _,Nat.le_of_lt (Hro.out x y hx Hrx.out Hxy.out)⟩,_,_,Hul.out x y hx hy Hrx.out Hry.out Hxy.out,
        Or.inl ⟨rfl,Joined.var Hrt.out hax hbx (Or.inl ⟨Hxe.out,Hye.out⟩) Hxy.out (by show (Zax l x).name=[]; rw [← Hsx.out]; exact hvx)⟩⟩
    · have hv:cx.sym.name.isEmpty=false:=by simpa using hvx
      rw [hv] at HVx
      obtain ⟨W1,hW1⟩:∃ W,W=w.setCell ⟨cb,y * 6+4,none⟩ (.int .i64 x):=⟨_,rfl⟩
      have hA1:=Hla.out y x cy Hcy.out
      rw [← hW1] at hA1
      have hyx:y≠x:=fun e=>Hxy.out e.symm
      have hcy1:(Zib gs y x)[y]?=some { cy with leader:=x }:=by
        rw [Zib,List.getElem?_modify,Hcy.out]; simp
      have HVy:=Zac (Zje W1 gb _ (Zib gs y x) y _ hA1 hcy1 (by rw [Zik]; exact hl))
      have HK1:Hid (Kept (Zbn (.slice (some ⟨cb,0,none⟩) gs.length cap)) w W1):=by rw [hW1]; exact Hkp.out _ _
      have HA1:=Zac hA1
      have HW1:=Zac hW1
      clear hA1 hW1 hcy1
      by_cases hvy:cy.sym.name=[]
      · have hv2:cy.sym.name.isEmpty=true:=by simpa using hvy
        rw [hv2] at HVy
        go_enter Tryz.func158,Tryz.ntmps158
        go_wp2_with fail
        refine Hra.out.mono ?_
        rintro e w1 ⟨rfl,rfl⟩
        go_wp2_with fail
        refine Hrb.out.mono ?_
        rintro e w1 ⟨rfl,rfl⟩
        go_wp2_with fail
        refine HVx.out.mono ?_
        rintro e w1 ⟨rfl,rfl⟩
        go_wp2_with fail
        rw [← HW1.out]
        refine HVy.out.mono ?_
        rintro e w2 ⟨rfl,rfl⟩
        go_wp2
        go_ret
        exact ⟨Zib gs y x,⟨HA1.out,Hc.out.lead _ _,Hsz.out _ _,HK1.out,Nat.le_of_lt (Hro.out y x hy Hry.out hyx)⟩,_,_,Hul.out y x hy hx Hry.out Hrx.out hyx,
          Or.inl ⟨rfl,Joined.var Hrt.out hax hbx (Or.inr ⟨Hye.out,Hxe.out⟩) hyx (by show (Zax l y).name=[]; rw [← Hsy.out]; exact hvy)⟩⟩
      · have hv2:cy.sym.name.isEmpty=false:=by simpa using hvy
        rw [hv2] at HVy
        have hro1:=Hro.out y x hy Hry.out hyx
        have HI:=Zac (Hih.out (Zgx ((Zib gs y x).map GC.up)) (by have:=Hm.out; omega) W1 gb (.slice (some ⟨cb,0,none⟩) gs.length cap) (Zib gs y x) l (mg ρ y x) _ x y HA1.out (Hc.out.lead _ _) Hw.out (Hul.out y x hy hx Hry.out Hrx.out hyx) (Qe _) (by rw [Zik]; exact hx) (by rw [Zik]; exact hy) (by rw [Zik]; exact hl))
        have Hnx:Hid ((Zax l x).name≠[]):=by show _≠_; rw [← Hsx.out]; exact hvx
        have Hny:Hid ((Zax l y).name≠[]):=by show _≠_; rw [← Hsy.out]; exact hvy
        have Hrl:=Zac hro1
        clear hvx hvy hro1
        go_enter Tryz.func158,Tryz.ntmps158
        go_wp2_with fail
        refine Hra.out.mono ?_
        rintro e w1 ⟨rfl,rfl⟩
        go_wp2_with fail
        refine Hrb.out.mono ?_
        rintro e w1 ⟨rfl,rfl⟩
        go_wp2_with fail
        refine HVx.out.mono ?_
        rintro e w1 ⟨rfl,rfl⟩
        go_wp2_with fail
        rw [← HW1.out]
        refine HVy.out.mono ?_
        rintro e w2 ⟨rfl,rfl⟩
        go_wp2_with fail
        refine HI.out.mono ?_
        rintro e w2 ⟨gs2,hJ2,ρ2,rk2,hup2,hres⟩
        have Hout:Hid (JoinLeft gb (.slice (some ⟨cb,0,none⟩) gs.length cap) gs l w1 w2 gs2):=⟨hJ2.at',hJ2.cells,hJ2.sizes.trans (Hsz.out _ _),HK1.out.trans hJ2.kept,Qq hJ2.roots (Nat.le_of_lt Hrl.out)⟩
        have Hup2:=Zac hup2
        clear hJ2 hup2
        rcases hres with ⟨rfl,h1,h2,h3⟩ | ⟨rfl,h1⟩
        · have Hj:Hid (Joined (grOf l) ρ ρ2 [a] [b]):=Joined.name HG.out Hrt.out hax hbx (Or.inr ⟨Hye.out,Hxe.out⟩) hyx Hny.out h1.symm h3.swap
          clear h1 h2 h3
          go_wp2
          go_ret
          exact ⟨gs2,Hout.out,ρ2,rk2,Hup2.out,Or.inl ⟨rfl,Hj.out⟩⟩
        · have Hcl:Hid (Clash (grOf l) ρ [a] [b]):=by
            by_cases hn:(Zax l x).name=(Zax l y).name
            · rcases h1 with h1 | h1 | h1
              · exact absurd hn h1
              · exact Zms HG.out Hrt.out hax hbx (Or.inr ⟨Hye.out,Hxe.out⟩) Hny.out Hnx.out (Or.inr (fun e=>h1 e.symm))
              · exact Zzh HG.out Hrt.out hax hbx (Or.inr ⟨Hye.out,Hxe.out⟩) Hny.out hn.symm h1.swap
            · exact Zms HG.out Hrt.out hax hbx (Or.inr ⟨Hye.out,Hxe.out⟩) Hny.out Hnx.out (Or.inl (fun e=>hn e.symm))
          clear h1
          go_wp2
          go_ret
          exact ⟨gs2,Hout.out,ρ2,rk2,Hup2.out,Or.inr ⟨rfl,Hcl.out⟩⟩
theorem Yje (m:Nat):Zrk m:=by
  induction m using Nat.strongRecOn with
  | _ m ih=>exact Yfi m (fun k hk=>Zvz k (ih k hk))
def Zgg (l:List Sym) (gs:List GC) (p:Nat):List GC:=gs.mapIdx (fun i c=>if p≤i then { c with behind:=Zbj l i } else c)
theorem Zgq (l:List Sym) (gs:List GC) (p i:Nat):(Zgg l gs p)[i]?=(gs[i]?).map (fun c=>if p≤i then { c with behind:=Zbj l i } else c):=by
 unfold Zgg; rw [List.getElem?_mapIdx]
theorem Zgh (l:List Sym) (gs:List GC) (p:Nat):(Zgg l gs p).length=gs.length:=by simp [Zgg]
theorem Yaz {l:List Sym} {gs:List GC} {p:Nat}:(Zgg l gs (p+1)).modify p (fun c => { c with behind:=Zbj l p })=Zgg l gs p:=by
 apply List.ext_getElem?
 intro i
 rw [List.getElem?_modify,Zgq,Zgq]
 cases gs[i]? with
 | none=>rfl
 | some c =>
  simp
  by_cases e:p=i
  ·subst e
   have h1:¬ p+1≤p:=by omega
   simp [h1]
  ·rw [if_neg e]
   by_cases h:p+1≤i
   ·rw [if_pos h,if_pos (by omega)]
   ·rw [if_neg h,if_neg (by omega)]
theorem Yfj (l:List Sym) (gs:List GC) (p:Nat) (h:gs.length≤p):Zgg l gs p=gs:=by
 apply List.ext_getElem?
 intro i
 rw [Zgq]
 cases hc:gs[i]? with
 | none=>rfl
 | some c =>
  have:=(Qa.1 hc).1
  simp
  omega
theorem Ztw (w:World) (gb:Nat) (v:Value) (gs:List GC) (l:List Sym) (h:GAt w gb v gs) (hlen:gs.length=l.length) (hs:∀ i c,gs[i]?=some c→c.sym=Zax l i) (hw:Wf 2 l) (hl:gs.length≤4000) :
  Calls Tryz.prog 188 #[.pointer (some ⟨gb,0,none⟩)] w fun e w'=>e = .returned (.tuple #[])∧GAt w' gb v (Zgg l gs 0)∧Kept (Zbn v) w w':=by
 have hpos:0<gs.length:=by have:=Zen hw; omega
 obtain ⟨cb,cap,rfl,hcb,hcap,hne,hfz⟩:=h.shape hpos
 have b0:w.cell? ⟨gb,0,none⟩=some (.slice (some ⟨cb,0,none⟩) gs.length cap):=Zaa h.box 0 _ rfl
 have hgb:=Zab h.box
 have H:=Zac h
 have Hs:=Zac hs
 have Hw:=Zac hw
 have Hlen:=Zac hlen
 clear h hs hw hlen
 go_enter Tryz.func188,Tryz.ntmps188
 go_wp2
 go_loopg [2] (gs.length+1) (fun gk iv wr=>∃ (p:Nat),iv = .int .i64 ((p:Int) - 1)∧p≤gs.length∧p<gk∧GAt wr gb (.slice (some ⟨cb,0,none⟩) gs.length cap) (Zgg l gs p)∧Kept (Zbn (.slice (some ⟨cb,0,none⟩) gs.length cap)) w wr)
 case atStart=>exact ⟨gs.length,rfl,Qe _,by omega,by rw [Yfj _ _ _ (Qe _)]; exact H.out,Qx _ _⟩
 case round =>
  obtain ⟨p,rfl,hp,hgk,hG,hkp⟩:=hrel
  have hsr:=hkp.size
  have b0:wr.cell? ⟨gb,0,none⟩=some (.slice (some ⟨cb,0,none⟩) gs.length cap):=Zaa hG.box 0 _ rfl
  have hgb':=Zab hG.box
  have hcb':cb<wr.heap.size:=by omega
  have hfz':∀ j,wr.frozen? ⟨cb,j,none⟩=false:=by
   obtain ⟨cb',cap',e,_,_,_,hf⟩:=hG.shape (by rw [Zgh]; exact hpos)
   simp at e
   obtain ⟨rfl,_⟩:=e
   exact hf
  have HG:=Zac hG
  have Hkp:=Zac hkp
  clear hG hkp
  cases p with
  | zero =>
   have hneg:¬ ((0:Int)≤((0:Nat):Int) - 1):=by omega
   go_wp2
   go_end0
   exact ⟨rfl,HG.out,Hkp.out⟩
  | succ p =>
   have hpi:(((p+1:Nat):Int) - 1)=(p:Int):=by omega
   have hpos':(0:Int)≤(p:Int):=by omega
   have hpl:p<gs.length:=by omega
   obtain ⟨c,hc⟩:∃ c,gs[p]?=some c:=⟨_,Qb hpl⟩
   have hcm:(Zgg l gs (p+1))[p]?=some c:=by rw [Zgq,hc]; simp; intro h; omega
   have hG':GAt wr gb (.slice (some ⟨cb,0,none⟩) (Zgg l gs (p+1)).length cap) (Zgg l gs (p+1)):=by rw [Zgh]; exact HG.out
   obtain ⟨_,_,c2,c3,_,_⟩:=hG'.cell hcm
   have hsy:=Hs.out p c hc
   have hlen:=Hlen.out
   obtain ⟨ex1,ex2,ex3⟩:=Zhu Hw.out (i:=p) (by omega)
   obtain ⟨_,_,_,_,_,hbx,_⟩:=Zfd Hw.out (i:=p) (by omega)
   rw [← hsy] at ex1 ex2 ex3
   have hkl:∀ k,k<c.sym.args→p<Zav l (p+1) k∧Zav l (p+1) k<gs.length:=fun k hk=>by
    have:=ex2 _ (Qh (Zcc l (p+1) _ k hk))
    omega
   have hargs:c.sym.args≤4000:=by
    rcases Nat.lt_or_ge 4000 c.sym.args with h3 | h3
    ·exfalso
     have mono:∀ k,k≤c.sym.args→p+1+k≤Zav l (p+1) k:=by
      intro k
      induction k with
      | zero=>intro _; simp [Zav]
      | succ k ih =>
       intro hk
       have:=ih (by omega)
       rw [Zcf]
       have:=hkl k (by omega)
       obtain ⟨_,_,_,_,h6,_⟩:=Zfd Hw.out (i:=Zav l (p+1) k) (by omega)
       omega
     have:=mono 4000 (by omega)
     have:=hkl 4000 h3
     omega
    ·exact h3
   have Hkl:=Zac hkl
   have Hex3:=Zac ex3
   have Hcm:=Zac hcm
   have Hg':=Zac hG'
   have Hbx:=Zac hbx
   clear hkl ex1 ex2 ex3 hcm hG' hbx hsy hc hlen
   obtain ⟨wo,hwo⟩:∃ x,x=wr:=⟨_,rfl⟩
   subst hwo
   rw [hpi]
   go_wp2
   go_loopg [3,4] (c.sym.args+1) (fun gk ev nv wr=>∃ (k:Nat),ev = .int .i64 (Zav l (p+1) k:Nat)∧nv = .int .i64 k∧k≤c.sym.args∧c.sym.args - k<gk∧wr=wo)
   case atStart=>exact ⟨0,by simp [Zav],by go_num,Qm _,by omega,rfl⟩
   case round =>
    obtain ⟨k,rfl,rfl,hk,hgk2,rfl⟩:=hrel
    by_cases hlt:k<c.sym.args
    ·obtain ⟨h1,h2⟩:=Hkl.out k hlt
     obtain ⟨q,hq⟩:∃ q,q=Zav l (p+1) k:=⟨_,rfl⟩
     rw [← hq] at h1 h2 ⊢
     obtain ⟨cq,hcq⟩:∃ c,(Zgg l gs (p+1))[q]?=some c:=⟨_,Qb (by rw [Zgh]; exact h2)⟩
     obtain ⟨_,_,_,q3,_,_⟩:=Hg'.out.cell hcq
     have hbq:cq.behind=Zbj l q:=by
      rw [Zgq] at hcq
      cases hd:gs[q]? with
      | none=>rw [hd] at hcq; simp at hcq
      | some d =>
       rw [hd] at hcq
       simp at hcq
       rw [if_pos (by omega)] at hcq
       rw [← hcq]
     rw [hbq] at q3
     have Hq:=Zac hq
     clear hcq hbq hq
     go_wp2
     go_roundg (c.sym.args - k)
     case measure=>omega
     case rel=>exact ⟨k+1,by rw [Zcf,← Hq.out],by go_num,by omega,by omega,rfl⟩
    ·have hek:k=c.sym.args:=by omega
     subst hek
     obtain ⟨q,hq⟩:∃ q,q=Zav l (p+1) c.sym.args:=⟨_,rfl⟩
     rw [← hq]
     have Hq:=Zac hq
     clear hq
     go_wp2
     go_roundg (p+1)
     case measure=>omega
     case rel =>
      refine ⟨p,by rfl,by omega,by omega,?_,Hkp.out.trans ((Qx _ wr).setCell (p:=⟨cb,p * 6+3,none⟩) (fun _=>(rfl:some cb=some cb)) _)⟩
      have:=Hg'.out.put Hcm.out (f:=fun c => { c with behind:=Zbj l p }) (j:=3) (u := .int .i64 (Zbj l p:Nat)) (by omega) rfl
      rw [Yaz,Zgh] at this
      rw [Hq.out,Hex3.out]
      exact this
theorem Tryz.infoGC:(Tryz.prog.info? 292).map (fun i=>(i.zero,i.size,i.bytes))=some (some (.agg #[.string ⟨#[]⟩,.int .i64 0,.int .i64 0,.int .i64 0,.int .i64 0,.int .i64 0]),6,56):=by kernel_rfl
def Zko (gs:List GC) (s:Sym):Nat:=gs.findIdx (fun c=>Zel c.sym s)
theorem Yba {gs:List GC} {s:Sym} {k:Nat} {c:GC} (hc:gs[k]?=some c) (h:Zel c.sym s=true) (hb:∀ i d,i<k→gs[i]?=some d→Zel d.sym s=false):Zko gs s=k:=by
 unfold Zko
 obtain ⟨hk,rfl⟩:=Qa.1 hc
 rw [List.findIdx_eq hk]
 exact ⟨h,fun j hj=>hb j _ hj (Qb (by omega))⟩
theorem Zwa {gs:List GC} {s:Sym} (hb:∀ i d,i<gs.length→gs[i]?=some d→Zel d.sym s=false):Zko gs s=gs.length:=by
 unfold Zko
 rw [List.findIdx_eq_length]
 intro c hc
 obtain ⟨i,hi,rfl⟩:=List.getElem_of_mem hc
 exact hb i _ hi (Qb hi)
theorem Yla {s:ByteArray} {a b c d e:Int}:∀ u ∈ (#[Value.string s,.int .i64 a,.int .i64 b,.int .i64 c,.int .i64 d,.int .i64 e]:Array Value).toList,u.oneCell'=true:=by
 intro u hu
 simp at hu
 rcases hu with rfl | rfl | rfl | rfl | rfl | rfl <;> rfl
def notV:Value→Value
 | .bool b => .bool (!b)
 | v=>v
theorem Zil {P:Program} {W w':World} {a:Act} {o:Oper} {v x' v':Value} (s x:Operand) (t:TypeId) (ho:o.op = .call { callee := .builtin .append,args:=#[s,x],argTypes:=#[t,t] }) (hs:a.eval s=v) (hx:a.eval x=x') (hr:(Builtin.append_ #[t,t] o.type #[v,x']).run P W = .ok v' w'):(execOp a.eval o).run P W = .ok (.value v') w':=by
 unfold execOp
 simp only [ho,resolve,invoke,builtin,Sem.run_bind,Sem.run_pure,Result.andThen_ok,List.map_toArray,List.map_cons,List.map_nil,hs,hx,hr]
def Yfk (gb:Nat) (v:Value) (gs:List GC) (s:Sym) (w w':World):Prop:=∃ v',GAt w' gb v' (gs++[⟨s,0,Zko gs s,0⟩])∧Kept (fun k=>k=gb∨Zbn v k) w w'∧∀ k,Zbn v' k→Zbn v k∨w.heap.size≤k
theorem Znq (w:World) (gb:Nat) (v:Value) (gs:List GC) (s:Sym) (h:GAt w gb v gs) (hl:gs.length≤4000) :
  Calls Tryz.prog 187 #[.pointer (some ⟨gb,0,none⟩),.agg #[.string ⟨s.name.toArray⟩,.int .i64 s.num,.int .i64 s.args]] w fun e w'=>e = .returned (.tuple #[])∧Yfk gb v gs s w w':=by
 obtain ⟨va,vcap,rfl⟩:=Zae h.owns
 have hgb:=Zab h.box
 have H:=Zac h
 clear h
 go_enter Tryz.func187,Tryz.ntmps187
 go_wp2
 go_loopg [4] (gs.length+1) (fun gk iv wr=>∃ (k:Nat),iv = .int .i64 k∧k≤gs.length∧gs.length - k<gk∧Ext w wr∧wr.heap[w.heap.size]?=some (.cells #[.string ⟨s.name.toArray⟩,.int .i64 s.num,.int .i64 s.args] 133 (0,0))∧∀ i d,i<k→gs[i]?=some d→Zel d.sym s=false)
 case atStart=>exact ⟨0,by go_num,Qm _,by omega,(Ext.of (by repeat' (first | with_reducible(first|exact Qx _ _|apply Kept.drew|apply Kept.drewN|apply Qz|refine Qy ?_ ?_ _)|exact fun h=>absurd h (by simp <;> omega)))),heap_alloc_new w _,fun i d h=>by omega⟩
 case round =>
  obtain ⟨k,rfl,hk,hgk,hext,hbox,hbef⟩:=hrel
  have hsr:=hext.size
  have hG:=H.out.ext hext
  have b0:wr.cell? ⟨gb,0,none⟩=some (.slice va gs.length vcap):=Zaa hG.box 0 _ rfl
  have hgb':=Zab hG.box
  obtain ⟨s0,s1,s2,sf⟩:=box3 hbox
  have hwb:=Zab hbox
  have gf:=fun i=>Zad hG.box i
  have HG:=Zac hG
  have Hext:=Zac hext
  have Hbox:=Zac hbox
  have Hbef:=Zac hbef
  clear hG hext hbox hbef
  have Hdone:Hid (∀ (u:World) (v':Value) (w2:World),Ext wr u→Zko gs s=k→Appended u 0 292 6 (.slice va gs.length vcap) (gs.length+1) (gcs gs++[.string ⟨s.name.toArray⟩,.int .i64 s.num,.int .i64 s.args,.int .i64 0,.int .i64 k,.int .i64 0]) v' w2→Yfk gb (.slice va gs.length vcap) gs s w (w2.setCell ⟨gb,0,none⟩ v')):=fun u v' w2 hu hpl hap=>by
   have hGu:=HG.out.ext hu
   have hsu:=hu.size
   have hblk:=(hap.kept.block gb (Zab hGu.box) (Zah hGu.owns (by decide) hGu.box)).trans hGu.box
   have hK:Kept (fun j=>j=gb) w2 (w2.setCell ⟨gb,0,none⟩ v'):=(Qx (only gb) w2).put 0 _
   refine ⟨v',⟨Zaf hblk 0 _,?_⟩,?_,fun j hj => ?_⟩
   ·have:=Zcu hap.owns hblk (by decide) hK
    rw [Yjc,hpl]
    simpa [gcV] using this
   ·have k1:Kept (fun k=>k=gb∨Zbn (.slice va gs.length vcap) k) w u:=(Kept.of_below (Hext.out.trans (hu.mono hsr))).mono (fun i hi h=>by omega)
    exact (k1.then hap.kept (fun i _ h=>Or.inr h)).then hK (fun i _ h=>Or.inl h)
   ·rcases hap.where_ with hw | ⟨g,hw,hg⟩
    ·exact Or.inl (hw.symm.trans hj)
    ·have:some g=some j:=hw.symm.trans hj
     simp at this
     exact Or.inr (by omega)
  by_cases hlt:k<gs.length
  ·obtain ⟨c,hc⟩:∃ c,gs[k]?=some c:=⟨_,Qb hlt⟩
   obtain ⟨cb,cap',he,hcb,hcap,_,_⟩:=HG.out.shape (by omega)
   simp only [Value.slice.injEq] at he
   obtain ⟨rfl,_,rfl⟩:=he
   obtain ⟨c0,c1,c2,_,_,_⟩:=HG.out.cell hc
   have HS:=Zac (Yay wr.drew c.sym s)
   have Hc:=Zac hc
   clear hc
   go_wp2_with fail
   refine Ztc (by kernel_rfl) [.pur (.int .i64 k),.pur (.pointer (some ⟨gb,0,none⟩)),.pur (.pointer (some ⟨gb,0,none⟩)),.pur (.pointer (some ⟨gb,0,none⟩)),.pur (.slice (some ⟨cb,0,none⟩) gs.length vcap),.pur (.int .i64 gs.length),.pur (.bool true),.pur (.bool true),
    .pur (.pointer (some ⟨gb,0,none⟩)),.pur (.pointer (some ⟨gb,0,none⟩)),.pur (.pointer (some ⟨gb,0,none⟩)),.pur (.slice (some ⟨cb,0,none⟩) gs.length vcap),.pur (.int .i64 k),.pur (.pointer (some ⟨cb,k * 6,none⟩)),.pur (.pointer (some ⟨cb,k * 6,none⟩)),.pur (.agg #[.string ⟨c.sym.name.toArray⟩,.int .i64 c.sym.num,.int .i64 c.sym.args]),.pur (.agg #[.string ⟨s.name.toArray⟩,.int .i64 s.num,.int .i64 s.args]),
    .cal,.post notV,.post notV] 17 20 (by kernel_rfl)
    (fun r u=>r = .bool (Zel c.sym s)∧Ext wr u) (fun r u=>r = .bool (Zel c.sym s)∧Ext wr u) 207
    #[.agg #[.string ⟨c.sym.name.toArray⟩,.int .i64 c.sym.num,.int .i64 c.sym.args],.agg #[.string ⟨s.name.toArray⟩,.int .i64 s.num,.int .i64 s.args]] ?_ ?_ rfl (by decide) (Or.inr ⟨by decide,fun _ _ h=>h⟩) ?_
   ·refine HS.out.mono ?_
    rintro e u ⟨rfl,he⟩
    exact ⟨_,rfl,rfl,he.undrew⟩
   ·refine ⟨fun vc => ?_,fun vc => ?_,fun vc => ?_,fun vc => ?_,fun vc => ?_,fun vc => ?_,fun vc => ?_,fun vc => ?_,fun vc => ?_,fun vc => ?_,fun vc => ?_,fun vc => ?_,fun vc => ?_,fun vc => ?_,fun vc => ?_,fun vc => ?_,fun vc => ?_,fun vc => ?_,?_,?_,trivial⟩
    all_goals try (simp [pa,Kd.val,go_sem,b0,s0,s1,s2,c0,c1,c2,hlt]; done)
    all_goals
     rintro vc u (⟨rfl,_⟩ | ⟨rfl,_⟩) <;> simp [pa,Kd.val,go_sem,notV]
   rintro vc u ⟨rfl,hu⟩
   simp only [paAll,pa,Kd.val,if_true,Act.put,notV]
   have hsu:=hu.size
   have hgu0:=HG.out.ext hu
   have hbu:=(hu.block _ hwb).trans Hbox.out
   obtain ⟨s0,s1,s2,sf⟩:=box3 hbu
   have b0:u.cell? ⟨gb,0,none⟩=some (.slice (some ⟨cb,0,none⟩) gs.length vcap):=Zaa hgu0.box 0 _ rfl
   have hgu:gb<u.heap.size:=Zab hgu0.box
   have HGu:Hid (GAt (u.drewN 1) gb (.slice (some ⟨cb,0,none⟩) gs.length vcap) gs):=hgu0.on (fun _ _=>rfl)
   have Hrow:Hid ((u.drewN 1).ownsRow 0 292 6 (.slice (some ⟨cb,0,none⟩) gs.length vcap) gs.length (gcs gs)):=HGu.out.owns
   have Hu:=Zac hu
   have Hbu:=Zac hbu
   clear hu hgu0 hbu c0 c1 c2
   cases hsv:Zel c.sym s with
   | false =>
    have Hsv:=Zac hsv
    clear hsv
    simp only [List.setIfInBounds_toArray,Bool.not_false,Bool.not_true,List.set_cons_succ,List.set_cons_zero]
    go_wp2
    go_roundg (gs.length - k)
    case measure=>omega
    case rel =>
     refine ⟨k+1,by go_num,by omega,by omega,Hext.out.trans (Hu.out.mono hsr),Hbu.out,fun i d hi hd => ?_⟩
     by_cases e:i=k
     ·subst e
      rw [Hc.out] at hd
      simp at hd
      subst hd
      exact Hsv.out
     ·exact Hbef.out i d (by omega) hd
   | true =>
    have Hpl:=Zac (Yba Hc.out hsv Hbef.out)
    clear hsv
    simp only [List.setIfInBounds_toArray,Bool.not_false,Bool.not_true,List.set_cons_succ,List.set_cons_zero]
    go_wp2_with fail
    have Hu':Hid (Ext wr u.drew):=Hu.out.trans ⟨rfl,rfl,rfl,Qe _,fun _ _=>rfl⟩
    have hwu:w.heap.size<u.heap.size:=by omega
    go_region_law (refine Zcs (u.drewN 1) rfl (.tmp 31) (.tmp 35) 264 rfl 0 292 Tryz.infoGC Tryz.underlying264 rfl (by decide) (.slice (some ⟨cb,0,none⟩) gs.length vcap) gs.length (gcs gs) rfl Hrow.out #[.string ⟨s.name.toArray⟩,.int .i64 s.num,.int .i64 s.args,.int .i64 0,.int .i64 k,.int .i64 0] rfl (by simp) rfl Yla (by omega) (Qm _) rfl ?_; intro v' w2 hap; obtain ⟨va2,vc2,rfl⟩:=Zae hap.owns; have hblk2:=(hap.kept.block gb hgu (Zah Hrow.out (by decide) HGu.out.box)).trans HGu.out.box; have d0:=Zaa hblk2 0 _ rfl; have df:=fun i=>Zad hblk2 i; have Hout:=Zac (Hdone.out (u.drewN 1) _ w2 Hu'.out Hpl.out (by simpa using hap)); clear hap hblk2)
    all_goals
     go_wp2
     go_end0
     exact ⟨rfl,Hout.out⟩
  ·have hek:k=gs.length:=by omega
   subst hek
   have hd:decide (((gs.length:Nat):Int)<((gs.length:Nat):Int))=false:=by simp
   have Hpl:=Zac (Zwa (fun i d hi hd'=>Hbef.out i d hi hd'))
   have HGu:Hid (∀ n,GAt (wr.drewN n) gb (.slice va gs.length vcap) gs):=fun n=>HG.out.on (fun _ _=>rfl)
   go_wp2_with fail
   go_quiet (fail)
   obtain ⟨u,hqu⟩:∃ u,u=wr.drewN nq:=⟨_,rfl⟩
   rw [← hqu]
   have b0:u.cell? ⟨gb,0,none⟩=some (.slice va gs.length vcap):=by rw [hqu]; exact b0
   have s0:u.cell? ⟨w.heap.size,0,none⟩=some (.string ⟨s.name.toArray⟩):=by rw [hqu]; exact s0
   have s1:u.cell? ⟨w.heap.size,1,none⟩=some (.int .i64 s.num):=by rw [hqu]; exact s1
   have s2:u.cell? ⟨w.heap.size,2,none⟩=some (.int .i64 s.args):=by rw [hqu]; exact s2
   have hgu:gb<u.heap.size:=by rw [hqu]; exact hgb'
   have hwu:w.heap.size<u.heap.size:=by rw [hqu]; exact hwb
   have HGu:Hid (GAt u.drew gb (.slice va gs.length vcap) gs):=by rw [hqu]; exact HGu.out (nq+1)
   have Hrow:Hid (u.drew.ownsRow 0 292 6 (.slice va gs.length vcap) gs.length (gcs gs)):=HGu.out.owns
   have Hu:Hid (Ext wr u):=by rw [hqu]; exact ⟨rfl,rfl,rfl,Qe _,fun _ _=>rfl⟩
   clear hqu
   go_wp2_with fail
   have Hu':Hid (Ext wr u.drew):=Hu.out.trans ⟨rfl,rfl,rfl,Qe _,fun _ _=>rfl⟩
   have hwu:w.heap.size<u.heap.size:=by omega
   go_region_law (refine Zcs u.drew rfl (.tmp 31) (.tmp 35) 264 rfl 0 292 Tryz.infoGC Tryz.underlying264 rfl (by decide) (.slice va gs.length vcap) gs.length (gcs gs) rfl Hrow.out #[.string ⟨s.name.toArray⟩,.int .i64 s.num,.int .i64 s.args,.int .i64 0,.int .i64 gs.length,.int .i64 0] rfl (by simp) rfl Yla (by omega) (Qm _) rfl ?_; intro v' w2 hap; obtain ⟨va2,vc2,rfl⟩:=Zae hap.owns; have hblk2:=(hap.kept.block gb hgu (Zah Hrow.out (by decide) HGu.out.box)).trans HGu.out.box; have d0:=Zaa hblk2 0 _ rfl; have df:=fun i=>Zad hblk2 i; have Hout:=Zac (Hdone.out u.drew _ w2 Hu'.out Hpl.out (by simpa using hap)); clear hap hblk2)
   all_goals
    go_wp2
    go_end0
    exact ⟨rfl,Hout.out⟩
def Zea (l:List Sym):List GC:=(List.range l.length).map (fun i=>⟨Zax l i,0,Zbg l i,0⟩)
theorem Zbs (l:List Sym):(Zea l).length=l.length:=by simp [Zea]
theorem Zgr {l:List Sym} {i:Nat} (h:i<l.length):(Zea l)[i]?=some ⟨Zax l i,0,Zbg l i,0⟩:=by
 simp [Zea,h]
theorem Ybb (l:List Sym):(Zea l).map GC.sym=l:=by
 apply List.ext_getElem?
 intro i
 rw [Qj]
 by_cases h:i<l.length
 ·rw [Zgr h]; simp [Zax,h]
 ·rw [List.getElem?_eq_none (by rw [Zbs]; omega),List.getElem?_eq_none (by omega)]; rfl
theorem Zpr {l:List Sym} {i:Nat} (r:List Sym) (h:i<l.length):Zax (l++r) i=Zax l i:=by
 simp [Zax,List.getD_eq_getElem?_getD,Qc h]
theorem Ztx {l:List Sym} {i:Nat} (s:Sym) (h:i<l.length):Zbg (l++[s]) i=Zbg l i:=by
 unfold Zbg
 rw [Zpr _ h]
 split
 ·rename_i hn
  rw [List.findIdx_append,if_pos]
  rw [List.findIdx_lt_length]
  refine ⟨Zax l i,?_,by simp [hn]⟩
  simp only [Zax,List.getD_eq_getElem?_getD,Qb h,Option.getD_some]
  exact List.getElem_mem h
 ·rfl
theorem Zty (l:List Sym) (s:Sym):Zbg (l++[s]) l.length=Zko (Zea l) s:=by
 have h1:Zko (Zea l) s=l.findIdx (fun t=>Zel t s):=by
  have:=List.findIdx_map (Zea l) GC.sym (fun t=>Zel t s)
  rw [Ybb] at this
  exact this.symm
 have h2:Zax (l++[s]) l.length=s:=by simp [Zax]
 rw [h1]
 unfold Zbg
 rw [h2]
 split
 ·rename_i hn
  have hp:(fun t:Sym=>Zel t s)=(fun t=>t.name.isEmpty && t.num == s.num):=by
   funext t; simp [Zel,hn]
  rw [hp,List.findIdx_append]
  split
  ·rfl
  ·rename_i hh
   have:=List.findIdx_le_length (p:=fun t:Sym=>t.name.isEmpty && t.num == s.num) (xs:=l)
   have h0:[s].findIdx (fun t:Sym=>t.name.isEmpty && t.num == s.num)=0:=by simp [List.findIdx_cons,hn]
   omega
 ·rename_i hn
  refine (List.findIdx_eq_length.2 ?_).symm
  intro t _
  have:s.name.isEmpty=false:=by
   cases h:s.name with
   | nil=>exact absurd h hn
   | cons _ _=>rfl
  simp [Zel,this]
theorem Ybc (l:List Sym) (s:Sym):Zea (l++[s])=Zea l++[⟨s,0,Zko (Zea l) s,0⟩]:=by
 apply List.ext_getElem?
 intro i
 by_cases h:i<l.length
 ·rw [Qc (by rw [Zbs]; exact h),Zgr h,Zgr (by simp; omega),Zpr _ h,Ztx _ h]
 ·by_cases e:i=l.length
  ·subst e
   rw [Zgr (by simp),Qd (by rw [Zbs]; omega),Zbs,Zty]
   simp [Zax]
  ·rw [List.getElem?_eq_none (by rw [Zbs]; simp; omega),List.getElem?_eq_none (by simp [Zbs]; omega)]
def LayAt (w:World) (l:List Sym) (wr:World):Prop:=∃ v,GAt wr (w.heap.size+1) v (Zea l)∧Ext w wr∧(∀ j,Zbn v j→w.heap.size≤j)∧wr.heap[w.heap.size]?=some (.cells #[.slice none 0 0] 266 (0,0))
theorem LayAt.add {w wr w1:World} {l:List Sym} {s:Sym} {v:Value} (h1:GAt wr (w.heap.size+1) v (Zea l)) (h2:Ext w wr) (h3:∀ j,Zbn v j→w.heap.size≤j) (h4:wr.heap[w.heap.size]?=some (.cells #[.slice none 0 0] 266 (0,0))) (ha:Yfk (w.heap.size+1) v (Zea l) s wr w1):LayAt w (l++[s]) w1:=by
 obtain ⟨v',g1,g2,g3⟩:=ha
 have hs:=h2.size
 refine ⟨v',by rw [Ybc]; exact g1,h2.trans (g2.below hs (fun k hk => ?_)),fun j hj => ?_,(g2.block _ (Zab h4) ?_).trans h4⟩
 ·rcases hk with rfl | hk
  ·omega
  ·exact h3 k hk
 ·rcases g3 j hj with h | h
  ·exact h3 j h
  ·omega
 ·rintro (h | h)
  ·omega
  ·exact Zah h1.owns (by decide) h4 h
def LaidG (w:World) (l:List Sym) (e:Ending) (w':World):Prop:=∃ v,e = .returned (.agg #[v])∧w'.ownsRow 0 292 6 v l.length (gcs (Zgg l (Zea l) 0))∧Ext w w'∧∀ j,Zbn v j→w.heap.size≤j
theorem Ybd (w:World) (v1 v2:Value) (a b:List Sym) (h1:w.ownsRow 0 133 3 v1 a.length (Zaj a)) (h2:w.ownsRow 0 133 3 v2 b.length (Zaj b)) (ha:Wf 1 a) (hb:Wf 1 b) (hal:a.length≤1000) (hbl:b.length≤1000) :
  Calls Tryz.prog 157 #[v1,v2] w (LaidG w (a++b)):=by
 have hapos:=Zen ha
 have hbpos:=Zen hb
 obtain ⟨g1,cap1,cur1,rfl,_,hg1,hc1⟩:=Zao h1 (by omega)
 obtain ⟨g2,cap2,cur2,rfl,_,hg2,hc2⟩:=Zao h2 (by omega)
 have hgl1:=Zab hg1
 have hgl2:=Zab hg2
 have H1:=Zac h1
 have H2:=Zac h2
 have Ha:=Zac ha
 have Hb:=Zac hb
 clear h1 h2 ha hb hg1 hg2
 go_enter Tryz.func157,Tryz.ntmps157
 go_wp2
 go_loopg [12] (a.length+1) (fun gk iv wr=>∃ (k:Nat),iv = .int .i64 k∧k≤a.length∧a.length - k<gk∧LayAt w (a.take k) wr)
 case atStart=>exact ⟨0,by go_num,Qm _,by omega,.slice none 0 0,⟨by have:=heap_alloc_new (w.alloc (.cells #[.slice none 0 0] 266)) (.cells #[.slice none 0 0] 266); simpa using this,World.ownsRow_nil _ _ _ _⟩,(Ext.of (by repeat' (first | with_reducible(first|exact Qx _ _|apply Kept.drew|apply Kept.drewN|apply Qz|refine Qy ?_ ?_ _)|exact fun h=>absurd h (by simp <;> omega)))),fun j hj=>by simp [Zbn,Value.ownBlock] at hj,(Below.heap_alloc _ _ _ (by simp)).trans (heap_alloc_new w _)⟩
 case round =>
  obtain ⟨k,rfl,hk,hgk,hL⟩:=hrel
  obtain ⟨v,hG,hext,hown,hblk⟩:=hL
  have hsr:=hext.size
  have hgb:=Zab hG.box
  have HG:=Zac hG
  have Hext:=Zac hext
  have Hown:=Zac hown
  have Hblk:=Zac hblk
  clear hG hext hown hblk
  by_cases hlt:k<a.length
  ·obtain ⟨s,hs⟩:∃ s,a[k]?=some s:=⟨_,Qb hlt⟩
   have ho:=Zai H1.out (fun j hj=>Hext.out.block j (H1.out.lt j hj).2)
   have hgr:g1<wr.heap.size:=by omega
   have e0:wr.cell? ⟨g1,k * 3,none⟩=some (.string ⟨s.name.toArray⟩):=Zag ho _ _ (by have:=Zba a k s hs 0 (by omega); rw [Nat.add_zero] at this; rw [this]; rfl)
   have e1:wr.cell? ⟨g1,k * 3+1,none⟩=some (.int .i64 s.num):=Zag ho _ _ (by rw [Zba a k s hs 1 (by omega)]; rfl)
   have e2:wr.cell? ⟨g1,k * 3+2,none⟩=some (.int .i64 s.args):=Zag ho _ _ (by rw [Zba a k s hs 2 (by omega)]; rfl)
   have hnx:a.take (k+1)=a.take k++[s]:=by rw [List.take_add_one,hs]; rfl
   have Hnx:=Zac hnx
   clear hs ho hnx
   go_wp2_with fail
   have hE:Ext wr (wr.alloc (.cells #[.string ⟨s.name.toArray⟩,.int .i64 s.num,.int .i64 s.args] 133)):=(Ext.of (by repeat' (first | with_reducible(first|exact Qx _ _|apply Kept.drew|apply Kept.drewN|apply Qz|refine Qy ?_ ?_ _)|exact fun h=>absurd h (by simp <;> omega))))
   refine (Znq _ (w.heap.size+1) v (Zea (a.take k)) s (HG.out.ext hE) (by rw [Zbs]; simp; omega)).mono ?_
   rintro e w1 ⟨rfl,hout⟩
   have hL1:=LayAt.add (HG.out.ext hE) (Hext.out.trans (hE.mono hsr)) Hown.out ((hE.block _ (Zab Hblk.out)).trans Hblk.out) hout
   have HL1:=Zac hL1
   clear hout hL1 hE
   go_wp2
   go_roundg (a.length - k)
   case measure=>omega
   case rel=>exact ⟨k+1,by go_num,by omega,by omega,by rw [Hnx.out]; exact HL1.out⟩
  ·have hek:k=a.length:=by omega
   subst hek
   rw [List.take_length] at HG
   have HLa:Hid (LayAt w a wr):=⟨v,HG.out,Hext.out,Hown.out,Hblk.out⟩
   clear HG Hext Hown Hblk
   go_wp2
   go_loopg [21] (b.length+1) (fun gk iv wr=>∃ (k:Nat),iv = .int .i64 k∧k≤b.length∧b.length - k<gk∧LayAt w ((a++b.take k)) wr)
   case atStart=>exact ⟨0,by go_num,Qm _,by omega,by have:=HLa.out; simpa using this⟩
   case round =>
    obtain ⟨k,rfl,hk,hgk,hL⟩:=hrel
    obtain ⟨v,hG,hext,hown,hblk⟩:=hL
    have hsr:=hext.size
    have hgb:=Zab hG.box
    have HG:=Zac hG
    have Hext:=Zac hext
    have Hown:=Zac hown
    have Hblk:=Zac hblk
    clear hG hext hown hblk
    by_cases hlt:k<b.length
    ·obtain ⟨s,hs⟩:∃ s,b[k]?=some s:=⟨_,Qb hlt⟩
     have ho:=Zai H2.out (fun j hj=>Hext.out.block j (H2.out.lt j hj).2)
     have hgr:g2<wr.heap.size:=by omega
     have e0:wr.cell? ⟨g2,k * 3,none⟩=some (.string ⟨s.name.toArray⟩):=Zag ho _ _ (by have:=Zba b k s hs 0 (by omega); rw [Nat.add_zero] at this; rw [this]; rfl)
     have e1:wr.cell? ⟨g2,k * 3+1,none⟩=some (.int .i64 s.num):=Zag ho _ _ (by rw [Zba b k s hs 1 (by omega)]; rfl)
     have e2:wr.cell? ⟨g2,k * 3+2,none⟩=some (.int .i64 s.args):=Zag ho _ _ (by rw [Zba b k s hs 2 (by omega)]; rfl)
     have hnx:b.take (k+1)=b.take k++[s]:=by rw [List.take_add_one,hs]; rfl
     have Hnx:=Zac hnx
     clear hs ho hnx
     go_wp2_with fail
     have hE:Ext wr (wr.alloc (.cells #[.string ⟨s.name.toArray⟩,.int .i64 s.num,.int .i64 s.args] 133)):=(Ext.of (by repeat' (first | with_reducible(first|exact Qx _ _|apply Kept.drew|apply Kept.drewN|apply Qz|refine Qy ?_ ?_ _)|exact fun h=>absurd h (by simp <;> omega))))
     refine (Znq _ (w.heap.size+1) v (Zea ((a++b.take k))) s (HG.out.ext hE) (by rw [Zbs]; simp; omega)).mono ?_
     rintro e w1 ⟨rfl,hout⟩
     have hL1:=LayAt.add (HG.out.ext hE) (Hext.out.trans (hE.mono hsr)) Hown.out ((hE.block _ (Zab Hblk.out)).trans Hblk.out) hout
     have HL1:=Zac hL1
     clear hout hL1 hE
     go_wp2
     go_roundg (b.length - k)
     case measure=>omega
     case rel=>exact ⟨k+1,by go_num,by omega,by omega,by rw [Hnx.out,← Qi]; exact HL1.out⟩
    ·have hek:k=b.length:=by omega
     subst hek
     rw [List.take_length] at HG
     obtain ⟨cb,cap,rfl,hcb,hcap,hne,hfz⟩:=HG.out.shape (by rw [Zbs]; simp; omega)
     have HG2:=Zac HG.out
     have hll:(Zea (a++b)).length=a.length+b.length:=by rw [Zbs]; simp
     have Hll:=Zac hll
     clear hll
     go_wp2_with fail
     refine (Ztw wr (w.heap.size+1) _ (Zea (a++b)) (a++b) HG.out (Zbs _) (fun i c hc => ?_) (Zfy Ha.out Hb.out) (by rw [Zbs]; simp; omega)).mono ?_
     ·have hi:=(Qa.1 hc).1
      rw [Zbs] at hi
      rw [Zgr hi] at hc
      simp at hc
      rw [← hc]
     rintro e w1 ⟨rfl,hG1,hk1⟩
     have hblk1:=(hk1.block _ (Zab Hblk.out) (Zah HG2.out.owns (by decide) Hblk.out)).trans Hblk.out
     have b1:w1.cell? ⟨w.heap.size+1,0,none⟩=some (.slice (some ⟨cb,0,none⟩) (Zea (a++b)).length cap):=Zaa hG1.box 0 _ rfl
     have b2:w1.cell? ⟨w.heap.size,0,none⟩=some (.slice none 0 0):=Zaa hblk1 0 _ rfl
     have bf:=fun i=>Zad hblk1 i
     have hs1:=hk1.size
     have HG1:=Zac hG1
     have Hk1:=Zac hk1
     have Hblk1:=Zac hblk1
     clear hG1 hk1 hblk1
     go_wp2
     have hK:Kept (fun j=>j=w.heap.size) w1 (w1.setCell ⟨w.heap.size,0,none⟩ (.slice (some ⟨cb,0,none⟩) (Zea (a++b)).length cap)):=(Qx (only w.heap.size) w1).put 0 _
     have h0:(w1.setCell ⟨w.heap.size,0,none⟩ (.slice (some ⟨cb,0,none⟩) (Zea (a++b)).length cap)).cell? ⟨w.heap.size,0,none⟩=some (.slice (some ⟨cb,0,none⟩) (Zea (a++b)).length cap):=Zaa (Zaf Hblk1.out 0 _) 0 _ rfl
     refine bodyPost_ret (v := .agg #[.slice (some ⟨cb,0,none⟩) (Zea (a++b)).length cap]) (by simp [results,Tryz.results157,go_sem,h0]) rfl ⟨_,rfl,?_,?_,Hown.out⟩
     ·have:=Zcu HG1.out.owns Hblk1.out (by decide) hK
      rw [Zgh,Zbs] at this
      rw [Zbs]
      exact this
     ·exact (Hext.out.trans (Hk1.out.below hsr Hown.out)).trans (hK.below (by omega) (fun k hk=>by omega))
def sz (gs:List GC) (f:Nat→Int):List GC:=gs.mapIdx (fun i c => { c with size:=f i })
def upd (f:Nat→Int) (x:Nat) (u:Int):Nat→Int:=fun j=>if j=x then u else f j
theorem Zew (gs:List GC) (f:Nat→Int):(sz gs f).length=gs.length:=by simp [sz]
theorem Ztz {gs:List GC} {f:Nat→Int} {i:Nat} {c:GC} (h:gs[i]?=some c):(sz gs f)[i]?=some { c with size:=f i }:=by
 unfold sz; rw [List.getElem?_mapIdx,h]; rfl
theorem Yoh (gs:List GC) (f:Nat→Int):(sz gs f).map GC.up=gs.map GC.up:=by
 apply List.ext_getElem?
 intro i
 rw [Qj,Qj]
 cases h:gs[i]? with
 | none=>rw [List.getElem?_eq_none (by rw [Zew]; exact List.getElem?_eq_none_iff.1 h)]
 | some c=>rw [Ztz h]; rfl
theorem Ylb (gs:List GC) (f:Nat→Int) (x:Nat) (u:Int):(sz gs f).modify x (fun c => { c with size:=u })=sz gs (upd f x u):=by
 apply List.ext_getElem?
 intro i
 rw [List.getElem?_modify]
 cases h:gs[i]? with
 | none =>
  rw [List.getElem?_eq_none (by rw [Zew]; exact List.getElem?_eq_none_iff.1 h),List.getElem?_eq_none (by rw [Zew]; exact List.getElem?_eq_none_iff.1 h)]; rfl
 | some c =>
  rw [Ztz h,Ztz h]
  by_cases e:x=i
  ·subst e; simp [upd]
  ·have e':¬ i=x:=fun h=>e h.symm
   simp [e,upd,e']
def Zhj:Nat→(Nat→Int)→Nat
 | 0,_=>0
 | n+1,f=>Zhj n f+if f n=0 then 1 else 0
theorem Zps (f:Nat→Int) (x:Nat) {u:Int} (hu:u≠0):∀ n,Zhj n (upd f x u)≤Zhj n f∧(x<n→f x=0→Zhj n (upd f x u)<Zhj n f):=by
 intro n
 induction n with
 | zero=>exact ⟨Qe _,fun h=>by omega⟩
 | succ n ih =>
  obtain ⟨h1,h2⟩:=ih
  by_cases e:n=x
  ·subst e
   have:upd f n u n=u:=by simp [upd]
   simp only [Zhj,this,if_neg hu]
   refine ⟨by omega,fun _ h => ?_⟩
   rw [if_pos h]; omega
  ·have:upd f x u n=f n:=by simp [upd,e]
   simp only [Zhj,this]
   exact ⟨by omega,fun h h0=>by have:=h2 (by omega) h0; omega⟩
def dnF (n:Nat) (f:Nat→Int) (j:Nat):Prop:=j<n∧0<f j
def Yfl (n:Nat) (f:Nat→Int) (T:Nat→List Sym):Prop:=∀ j,j<n→f j=0∨f j = -1∨(0<f j∧f j=((min 31 (T j).length:Nat):Int))
def sumM (T:Nat→List Sym) (ρ:Nat→Nat) (ks:List Nat):Nat:=(ks.map (fun k=>min 31 (T (ρ k)).length)).sum
theorem Ymr (T:Nat→List Sym) (ρ:Nat→Nat) (ks:List Nat):sumM T ρ ks≤31 * ks.length:=by
 induction ks with
 | nil=>simp [sumM]
 | cons k ks ih=>simp only [sumM,List.map_cons,List.sum_cons,Qf] at ih ⊢; omega
theorem Yfm (T:Nat→List Sym) (ρ:Nat→Nat) (ks:List Nat) (k:Nat):sumM T ρ (ks++[k])=sumM T ρ ks+min 31 (T (ρ k)).length:=by simp [sumM]
theorem Ybe {T T':Nat→List Sym} {ρ:Nat→Nat} {ks:List Nat} (h:∀ k ∈ ks,T' (ρ k)=T (ρ k)):sumM T' ρ ks=sumM T ρ ks:=by
 unfold sumM; congr 1; exact List.map_congr_left (fun k hk=>by rw [h k hk])
theorem Yjf (T:Nat→List Sym) (ρ:Nat→Nat) (ks:List Nat):min 31 (1+sumM T ρ ks)=min 31 (1+((ks.map (fun k=>T (ρ k))).flatten).length):=by
 induction ks with
 | nil=>rfl
 | cons k ks ih=>simp only [sumM,List.map_cons,List.sum_cons,List.flatten_cons,Qg] at ih ⊢; omega
theorem Zwb {l:List Sym} {n i:Nat} (hw:Wf n l) (hi:i<l.length):(Zax l i).args≤l.length:=by
 obtain ⟨_,e2,_⟩:=Zhu hw hi
 obtain ⟨_,_,_,_,_,hb,_⟩:=Zfd hw hi
 have hkl:∀ k,k<(Zax l i).args→i<Zav l (i+1) k∧Zav l (i+1) k<l.length:=fun k hk=>by
  have:=e2 _ (Qh (Zcc l (i+1) _ k hk))
  omega
 have mono:∀ k,k≤(Zax l i).args→i+1+k≤Zav l (i+1) k:=by
  intro k
  induction k with
  | zero=>intro _; simp [Zav]
  | succ k ih =>
   intro hk
   have:=ih (by omega)
   rw [Zcf]
   have:=hkl k (by omega)
   obtain ⟨_,_,_,_,h6,_⟩:=Zfd hw (i:=Zav l (i+1) k) (by omega)
   omega
 rcases Nat.lt_or_ge l.length (Zax l i).args with h | h
 ·exfalso
  have:=mono l.length (by omega)
  have:=hkl l.length h
  omega
 ·exact h
def Yfn (gb:Nat) (v:Value) (gs:List GC) (l:List Sym) (ρ:Nat→Nat) (f:Nat→Int) (T:Nat→List Sym) (i:Nat) (w:World) (e:Ending) (w':World):Prop:=∃ f',GAt w' gb v (sz gs f')∧Kept (Zbn v) w w' ∧
 ((∃ T',e = .returned (.int .i64 ((min 31 (T' (ρ i)).length:Nat):Int))∧Yfl gs.length f' T'∧Zhj gs.length f'≤Zhj gs.length f∧Known (grOf l) ρ (dnF gs.length f') T'∧dnF gs.length f' (ρ i)∧(∀ j,f' j = -1↔f j = -1)∧(∀ j,dnF gs.length f j→dnF gs.length f' j∧T' j=T j)) ∨
  (e = .returned (.int .i64 (-1))∧Stuck (grOf l) ρ (fun r=>f r = -1) i))
def Zrl (m:Nat):Prop:=∀ (w:World) (gb:Nat) (v:Value) (gs:List GC) (l:List Sym) (ρ rk:Nat→Nat) (f:Nat→Int) (T:Nat→List Sym) (i:Nat),GAt w gb v (sz gs f)→CellsOf gs l→Wf 2 l→UpOk (gs.map GC.up) ρ rk→Yfl gs.length f T→Zhj gs.length f≤m→i<gs.length→gs.length≤4000→Known (grOf l) ρ (dnF gs.length f) T →
 Calls Tryz.prog 159 #[.pointer (some ⟨gb,0,none⟩),.int .i64 i] w (Yfn gb v gs l ρ f T i w)
theorem Yfo (m:Nat) (IH:∀ k,k<m→Zrl k):Zrl m:=by
 intro w gb v gs l ρ rk f T i h hc hw hu hS hm hi hl hK
 have hrt:=hu.rt
 have hx:=hrt.lt i (by simpa using hi)
 have rx:=hrt.idem i (by simpa using hi)
 rw [Ql] at hx
 obtain ⟨x,hxe⟩:∃ x,x=ρ i:=⟨_,rfl⟩
 rw [← hxe] at hx rx
 obtain ⟨cb,cap,rfl,hcb,hcap,hne,hfz⟩:=h.shape (by rw [Zew]; omega)
 have hszl:(sz gs f).length=gs.length:=Zew gs f
 rw [hszl] at h hcap ⊢
 obtain ⟨cx,hcx⟩:∃ c,gs[x]?=some c:=⟨_,Qb hx⟩
 obtain ⟨hsy,hbe⟩:=hc.all x cx hcx
 have Hr:=Zac (Zgp w gb (.slice (some ⟨cb,0,none⟩) gs.length cap) (sz gs f) ρ rk i h (by rw [Yoh]; exact hu) (by rw [Zew]; exact hi) (by rw [Zew]; exact hl))
 rw [← hxe] at Hr
 have hgat:∀ f' w',GAt w' gb (.slice (some ⟨cb,0,none⟩) gs.length cap) (sz gs f')→∀ j c,gs[j]?=some c→w'.cell? ⟨cb,j * 6+2,none⟩=some (.int .i64 c.sym.args)∧w'.cell? ⟨cb,j * 6+3,none⟩=some (.int .i64 c.behind)∧w'.cell? ⟨cb,j * 6+5,none⟩=some (.int .i64 (f' j)):=fun f' w' hg j c hj=>by
  have hg':GAt w' gb (.slice (some ⟨cb,0,none⟩) (sz gs f').length cap) (sz gs f'):=by rw [Zew]; exact hg
  obtain ⟨_,_,c2,c3,_,c5⟩:=hg'.cell (Ztz (f:=f') hj)
  exact ⟨c2,c3,c5⟩
 have Hgat:=Zac hgat
 have b0:w.cell? ⟨gb,0,none⟩=some (.slice (some ⟨cb,0,none⟩) gs.length cap):=Zaa h.box 0 _ rfl
 have hgb:=Zab h.box
 obtain ⟨x2,x3,x5⟩:=hgat f w h x cx hcx
 have hcase:=hS x hx
 have harg:cx.sym.args≤4000:=by
  have:=Zwb hw (i:=x) (by rw [← hc.len]; exact hx)
  rw [← hsy,← hc.len] at this
  omega
 have H:=Zac h
 have Hu:=Zac hu
 have Hc:=Zac hc
 have Hw:=Zac hw
 have HS:=Zac hS
 have Hm:=Zac hm
 have HK:=Zac hK
 have Hih:=Zac IH
 have Hxe:=Zac hxe
 have Hrx:=Zac rx
 have Hcx:=Zac hcx
 have Hsy:=Zac hsy
 clear h hu hc hw hS hm hK IH hxe rx hcx hsy hrt hgat hbe hszl
 rcases hcase with h0 | h0 | ⟨h0,h00⟩
 ·have H0:=Zac h0
  rw [h0] at x5
  clear h0
  go_enter Tryz.func159,Tryz.ntmps159
  go_wp2_with fail
  refine Hr.out.mono ?_
  rintro e w1 ⟨rfl,rfl⟩
  go_wp2
  obtain ⟨KS,hKS⟩:∃ K,K=Zbd l (x+1) cx.sym.args:=⟨_,rfl⟩
  have HKS:=Zac hKS
  have hKl:KS.length=cx.sym.args:=by rw [hKS,Zde]
  have HKl:=Zac hKl
  have Hkids:Hid ((grOf l).kids x=KS):=by show Zbd l (x+1) (Zax l x).args=KS; rw [hKS,← Hsy.out]
  have hkat:∀ k,k<cx.sym.args→KS[k]?=some (Zav l (x+1) k):=fun k hk=>by rw [hKS]; exact Zcc l (x+1) _ k hk
  have hknx:∀ k,k<cx.sym.args→Zav l (x+1) k<gs.length:=fun k hk=>by
   have hxl:x<l.length:=by rw [← Hc.out.len]; exact hx
   obtain ⟨_,ex2,_⟩:=Zhu Hw.out hxl
   obtain ⟨_,_,_,_,_,hbx,_⟩:=Zfd Hw.out hxl
   have:=ex2 _ (Qh (by rw [← Hsy.out]; exact Zcc l (x+1) _ k hk))
   have:=Hc.out.len
   omega
  have Hkat:=Zac hkat
  have Hknx:=Zac hknx
  clear hKS hKl hkat hknx
  go_loopg [6,7,8] (cx.sym.args+1) (fun gk tv av nv wr=>∃ (k:Nat) (f':Nat→Int) (T':Nat→List Sym),tv = .int .i64 ((1+sumM T' ρ (KS.take k):Nat):Int)∧av = .int .i64 (Zav l (x+1) k:Nat)∧nv = .int .i64 k∧k≤cx.sym.args∧cx.sym.args - k<gk∧GAt wr gb (.slice (some ⟨cb,0,none⟩) gs.length cap) (sz gs f')∧Kept (Zbn (.slice (some ⟨cb,0,none⟩) gs.length cap)) w1 wr ∧
    Yfl gs.length f' T'∧Zhj gs.length f'<Zhj gs.length f∧Known (grOf l) ρ (dnF gs.length f') T'∧(∀ j ∈ KS.take k,dnF gs.length f' (ρ j))∧(∀ j,f' j = -1↔f j = -1∨j=x)∧(∀ j,dnF gs.length f j→dnF gs.length f' j∧T' j=T j))
  case atStart =>
   have hon:∀ j,upd f x (-1) j = -1↔f j = -1∨j=x:=fun j=>by
    unfold upd
    by_cases e:j=x
    ·simp [e]
    ·simp [e]
   have hdn:∀ j,dnF gs.length (upd f x (-1)) j↔dnF gs.length f j:=fun j=>by
    unfold dnF upd
    by_cases e:j=x
    ·subst e; simp [H0.out]
    ·simp [e]
   refine ⟨0,upd f x (-1),T,by simp [sumM],by simp [Zav],by go_num,Qm _,by omega,?_,(Qx _ w1).setCell (p:=⟨cb,x * 6+5,none⟩) (fun _=>(rfl:some cb=some cb)) _,?_,(Zps f x (by omega) gs.length).2 hx H0.out,HK.out.congr hdn (fun _ _=>rfl),by simp,hon,fun j hj=>⟨(hdn j).2 hj,rfl⟩⟩
   ·have hg':GAt w1 gb (.slice (some ⟨cb,0,none⟩) (sz gs f).length cap) (sz gs f):=by rw [Zew]; exact H.out
    have:=hg'.put (Ztz (f:=f) Hcx.out) (f:=fun c => { c with size := -1 }) (j:=5) (u := .int .i64 (-1)) (by omega) rfl
    rw [Ylb,Zew] at this
    exact this
   ·intro j hj
    unfold upd
    by_cases e:j=x
    ·simp [e]
    ·simp only [if_neg e]; exact HS.out j hj
  case round =>
   obtain ⟨k,f',T',rfl,rfl,rfl,hk,hgk,hG,hkp,hS',hfr,hkn,hkd,hon,hold⟩:=hrel
   have hsr:=hkp.size
   have b0:wr.cell? ⟨gb,0,none⟩=some (.slice (some ⟨cb,0,none⟩) gs.length cap):=Zaa hG.box 0 _ rfl
   have hgb':=Zab hG.box
   have hcb':cb<wr.heap.size:=by omega
   have hfz':∀ j,wr.frozen? ⟨cb,j,none⟩=false:=by
    obtain ⟨cb',cap',e,_,_,_,hf⟩:=hG.shape (by rw [Zew]; omega)
    simp at e
    obtain ⟨rfl,_⟩:=e
    exact hf
   obtain ⟨y2,y3,y5⟩:=Hgat.out f' wr hG x cx Hcx.out
   have hsum:sumM T' ρ (KS.take k)≤31 * 4000:=Qq (Ymr _ _ _) (by simp; omega)
   obtain ⟨S,hSe⟩:∃ S,S=sumM T' ρ (KS.take k):=⟨_,rfl⟩
   rw [← hSe] at hsum ⊢
   have HSe:=Zac hSe
   have HG:=Zac hG
   have Hkp:=Zac hkp
   have HS':=Zac hS'
   have Hfr:=Zac hfr
   have Hkn:=Zac hkn
   have Hkd:=Zac hkd
   have Hon:=Zac hon
   have Hold:=Zac hold
   clear hSe hG hkp hS' hfr hkn hkd hon hold x2 x3 x5
   by_cases hlt:k<cx.sym.args
   ·obtain ⟨nx,hnx⟩:∃ n,n=Zav l (x+1) k:=⟨_,rfl⟩
    have hnxl:=Hknx.out k hlt
    have hnxa:=Hkat.out k hlt
    rw [← hnx] at hnxl hnxa ⊢
    obtain ⟨cn,hcn⟩:∃ c,gs[nx]?=some c:=⟨_,Qb hnxl⟩
    have hbn:=(Hc.out.all nx cn hcn).2
    have Hmem:Hid (nx ∈ (grOf l).kids (ρ i)):=by show _ ∈ _; rw [← Hxe.out,Hkids.out]; exact Qh hnxa
    have HI:=Zac (Hih.out (Zhj gs.length f') (by have:=Hm.out; have:=Hfr.out; omega) wr gb (.slice (some ⟨cb,0,none⟩) gs.length cap) gs l ρ rk f' T' nx HG.out Hc.out Hw.out Hu.out HS'.out (Qe _) hnxl hl Hkn.out)
    have Hnx:=Zac hnx
    have Hnxa:=Zac hnxa
    have Hcn:=Zac hcn
    have Hbn:=Zac hbn
    clear hnx hnxa hcn hbn
    go_wp2_with fail
    refine HI.out.mono ?_
    rintro e w2 ⟨f2,h1,h2,⟨T2,rfl,h3,h4,h5,h6,h7,h8⟩ | ⟨rfl,h3⟩⟩
    ·have hs2:=h2.size
     obtain ⟨_,z3,_⟩:=Hgat.out f2 w2 h1 nx cn Hcn.out
     rw [Hbn.out] at z3
     have b0:w2.cell? ⟨gb,0,none⟩=some (.slice (some ⟨cb,0,none⟩) gs.length cap):=Zaa h1.box 0 _ rfl
     have hgb2:=Zab h1.box
     obtain ⟨M,hM⟩:∃ M,M=min 31 (T2 (ρ nx)).length:=⟨_,rfl⟩
     rw [← hM]
     have hMl:M≤31:=by rw [hM]; omega
     have hMn:¬ ((M:Int) = -1):=by omega
     obtain ⟨bn,hbn⟩:∃ q,q=Zbj l nx:=⟨_,rfl⟩
     rw [← hbn] at z3
     have J:=Zac (And.intro h1 (And.intro h2 (And.intro h3 (And.intro h4 (And.intro h5 (And.intro h6 (And.intro h7 (And.intro h8 (And.intro hM hbn)))))))))
     clear h1 h2 h3 h4 h5 h6 h7 h8 y2 y3 y5 hM hbn
     go_wp2
     go_roundg (cx.sym.args - k)
     case measure=>omega
     case rel =>
      obtain ⟨h1,h2,h3,h4,h5,h6,h7,h8,hM,hbn⟩:=J.out
      have ht:=Zsx Hnxa.out
      refine ⟨k+1,f2,T2,?_,?_,by go_num,by omega,by omega,h1,Hkp.out.trans h2,h3,by have:=Hfr.out; omega,h5,?_,fun j=>(h7 j).trans (Hon.out j),fun j hj=>⟨(h8 j (Hold.out j hj).1).1,(h8 j (Hold.out j hj).1).2.trans (Hold.out j hj).2⟩⟩
      ·rw [ht,Yfm,Ybe (fun j hj=>(h8 _ (Hkd.out j hj)).2),← HSe.out,← hM]
       congr 1
       omega
      ·rw [Zcf,← Hnx.out,← hbn]
      ·intro j hj
       rw [ht] at hj
       rcases Qk.1 hj with hj | hj
       ·exact (h8 _ (Hkd.out j hj)).1
       ·simp at hj; subst hj; exact h6
    ·have J:=Zac (And.intro h1 (And.intro h2 h3))
     clear h1 h2 h3 y2 y3 y5
     go_wp2
     go_ret
     obtain ⟨h1,h2,h3⟩:=J.out
     have hst:Stuck (grOf l) ρ (fun r=>f r = -1) i:=Stuck.up (Yjd Hw.out) (by show _<l.length; rw [← Hc.out.len]; exact hi) (by rw [← Hxe.out]; show _<l.length; rw [← Hc.out.len]; exact hx) Hmem.out (fun val hv hc=>by
      obtain ⟨r,hr,hle⟩:=h3 val hv hc
      exact ⟨r,by rw [← Hxe.out]; exact (Hon.out r).1 hr,hle⟩)
     exact ⟨f2,h1,Hkp.out.trans h2,Or.inr ⟨rfl,hst⟩⟩
   ·have hek:k=cx.sym.args:=by omega
    subst hek
    have hnd:Hid (¬ dnF gs.length f' x):=fun hd=>by
     have:=(Hon.out x).2 (Or.inr rfl)
     have:=hd.2
     omega
    have hkd:Hid (∀ j ∈ KS,dnF gs.length f' (ρ j)):=by
     have:=Hkd.out
     rw [← HKl.out,List.take_length] at this
     exact this
    have HSe:Hid (S=sumM T' ρ KS):=by
     have:=HSe.out
     rw [← HKl.out,List.take_length] at this
     exact this
    have Hend:Hid (∀ (w3:World) (n:Nat),n=min 31 (1+S)→w3=wr.setCell ⟨cb,x * 6+5,none⟩ (.int .i64 n)→Yfn gb (.slice (some ⟨cb,0,none⟩) gs.length cap) gs l ρ f T i w1 (.returned (.int .i64 n)) w3):=fun w3 n hn hw3=>by
     subst hw3
     have hKn:=Hkn.out.more (r:=x) (by show _<l.length; rw [← Hc.out.len]; exact hx) Hrx.out hnd.out (by rw [Hkids.out]; exact hkd.out)
     rw [Hkids.out] at hKn
     have hTx:n=min 31 ((grOf l).hd x::(KS.map (fun k=>T' (ρ k))).flatten).length:=by
      rw [hn,HSe.out,Yjf,Qf,Nat.add_comm]
     have hn0:(n:Int)≠0:=by omega
     have hdn:∀ j,dnF gs.length (upd f' x n) j↔dnF gs.length f' j∨j=x:=fun j=>by
      unfold dnF upd
      by_cases e:j=x
      ·subst e; simp only [if_true,or_true,iff_true]; exact ⟨hx,by omega⟩
      ·simp [e]
     refine ⟨upd f' x n,?_,Hkp.out.trans ((Qx _ wr).setCell (p:=⟨cb,x * 6+5,none⟩) (fun _=>(rfl:some cb=some cb)) _),Or.inl ⟨_,?_,?_,Qq (Zps f' x hn0 gs.length).1 (Nat.le_of_lt Hfr.out),hKn.congr hdn (fun _ _=>rfl),by rw [← Hxe.out]; exact (hdn x).2 (Or.inr rfl),?_,?_⟩⟩
     ·have hg':GAt wr gb (.slice (some ⟨cb,0,none⟩) (sz gs f').length cap) (sz gs f'):=by rw [Zew]; exact HG.out
      have:=hg'.put (Ztz (f:=f') Hcx.out) (f:=fun c => { c with size:=n }) (j:=5) (u := .int .i64 n) (by omega) rfl
      rw [Ylb,Zew] at this
      exact this
     ·rw [← Hxe.out]
      simp only [if_true]
      rw [← hTx]
     ·intro j hj
      unfold upd
      by_cases e:j=x
      ·subst e
       simp only [if_true]
       exact Or.inr (Or.inr ⟨by omega,by rw [← hTx]⟩)
      ·simp only [if_neg e]; exact HS'.out j hj
     ·intro j
      unfold upd
      by_cases e:j=x
      ·subst e
       simp only [if_true]
       rw [H0.out]
       constructor <;> intro h <;> omega
      ·simp only [if_neg e]
       rw [Hon.out]
       simp [e]
     ·intro j hj
      refine ⟨(hdn j).2 (Or.inl (Hold.out j hj).1),?_⟩
      have hjx:j≠x:=fun e=>by
       subst e
       have:=hj.2
       rw [H0.out] at this
       omega
      rw [if_neg hjx]
      exact (Hold.out j hj).2
    obtain ⟨qa,hqa⟩:∃ q,q=Zav l (x+1) cx.sym.args:=⟨_,rfl⟩
    rw [← hqa]
    clear hqa
    by_cases h30:1+S≤30
    ·have h30':¬ ((30:Int)<((1+S:Nat):Int)):=by omega
     go_wp2
     go_ret
     exact Hend.out _ (1+S) (by omega) rfl
    ·have h30':(30:Int)<((1+S:Nat):Int):=by omega
     go_wp2
     go_ret
     exact Hend.out _ 31 (by omega) rfl
 ·go_enter Tryz.func159,Tryz.ntmps159
  rw [h0] at x5
  have H0:=Zac h0
  clear h0
  go_wp2_with fail
  refine Hr.out.mono ?_
  rintro e w1 ⟨rfl,rfl⟩
  go_wp2
  go_ret
  exact ⟨f,H.out,Qx _ _,Or.inr ⟨rfl,Stuck.here (by show _<l.length; rw [← Hc.out.len]; exact hi) (by rw [← Hxe.out]; exact H0.out)⟩⟩
 ·obtain ⟨q,hq⟩:∃ q,q=f x:=⟨_,rfl⟩
  rw [← hq] at x5
  have hq0:q≠0:=by omega
  have Hq:=Zac hq
  have H00:=Zac h00
  have H0:=Zac h0
  clear hq h0 h00
  go_enter Tryz.func159,Tryz.ntmps159
  go_wp2_with fail
  refine Hr.out.mono ?_
  rintro e w1 ⟨rfl,rfl⟩
  go_wp2
  go_ret
  refine ⟨f,H.out,Qx _ _,Or.inl ⟨T,?_,HS.out,Qe _,HK.out,by rw [← Hxe.out]; exact ⟨hx,H0.out⟩,fun _=>Iff.rfl,fun j hj=>⟨hj,rfl⟩⟩⟩
  show Ending.returned (.int .i64 q)=_
  rw [Hq.out,H00.out,Hxe.out]
theorem Yjg (m:Nat):Zrl m:=by
 induction m using Nat.strongRecOn with
 | _ m ih=>exact Yfo m ih
theorem Zdh (a b:List Sym):Zaj (a++b)=Zaj a++Zaj b:=by simp [Zaj]
theorem Zua (l:List Sym):∀ u ∈ Zaj l,u.oneCell'=true:=by
 intro u hu
 simp only [Zaj,List.mem_flatMap,Zbw] at hu
 obtain ⟨s,_,hs⟩:=hu
 simp at hs
 rcases hs with rfl | rfl | rfl <;> rfl
def Zjs (t:List Sym) (w:World) (e:Ending) (w':World):Prop:=∃ v B,e = .returned v∧w.heap.size≤B∧w'.ownsRow B 133 3 v t.length (Zaj t)∧Ext w w'
def Zrm (m:Nat):Prop:=∀ (w:World) (gb:Nat) (v:Value) (gs:List GC) (l:List Sym) (ρ rk:Nat→Nat) (D:Nat→Prop) (T:Nat→List Sym) (i:Nat),GAt w gb v gs→CellsOf gs l→Wf 2 l→UpOk (gs.map GC.up) ρ rk→Known (grOf l) ρ D T→D (ρ i)→i<gs.length→gs.length≤4000→(T (ρ i)).length≤m→(T (ρ i)).length≤4000 →
 Calls Tryz.prog 192 #[.pointer (some ⟨gb,0,none⟩),.int .i64 i] w (Zjs (T (ρ i)) w)
theorem Yfp (m:Nat) (IH:∀ k,k<m→Zrm k):Zrm m:=by
 intro w gb v gs l ρ rk D T i h hc hw hu hK hD hi hl hm hm4
 have hrt:=hu.rt
 have hx:=hrt.lt i (by simpa using hi)
 rw [Ql] at hx
 obtain ⟨x,hxe⟩:∃ x,x=ρ i:=⟨_,rfl⟩
 rw [← hxe] at hx hD hm hm4 ⊢
 obtain ⟨cb,cap,rfl,hcb,hcap,hne,hfz⟩:=h.shape (by omega)
 obtain ⟨cx,hcx⟩:∃ c,gs[x]?=some c:=⟨_,Qb hx⟩
 obtain ⟨hsy,hbe⟩:=hc.all x cx hcx
 have Hr:=Zac (Zgp w gb (.slice (some ⟨cb,0,none⟩) gs.length cap) gs ρ rk i h hu hi hl)
 rw [← hxe] at Hr
 have b0:w.cell? ⟨gb,0,none⟩=some (.slice (some ⟨cb,0,none⟩) gs.length cap):=Zaa h.box 0 _ rfl
 have hgb:=Zab h.box
 obtain ⟨x0,x1,x2,_,_,_⟩:=h.cell hcx
 have harg:cx.sym.args≤4000:=by
  have:=Zwb hw (i:=x) (by rw [← hc.len]; exact hx)
  rw [← hsy,← hc.len] at this
  omega
 obtain ⟨KS,hKS⟩:∃ K,K=Zbd l (x+1) cx.sym.args:=⟨_,rfl⟩
 have HKl:Hid (KS.length=cx.sym.args):=by show _=_; rw [hKS,Zde]
 have hkids:(grOf l).kids x=KS:=by show Zbd l (x+1) (Zax l x).args=KS; rw [hKS,← hsy]
 have Hkat:Hid (∀ k,k<cx.sym.args→KS[k]?=some (Zav l (x+1) k)):=fun k hk=>by rw [hKS]; exact Zcc l (x+1) _ k hk
 have Hknx:Hid (∀ k,k<cx.sym.args→Zav l (x+1) k<gs.length):=fun k hk=>by
  have hxl:x<l.length:=by rw [← hc.len]; exact hx
  obtain ⟨_,ex2,_⟩:=Zhu hw hxl
  obtain ⟨_,_,_,_,_,hbx,_⟩:=Zfd hw hxl
  have:=ex2 _ (Qh (by rw [← hsy]; exact Zcc l (x+1) _ k hk))
  have:=hc.len
  omega
 have hTx:T x=cx.sym::((KS.map (fun k=>T (ρ k))).flatten):=by
  have:=hK.tm x hD
  rw [hkids] at this
  rw [this,hsy]; rfl
 have Hsub:Hid (∀ k n,KS[k]?=some n→D (ρ n)∧1+(((KS.take k).map (fun k=>T (ρ k))).flatten).length+(T (ρ n)).length≤(T x).length):=fun k n hn=>by
  refine ⟨hK.kid x hD n (by rw [hkids]; exact Qh hn),?_⟩
  obtain ⟨hk1,hk2⟩:=Qa.1 hn
  have e:KS=KS.take k++n::KS.drop (k+1):=by
   rw [← hk2,List.getElem_cons_drop,List.take_append_drop]
  rw [hTx]
  conv=>rhs; rw [e]
  simp only [Qr,List.map_cons,List.flatten_append,List.flatten_cons,Qf,Qg]
  omega
 have HT:=Zac hTx
 have H:=Zac h
 have Hu:=Zac hu
 have Hc:=Zac hc
 have Hw:=Zac hw
 have Hm:=Zac hm
 have HK:=Zac hK
 have Hih:=Zac IH
 have Hxe:=Zac hxe
 have Hcx:=Zac hcx
 have Hm4:=Zac hm4
 clear hTx h hu hc hw hm hK IH hxe hcx hrt hbe hkids hKS hsy hD hm4
 go_enter Tryz.func192,Tryz.ntmps192
 go_wp2_with fail
 refine Hr.out.mono ?_
 rintro e w1 ⟨rfl,rfl⟩
 have Hnil:Hid (World.ownsRow (w1.alloc (.cells #[.string ⟨cx.sym.name.toArray⟩,.int .i64 cx.sym.num,.int .i64 cx.sym.args] 133)) (w1.heap.size+1) 133 3 (.slice none 0 0) 0 []):=World.ownsRow_nil _ _ _ _
 go_wp2_with (at_builtin; refine Zal (w1.alloc (.cells #[.string ⟨cx.sym.name.toArray⟩,.int .i64 cx.sym.num,.int .i64 cx.sym.args] 133)) rfl (.tmp 22) (.tmp 24) 105 rfl (w1.heap.size+1) 133 Tryz.infoSym Tryz.underlying105 rfl (by decide) (.slice none 0 0) 0 [] rfl Hnil.out #[.string ⟨cx.sym.name.toArray⟩,.int .i64 cx.sym.num,.int .i64 cx.sym.args] (N:=w1.heap.size+1) rfl (by simp) rfl (Zho _ _ _) ?_ ?_ ?_)
 ·omega
 ·simp
 intro v1 w2 hap
 have hrow:w2.ownsRow (w1.heap.size+1) 133 3 v1 1 (Zaj [cx.sym]):=by simpa [Zaj,Zbw] using hap.owns
 have hbel:Below (w1.heap.size+1) (w1.alloc (.cells #[.string ⟨cx.sym.name.toArray⟩,.int .i64 cx.sym.num,.int .i64 cx.sym.args] 133)) w2:=hap.kept.below (by simp) (fun k hk=>by simp [Zbn,Value.ownBlock] at hk)
 have Hrow:=Zac hrow
 have Hbel:=Zac hbel
 clear hap hrow hbel
 go_wp2
 go_loopg [7,8,9] (cx.sym.args+1) (fun gk tv av nv wr=>∃ (k:Nat),av = .int .i64 (Zav l (x+1) k:Nat)∧nv = .int .i64 k∧k≤cx.sym.args∧cx.sym.args - k<gk∧Below (w1.heap.size+1) (w1.alloc (.cells #[.string ⟨cx.sym.name.toArray⟩,.int .i64 cx.sym.num,.int .i64 cx.sym.args] 133)) wr ∧
   wr.ownsRow (w1.heap.size+1) 133 3 tv (1+(((KS.take k).map (fun k=>T (ρ k))).flatten).length) (Zaj (cx.sym::((KS.take k).map (fun k=>T (ρ k))).flatten)))
 case atStart=>exact ⟨0,by simp [Zav],by go_num,Qm _,by omega,Hbel.out,by simpa using Hrow.out⟩
 case round =>
  obtain ⟨k,rfl,rfl,hk,hgk,hbw,hown⟩:=hrel
  obtain ⟨ta,tcap,rfl⟩:=Zae hown
  have hsr:=hbw.size
  have hsr:w1.heap.size+1≤wr.heap.size:=by simpa using hsr
  have hE:Ext w1 wr:=by
   have h0:Ext w1 (w1.alloc (.cells #[.string ⟨cx.sym.name.toArray⟩,.int .i64 cx.sym.num,.int .i64 cx.sym.args] 133)):=(Ext.of (by repeat' (first | with_reducible(first|exact Qx _ _|apply Kept.drew|apply Kept.drewN|apply Qz|refine Qy ?_ ?_ _)|exact fun h=>absurd h (by simp <;> omega))))
   exact h0.trans (hbw.mono (by omega))
  have hG:=H.out.ext hE
  have b0:wr.cell? ⟨gb,0,none⟩=some (.slice (some ⟨cb,0,none⟩) gs.length cap):=Zaa hG.box 0 _ rfl
  have hgb':=Zab hG.box
  have hcb':cb<wr.heap.size:=by omega
  have hbox:wr.heap[w1.heap.size]?=some (.cells #[.string ⟨cx.sym.name.toArray⟩,.int .i64 cx.sym.num,.int .i64 cx.sym.args] 133 (0,0)):=(hbw.block _ (by omega)).trans (heap_alloc_new w1 _)
  have y2:wr.cell? ⟨w1.heap.size,2,none⟩=some (.int .i64 cx.sym.args):=Zaa hbox 2 _ rfl
  have hwb:=Zab hbox
  have Hbw:=Zac hbw
  have Hown:=Zac hown
  have HG:=Zac hG
  have HE:=Zac hE
  clear hbw hown hG hE hbox x0 x1 x2
  by_cases hlt:k<cx.sym.args
  ·obtain ⟨nx,hnx⟩:∃ n,n=Zav l (x+1) k:=⟨_,rfl⟩
   have hnxl:=Hknx.out k hlt
   have hnxa:=Hkat.out k hlt
   rw [← hnx] at hnxl hnxa ⊢
   obtain ⟨cn,hcn⟩:∃ c,gs[nx]?=some c:=⟨_,Qb hnxl⟩
   have hbn:=(Hc.out.all nx cn hcn).2
   obtain ⟨hDn,hle⟩:=Hsub.out k nx hnxa
   have hm4:=Hm4.out
   have HI:=Zac (Hih.out (T (ρ nx)).length (by have:=Hm.out; omega) wr gb (.slice (some ⟨cb,0,none⟩) gs.length cap) gs l ρ rk D T nx HG.out Hc.out Hw.out Hu.out HK.out hDn hnxl hl (Qe _) (by omega))
   have Hnx:=Zac hnx
   have Hnxa:=Zac hnxa
   have Hbn:=Zac hbn
   have Hcn:=Zac hcn
   obtain ⟨L,hL⟩:∃ L,L=(((KS.take k).map (fun k=>T (ρ k))).flatten):=⟨_,rfl⟩
   rw [← hL] at hle ⊢
   have HL:=Zac hL
   clear hnx hnxa hbn hcn hL hDn
   go_wp2_with fail
   refine HI.out.mono ?_
   rintro e w3 ⟨v3,B3,rfl,hB3,hr3,hE3⟩
   obtain ⟨a3,c3,rfl⟩:=Zae hr3
   have hs3:=hE3.size
   have hG3:=HG.out.ext hE3
   have b0:w3.cell? ⟨gb,0,none⟩=some (.slice (some ⟨cb,0,none⟩) gs.length cap):=Zaa hG3.box 0 _ rfl
   have hgb3:=Zab hG3.box
   have HR:Hid (Yac w3 3 (.slice a3 (T (ρ nx)).length c3) (T (ρ nx)).length (Zaj (T (ρ nx)))):=Zst hr3 (Zua _)
   have Hown3:Hid (w3.ownsRow (w1.heap.size+1) 133 3 (.slice ta (1+L.length) tcap) (1+L.length) (Zaj (cx.sym::L))):=by
    have:=Zai Hown.out (fun j hj=>hE3.block j (Hown.out.lt j hj).2)
    rw [← HL.out] at this
    exact this
   have HE3:=Zac hE3
   have HG3:=Zac hG3
   clear hr3 hE3 hG3
   go_wp2_with (at_builtin; refine Zjc _ rfl (.tmp 46) (.tmp 47) 105 rfl (w1.heap.size+1) 133 Tryz.infoSym Tryz.underlying105 rfl (by decide) _ (1+L.length) (Zaj (cx.sym::L)) rfl Hown3.out _ (T (ρ nx)).length (Zaj (T (ρ nx))) rfl HR.out ?_ ?_ ?_)
   ·omega
   ·omega
   intro v4 w4 hap
   obtain ⟨a4,c4,rfl⟩:=Zae hap.owns
   have hG4:GAt w4 gb (.slice (some ⟨cb,0,none⟩) gs.length cap) gs:=by
    have hk:=hap.kept.below (B:=w1.heap.size+1) (by omega) (fun j hj=>(Hown3.out.lt j hj).1)
    have he:Ext w1 w4:=HE.out.trans ((HE3.out.mono (by omega)).trans (hk.mono (by omega)))
    exact H.out.ext he
   obtain ⟨_,_,_,z3,_,_⟩:=hG4.cell Hcn.out
   rw [Hbn.out] at z3
   have b0:w4.cell? ⟨gb,0,none⟩=some (.slice (some ⟨cb,0,none⟩) gs.length cap):=Zaa hG4.box 0 _ rfl
   have hgb4:=Zab hG4.box
   obtain ⟨bn,hbn⟩:∃ q,q=Zbj l nx:=⟨_,rfl⟩
   rw [← hbn] at z3
   have Hbn2:=Zac hbn
   have Hap:=Zac hap
   clear hap hG4 hbn
   go_wp2
   go_roundg (cx.sym.args - k)
   case measure=>omega
   case rel =>
    have ht:=Zsx Hnxa.out
    refine ⟨k+1,by rw [Zcf,← Hnx.out,← Hbn2.out],by go_num,by omega,by omega,?_,?_⟩
    ·exact Hbw.out.trans ((HE3.out.mono (by omega)).trans (Hap.out.kept.below (B:=w1.heap.size+1) (by omega) (fun j hj=>(Hown3.out.lt j hj).1)))
    ·have:=Hap.out.owns
     rw [ht,Qr,List.flatten_append,← HL.out]
     simp only [List.map_cons,List.map_nil,List.flatten_cons,List.flatten_nil,Qs,Qg]
     rw [← Zdh,List.cons_append] at this
     rw [← Nat.add_assoc]
     exact this
  ·have hek:k=cx.sym.args:=by omega
   subst hek
   obtain ⟨qa,hqa⟩:∃ q,q=Zav l (x+1) cx.sym.args:=⟨_,rfl⟩
   rw [← hqa]
   clear hqa
   have Hown':Hid (Zjs (T x) w1 (.returned (.slice ta (1+(((KS.take cx.sym.args).map (fun k=>T (ρ k))).flatten).length) tcap)) wr):=by
    refine ⟨_,w1.heap.size+1,rfl,by omega,?_,HE.out⟩
    have:=Hown.out
    rw [← HKl.out,List.take_length] at this ⊢
    rw [HT.out,Qf,Nat.add_comm (((KS.map (fun k=>T (ρ k))).flatten).length) 1]
    exact this
   go_wp2
   go_ret
   exact Hown'.out
theorem Yjh (m:Nat):Zrm m:=by
 induction m using Nat.strongRecOn with
 | _ m ih=>exact Yfp m ih
theorem Yoi {l:List Sym} {p j:Nat}:∀ m,p≤j→j<Zav l p m→∃ k,k<m∧Zav l p k≤j∧j<Zbj l (Zav l p k):=by
 intro m
 induction m with
 | zero=>intro h1 h2; simp only [Zav] at h2; omega
 | succ m ih =>
  intro h1 h2
  by_cases h:j<Zav l p m
  ·obtain ⟨k,hk,h3,h4⟩:=ih h1 h
   exact ⟨k,by omega,h3,h4⟩
  ·rw [Zcf] at h2
   exact ⟨m,by omega,by omega,h2⟩
theorem Zyh {l:List Sym} (hw:Wf 2 l) {ρ:Nat→Nat} (hcg:∀ i,i<l.length→Cg (grOf l) ρ i) {D:Nat→Prop} {T:Nat→List Sym} (hK:Known (grOf l) ρ D T) :
  ∀ (n p:Nat),p<l.length→Zbj l p - p≤n→D (ρ p)→∀ j,p≤j→j<Zbj l p→D (ρ j):=by
 intro n
 induction n with
 | zero=>intro p hp hn _ j h1 h2; omega
 | succ n ih =>
  intro p hp hn hd j h1 h2
  by_cases e:j=p
  ·subst e; exact hd
  ·obtain ⟨_,e2,e3⟩:=Zhu hw hp
   obtain ⟨_,_,_,_,hb1,hb2,_⟩:=Zfd hw hp
   rw [← e3] at h2
   obtain ⟨k,hk,h3,h4⟩:=Yoi _ (by omega:p+1≤j) h2
   have hmem:Zav l (p+1) k ∈ (grOf l).kids p:=Qh (Zcc l (p+1) _ k hk)
   have hq:=e2 _ hmem
   have hn':((grOf l).hd p).name≠[]:=fun h=>by
    have:=(Yjd hw).vn p hp h
    rw [this] at hmem
    simp at hmem
   obtain ⟨_,h5⟩:=hcg p hp hn'
   have hdk:D (ρ (Zav l (p+1) k)):=by
    have:ρ (Zav l (p+1) k) ∈ ((grOf l).kids (ρ p)).map ρ:=by rw [h5]; exact List.mem_map.2 ⟨_,hmem,rfl⟩
    obtain ⟨k',hk',e'⟩:=List.mem_map.1 this
    rw [← e']; exact hK.kid _ hd k' hk'
   have hle:Zbj l (Zav l (p+1) k)≤Zbj l p:=by
    have mono:∀ m,k+1≤m→m≤(Zax l p).args→Zbj l (Zav l (p+1) k)≤Zav l (p+1) m:=by
     intro m
     induction m with
     | zero=>intro h; omega
     | succ m ihm =>
      intro h6 h7
      by_cases em:m=k
      ·subst em; rw [Zcf]; exact Qe _
      ·have:=ihm (by omega) (by omega)
       rw [Zcf l (p+1) m]
       have hqm:=e2 _ (Qh (Zcc l (p+1) _ m (by omega)))
       obtain ⟨_,_,_,_,h8,_⟩:=Zfd hw (i:=Zav l (p+1) m) (by omega)
       omega
    rw [← e3]
    exact mono _ (by omega) (Qe _)
   exact ih _ (by omega) (by omega) hdk j h3 h4
theorem Yfq {a b:List Sym} (ha:Wf 1 a) (hb:Wf 1 b) {ρ:Nat→Nat} (hcg:∀ i,i<(a++b).length→Cg (grOf (a++b)) ρ i) {D:Nat→Prop} {T:Nat→List Sym} (hK:Known (grOf (a++b)) ρ D T) (h0:D (ρ 0)) (h1:D (ρ a.length)):∀ j,j<(a++b).length→D (ρ j):=by
 have hw:Wf 2 (a++b):=Zfy ha hb
 have hla:=Zen ha
 have hlb:=Zen hb
 have e0:Zbj (a++b) 0=a.length:=by unfold Zbj; simp [Zjp b ha]
 have e1:Zbj (a++b) a.length=(a++b).length:=by
  have:=Zjp [] hb
  rw [Qs] at this
  unfold Zbj; simp [this]
 intro j hj
 have hl:(a++b).length=a.length+b.length:=by simp
 by_cases h:j<a.length
 ·exact Zyh hw hcg hK _ 0 (by omega) (Qe _) h0 j (by omega) (by omega)
 ·exact Zyh hw hcg hK _ a.length (by omega) (Qe _) h1 j (by omega) (by omega)
theorem Ybf (l:List Sym):CellsOf (Zgg l (Zea l) 0) l:=by
 refine ⟨by rw [Zgh,Zbs],fun i c hc => ?_⟩
 rw [Zgq] at hc
 by_cases h:i<l.length
 ·rw [Zgr h] at hc
  simp at hc
  subst hc
  exact ⟨rfl,rfl⟩
 ·rw [List.getElem?_eq_none (by rw [Zbs]; omega)] at hc
  simp at hc
theorem Yms {l:List Sym} {k:Nat} (hw:Wf k l):UpOk ((Zgg l (Zea l) 0).map GC.up) (Zbg l) (fun j=>if Zbg l j=j then 0 else 1):=by
 have hf:=(Zkn l hw).rt
 intro i c hc
 rw [Qj,Zgq] at hc
 by_cases h:i<l.length
 ·rw [Zgr h] at hc
  simp at hc
  subst hc
  have h1:=hf.lt i h
  have h2:=hf.idem i h
  refine ⟨by simp [Zgh,Zbs]; exact h1,h2,fun e=>e,fun e => ?_⟩
  have e':Zbg l i≠i:=e
  show (if Zbg l (Zbg l i)=Zbg l i then 0 else 1)<(if Zbg l i=i then 0 else 1)
  rw [if_pos h2,if_neg e']
  omega
 ·rw [List.getElem?_eq_none (by rw [Zbs]; omega)] at hc
  simp at hc
theorem Ymt (l:List Sym):sz (Zgg l (Zea l) 0) (fun _=>0)=Zgg l (Zea l) 0:=by
 apply List.ext_getElem?
 intro i
 cases hc:(Zgg l (Zea l) 0)[i]? with
 | none=>rw [List.getElem?_eq_none (by rw [Zew]; exact List.getElem?_eq_none_iff.1 hc)]
 | some c =>
  rw [Ztz hc]
  rw [Zgq] at hc
  by_cases h:i<l.length
  ·rw [Zgr h] at hc
   simp at hc
   subst hc
   rfl
  ·rw [List.getElem?_eq_none (by rw [Zbs]; omega)] at hc
   simp at hc
structure TermsAt (w:World) (B:Nat) (v:Value) (ls:List (List Sym)) (vs:List Value):Prop where
 owns:w.ownsRow B 105 1 v ls.length vs
 all:∀ (i:Nat) (l:List Sym),ls[i]?=some l→∃ x,vs[i]?=some x∧w.ownsRow 0 133 3 x l.length (Zaj l)
theorem TermsAt.nil (w:World) (B:Nat):TermsAt w B (.slice none 0 0) [] []:=⟨World.ownsRow_nil _ _ _ _,fun i l h=>by simp at h⟩
theorem TermsAt.ext {w w':World} {B:Nat} {v:Value} {ls:List (List Sym)} {vs:List Value} (h:TermsAt w B v ls vs) (e:Ext w w'):TermsAt w' B v ls vs :=
 ⟨Zai h.owns (fun k hk=>e.block k (h.owns.lt k hk).2),fun i l hl=>by
  obtain ⟨x,h1,h2⟩:=h.all i l hl
  exact ⟨x,h1,Zai h2 (fun k hk=>e.block k (h2.lt k hk).2)⟩⟩
theorem TermsAt.box {w w':World} {M:Nat} {cs:Array Value} {t:TypeId} {fr:Nat × Nat} {B:Nat} {v:Value} {ls:List (List Sym)} {vs:List Value} (h:TermsAt w B v ls vs) (hM:w.heap[M]?=some (.cells cs t fr)) (h1:105≠t) (h2:133≠t) (hk:Kept (fun k=>k=M) w w'):TermsAt w' B v ls vs :=
 ⟨Zcu h.owns hM h1 hk,fun i l hl=>by
  obtain ⟨x,h3,h4⟩:=h.all i l hl
  exact ⟨x,h3,Zcu h4 hM h2 hk⟩⟩
theorem TermsAt.snoc {w w':World} {B:Nat} {v v' x:Value} {ls:List (List Sym)} {vs:List Value} {l:List Sym} (h:TermsAt w B v ls vs) (ha:Appended w B 105 1 v (ls.length+1) (vs++[x]) v' w') (hx:w.ownsRow 0 133 3 x l.length (Zaj l)):TermsAt w' B v' (ls++[l]) (vs++[x]):=by
 have keep:∀ {y:Value} {t:List Sym},w.ownsRow 0 133 3 y t.length (Zaj t)→w'.ownsRow 0 133 3 y t.length (Zaj t):=fun {y t} hy=>ha.kept.owns hy (fun k hk hs=>by
  obtain ⟨cur,hc⟩:=Zbx h.owns k hs
  exact Zah hy (by decide) hc hk)
 have hl:vs.length=ls.length:=by have:=h.owns.1; omega
 refine ⟨by simpa using ha.owns,fun i t ht => ?_⟩
 by_cases hi:i<ls.length
 ·rw [Qc hi] at ht
  obtain ⟨y,h1,h2⟩:=h.all i t ht
  exact ⟨y,by rw [Qc (by omega)]; exact h1,keep h2⟩
 ·rw [Qd (by omega)] at ht
  by_cases e:i=ls.length
  ·subst e
   simp at ht
   subst ht
   exact ⟨x,by rw [Qd (by omega)]; simp [hl],keep hx⟩
  ·rw [List.getElem?_eq_none (by simp; omega)] at ht
   simp at ht
theorem TermsAt.put {w:World} {B g cap:Nat} {x:Value} {ls:List (List Sym)} {vs:List Value} {l:List Sym} {n:Nat} (h:TermsAt w B (.slice (some ⟨g,0,none⟩) ls.length cap) ls vs) (hn:n<ls.length) (hx:w.ownsRow 0 133 3 x l.length (Zaj l)) :
  TermsAt (w.setCell ⟨g,n,none⟩ x) B (.slice (some ⟨g,0,none⟩) ls.length cap) (ls.set n l) (vs.set n x):=by
 have hl:vs.length=ls.length:=by have:=h.owns.1; omega
 obtain ⟨cur,hg⟩:=Zbx h.owns g rfl
 have hk:Kept (fun k=>k=g) w (w.setCell ⟨g,n,none⟩ x):=(Qx (only g) w).put n x
 have keep:∀ {y:Value} {t:List Sym},w.ownsRow 0 133 3 y t.length (Zaj t)→(w.setCell ⟨g,n,none⟩ x).ownsRow 0 133 3 y t.length (Zaj t):=fun {y t} hy=>Zcu hy hg (by decide) hk
 refine ⟨by rw [List.length_set]; exact Zyf h.owns n x,fun i t ht => ?_⟩
 rw [List.getElem?_set] at ht ⊢
 by_cases e:n=i
 ·subst e
  rw [if_pos rfl,if_pos hn] at ht
  simp at ht
  subst ht
  exact ⟨x,by rw [if_pos rfl,if_pos (by omega)],keep hx⟩
 ·rw [if_neg e] at ht
  obtain ⟨y,h1,h2⟩:=h.all i t ht
  exact ⟨y,by rw [if_neg e]; exact h1,keep h2⟩
structure SubOk (l:List Sym) (ρ:Nat→Nat) (T:Nat→List Sym) (k:Nat) (ts:List (List Sym)):Prop where
 has:∀ i,i<k→(Zax l i).name=[]→ts[(Zax l i).num]?=some (T (ρ i))
 only:∀ n t,ts[n]?=some t→t=[]∨∃ i,i<k∧(Zax l i).name=[]∧(Zax l i).num=n∧t=T (ρ i)
theorem SubOk.nil (l:List Sym) (ρ:Nat→Nat) (T:Nat→List Sym):SubOk l ρ T 0 []:=⟨fun i h=>by omega,fun n t h=>by simp at h⟩
theorem SubOk.pad {l:List Sym} {ρ:Nat→Nat} {T:Nat→List Sym} {k:Nat} {ts:List (List Sym)} (h:SubOk l ρ T k ts):SubOk l ρ T k (ts++[[]]):=by
 refine ⟨fun i hi hn => ?_,fun n t ht => ?_⟩
 ·have:=h.has i hi hn
  rw [Qc ((Qa.1 this).1)]
  exact this
 ·by_cases hl:n<ts.length
  ·rw [Qc hl] at ht
   exact h.only n t ht
  ·rw [Qd (by omega)] at ht
   left
   have:=Qh ht
   simpa using this
theorem SubOk.skip {l:List Sym} {ρ:Nat→Nat} {T:Nat→List Sym} {k:Nat} {ts:List (List Sym)} (h:SubOk l ρ T k ts) (hn:(Zax l k).name≠[]):SubOk l ρ T (k+1) ts:=by
 refine ⟨fun i hi hi' => ?_,fun n t ht => ?_⟩
 ·by_cases e:i=k
  ·subst e; exact absurd hi' hn
  ·exact h.has i (by omega) hi'
 ·rcases h.only n t ht with h1 | ⟨i,h1,h2⟩
  ·exact Or.inl h1
  ·exact Or.inr ⟨i,by omega,h2⟩
theorem SubOk.old {l:List Sym} {ρ:Nat→Nat} {T:Nat→List Sym} {k:Nat} {ts:List (List Sym)} {t:List Sym} (h:SubOk l ρ T k ts) (hv:Vars (grOf l) ρ) (hk:k<l.length) (hn:(Zax l k).name=[]) (ht:ts[(Zax l k).num]?=some t) (hne:t≠[]):SubOk l ρ T (k+1) ts:=by
 refine ⟨fun i hi hi' => ?_,fun n t ht => ?_⟩
 ·by_cases e:i=k
  ·subst e
   rcases h.only _ t ht with h1 | ⟨j,h1,h2,h3,h4⟩
   ·exact absurd h1 hne
   ·have:ρ j=ρ i:=hv j i (by show _<l.length; omega) hk h2 hn h3
    rw [ht,h4,this]
  ·exact h.has i (by omega) hi'
 ·rcases h.only n t ht with h1 | ⟨i,h1,h2⟩
  ·exact Or.inl h1
  ·exact Or.inr ⟨i,by omega,h2⟩
theorem SubOk.new {l:List Sym} {ρ:Nat→Nat} {T:Nat→List Sym} {k:Nat} {ts:List (List Sym)} (h:SubOk l ρ T k ts) (hne:∀ i,i<k→(Zax l i).name=[]→T (ρ i)≠[]) (hn:(Zax l k).name=[]) (ht:ts[(Zax l k).num]?=some []):SubOk l ρ T (k+1) (ts.set (Zax l k).num (T (ρ k))):=by
 have hl:=(Qa.1 ht).1
 refine ⟨fun i hi hi' => ?_,fun n t hnt => ?_⟩
 ·rw [List.getElem?_set]
  by_cases e:i=k
  ·subst e
   rw [if_pos rfl,if_pos hl]
  ·have h1:=h.has i (by omega) hi'
   rw [if_neg]
   ·exact h1
   ·intro e2
    rw [← e2,ht] at h1
    simp only [Qo] at h1
    exact hne i (by omega) hi' h1.symm
 ·rw [List.getElem?_set] at hnt
  by_cases e:(Zax l k).num=n
  ·rw [if_pos e,if_pos hl] at hnt
   simp only [Qo] at hnt
   exact Or.inr ⟨k,by omega,hn,e,hnt.symm⟩
  ·rw [if_neg e] at hnt
   rcases h.only n t hnt with h1 | ⟨i,h1,h2⟩
   ·exact Or.inl h1
   ·exact Or.inr ⟨i,by omega,h2⟩
def SubAt (w:World) (l:List Sym) (ρ:Nat→Nat) (T:Nat→List Sym) (k:Nat) (tv:Value) (ts:List (List Sym)) (vs:List Value) (wr:World):Prop :=
 wr.heap[w.heap.size+1]?=some (.cells #[tv] 216 (0,0))∧TermsAt wr w.heap.size tv ts vs∧SubOk l ρ T k ts∧Ext w wr∧wr.heap[w.heap.size]?=some (.cells #[.slice none 0 0] 216 (0,0))∧ts.length≤200001
theorem SubAt.ext {w wr w1:World} {l:List Sym} {ρ:Nat→Nat} {T:Nat→List Sym} {k:Nat} {tv:Value} {ts:List (List Sym)} {vs:List Value} (h:SubAt w l ρ T k tv ts vs wr) (e:Ext wr w1):SubAt w l ρ T k tv ts vs w1:=by
 obtain ⟨h1,h2,h3,h4,h5,h6⟩:=h
 exact ⟨(e.block _ (Zab h1)).trans h1,h2.ext e,h3,h4.trans (e.mono h4.size),(e.block _ (Zab h5)).trans h5,h6⟩
theorem SubAt.to {w wr:World} {l:List Sym} {ρ:Nat→Nat} {T:Nat→List Sym} {k k':Nat} {tv:Value} {ts:List (List Sym)} {vs:List Value} (h:SubAt w l ρ T k tv ts vs wr) (g:SubOk l ρ T k' ts):SubAt w l ρ T k' tv ts vs wr:=⟨h.1,h.2.1,g,h.2.2.2⟩
def Yoj (l:List Sym) (ρ:Nat→Nat) (T:Nat→List Sym) (w:World) (e:Ending) (w':World):Prop:=∃ tv ts vs,e = .returned (.agg #[tv])∧TermsAt w' w.heap.size tv ts vs∧SubOk l ρ T l.length ts∧Ext w w'∧ts.length≤200001
def SubPh (w wr:World) (l:List Sym) (ρ:Nat→Nat) (T:Nat→List Sym) (k:Nat) (tv:Value) (ts:List (List Sym)):List Value→World→Prop
 | [],u=>u=wr.drew
 | [v],u=>Zjs (T (ρ k)) wr.drew (.returned v) u
 | [_,_],u=>∃ vs',SubAt w l ρ T (k+1) tv (ts.set (Zax l k).num (T (ρ k))) vs' u
 | _,_=>False
theorem SubPh.ext {w wr:World} {l:List Sym} {ρ:Nat→Nat} {T:Nat→List Sym} {k:Nat} {tv:Value} {ts:List (List Sym)}:∀ {vs:List Value} {u:World},SubPh w wr l ρ T k tv ts vs u→vs.length≤1→Ext wr.drew u
 | [],u,h,_=>by obtain rfl:u=wr.drew:=h; exact Ext.of (Qx _ _)
 | [v],u,h,_=>by obtain ⟨_,_,_,_,_,h⟩:=h; exact h
 | _::_::_,_,_,h=>by simp at h
theorem Zma (w:World) (gb:Nat) (v:Value) (gs:List GC) (l:List Sym) (ρ rk:Nat→Nat) (D:Nat→Prop) (T:Nat→List Sym) (h:GAt w gb v gs) (hc:CellsOf gs l) (hw:Wf 2 l) (hu:UpOk (gs.map GC.up) ρ rk) (hK:Known (grOf l) ρ D T) (hD:∀ i,i<gs.length→D (ρ i)) (hv:Vars (grOf l) ρ) (hl:gs.length≤4000) (hT:∀ i,i<gs.length→(Zax l i).name=[]→(T (ρ i)).length≤4000) (hn:∀ i,(Zax l i).num≤200000) :
  Calls Tryz.prog 160 #[.pointer (some ⟨gb,0,none⟩)] w (Yoj l ρ T w):=by
 have hpos:0<gs.length:=by have:=Zen hw; have:=hc.len; omega
 obtain ⟨cb,cap,rfl,hcb,hcap,hne,hfz⟩:=h.shape hpos
 have b0:w.cell? ⟨gb,0,none⟩=some (.slice (some ⟨cb,0,none⟩) gs.length cap):=Zaa h.box 0 _ rfl
 have hgb:=Zab h.box
 have H:=Zac h
 have Hc:=Zac hc
 have Hw:=Zac hw
 have Hu:=Zac hu
 have HK:=Zac hK
 have HD:=Zac hD
 have Hv:=Zac hv
 have HT:=Zac hT
 have Hn:=Zac hn
 clear h hc hw hu hK hD hv hT hn
 go_enter Tryz.func160,Tryz.ntmps160
 go_wp2
 go_loopg [12] (gs.length+1) (fun gk iv wr=>∃ (k:Nat) (tv:Value) (ts:List (List Sym)) (vs:List Value),iv = .int .i64 k∧k≤gs.length∧gs.length - k<gk∧SubAt w l ρ T k tv ts vs wr)
 case atStart=>exact ⟨0,.slice none 0 0,[],[],by go_num,Qm _,by omega,by have:=heap_alloc_new (w.alloc (.cells #[.slice none 0 0] 216)) (.cells #[.slice none 0 0] 216); simpa using this,TermsAt.nil _ _,SubOk.nil _ _ _,(Ext.of (by repeat' (first | with_reducible(first|exact Qx _ _|apply Kept.drew|apply Kept.drewN|apply Qz|refine Qy ?_ ?_ _)|exact fun h=>absurd h (by simp <;> omega)))),(Below.heap_alloc _ _ _ (by simp)).trans (heap_alloc_new w _),by simp⟩
 case round =>
  obtain ⟨k,tv,ts,vs,rfl,hk,hgk,hS⟩:=hrel
  have HS:=Zac hS
  have hext:=hS.2.2.2.1
  have hsr:=hext.size
  have hG:=H.out.ext hext
  have hgr:=Zab hG.box
  have hcr:cb<wr.heap.size:=by omega
  have hsb:=Zab hS.1
  have b0:wr.cell? ⟨gb,0,none⟩=some (.slice (some ⟨cb,0,none⟩) gs.length cap):=Zaa hG.box 0 _ rfl
  have t0:wr.cell? ⟨w.heap.size+1,0,none⟩=some tv:=Zaa hS.1 0 _ rfl
  have r0:wr.cell? ⟨w.heap.size,0,none⟩=some (.slice none 0 0):=Zaa hS.2.2.2.2.1 0 _ rfl
  have rf:=fun i=>Zad hS.2.2.2.2.1 i
  have tf:=fun i=>Zad hS.1 i
  have HG:=Zac hG
  clear hS hext hG
  by_cases hlt:k<gs.length
  ·obtain ⟨c,hc⟩:∃ c,gs[k]?=some c:=⟨_,Qb hlt⟩
   obtain ⟨c0,c1,c2,c3,c4,c5⟩:=HG.out.cell hc
   obtain ⟨hsy,_⟩:=Hc.out.all k c hc
   have hcn:c.sym.num≤200000:=by rw [hsy]; exact Hn.out k
   have Hsy:=Zac hsy
   clear hc hsy
   cases hnm:c.sym.name with
   | cons x xs =>
    have hnn:Hid ((Zax l k).name≠[]):=by show _≠_; rw [← Hsy.out,hnm]; simp
    rw [hnm] at c0
    clear hnm
    go_wp2
    go_roundg (gs.length - k)
    case measure=>omega
    case rel =>
     exact ⟨k+1,tv,ts,vs,by go_num,by omega,by omega,SubAt.to (HS.out.ext (Ext.of (by repeat' (first | with_reducible(first|exact Qx _ _|apply Kept.drew|apply Kept.drewN|apply Qz|refine Qy ?_ ?_ _)|exact fun h=>absurd h (by simp <;> omega))))) (HS.out.2.2.1.skip hnn.out)⟩
   | nil =>
    have hnn:Hid ((Zax l k).name=[]):=by show _=_; rw [← Hsy.out,hnm]
    rw [hnm] at c0
    clear hnm
    have hneg:¬ ((c.sym.num:Int)<0):=by omega
    go_wp2
    have HSa:Hid (∀ o,SubAt w l ρ T k tv ts vs (wr.alloc o)):=fun o=>HS.out.ext (Ext.of (by repeat' (first | with_reducible(first|exact Qx _ _|apply Kept.drew|apply Kept.drewN|apply Qz|refine Qy ?_ ?_ _)|exact fun h=>absurd h (by simp <;> omega))))
    obtain ⟨wo,hwo⟩:∃ x,x=wr:=⟨_,rfl⟩
    subst hwo
    clear b0 t0 r0 rf tf c0 c1 c2 c3 c4 c5 HG HS hgr hcr hsb hsr
    go_loopg [28] 200003 (fun gk nv wr=>∃ (tv:Value) (ts:List (List Sym)) (vs:List Value),200002 - ts.length<gk∧SubAt w l ρ T k tv ts vs wr)
    case atStart=>exact ⟨tv,ts,vs,by omega,HSa.out _⟩
    case round =>
     clear HSa
     obtain ⟨tv,ts,vs,hgk2,hS⟩:=hrel
     have HS:=Zac hS
     have hext:=hS.2.2.2.1
     have hsr:=hext.size
     have hG:=H.out.ext hext
     have hgr:=Zab hG.box
     have hsb:=Zab hS.1
     have ht4:=hS.2.2.2.2.2
     obtain ⟨ta,tcap,rfl⟩:=Zae hS.2.1.owns
     have b0:wr.cell? ⟨gb,0,none⟩=some (.slice (some ⟨cb,0,none⟩) gs.length cap):=Zaa hG.box 0 _ rfl
     have t0:wr.cell? ⟨w.heap.size+1,0,none⟩=some (.slice ta ts.length tcap):=Zaa hS.1 0 _ rfl
     have tf:=fun i=>Zad hS.1 i
     have HG:=Zac hG
     clear hS hext hG
     by_cases hle:ts.length≤c.sym.num
     ·have hle':((ts.length:Nat):Int)≤((c.sym.num:Nat):Int):=by omega
      have Hrow:Hid (wr.ownsRow w.heap.size 105 1 (.slice ta ts.length tcap) ts.length vs):=HS.out.2.1.owns
      go_wp2_with (at_builtin; go_loud (refine Zal _ rfl (.tmp 34) (.tmp 35) 85 rfl w.heap.size 105 Tryz.infoSyms Tryz.underlying85 rfl (by decide) (.slice ta ts.length tcap) ts.length vs rfl Hrow.out _ rfl rfl rfl (Zec _ _ _) ?_ ?_ ?_))
      ·omega
      ·omega
      intro v1 w1 hap
      obtain ⟨a1,c1,rfl⟩:=Zae hap.owns
      have hS1:SubAt w l ρ T k (.slice a1 (ts.length+1) c1) (ts++[[]]) (vs++[.slice none 0 0]) (w1.setCell ⟨w.heap.size+1,0,none⟩ (.slice a1 (ts.length+1) c1)):=by
       obtain ⟨g1,g2,g3,g4,g5,g6⟩:=HS.out
       have hb1:=(hap.kept.block _ (Zab g1) (Zah Hrow.out (by decide) g1)).trans g1
       have hb0:=(hap.kept.block _ (Zab g5) (Zah Hrow.out (by decide) g5)).trans g5
       have hK:Kept (fun j=>j=w.heap.size+1) w1 (w1.setCell ⟨w.heap.size+1,0,none⟩ (.slice a1 (ts.length+1) c1)):=(Qx (only (w.heap.size+1)) w1).put 0 _
       have hsz:=hap.kept.size
       refine ⟨Zaf hb1 0 _,(g2.snoc hap (World.ownsRow_nil _ _ _ _)).box hb1 (by decide) (by decide) hK,g3.pad,(g4.trans (hap.kept.below (by omega) (fun j hj=>(Hrow.out.lt j hj).1))).trans (hK.below (by omega) (fun j hj=>by omega)),(hK.block _ (Zab hb0) (by omega)).trans hb0,by simp; omega⟩
      have hb1:=(hap.kept.block _ (Zab HS.out.1) (Zah Hrow.out (by decide) HS.out.1)).trans HS.out.1
      have t0:w1.cell? ⟨w.heap.size+1,0,none⟩=some (.slice ta ts.length tcap):=Zaa hb1 0 _ rfl
      have tf:=fun i=>Zad hb1 i
      have hsb1:=Zab hb1
      have HS1:=Zac hS1
      clear hap hS1 hb1
      go_wp2
      go_roundg (200002 - ts.length)
      case measure=>omega
      case rel=>exact ⟨_,_,_,by simp; omega,HS1.out⟩
     ·have hle':¬ (((ts.length:Nat):Int)≤((c.sym.num:Nat):Int)):=by omega
      have hnl:c.sym.num<ts.length:=by omega
      obtain ⟨t,ht⟩:∃ t,ts[c.sym.num]?=some t:=⟨_,Qb hnl⟩
      obtain ⟨xv,hxv,hxo⟩:=HS.out.2.1.all _ t ht
      obtain ⟨xa,xcap,rfl⟩:=Zae hxo
      obtain ⟨g,tcap',cur,he,_,hgb2,hgc⟩:=Zao HS.out.2.1.owns (by omega)
      simp only [Value.slice.injEq] at he
      obtain ⟨rfl,_,rfl⟩:=he
      have x0:wr.cell? ⟨g,c.sym.num,none⟩=some (.slice xa t.length xcap):=Zag HS.out.2.1.owns _ _ hxv
      have hgl:=Zab hgb2
      have gf:=fun i=>Zad hgb2 i
      have Ht:=Zac ht
      have Hgb2:=Zac hgb2
      have hkl:k<l.length:=by rw [← Hc.out.len]; exact hlt
      clear ht hxv hxo hgb2
      cases t with
      | cons a0 t =>
       go_wp2
       go_roundg (gs.length - k)
       case measure=>omega
       case rel=>exact ⟨k+1,_,ts,vs,by go_num,by omega,by omega,HS.out.to (HS.out.2.2.1.old Hv.out hkl hnn.out (by rw [← Hsy.out]; exact Ht.out) (by simp))⟩
      | nil =>
       have HI:=Zac (Yjh _ wr.drew gb (.slice (some ⟨cb,0,none⟩) gs.length cap) gs l ρ rk D T k (HG.out.on (fun _ _=>rfl)) Hc.out Hw.out Hu.out HK.out (HD.out k hlt) hlt hl (Qe _) (HT.out k hlt hnn.out))
       have Hne:Hid (∀ i,i<l.length→T (ρ i)≠[]):=fun i hi=>by rw [HK.out.tm _ (HD.out i (by rw [Hc.out.len]; exact hi))]; simp
       go_wp2_with fail
       refine Zev (by kernel_rfl) [.rd 0 1 (fun _ => .pointer (some ⟨w.heap.size+1,0,none⟩)),.rd 0 1 (fun _ => .slice (some ⟨g,0,none⟩) ts.length tcap),.rd 0 1 (fun _ => .int .i64 c.sym.num),.rd 0 1 (fun _ => .pointer (some ⟨gb,0,none⟩)),.rd 0 1 (fun _ => .int .i64 k),.st 0,.rd 0 1 (fun _ => .pointer (some ⟨g,c.sym.num,none⟩)),.st 1] 2 4 (by kernel_rfl)
        (SubPh w wr l ρ T k (.slice (some ⟨g,0,none⟩) ts.length tcap) ts) rfl ?_ ?_
       ·have hcell:∀ u,Ext wr.drew u→u.cell? ⟨w.heap.size+1,0,none⟩=some (.slice (some ⟨g,0,none⟩) ts.length tcap):=fun u hE=>Zaa ((hE.block _ hsb).trans HS.out.1) 0 _ rfl
        refine ⟨⟨trivial,fun vs u _ hl hS => ?_⟩,⟨trivial,fun vs u _ hl hS => ?_⟩,⟨trivial,fun vs u _ hl hS => ?_⟩,⟨trivial,fun vs u _ hl hS => ?_⟩,⟨trivial,fun vs u _ hl hS => ?_⟩,⟨trivial,fun vs u hl hS => ?_⟩,⟨trivial,fun vs u _ hl hS => ?_⟩,⟨trivial,fun vs u hl hS => ?_⟩,trivial⟩
        ·simp [phAll,phA,pa,Ph.kd,Ph.val,Kd.val,go_sem]
        ·have t1:=hcell u (hS.ext hl)
         simp [phAll,phA,pa,Ph.kd,Ph.val,Kd.val,go_sem,t1]
        ·simp [phAll,phA,pa,Ph.kd,Ph.val,Kd.val,go_sem]
        ·simp [phAll,phA,pa,Ph.kd,Ph.val,Kd.val,go_sem]
        ·simp [phAll,phA,pa,Ph.kd,Ph.val,Kd.val,go_sem]
        ·obtain rfl:=List.length_eq_zero_iff.1 hl
         have hu:u=wr.drew:=hS
         subst hu
         refine .call 192 #[.pointer (some ⟨gb,0,none⟩),.int .i64 k] _ (by simp [phAll,phA,pa,Ph.kd,Ph.val,Kd.val,go_sem]) (HI.out.mono ?_)
         rintro e u ⟨v,B,rfl,h⟩
         exact ⟨v,rfl,v,B,rfl,h⟩
        ·simp [phAll,phA,pa,Ph.kd,Ph.val,Kd.val,go_sem,hnl]
        ·obtain ⟨v,rfl⟩:=List.length_eq_one_iff.1 hl
         have hE:=hS.ext (by simp)
         obtain ⟨v',B,he,hB,hr,_⟩:=hS
         simp only [Ending.returned.injEq] at he
         subst he
         have HSu:=HS.out.ext ((Ext.of (Qx _ _).drew:Ext wr wr.drew).trans hE)
         have hgu:=(hE.block _ hgl).trans Hgb2.out
         have gfu:=Zad hgu c.sym.num
         obtain ⟨va1,vc1,rfl⟩:=Zae hr
         have x1:u.cell? ⟨g,c.sym.num,none⟩=some (.slice xa 0 xcap):=(hE.cell (p:=⟨g,c.sym.num,none⟩) hgl).trans x0
         have hgs:g<u.heap.size:=Zab hgu
         have hK:Kept (only g) u (u.setCell ⟨g,c.sym.num,none⟩ (.slice va1 (T (ρ k)).length vc1)):=(Qx (only g) u).put c.sym.num _
         refine .skip (u.setCell ⟨g,c.sym.num,none⟩ (.slice va1 (T (ρ k)).length vc1)) ?_ ?_
         ·simp [phAll,phA,pa,Ph.kd,Ph.val,Kd.val,go_sem,x1,gfu]
         ·obtain ⟨g1,g2,g3,g4,g5,g6⟩:=HSu
          have hn1:w.heap.size+1≠g:=fun e=>Zah g2.owns (by decide) g1 (by rw [e]; rfl)
          have hn0:w.heap.size≠g:=fun e=>Zah g2.owns (by decide) g5 (by rw [e]; rfl)
          have hgw:=(g2.owns.lt g rfl).1
          rw [Hsy.out] at hnl hK ⊢
          have hp:=g2.put (l:=T (ρ k)) hnl (Zbe hr (Qm _))
          exact ⟨_,(hK.block _ (Zab g1) hn1).trans g1,hp,g3.new (fun i hi _=>Hne.out i (by omega)) hnn.out (by rw [← Hsy.out]; exact Ht.out),g4.trans (hK.below g4.size (fun j hj=>by have:j=g:=hj; omega)),(hK.block _ (Zab g5) hn0).trans g5,by rw [List.length_set]; exact g6⟩
       ·rintro vs u hl hS
        match vs,hl,hS with
        | [v,v'],_,hS =>
        obtain ⟨vs',hS'⟩:=hS
        simp only [phAll,phA,paAll,pa,Ph.kd,Ph.val,Kd.val,List.map_cons,List.map_nil,if_true,Act.put,List.setIfInBounds_toArray,List.set_cons_succ,List.set_cons_zero]
        have HS':=Zac hS'
        clear hS'
        go_wp2
        go_roundg (gs.length - k)
        case measure=>omega
        case rel=>exact ⟨k+1,_,_,vs',by go_num,by omega,by omega,HS'.out⟩
  ·have hek:k=gs.length:=by omega
   subst hek
   obtain ⟨ta,tcap,rfl⟩:=Zae HS.out.2.1.owns
   go_wp2
   have hK:Kept (fun j=>j=w.heap.size) wr (wr.setCell ⟨w.heap.size,0,none⟩ (.slice ta ts.length tcap)):=(Qx (only w.heap.size) wr).put 0 _
   have h0:(wr.setCell ⟨w.heap.size,0,none⟩ (.slice ta ts.length tcap)).cell? ⟨w.heap.size,0,none⟩=some (.slice ta ts.length tcap):=Zaa (Zaf HS.out.2.2.2.2.1 0 _) 0 _ rfl
   obtain ⟨g1,g2,g3,g4,g5,g6⟩:=HS.out
   rw [Hc.out.len] at g3
   refine bodyPost_ret (v := .agg #[.slice ta ts.length tcap]) (by simp [results,Tryz.results160,go_sem,h0]) rfl ?_
   exact ⟨_,ts,vs,rfl,g2.box g5 (by decide) (by decide) hK,g3,g4.trans (hK.below (by omega) (fun k hk=>by omega)),g6⟩
end Go.Proofs.YtlmjilpjmgjjcaaGreatDoor
