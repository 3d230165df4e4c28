/-
  PROVED HERE: what the terms of a substitution's row tell (the conditions stand in each statement).
-/
import Derived.Test.YtlmjilpjmgjjcaaGreatDoorT8
import Derived.Laws.OwnMore
set_option linter.unusedSimpArgs false
set_option linter.unusedVariables false
set_option maxRecDepth 10000
set_option maxHeartbeats 4000000
namespace Go.Proofs.YtlmjilpjmgjjcaaGreatDoor
open Go.RowKit
theorem RepT.repX:∀ (f:Nat) {w:World} {lo hi:Nat} {a b c:Value} {l:List Sym},RepT f w lo hi a b c l→RepX (fun _=>False) f w a b c l:=by
 intro f
 induction f with
 | zero=>intro w lo hi a b c l h; exact h.elim
 | succ f ih =>
  intro w lo hi a b c l h
  rcases h with h | ⟨nm,ls,xs,h1,h2,h3,h4,h5,h6,h7⟩
  ·exact Or.inl h
  ·refine Or.inr ⟨nm,ls,xs,h1,h2,h3,h4,Zbb h5 (Qm _),fun _ _ h=>h,fun i l' hl => ?_⟩
   obtain ⟨a',b',c',g1,g2,g3,g4⟩:=h7 i l' hl
   exact ⟨a',b',c',g1,g2,g3,ih g4⟩
theorem RepT.rep {f:Nat} {w:World} {lo hi:Nat} {a b c:Value} {l:List Sym} (h:RepT f w lo hi a b c l):Rep (fun _=>False) w a b c l:=⟨f,h.repX⟩
theorem RepX.repT {X:Nat→Prop}:∀ (f:Nat) {w:World} {a b c:Value} {l:List Sym},RepX X f w a b c l→RepT f w 0 w.heap.size a b c l:=by
 intro f
 induction f with
 | zero=>intro w a b c l h; exact h.elim
 | succ f ih =>
  intro w a b c l h
  rcases h with h | ⟨nm,ls,xs,h1,h2,h3,h4,h5,h6,h7⟩
  ·exact Or.inl h
  ·refine Or.inr ⟨nm,ls,xs,h1,h2,h3,h4,h5,fun k hk=>(h5.lt k hk).2,fun i l' hl => ?_⟩
   obtain ⟨a',b',c',g1,g2,g3,g4⟩:=h7 i l' hl
   exact ⟨a',b',c',g1,g2,g3,ih g4⟩
theorem Rep.repT {X:Nat→Prop} {w:World} {a b c:Value} {l:List Sym} (h:Rep X w a b c l) {f:Nat} (hf:l.length≤f):RepT f w 0 w.heap.size a b c l:=by
 obtain ⟨g,h⟩:=h
 exact (h.len.mono hf).repT f
theorem Kids.rowT {f:Nat} {w:World} {lo:Nat} {cv:Value} {acc:List (List Sym)} {xs:List Value} (h:Kids f w lo cv acc xs):RowT (fun _=>False) w cv acc xs :=
 ⟨Zbb h.owns (Qm _),fun _ _ h=>h,fun i l' hl=>by
  obtain ⟨a,b,c,_,_,x0,x1,x2,_,_,_,g⟩:=h.all i l' hl
  exact ⟨a,b,c,x0,x1,x2,g.rep⟩⟩
structure RowC (X:Nat→Prop) (w:World) (lv:Value) (cs:List Cls) (xs:List Value):Prop where
 owns:w.ownsRow 0 185 5 lv cs.length xs
 all:∀ (i:Nat) (c:Cls),cs[i]?=some c→∃ a b d bv ys,xs[i * 5]?=some a∧xs[i * 5+1]?=some b∧xs[i * 5+2]?=some d∧xs[i * 5+3]?=some bv∧xs[i * 5+4]?=some (.int .i64 c.n)∧Rep X w a b d c.head∧RowT X w bv c.body ys
theorem RowC.ext {X Y:Nat→Prop} {w w':World} {lv:Value} {cs:List Cls} {xs:List Value} (h:RowC X w lv cs xs) (e:Ext w w') (hy:∀ k,k<w.heap.size→Y k→X k):RowC Y w' lv cs xs :=
 ⟨Zak h.owns (fun k hk=>e.block k (h.owns.lt k hk).2),fun i c hc=>by
  obtain ⟨a,b,d,bv,ys,x0,x1,x2,x3,x4,g1,g2⟩:=h.all i c hc
  exact ⟨a,b,d,bv,ys,x0,x1,x2,x3,x4,g1.ext e hy,g2.ext e hy⟩⟩
theorem Zms {xs:List (List Value)} (h5:∀ x ∈ xs,x.length=5) {i:Nat} {x:List Value} (hx:xs[i]?=some x) (j:Nat) (hj:j<5):xs.flatten[i * 5+j]?=x[j]?:=by
 induction xs generalizing i with
 | nil=>simp at hx
 | cons y ys ih =>
  have hy:=h5 y (by simp)
  cases i with
  | zero =>
   simp at hx; subst hx
   rw [List.flatten_cons,Qc (by omega)]
   simp
  | succ i =>
   rw [List.flatten_cons,Qd (by omega),hy]
   have e:(i+1) * 5+j - 5=i * 5+j:=by omega
   rw [e]
   exact ih (fun z hz=>h5 z (by simp [hz])) (by simpa using hx)
theorem ClsRow.rowC {w:World} {lo:Nat} {lv:Value} {cs:List Cls} {xs:List (List Value)} (h:ClsRow w lo lv cs xs):RowC (fun _=>False) w lv cs xs.flatten :=
 ⟨Zbb h.owns (Qm _),fun i c hc=>by
  obtain ⟨x,hx,s,n,ca,cl,cc,bv,lo',hi',lo'',ys,rfl,g1,g2⟩:=h.all i c hc
  refine ⟨_,_,_,bv,ys,?_,?_,?_,?_,?_,g1.rep,g2.rowT⟩
  ·have:=Zms h.five hx 0 (by omega); simpa using this
  ·have:=Zms h.five hx 1 (by omega); simpa using this
  ·have:=Zms h.five hx 2 (by omega); simpa using this
  ·have:=Zms h.five hx 3 (by omega); simpa using this
  ·have:=Zms h.five hx 4 (by omega); simpa using this⟩
theorem Zmt {w:World} {M:Nat} {cs:Array Value} {t:TypeId} {fr:Nat × Nat} (hM:w.heap[M]?=some (.cells cs t fr)) (ht:t≠183) {k:Nat} (hk:Zeo w k):k≠M:=by
 rintro rfl
 obtain ⟨cur,hc⟩:=hk
 rw [hM] at hc
 simp at hc
 exact ht hc.2.1
theorem Rep.box {X:Nat→Prop} {w w':World} {M:Nat} {cs:Array Value} {t:TypeId} {fr:Nat × Nat} {a b c:Value} {l:List Sym} (h:Rep X w a b c l) (hM:w.heap[M]?=some (.cells cs t fr)) (ht:t≠183) (hk:Kept (fun k=>k=M) w w'):Rep X w' a b c l :=
 h.on (fun k hk' hx hti=>⟨hk.block k hk' (Zmt hM ht hti),hx⟩)
theorem RowT.box {X:Nat→Prop} {w w':World} {M:Nat} {cs:Array Value} {t:TypeId} {fr:Nat × Nat} {cv:Value} {ls:List (List Sym)} {xs:List Value} (h:RowT X w cv ls xs) (hM:w.heap[M]?=some (.cells cs t fr)) (ht:t≠183) (hk:Kept (fun k=>k=M) w w'):RowT X w' cv ls xs :=
 h.on (fun k hk' hx hti=>⟨hk.block k hk' (Zmt hM ht hti),hx⟩)
theorem Zdl {w w':World} {M:Nat} {cs:Array Value} {t:TypeId} {fr:Nat × Nat} {B:Nat} {e:TypeId} {size n:Nat} {v:Value} {xs:List Value} (h:w.ownsRow B e size v n xs) (hM:w.heap[M]?=some (.cells cs t fr)) (ht:e≠t) (hk:Kept (fun k=>k=M) w w'):w'.ownsRow B e size v n xs :=
 hk.owns h (fun k hk' e'=>by subst e'; exact Zah h ht hM hk')
theorem RowG.box {X:Nat→Prop} {w w':World} {M:Nat} {cs:Array Value} {t:TypeId} {fr:Nat × Nat} {B n:Nat} {cv:Value} {gs:List (List Sym × Nat)} {xs:List Value} (h:RowG X w B cv n gs xs) (hM:w.heap[M]?=some (.cells cs t fr)) (ht:t≠183) (ht':200≠t) (hk:Kept (fun k=>k=M) w w'):RowG X w' B cv n gs xs :=
 ⟨Zdl h.owns hM ht' hk,h.len,fun i s hs=>by
  obtain ⟨a,b,c,x0,x1,x2,x3,g⟩:=h.all i s hs
  exact ⟨a,b,c,x0,x1,x2,x3,g.box hM ht hk⟩⟩
theorem RepN.box {X:Nat→Prop} {w w':World} {M:Nat} {cs:Array Value} {t:TypeId} {fr:Nat × Nat} {gv vv dv uv:Value} {n:ND} (h:RepN X w gv vv dv uv n) (hM:w.heap[M]?=some (.cells cs t fr)) (ht:t≠183) (ht':200≠t) (ht2:3≠t) (hk:Kept (fun k=>k=M) w w'):RepN X w' gv vv dv uv n:=by
 obtain ⟨xs,h1⟩:=h.goals
 obtain ⟨ys,h2⟩:=h.vals
 obtain ⟨zs,h3⟩:=h.done
 exact ⟨⟨xs,h1.box hM ht ht' hk⟩,⟨ys,h2.box hM ht hk⟩,⟨zs,h3.box hM ht ht' hk⟩,Zdl h.used hM ht2 hk⟩
theorem Zyh {w:World} {B:Nat} {e:TypeId} {size n k:Nat} {v:Value} {xs:List Value} (h:w.ownsRow B e size v n xs) (hk:v.ownBlock=some k):∃ cur,w.heap[k]?=some (.cells cur e (0,0)):=by
 rcases h.2 with ⟨rfl,rfl⟩ | ⟨g,cap,cur,rfl,hb,hg,rest⟩
 ·simp [Value.ownBlock] at hk
 ·have:g=k:=by simpa [Value.ownBlock] using hk
  subst this
  exact ⟨cur,hg⟩
theorem RowT.aside {X:Nat→Prop} {w w':World} {B:Nat} {e:TypeId} {size m:Nat} {v cv:Value} {ys xs:List Value} {ls:List (List Sym)} (h:RowT X w cv ls xs) (ho:w.ownsRow B e size v m ys) (he:e≠183) (hk:Kept (Zap v) w w'):RowT X w' cv ls xs :=
 h.on (fun k hk' hx ht=>by
  obtain ⟨cur,hc⟩:=ht
  exact ⟨hk.block k hk' (Zah ho he hc),hx⟩)
theorem RowG.aside {X:Nat→Prop} {w w':World} {B B' n:Nat} {e:TypeId} {size m:Nat} {v cv:Value} {ys xs:List Value} {gs:List (List Sym × Nat)} (h:RowG X w B' cv n gs xs) (ho:w.ownsRow B e size v m ys) (he:e≠183) (he':e≠200) (hk:Kept (Zap v) w w'):RowG X w' B' cv n gs xs :=
 h.on (fun k hk'=>by
  obtain ⟨cur,hc⟩:=Zyh h.owns hk'
  exact hk.block k (h.owns.lt k hk').2 (Zah ho he' hc)) (fun k hk' hx ht=>by
  obtain ⟨cur,hc⟩:=ht
  exact ⟨hk.block k hk' (Zah ho he hc),hx⟩)
theorem Tryz.infoGC:(Tryz.prog.info? 292).map (fun i=>(i.zero,i.size,i.bytes))=some (some (.agg #[.string ⟨#[]⟩,.int .i64 0,.int .i64 0,.int .i64 0,.int .i64 0,.int .i64 0]),6,56):=by kernel_rfl
def Zkd (gs:List GC) (s:Sym):Nat:=gs.findIdx (fun c=>Zej c.sym s)
theorem Zyi {gs:List GC} {s:Sym} {k:Nat} {c:GC} (hc:gs[k]?=some c) (h:Zej c.sym s=true) (hb:∀ i d,i<k→gs[i]?=some d→Zej d.sym s=false):Zkd gs s=k:=by
 unfold Zkd
 obtain ⟨hk,rfl⟩:=Qa.1 hc
 rw [List.findIdx_eq hk]
 exact ⟨h,fun j hj=>hb j _ hj (Qb (by omega))⟩
theorem Zuc {gs:List GC} {s:Sym} (hb:∀ i d,i<gs.length→gs[i]?=some d→Zej d.sym s=false):Zkd gs s=gs.length:=by
 unfold Zkd
 rw [List.findIdx_eq_length]
 intro c hc
 obtain ⟨i,hi,rfl⟩:=List.getElem_of_mem hc
 exact hb i _ hi (Qb hi)
theorem Ygd {s:ByteArray} {a b c d e:Int}:∀ u ∈ (#[Value.string s,.int .i64 a,.int .i64 b,.int .i64 c,.int .i64 d,.int .i64 e]:Array Value).toList,u.oneCell'=true:=by
 intro u hu
 simp at hu
 rcases hu with rfl | rfl | rfl | rfl | rfl | rfl <;> rfl
def notV:Value→Value
 | .bool b => .bool (!b)
 | v=>v
theorem Zia {P:Program} {W w':World} {a:Act} {o:Oper} {v x' v':Value} (s x:Operand) (t:TypeId) (ho:o.op = .call { callee := .builtin .append,args:=#[s,x],argTypes:=#[t,t] }) (hs:a.eval s=v) (hx:a.eval x=x') (hr:(Builtin.append_ #[t,t] o.type #[v,x']).run P W = .ok v' w'):(execOp a.eval o).run P W = .ok (.value v') w':=by
 unfold execOp
 simp only [ho,resolve,invoke,builtin,Sem.run_bind,Sem.run_pure,Result.andThen_ok,List.map_toArray,List.map_cons,List.map_nil,hs,hx,hr]
def Ybn (gb:Nat) (v:Value) (gs:List GC) (s:Sym) (w w':World):Prop:=∃ v',GAt w' gb v' (gs++[⟨s,0,Zkd gs s,0⟩])∧Kept (fun k=>k=gb∨Zap v k) w w'∧∀ k,Zap v' k→Zap v k∨w.heap.size≤k
theorem Zmu (w:World) (gb:Nat) (v:Value) (gs:List GC) (s:Sym) (h:GAt w gb v gs) (hl:gs.length≤4000) :
  Calls Tryz.prog 187 #[.pointer (some ⟨gb,0,none⟩),.agg #[.string ⟨s.name.toArray⟩,.int .i64 s.num,.int .i64 s.args]] w fun e w'=>e = .returned (.tuple #[])∧Ybn gb v gs s w w':=by
 obtain ⟨va,vcap,rfl⟩:=Zad h.owns
 have hgb:=Zac h.box
 have H:=Zaa h
 clear h
 go_enter Tryz.func187,Tryz.ntmps187
 go_wp2
 go_loopg [4] (gs.length+1) (fun gk iv wr=>∃ (k:Nat),iv = .int .i64 k∧k≤gs.length∧gs.length - k<gk∧Ext w wr∧wr.heap[w.heap.size]?=some (.cells #[.string ⟨s.name.toArray⟩,.int .i64 s.num,.int .i64 s.args] 133 (0,0))∧∀ i d,i<k→gs[i]?=some d→Zej d.sym s=false)
 case atStart=>exact ⟨0,by go_num,Qm _,by omega,(Ext.of (by repeat' (first | with_reducible(first|exact Qx _ _|apply Kept.drew|apply Kept.drewN|apply Qz|refine Qy ?_ ?_ _)|exact fun h=>absurd h (by simp <;> omega)))),heap_alloc_new w _,fun i d h=>by omega⟩
 case round =>
  obtain ⟨k,rfl,hk,hgk,hext,hbox,hbef⟩:=hrel
  have hsr:=hext.size
  have hG:=H.out.ext hext
  have b0:wr.cell? ⟨gb,0,none⟩=some (.slice va gs.length vcap):=Zab hG.box 0 _ rfl
  have hgb':=Zac hG.box
  obtain ⟨s0,s1,s2,sf⟩:=box3 hbox
  have hwb:=Zac hbox
  have gf:=fun i=>Zae hG.box i
  have HG:=Zaa hG
  have Hext:=Zaa hext
  have Hbox:=Zaa hbox
  have Hbef:=Zaa hbef
  clear hG hext hbox hbef
  have Hdone:Hid (∀ (u:World) (v':Value) (w2:World),Ext wr u→Zkd gs s=k→Appended u 0 292 6 (.slice va gs.length vcap) (gs.length+1) (gcs gs++[.string ⟨s.name.toArray⟩,.int .i64 s.num,.int .i64 s.args,.int .i64 0,.int .i64 k,.int .i64 0]) v' w2→Ybn gb (.slice va gs.length vcap) gs s w (w2.setCell ⟨gb,0,none⟩ v')):=fun u v' w2 hu hpl hap=>by
   have hGu:=HG.out.ext hu
   have hsu:=hu.size
   have hblk:=(hap.kept.block gb (Zac hGu.box) (Zah hGu.owns (by decide) hGu.box)).trans hGu.box
   have hK:Kept (fun j=>j=gb) w2 (w2.setCell ⟨gb,0,none⟩ v'):=(Qx (only gb) w2).put 0 _
   refine ⟨v',⟨Zai hblk 0 _,?_⟩,?_,fun j hj => ?_⟩
   ·have:=Zdl hap.owns hblk (by decide) hK
    rw [Ydz,hpl]
    simpa [gcV] using this
   ·have k1:Kept (fun k=>k=gb∨Zap (.slice va gs.length vcap) k) w u:=(Kept.of_below (Hext.out.trans (hu.mono hsr))).mono (fun i hi h=>by omega)
    exact (k1.then hap.kept (fun i _ h=>Or.inr h)).then hK (fun i _ h=>Or.inl h)
   ·rcases hap.where_ with hw | ⟨g,hw,hg⟩
    ·exact Or.inl (hw.symm.trans hj)
    ·have:some g=some j:=hw.symm.trans hj
     simp at this
     exact Or.inr (by omega)
  by_cases hlt:k<gs.length
  ·obtain ⟨c,hc⟩:∃ c,gs[k]?=some c:=⟨_,Qb hlt⟩
   obtain ⟨cb,cap',he,hcb,hcap,_,_⟩:=HG.out.shape (by omega)
   simp only [Value.slice.injEq] at he
   obtain ⟨rfl,_,rfl⟩:=he
   obtain ⟨c0,c1,c2,_,_,_⟩:=HG.out.cell hc
   have HS:=Zaa (Zyd wr.drew c.sym s)
   have Hc:=Zaa hc
   clear hc
   go_wp2_with fail
   refine Zsb (by kernel_rfl) [.pur (.int .i64 k),.pur (.pointer (some ⟨gb,0,none⟩)),.pur (.pointer (some ⟨gb,0,none⟩)),.pur (.pointer (some ⟨gb,0,none⟩)),.pur (.slice (some ⟨cb,0,none⟩) gs.length vcap),.pur (.int .i64 gs.length),.pur (.bool true),.pur (.bool true),
    .pur (.pointer (some ⟨gb,0,none⟩)),.pur (.pointer (some ⟨gb,0,none⟩)),.pur (.pointer (some ⟨gb,0,none⟩)),.pur (.slice (some ⟨cb,0,none⟩) gs.length vcap),.pur (.int .i64 k),.pur (.pointer (some ⟨cb,k * 6,none⟩)),.pur (.pointer (some ⟨cb,k * 6,none⟩)),.pur (.agg #[.string ⟨c.sym.name.toArray⟩,.int .i64 c.sym.num,.int .i64 c.sym.args]),.pur (.agg #[.string ⟨s.name.toArray⟩,.int .i64 s.num,.int .i64 s.args]),
    .cal,.post notV,.post notV] 17 20 (by kernel_rfl)
    (fun r u=>r = .bool (Zej c.sym s)∧Ext wr u) (fun r u=>r = .bool (Zej c.sym s)∧Ext wr u) 207
    #[.agg #[.string ⟨c.sym.name.toArray⟩,.int .i64 c.sym.num,.int .i64 c.sym.args],.agg #[.string ⟨s.name.toArray⟩,.int .i64 s.num,.int .i64 s.args]] ?_ ?_ rfl (by decide) (Or.inr ⟨by decide,fun _ _ h=>h⟩) ?_
   ·refine HS.out.mono ?_
    rintro e u ⟨rfl,he⟩
    exact ⟨_,rfl,rfl,he.undrew⟩
   ·refine ⟨fun vc => ?_,fun vc => ?_,fun vc => ?_,fun vc => ?_,fun vc => ?_,fun vc => ?_,fun vc => ?_,fun vc => ?_,fun vc => ?_,fun vc => ?_,fun vc => ?_,fun vc => ?_,fun vc => ?_,fun vc => ?_,fun vc => ?_,fun vc => ?_,fun vc => ?_,fun vc => ?_,?_,?_,trivial⟩
    all_goals try (simp [pa,Kd.val,go_sem,b0,s0,s1,s2,c0,c1,c2,hlt]; done)
    all_goals
     rintro vc u (⟨rfl,_⟩ | ⟨rfl,_⟩) <;> simp [pa,Kd.val,go_sem,notV]
   rintro vc u ⟨rfl,hu⟩
   simp only [paAll,pa,Kd.val,if_true,Act.put,notV]
   have hsu:=hu.size
   have hgu0:=HG.out.ext hu
   have hbu:=(hu.block _ hwb).trans Hbox.out
   obtain ⟨s0,s1,s2,sf⟩:=box3 hbu
   have b0:u.cell? ⟨gb,0,none⟩=some (.slice (some ⟨cb,0,none⟩) gs.length vcap):=Zab hgu0.box 0 _ rfl
   have hgu:gb<u.heap.size:=Zac hgu0.box
   have HGu:Hid (GAt (u.drewN 1) gb (.slice (some ⟨cb,0,none⟩) gs.length vcap) gs):=hgu0.on (fun _ _=>rfl)
   have Hrow:Hid ((u.drewN 1).ownsRow 0 292 6 (.slice (some ⟨cb,0,none⟩) gs.length vcap) gs.length (gcs gs)):=HGu.out.owns
   have Hu:=Zaa hu
   have Hbu:=Zaa hbu
   clear hu hgu0 hbu c0 c1 c2
   cases hsv:Zej c.sym s with
   | false =>
    have Hsv:=Zaa hsv
    clear hsv
    simp only [List.setIfInBounds_toArray,Bool.not_false,Bool.not_true,List.set_cons_succ,List.set_cons_zero]
    go_wp2
    go_roundg (gs.length - k)
    case measure=>omega
    case rel =>
     refine ⟨k+1,by go_num,by omega,by omega,Hext.out.trans (Hu.out.mono hsr),Hbu.out,fun i d hi hd => ?_⟩
     by_cases e:i=k
     ·subst e
      rw [Hc.out] at hd
      simp at hd
      subst hd
      exact Hsv.out
     ·exact Hbef.out i d (by omega) hd
   | true =>
    have Hpl:=Zaa (Zyi Hc.out hsv Hbef.out)
    clear hsv
    simp only [List.setIfInBounds_toArray,Bool.not_false,Bool.not_true,List.set_cons_succ,List.set_cons_zero]
    go_wp2_with fail
    have Hu':Hid (Ext wr u.drew):=Hu.out.trans ⟨rfl,rfl,rfl,Qe _,fun _ _=>rfl⟩
    have hwu:w.heap.size<u.heap.size:=by omega
    go_region_law (refine Zch (u.drewN 1) rfl (.tmp 31) (.tmp 35) 264 rfl 0 292 Tryz.infoGC Tryz.underlying264 rfl (by decide) (.slice (some ⟨cb,0,none⟩) gs.length vcap) gs.length (gcs gs) rfl Hrow.out #[.string ⟨s.name.toArray⟩,.int .i64 s.num,.int .i64 s.args,.int .i64 0,.int .i64 k,.int .i64 0] rfl (by simp) rfl Ygd (by omega) (Qm _) rfl ?_; intro v' w2 hap; obtain ⟨va2,vc2,rfl⟩:=Zad hap.owns; have hblk2:=(hap.kept.block gb hgu (Zah Hrow.out (by decide) HGu.out.box)).trans HGu.out.box; have d0:=Zab hblk2 0 _ rfl; have df:=fun i=>Zae hblk2 i; have Hout:=Zaa (Hdone.out (u.drewN 1) _ w2 Hu'.out Hpl.out (by simpa using hap)); clear hap hblk2)
    all_goals
     go_wp2
     go_end0
     exact ⟨rfl,Hout.out⟩
  ·have hek:k=gs.length:=by omega
   subst hek
   have hd:decide (((gs.length:Nat):Int)<((gs.length:Nat):Int))=false:=by simp
   have Hpl:=Zaa (Zuc (fun i d hi hd'=>Hbef.out i d hi hd'))
   have HGu:Hid (∀ n,GAt (wr.drewN n) gb (.slice va gs.length vcap) gs):=fun n=>HG.out.on (fun _ _=>rfl)
   go_wp2_with fail
   go_quiet (fail)
   obtain ⟨u,hqu⟩:∃ u,u=wr.drewN nq:=⟨_,rfl⟩
   rw [← hqu]
   have b0:u.cell? ⟨gb,0,none⟩=some (.slice va gs.length vcap):=by rw [hqu]; exact b0
   have s0:u.cell? ⟨w.heap.size,0,none⟩=some (.string ⟨s.name.toArray⟩):=by rw [hqu]; exact s0
   have s1:u.cell? ⟨w.heap.size,1,none⟩=some (.int .i64 s.num):=by rw [hqu]; exact s1
   have s2:u.cell? ⟨w.heap.size,2,none⟩=some (.int .i64 s.args):=by rw [hqu]; exact s2
   have hgu:gb<u.heap.size:=by rw [hqu]; exact hgb'
   have hwu:w.heap.size<u.heap.size:=by rw [hqu]; exact hwb
   have HGu:Hid (GAt u.drew gb (.slice va gs.length vcap) gs):=by rw [hqu]; exact HGu.out (nq+1)
   have Hrow:Hid (u.drew.ownsRow 0 292 6 (.slice va gs.length vcap) gs.length (gcs gs)):=HGu.out.owns
   have Hu:Hid (Ext wr u):=by rw [hqu]; exact ⟨rfl,rfl,rfl,Qe _,fun _ _=>rfl⟩
   clear hqu
   go_wp2_with fail
   have Hu':Hid (Ext wr u.drew):=Hu.out.trans ⟨rfl,rfl,rfl,Qe _,fun _ _=>rfl⟩
   have hwu:w.heap.size<u.heap.size:=by omega
   go_region_law (refine Zch u.drew rfl (.tmp 31) (.tmp 35) 264 rfl 0 292 Tryz.infoGC Tryz.underlying264 rfl (by decide) (.slice va gs.length vcap) gs.length (gcs gs) rfl Hrow.out #[.string ⟨s.name.toArray⟩,.int .i64 s.num,.int .i64 s.args,.int .i64 0,.int .i64 gs.length,.int .i64 0] rfl (by simp) rfl Ygd (by omega) (Qm _) rfl ?_; intro v' w2 hap; obtain ⟨va2,vc2,rfl⟩:=Zad hap.owns; have hblk2:=(hap.kept.block gb hgu (Zah Hrow.out (by decide) HGu.out.box)).trans HGu.out.box; have d0:=Zab hblk2 0 _ rfl; have df:=fun i=>Zae hblk2 i; have Hout:=Zaa (Hdone.out u.drew _ w2 Hu'.out Hpl.out (by simpa using hap)); clear hap hblk2)
   all_goals
    go_wp2
    go_end0
    exact ⟨rfl,Hout.out⟩
def Zdz (l:List Sym):List GC:=(List.range l.length).map (fun i=>⟨Zba l i,0,Zbj l i,0⟩)
theorem Zbv (l:List Sym):(Zdz l).length=l.length:=by simp [Zdz]
theorem Zgj {l:List Sym} {i:Nat} (h:i<l.length):(Zdz l)[i]?=some ⟨Zba l i,0,Zbj l i,0⟩:=by
 simp [Zdz,h]
theorem Zyj (l:List Sym):(Zdz l).map GC.sym=l:=by
 apply List.ext_getElem?
 intro i
 rw [Qj]
 by_cases h:i<l.length
 ·rw [Zgj h]; simp [Zba,h]
 ·rw [List.getElem?_eq_none (by rw [Zbv]; omega),List.getElem?_eq_none (by omega)]; rfl
theorem Zor {l:List Sym} {i:Nat} (r:List Sym) (h:i<l.length):Zba (l++r) i=Zba l i:=by
 simp [Zba,List.getD_eq_getElem?_getD,Qc h]
theorem Zsd {l:List Sym} {i:Nat} (s:Sym) (h:i<l.length):Zbj (l++[s]) i=Zbj l i:=by
 unfold Zbj
 rw [Zor _ h]
 split
 ·rename_i hn
  rw [List.findIdx_append,if_pos]
  rw [List.findIdx_lt_length]
  refine ⟨Zba l i,?_,by simp [hn]⟩
  simp only [Zba,List.getD_eq_getElem?_getD,Qb h,Option.getD_some]
  exact List.getElem_mem h
 ·rfl
theorem Zse (l:List Sym) (s:Sym):Zbj (l++[s]) l.length=Zkd (Zdz l) s:=by
 have h1:Zkd (Zdz l) s=l.findIdx (fun t=>Zej t s):=by
  have:=List.findIdx_map (Zdz l) GC.sym (fun t=>Zej t s)
  rw [Zyj] at this
  exact this.symm
 have h2:Zba (l++[s]) l.length=s:=by simp [Zba]
 rw [h1]
 unfold Zbj
 rw [h2]
 split
 ·rename_i hn
  have hp:(fun t:Sym=>Zej t s)=(fun t=>t.name.isEmpty && t.num == s.num):=by
   funext t; simp [Zej,hn]
  rw [hp,List.findIdx_append]
  split
  ·rfl
  ·rename_i hh
   have:=List.findIdx_le_length (p:=fun t:Sym=>t.name.isEmpty && t.num == s.num) (xs:=l)
   have h0:[s].findIdx (fun t:Sym=>t.name.isEmpty && t.num == s.num)=0:=by simp [List.findIdx_cons,hn]
   omega
 ·rename_i hn
  refine (List.findIdx_eq_length.2 ?_).symm
  intro t _
  have:s.name.isEmpty=false:=by
   cases h:s.name with
   | nil=>exact absurd h hn
   | cons _ _=>rfl
  simp [Zej,this]
theorem Zyk (l:List Sym) (s:Sym):Zdz (l++[s])=Zdz l++[⟨s,0,Zkd (Zdz l) s,0⟩]:=by
 apply List.ext_getElem?
 intro i
 by_cases h:i<l.length
 ·rw [Qc (by rw [Zbv]; exact h),Zgj h,Zgj (by simp; omega),Zor _ h,Zsd _ h]
 ·by_cases e:i=l.length
  ·subst e
   rw [Zgj (by simp),Qd (by rw [Zbv]; omega),Zbv,Zse]
   simp [Zba]
  ·rw [List.getElem?_eq_none (by rw [Zbv]; simp; omega),List.getElem?_eq_none (by simp [Zbv]; omega)]
def LayAt (w:World) (l:List Sym) (wr:World):Prop:=∃ v,GAt wr (w.heap.size+1) v (Zdz l)∧Ext w wr∧(∀ j,Zap v j→w.heap.size≤j)∧wr.heap[w.heap.size]?=some (.cells #[.slice none 0 0] 266 (0,0))
theorem LayAt.add {w wr w1:World} {l:List Sym} {s:Sym} {v:Value} (h1:GAt wr (w.heap.size+1) v (Zdz l)) (h2:Ext w wr) (h3:∀ j,Zap v j→w.heap.size≤j) (h4:wr.heap[w.heap.size]?=some (.cells #[.slice none 0 0] 266 (0,0))) (ha:Ybn (w.heap.size+1) v (Zdz l) s wr w1):LayAt w (l++[s]) w1:=by
 obtain ⟨v',g1,g2,g3⟩:=ha
 have hs:=h2.size
 refine ⟨v',by rw [Zyk]; exact g1,h2.trans (g2.below hs (fun k hk => ?_)),fun j hj => ?_,(g2.block _ (Zac h4) ?_).trans h4⟩
 ·rcases hk with rfl | hk
  ·omega
  ·exact h3 k hk
 ·rcases g3 j hj with h | h
  ·exact h3 j h
  ·omega
 ·rintro (h | h)
  ·omega
  ·exact Zah h1.owns (by decide) h4 h
def LaidG (w:World) (l:List Sym) (e:Ending) (w':World):Prop:=∃ v,e = .returned (.agg #[v])∧w'.ownsRow 0 292 6 v l.length (gcs (Zfx l (Zdz l) 0))∧Ext w w'∧∀ j,Zap v j→w.heap.size≤j
theorem Zyl (w:World) (v1 v2:Value) (a b:List Sym) (h1:w.ownsRow 0 133 3 v1 a.length (Zam a)) (h2:w.ownsRow 0 133 3 v2 b.length (Zam b)) (ha:Wf 1 a) (hb:Wf 1 b) (hal:a.length≤1000) (hbl:b.length≤1000) :
  Calls Tryz.prog 157 #[v1,v2] w (LaidG w (a++b)):=by
 have hapos:=Zcp ha
 have hbpos:=Zcp hb
 obtain ⟨g1,cap1,cur1,rfl,_,hg1,hc1⟩:=Zan h1 (by omega)
 obtain ⟨g2,cap2,cur2,rfl,_,hg2,hc2⟩:=Zan h2 (by omega)
 have hgl1:=Zac hg1
 have hgl2:=Zac hg2
 have H1:=Zaa h1
 have H2:=Zaa h2
 have Ha:=Zaa ha
 have Hb:=Zaa hb
 clear h1 h2 ha hb hg1 hg2
 go_enter Tryz.func157,Tryz.ntmps157
 go_wp2
 go_loopg [12] (a.length+1) (fun gk iv wr=>∃ (k:Nat),iv = .int .i64 k∧k≤a.length∧a.length - k<gk∧LayAt w (a.take k) wr)
 case atStart=>exact ⟨0,by go_num,Qm _,by omega,.slice none 0 0,⟨by have:=heap_alloc_new (w.alloc (.cells #[.slice none 0 0] 266)) (.cells #[.slice none 0 0] 266); simpa using this,World.ownsRow_nil _ _ _ _⟩,(Ext.of (by repeat' (first | with_reducible(first|exact Qx _ _|apply Kept.drew|apply Kept.drewN|apply Qz|refine Qy ?_ ?_ _)|exact fun h=>absurd h (by simp <;> omega)))),fun j hj=>by simp [Zap,Value.ownBlock] at hj,(Below.heap_alloc _ _ _ (by simp)).trans (heap_alloc_new w _)⟩
 case round =>
  obtain ⟨k,rfl,hk,hgk,hL⟩:=hrel
  obtain ⟨v,hG,hext,hown,hblk⟩:=hL
  have hsr:=hext.size
  have hgb:=Zac hG.box
  have HG:=Zaa hG
  have Hext:=Zaa hext
  have Hown:=Zaa hown
  have Hblk:=Zaa hblk
  clear hG hext hown hblk
  by_cases hlt:k<a.length
  ·obtain ⟨s,hs⟩:∃ s,a[k]?=some s:=⟨_,Qb hlt⟩
   have ho:=Zak H1.out (fun j hj=>Hext.out.block j (H1.out.lt j hj).2)
   have hgr:g1<wr.heap.size:=by omega
   have e0:wr.cell? ⟨g1,k * 3,none⟩=some (.string ⟨s.name.toArray⟩):=Zaf ho _ _ (by have:=Zbg a k s hs 0 (by omega); rw [Nat.add_zero] at this; rw [this]; rfl)
   have e1:wr.cell? ⟨g1,k * 3+1,none⟩=some (.int .i64 s.num):=Zaf ho _ _ (by rw [Zbg a k s hs 1 (by omega)]; rfl)
   have e2:wr.cell? ⟨g1,k * 3+2,none⟩=some (.int .i64 s.args):=Zaf ho _ _ (by rw [Zbg a k s hs 2 (by omega)]; rfl)
   have hnx:a.take (k+1)=a.take k++[s]:=by rw [List.take_add_one,hs]; rfl
   have Hnx:=Zaa hnx
   clear hs ho hnx
   go_wp2_with fail
   have hE:Ext wr (wr.alloc (.cells #[.string ⟨s.name.toArray⟩,.int .i64 s.num,.int .i64 s.args] 133)):=(Ext.of (by repeat' (first | with_reducible(first|exact Qx _ _|apply Kept.drew|apply Kept.drewN|apply Qz|refine Qy ?_ ?_ _)|exact fun h=>absurd h (by simp <;> omega))))
   refine (Zmu _ (w.heap.size+1) v (Zdz (a.take k)) s (HG.out.ext hE) (by rw [Zbv]; simp; omega)).mono ?_
   rintro e w1 ⟨rfl,hout⟩
   have hL1:=LayAt.add (HG.out.ext hE) (Hext.out.trans (hE.mono hsr)) Hown.out ((hE.block _ (Zac Hblk.out)).trans Hblk.out) hout
   have HL1:=Zaa hL1
   clear hout hL1 hE
   go_wp2
   go_roundg (a.length - k)
   case measure=>omega
   case rel=>exact ⟨k+1,by go_num,by omega,by omega,by rw [Hnx.out]; exact HL1.out⟩
  ·have hek:k=a.length:=by omega
   subst hek
   rw [List.take_length] at HG
   have HLa:Hid (LayAt w a wr):=⟨v,HG.out,Hext.out,Hown.out,Hblk.out⟩
   clear HG Hext Hown Hblk
   go_wp2
   go_loopg [21] (b.length+1) (fun gk iv wr=>∃ (k:Nat),iv = .int .i64 k∧k≤b.length∧b.length - k<gk∧LayAt w ((a++b.take k)) wr)
   case atStart=>exact ⟨0,by go_num,Qm _,by omega,by have:=HLa.out; simpa using this⟩
   case round =>
    obtain ⟨k,rfl,hk,hgk,hL⟩:=hrel
    obtain ⟨v,hG,hext,hown,hblk⟩:=hL
    have hsr:=hext.size
    have hgb:=Zac hG.box
    have HG:=Zaa hG
    have Hext:=Zaa hext
    have Hown:=Zaa hown
    have Hblk:=Zaa hblk
    clear hG hext hown hblk
    by_cases hlt:k<b.length
    ·obtain ⟨s,hs⟩:∃ s,b[k]?=some s:=⟨_,Qb hlt⟩
     have ho:=Zak H2.out (fun j hj=>Hext.out.block j (H2.out.lt j hj).2)
     have hgr:g2<wr.heap.size:=by omega
     have e0:wr.cell? ⟨g2,k * 3,none⟩=some (.string ⟨s.name.toArray⟩):=Zaf ho _ _ (by have:=Zbg b k s hs 0 (by omega); rw [Nat.add_zero] at this; rw [this]; rfl)
     have e1:wr.cell? ⟨g2,k * 3+1,none⟩=some (.int .i64 s.num):=Zaf ho _ _ (by rw [Zbg b k s hs 1 (by omega)]; rfl)
     have e2:wr.cell? ⟨g2,k * 3+2,none⟩=some (.int .i64 s.args):=Zaf ho _ _ (by rw [Zbg b k s hs 2 (by omega)]; rfl)
     have hnx:b.take (k+1)=b.take k++[s]:=by rw [List.take_add_one,hs]; rfl
     have Hnx:=Zaa hnx
     clear hs ho hnx
     go_wp2_with fail
     have hE:Ext wr (wr.alloc (.cells #[.string ⟨s.name.toArray⟩,.int .i64 s.num,.int .i64 s.args] 133)):=(Ext.of (by repeat' (first | with_reducible(first|exact Qx _ _|apply Kept.drew|apply Kept.drewN|apply Qz|refine Qy ?_ ?_ _)|exact fun h=>absurd h (by simp <;> omega))))
     refine (Zmu _ (w.heap.size+1) v (Zdz ((a++b.take k))) s (HG.out.ext hE) (by rw [Zbv]; simp; omega)).mono ?_
     rintro e w1 ⟨rfl,hout⟩
     have hL1:=LayAt.add (HG.out.ext hE) (Hext.out.trans (hE.mono hsr)) Hown.out ((hE.block _ (Zac Hblk.out)).trans Hblk.out) hout
     have HL1:=Zaa hL1
     clear hout hL1 hE
     go_wp2
     go_roundg (b.length - k)
     case measure=>omega
     case rel=>exact ⟨k+1,by go_num,by omega,by omega,by rw [Hnx.out,← Qi]; exact HL1.out⟩
    ·have hek:k=b.length:=by omega
     subst hek
     rw [List.take_length] at HG
     obtain ⟨cb,cap,rfl,hcb,hcap,hne,hfz⟩:=HG.out.shape (by rw [Zbv]; simp; omega)
     have HG2:=Zaa HG.out
     have hll:(Zdz (a++b)).length=a.length+b.length:=by rw [Zbv]; simp
     have Hll:=Zaa hll
     clear hll
     go_wp2_with fail
     refine (Zsa wr (w.heap.size+1) _ (Zdz (a++b)) (a++b) HG.out (Zbv _) (fun i c hc => ?_) (Zft Ha.out Hb.out) (by rw [Zbv]; simp; omega)).mono ?_
     ·have hi:=(Qa.1 hc).1
      rw [Zbv] at hi
      rw [Zgj hi] at hc
      simp at hc
      rw [← hc]
     rintro e w1 ⟨rfl,hG1,hk1⟩
     have hblk1:=(hk1.block _ (Zac Hblk.out) (Zah HG2.out.owns (by decide) Hblk.out)).trans Hblk.out
     have b1:w1.cell? ⟨w.heap.size+1,0,none⟩=some (.slice (some ⟨cb,0,none⟩) (Zdz (a++b)).length cap):=Zab hG1.box 0 _ rfl
     have b2:w1.cell? ⟨w.heap.size,0,none⟩=some (.slice none 0 0):=Zab hblk1 0 _ rfl
     have bf:=fun i=>Zae hblk1 i
     have hs1:=hk1.size
     have HG1:=Zaa hG1
     have Hk1:=Zaa hk1
     have Hblk1:=Zaa hblk1
     clear hG1 hk1 hblk1
     go_wp2
     have hK:Kept (fun j=>j=w.heap.size) w1 (w1.setCell ⟨w.heap.size,0,none⟩ (.slice (some ⟨cb,0,none⟩) (Zdz (a++b)).length cap)):=(Qx (only w.heap.size) w1).put 0 _
     have h0:(w1.setCell ⟨w.heap.size,0,none⟩ (.slice (some ⟨cb,0,none⟩) (Zdz (a++b)).length cap)).cell? ⟨w.heap.size,0,none⟩=some (.slice (some ⟨cb,0,none⟩) (Zdz (a++b)).length cap):=Zab (Zai Hblk1.out 0 _) 0 _ rfl
     refine bodyPost_ret (v := .agg #[.slice (some ⟨cb,0,none⟩) (Zdz (a++b)).length cap]) (by simp [results,Tryz.results157,go_sem,h0]) rfl ⟨_,rfl,?_,?_,Hown.out⟩
     ·have:=Zdl HG1.out.owns Hblk1.out (by decide) hK
      rw [Zfy,Zbv] at this
      rw [Zbv]
      exact this
     ·exact (Hext.out.trans (Hk1.out.below hsr Hown.out)).trans (hK.below (by omega) (fun k hk=>by omega))
def sz (gs:List GC) (f:Nat→Int):List GC:=gs.mapIdx (fun i c => { c with size:=f i })
def upd (f:Nat→Int) (x:Nat) (u:Int):Nat→Int:=fun j=>if j=x then u else f j
theorem Zeq (gs:List GC) (f:Nat→Int):(sz gs f).length=gs.length:=by simp [sz]
theorem Zsf {gs:List GC} {f:Nat→Int} {i:Nat} {c:GC} (h:gs[i]?=some c):(sz gs f)[i]?=some { c with size:=f i }:=by
 unfold sz; rw [List.getElem?_mapIdx,h]; rfl
theorem Yit (gs:List GC) (f:Nat→Int):(sz gs f).map GC.up=gs.map GC.up:=by
 apply List.ext_getElem?
 intro i
 rw [Qj,Qj]
 cases h:gs[i]? with
 | none=>rw [List.getElem?_eq_none (by rw [Zeq]; exact List.getElem?_eq_none_iff.1 h)]
 | some c=>rw [Zsf h]; rfl
theorem Yge (gs:List GC) (f:Nat→Int) (x:Nat) (u:Int):(sz gs f).modify x (fun c => { c with size:=u })=sz gs (upd f x u):=by
 apply List.ext_getElem?
 intro i
 rw [List.getElem?_modify]
 cases h:gs[i]? with
 | none =>
  rw [List.getElem?_eq_none (by rw [Zeq]; exact List.getElem?_eq_none_iff.1 h),List.getElem?_eq_none (by rw [Zeq]; exact List.getElem?_eq_none_iff.1 h)]; rfl
 | some c =>
  rw [Zsf h,Zsf h]
  by_cases e:x=i
  ·subst e; simp [upd]
  ·have e':¬ i=x:=fun h=>e h.symm
   simp [e,upd,e']
def Zgw:Nat→(Nat→Int)→Nat
 | 0,_=>0
 | n+1,f=>Zgw n f+if f n=0 then 1 else 0
theorem Zos (f:Nat→Int) (x:Nat) {u:Int} (hu:u≠0):∀ n,Zgw n (upd f x u)≤Zgw n f∧(x<n→f x=0→Zgw n (upd f x u)<Zgw n f):=by
 intro n
 induction n with
 | zero=>exact ⟨Qe _,fun h=>by omega⟩
 | succ n ih =>
  obtain ⟨h1,h2⟩:=ih
  by_cases e:n=x
  ·subst e
   have:upd f n u n=u:=by simp [upd]
   simp only [Zgw,this,if_neg hu]
   refine ⟨by omega,fun _ h => ?_⟩
   rw [if_pos h]; omega
  ·have:upd f x u n=f n:=by simp [upd,e]
   simp only [Zgw,this]
   exact ⟨by omega,fun h h0=>by have:=h2 (by omega) h0; omega⟩
def dnF (n:Nat) (f:Nat→Int) (j:Nat):Prop:=j<n∧0<f j
def Ybo (n:Nat) (f:Nat→Int) (T:Nat→List Sym):Prop:=∀ j,j<n→f j=0∨f j = -1∨(0<f j∧f j=((min 31 (T j).length:Nat):Int))
def sumM (T:Nat→List Sym) (ρ:Nat→Nat) (ks:List Nat):Nat:=(ks.map (fun k=>min 31 (T (ρ k)).length)).sum
theorem Yhg (T:Nat→List Sym) (ρ:Nat→Nat) (ks:List Nat):sumM T ρ ks≤31 * ks.length:=by
 induction ks with
 | nil=>simp [sumM]
 | cons k ks ih=>simp only [sumM,List.map_cons,List.sum_cons,Qf] at ih ⊢; omega
theorem Ybp (T:Nat→List Sym) (ρ:Nat→Nat) (ks:List Nat) (k:Nat):sumM T ρ (ks++[k])=sumM T ρ ks+min 31 (T (ρ k)).length:=by simp [sumM]
theorem Zym {T T':Nat→List Sym} {ρ:Nat→Nat} {ks:List Nat} (h:∀ k ∈ ks,T' (ρ k)=T (ρ k)):sumM T' ρ ks=sumM T ρ ks:=by
 unfold sumM; congr 1; exact List.map_congr_left (fun k hk=>by rw [h k hk])
theorem Yeg (T:Nat→List Sym) (ρ:Nat→Nat) (ks:List Nat):min 31 (1+sumM T ρ ks)=min 31 (1+((ks.map (fun k=>T (ρ k))).flatten).length):=by
 induction ks with
 | nil=>rfl
 | cons k ks ih=>simp only [sumM,List.map_cons,List.sum_cons,List.flatten_cons,Qg] at ih ⊢; omega
theorem Zud {l:List Sym} {n i:Nat} (hw:Wf n l) (hi:i<l.length):(Zba l i).args≤l.length:=by
 obtain ⟨_,e2,_⟩:=Zhd hw hi
 obtain ⟨_,_,_,_,_,hb,_⟩:=Zew hw hi
 have hkl:∀ k,k<(Zba l i).args→i<Zax l (i+1) k∧Zax l (i+1) k<l.length:=fun k hk=>by
  have:=e2 _ (Qh (Zce l (i+1) _ k hk))
  omega
 have mono:∀ k,k≤(Zba l i).args→i+1+k≤Zax l (i+1) k:=by
  intro k
  induction k with
  | zero=>intro _; simp [Zax]
  | succ k ih =>
   intro hk
   have:=ih (by omega)
   rw [Zci]
   have:=hkl k (by omega)
   obtain ⟨_,_,_,_,h6,_⟩:=Zew hw (i:=Zax l (i+1) k) (by omega)
   omega
 rcases Nat.lt_or_ge l.length (Zba l i).args with h | h
 ·exfalso
  have:=mono l.length (by omega)
  have:=hkl l.length h
  omega
 ·exact h
def Ybq (gb:Nat) (v:Value) (gs:List GC) (l:List Sym) (ρ:Nat→Nat) (f:Nat→Int) (T:Nat→List Sym) (i:Nat) (w:World) (e:Ending) (w':World):Prop:=∃ f',GAt w' gb v (sz gs f')∧Kept (Zap v) w w' ∧
 ((∃ T',e = .returned (.int .i64 ((min 31 (T' (ρ i)).length:Nat):Int))∧Ybo gs.length f' T'∧Zgw gs.length f'≤Zgw gs.length f∧Known (grOf l) ρ (dnF gs.length f') T'∧dnF gs.length f' (ρ i)∧(∀ j,f' j = -1↔f j = -1)∧(∀ j,dnF gs.length f j→dnF gs.length f' j∧T' j=T j)) ∨
  (e = .returned (.int .i64 (-1))∧Stuck (grOf l) ρ (fun r=>f r = -1) i))
def Zqe (m:Nat):Prop:=∀ (w:World) (gb:Nat) (v:Value) (gs:List GC) (l:List Sym) (ρ rk:Nat→Nat) (f:Nat→Int) (T:Nat→List Sym) (i:Nat),GAt w gb v (sz gs f)→CellsOf gs l→Wf 2 l→UpOk (gs.map GC.up) ρ rk→Ybo gs.length f T→Zgw gs.length f≤m→i<gs.length→gs.length≤4000→Known (grOf l) ρ (dnF gs.length f) T →
 Calls Tryz.prog 159 #[.pointer (some ⟨gb,0,none⟩),.int .i64 i] w (Ybq gb v gs l ρ f T i w)
theorem Ybr (m:Nat) (IH:∀ k,k<m→Zqe k):Zqe m:=by
 intro w gb v gs l ρ rk f T i h hc hw hu hS hm hi hl hK
 have hrt:=hu.rt
 have hx:=hrt.lt i (by simpa using hi)
 have rx:=hrt.idem i (by simpa using hi)
 rw [Ql] at hx
 obtain ⟨x,hxe⟩:∃ x,x=ρ i:=⟨_,rfl⟩
 rw [← hxe] at hx rx
 obtain ⟨cb,cap,rfl,hcb,hcap,hne,hfz⟩:=h.shape (by rw [Zeq]; omega)
 have hszl:(sz gs f).length=gs.length:=Zeq gs f
 rw [hszl] at h hcap ⊢
 obtain ⟨cx,hcx⟩:∃ c,gs[x]?=some c:=⟨_,Qb hx⟩
 obtain ⟨hsy,hbe⟩:=hc.all x cx hcx
 have Hr:=Zaa (Zgf w gb (.slice (some ⟨cb,0,none⟩) gs.length cap) (sz gs f) ρ rk i h (by rw [Yit]; exact hu) (by rw [Zeq]; exact hi) (by rw [Zeq]; exact hl))
 rw [← hxe] at Hr
 have hgat:∀ f' w',GAt w' gb (.slice (some ⟨cb,0,none⟩) gs.length cap) (sz gs f')→∀ j c,gs[j]?=some c→w'.cell? ⟨cb,j * 6+2,none⟩=some (.int .i64 c.sym.args)∧w'.cell? ⟨cb,j * 6+3,none⟩=some (.int .i64 c.behind)∧w'.cell? ⟨cb,j * 6+5,none⟩=some (.int .i64 (f' j)):=fun f' w' hg j c hj=>by
  have hg':GAt w' gb (.slice (some ⟨cb,0,none⟩) (sz gs f').length cap) (sz gs f'):=by rw [Zeq]; exact hg
  obtain ⟨_,_,c2,c3,_,c5⟩:=hg'.cell (Zsf (f:=f') hj)
  exact ⟨c2,c3,c5⟩
 have Hgat:=Zaa hgat
 have b0:w.cell? ⟨gb,0,none⟩=some (.slice (some ⟨cb,0,none⟩) gs.length cap):=Zab h.box 0 _ rfl
 have hgb:=Zac h.box
 obtain ⟨x2,x3,x5⟩:=hgat f w h x cx hcx
 have hcase:=hS x hx
 have harg:cx.sym.args≤4000:=by
  have:=Zud hw (i:=x) (by rw [← hc.len]; exact hx)
  rw [← hsy,← hc.len] at this
  omega
 have H:=Zaa h
 have Hu:=Zaa hu
 have Hc:=Zaa hc
 have Hw:=Zaa hw
 have HS:=Zaa hS
 have Hm:=Zaa hm
 have HK:=Zaa hK
 have Hih:=Zaa IH
 have Hxe:=Zaa hxe
 have Hrx:=Zaa rx
 have Hcx:=Zaa hcx
 have Hsy:=Zaa hsy
 clear h hu hc hw hS hm hK IH hxe rx hcx hsy hrt hgat hbe hszl
 rcases hcase with h0 | h0 | ⟨h0,h00⟩
 ·have H0:=Zaa h0
  rw [h0] at x5
  clear h0
  go_enter Tryz.func159,Tryz.ntmps159
  go_wp2_with fail
  refine Hr.out.mono ?_
  rintro e w1 ⟨rfl,rfl⟩
  go_wp2
  obtain ⟨KS,hKS⟩:∃ K,K=Zbh l (x+1) cx.sym.args:=⟨_,rfl⟩
  have HKS:=Zaa hKS
  have hKl:KS.length=cx.sym.args:=by rw [hKS,Zdi]
  have HKl:=Zaa hKl
  have Hkids:Hid ((grOf l).kids x=KS):=by show Zbh l (x+1) (Zba l x).args=KS; rw [hKS,← Hsy.out]
  have hkat:∀ k,k<cx.sym.args→KS[k]?=some (Zax l (x+1) k):=fun k hk=>by rw [hKS]; exact Zce l (x+1) _ k hk
  have hknx:∀ k,k<cx.sym.args→Zax l (x+1) k<gs.length:=fun k hk=>by
   have hxl:x<l.length:=by rw [← Hc.out.len]; exact hx
   obtain ⟨_,ex2,_⟩:=Zhd Hw.out hxl
   obtain ⟨_,_,_,_,_,hbx,_⟩:=Zew Hw.out hxl
   have:=ex2 _ (Qh (by rw [← Hsy.out]; exact Zce l (x+1) _ k hk))
   have:=Hc.out.len
   omega
  have Hkat:=Zaa hkat
  have Hknx:=Zaa hknx
  clear hKS hKl hkat hknx
  go_loopg [6,7,8] (cx.sym.args+1) (fun gk tv av nv wr=>∃ (k:Nat) (f':Nat→Int) (T':Nat→List Sym),tv = .int .i64 ((1+sumM T' ρ (KS.take k):Nat):Int)∧av = .int .i64 (Zax l (x+1) k:Nat)∧nv = .int .i64 k∧k≤cx.sym.args∧cx.sym.args - k<gk∧GAt wr gb (.slice (some ⟨cb,0,none⟩) gs.length cap) (sz gs f')∧Kept (Zap (.slice (some ⟨cb,0,none⟩) gs.length cap)) w1 wr ∧
    Ybo gs.length f' T'∧Zgw gs.length f'<Zgw gs.length f∧Known (grOf l) ρ (dnF gs.length f') T'∧(∀ j ∈ KS.take k,dnF gs.length f' (ρ j))∧(∀ j,f' j = -1↔f j = -1∨j=x)∧(∀ j,dnF gs.length f j→dnF gs.length f' j∧T' j=T j))
  case atStart =>
   have hon:∀ j,upd f x (-1) j = -1↔f j = -1∨j=x:=fun j=>by
    unfold upd
    by_cases e:j=x
    ·simp [e]
    ·simp [e]
   have hdn:∀ j,dnF gs.length (upd f x (-1)) j↔dnF gs.length f j:=fun j=>by
    unfold dnF upd
    by_cases e:j=x
    ·subst e; simp [H0.out]
    ·simp [e]
   refine ⟨0,upd f x (-1),T,by simp [sumM],by simp [Zax],by go_num,Qm _,by omega,?_,(Qx _ w1).setCell (p:=⟨cb,x * 6+5,none⟩) (fun _=>(rfl:some cb=some cb)) _,?_,(Zos f x (by omega) gs.length).2 hx H0.out,HK.out.congr hdn (fun _ _=>rfl),by simp,hon,fun j hj=>⟨(hdn j).2 hj,rfl⟩⟩
   ·have hg':GAt w1 gb (.slice (some ⟨cb,0,none⟩) (sz gs f).length cap) (sz gs f):=by rw [Zeq]; exact H.out
    have:=hg'.put (Zsf (f:=f) Hcx.out) (f:=fun c => { c with size := -1 }) (j:=5) (u := .int .i64 (-1)) (by omega) rfl
    rw [Yge,Zeq] at this
    exact this
   ·intro j hj
    unfold upd
    by_cases e:j=x
    ·simp [e]
    ·simp only [if_neg e]; exact HS.out j hj
  case round =>
   obtain ⟨k,f',T',rfl,rfl,rfl,hk,hgk,hG,hkp,hS',hfr,hkn,hkd,hon,hold⟩:=hrel
   have hsr:=hkp.size
   have b0:wr.cell? ⟨gb,0,none⟩=some (.slice (some ⟨cb,0,none⟩) gs.length cap):=Zab hG.box 0 _ rfl
   have hgb':=Zac hG.box
   have hcb':cb<wr.heap.size:=by omega
   have hfz':∀ j,wr.frozen? ⟨cb,j,none⟩=false:=by
    obtain ⟨cb',cap',e,_,_,_,hf⟩:=hG.shape (by rw [Zeq]; omega)
    simp at e
    obtain ⟨rfl,_⟩:=e
    exact hf
   obtain ⟨y2,y3,y5⟩:=Hgat.out f' wr hG x cx Hcx.out
   have hsum:sumM T' ρ (KS.take k)≤31 * 4000:=Qq (Yhg _ _ _) (by simp; omega)
   obtain ⟨S,hSe⟩:∃ S,S=sumM T' ρ (KS.take k):=⟨_,rfl⟩
   rw [← hSe] at hsum ⊢
   have HSe:=Zaa hSe
   have HG:=Zaa hG
   have Hkp:=Zaa hkp
   have HS':=Zaa hS'
   have Hfr:=Zaa hfr
   have Hkn:=Zaa hkn
   have Hkd:=Zaa hkd
   have Hon:=Zaa hon
   have Hold:=Zaa hold
   clear hSe hG hkp hS' hfr hkn hkd hon hold x2 x3 x5
   by_cases hlt:k<cx.sym.args
   ·obtain ⟨nx,hnx⟩:∃ n,n=Zax l (x+1) k:=⟨_,rfl⟩
    have hnxl:=Hknx.out k hlt
    have hnxa:=Hkat.out k hlt
    rw [← hnx] at hnxl hnxa ⊢
    obtain ⟨cn,hcn⟩:∃ c,gs[nx]?=some c:=⟨_,Qb hnxl⟩
    have hbn:=(Hc.out.all nx cn hcn).2
    have Hmem:Hid (nx ∈ (grOf l).kids (ρ i)):=by show _ ∈ _; rw [← Hxe.out,Hkids.out]; exact Qh hnxa
    have HI:=Zaa (Hih.out (Zgw gs.length f') (by have:=Hm.out; have:=Hfr.out; omega) wr gb (.slice (some ⟨cb,0,none⟩) gs.length cap) gs l ρ rk f' T' nx HG.out Hc.out Hw.out Hu.out HS'.out (Qe _) hnxl hl Hkn.out)
    have Hnx:=Zaa hnx
    have Hnxa:=Zaa hnxa
    have Hcn:=Zaa hcn
    have Hbn:=Zaa hbn
    clear hnx hnxa hcn hbn
    go_wp2_with fail
    refine HI.out.mono ?_
    rintro e w2 ⟨f2,h1,h2,⟨T2,rfl,h3,h4,h5,h6,h7,h8⟩ | ⟨rfl,h3⟩⟩
    ·have hs2:=h2.size
     obtain ⟨_,z3,_⟩:=Hgat.out f2 w2 h1 nx cn Hcn.out
     rw [Hbn.out] at z3
     have b0:w2.cell? ⟨gb,0,none⟩=some (.slice (some ⟨cb,0,none⟩) gs.length cap):=Zab h1.box 0 _ rfl
     have hgb2:=Zac h1.box
     obtain ⟨M,hM⟩:∃ M,M=min 31 (T2 (ρ nx)).length:=⟨_,rfl⟩
     rw [← hM]
     have hMl:M≤31:=by rw [hM]; omega
     have hMn:¬ ((M:Int) = -1):=by omega
     obtain ⟨bn,hbn⟩:∃ q,q=Zbn l nx:=⟨_,rfl⟩
     rw [← hbn] at z3
     have J:=Zaa (And.intro h1 (And.intro h2 (And.intro h3 (And.intro h4 (And.intro h5 (And.intro h6 (And.intro h7 (And.intro h8 (And.intro hM hbn)))))))))
     clear h1 h2 h3 h4 h5 h6 h7 h8 y2 y3 y5 hM hbn
     go_wp2
     go_roundg (cx.sym.args - k)
     case measure=>omega
     case rel =>
      obtain ⟨h1,h2,h3,h4,h5,h6,h7,h8,hM,hbn⟩:=J.out
      have ht:=Zhy Hnxa.out
      refine ⟨k+1,f2,T2,?_,?_,by go_num,by omega,by omega,h1,Hkp.out.trans h2,h3,by have:=Hfr.out; omega,h5,?_,fun j=>(h7 j).trans (Hon.out j),fun j hj=>⟨(h8 j (Hold.out j hj).1).1,(h8 j (Hold.out j hj).1).2.trans (Hold.out j hj).2⟩⟩
      ·rw [ht,Ybp,Zym (fun j hj=>(h8 _ (Hkd.out j hj)).2),← HSe.out,← hM]
       congr 1
       omega
      ·rw [Zci,← Hnx.out,← hbn]
      ·intro j hj
       rw [ht] at hj
       rcases Qk.1 hj with hj | hj
       ·exact (h8 _ (Hkd.out j hj)).1
       ·simp at hj; subst hj; exact h6
    ·have J:=Zaa (And.intro h1 (And.intro h2 h3))
     clear h1 h2 h3 y2 y3 y5
     go_wp2
     go_ret
     obtain ⟨h1,h2,h3⟩:=J.out
     have hst:Stuck (grOf l) ρ (fun r=>f r = -1) i:=Stuck.up (Yea Hw.out) (by show _<l.length; rw [← Hc.out.len]; exact hi) (by rw [← Hxe.out]; show _<l.length; rw [← Hc.out.len]; exact hx) Hmem.out (fun val hv hc=>by
      obtain ⟨r,hr,hle⟩:=h3 val hv hc
      exact ⟨r,by rw [← Hxe.out]; exact (Hon.out r).1 hr,hle⟩)
     exact ⟨f2,h1,Hkp.out.trans h2,Or.inr ⟨rfl,hst⟩⟩
   ·have hek:k=cx.sym.args:=by omega
    subst hek
    have hnd:Hid (¬ dnF gs.length f' x):=fun hd=>by
     have:=(Hon.out x).2 (Or.inr rfl)
     have:=hd.2
     omega
    have hkd:Hid (∀ j ∈ KS,dnF gs.length f' (ρ j)):=by
     have:=Hkd.out
     rw [← HKl.out,List.take_length] at this
     exact this
    have HSe:Hid (S=sumM T' ρ KS):=by
     have:=HSe.out
     rw [← HKl.out,List.take_length] at this
     exact this
    have Hend:Hid (∀ (w3:World) (n:Nat),n=min 31 (1+S)→w3=wr.setCell ⟨cb,x * 6+5,none⟩ (.int .i64 n)→Ybq gb (.slice (some ⟨cb,0,none⟩) gs.length cap) gs l ρ f T i w1 (.returned (.int .i64 n)) w3):=fun w3 n hn hw3=>by
     subst hw3
     have hKn:=Hkn.out.more (r:=x) (by show _<l.length; rw [← Hc.out.len]; exact hx) Hrx.out hnd.out (by rw [Hkids.out]; exact hkd.out)
     rw [Hkids.out] at hKn
     have hTx:n=min 31 ((grOf l).hd x::(KS.map (fun k=>T' (ρ k))).flatten).length:=by
      rw [hn,HSe.out,Yeg,Qf,Nat.add_comm]
     have hn0:(n:Int)≠0:=by omega
     have hdn:∀ j,dnF gs.length (upd f' x n) j↔dnF gs.length f' j∨j=x:=fun j=>by
      unfold dnF upd
      by_cases e:j=x
      ·subst e; simp only [if_true,or_true,iff_true]; exact ⟨hx,by omega⟩
      ·simp [e]
     refine ⟨upd f' x n,?_,Hkp.out.trans ((Qx _ wr).setCell (p:=⟨cb,x * 6+5,none⟩) (fun _=>(rfl:some cb=some cb)) _),Or.inl ⟨_,?_,?_,Qq (Zos f' x hn0 gs.length).1 (Nat.le_of_lt Hfr.out),hKn.congr hdn (fun _ _=>rfl),by rw [← Hxe.out]; exact (hdn x).2 (Or.inr rfl),?_,?_⟩⟩
     ·have hg':GAt wr gb (.slice (some ⟨cb,0,none⟩) (sz gs f').length cap) (sz gs f'):=by rw [Zeq]; exact HG.out
      have:=hg'.put (Zsf (f:=f') Hcx.out) (f:=fun c => { c with size:=n }) (j:=5) (u := .int .i64 n) (by omega) rfl
      rw [Yge,Zeq] at this
      exact this
     ·rw [← Hxe.out]
      simp only [if_true]
      rw [← hTx]
     ·intro j hj
      unfold upd
      by_cases e:j=x
      ·subst e
       simp only [if_true]
       exact Or.inr (Or.inr ⟨by omega,by rw [← hTx]⟩)
      ·simp only [if_neg e]; exact HS'.out j hj
     ·intro j
      unfold upd
      by_cases e:j=x
      ·subst e
       simp only [if_true]
       rw [H0.out]
       constructor <;> intro h <;> omega
      ·simp only [if_neg e]
       rw [Hon.out]
       simp [e]
     ·intro j hj
      refine ⟨(hdn j).2 (Or.inl (Hold.out j hj).1),?_⟩
      have hjx:j≠x:=fun e=>by
       subst e
       have:=hj.2
       rw [H0.out] at this
       omega
      rw [if_neg hjx]
      exact (Hold.out j hj).2
    obtain ⟨qa,hqa⟩:∃ q,q=Zax l (x+1) cx.sym.args:=⟨_,rfl⟩
    rw [← hqa]
    clear hqa
    by_cases h30:1+S≤30
    ·have h30':¬ ((30:Int)<((1+S:Nat):Int)):=by omega
     go_wp2
     go_ret
     exact Hend.out _ (1+S) (by omega) rfl
    ·have h30':(30:Int)<((1+S:Nat):Int):=by omega
     go_wp2
     go_ret
     exact Hend.out _ 31 (by omega) rfl
 ·go_enter Tryz.func159,Tryz.ntmps159
  rw [h0] at x5
  have H0:=Zaa h0
  clear h0
  go_wp2_with fail
  refine Hr.out.mono ?_
  rintro e w1 ⟨rfl,rfl⟩
  go_wp2
  go_ret
  exact ⟨f,H.out,Qx _ _,Or.inr ⟨rfl,Stuck.here (by show _<l.length; rw [← Hc.out.len]; exact hi) (by rw [← Hxe.out]; exact H0.out)⟩⟩
 ·obtain ⟨q,hq⟩:∃ q,q=f x:=⟨_,rfl⟩
  rw [← hq] at x5
  have hq0:q≠0:=by omega
  have Hq:=Zaa hq
  have H00:=Zaa h00
  have H0:=Zaa h0
  clear hq h0 h00
  go_enter Tryz.func159,Tryz.ntmps159
  go_wp2_with fail
  refine Hr.out.mono ?_
  rintro e w1 ⟨rfl,rfl⟩
  go_wp2
  go_ret
  refine ⟨f,H.out,Qx _ _,Or.inl ⟨T,?_,HS.out,Qe _,HK.out,by rw [← Hxe.out]; exact ⟨hx,H0.out⟩,fun _=>Iff.rfl,fun j hj=>⟨hj,rfl⟩⟩⟩
  show Ending.returned (.int .i64 q)=_
  rw [Hq.out,H00.out,Hxe.out]
theorem Yeh (m:Nat):Zqe m:=by
 induction m using Nat.strongRecOn with
 | _ m ih=>exact Ybr m ih
def Zqf (w:World) (size:Nat) (xv:Value) (m:Nat) (news:List Value):Prop :=
 news.length=m * size∧(∀ u ∈ news,u.oneCell'=true)∧((m=0∧xv = .slice none 0 0)∨∃ a c,xv = .slice (some a) m c∧∀ j u,news[j]?=some u→w.cell? (a.add j)=some u)
theorem Zue {P:Program} (w:World) (t ty:TypeId) (base:Nat) (e:TypeId) {z:Value} {size bytes:Nat}
  (hinfo:(P.info? e).map (fun i=>(i.zero,i.size,i.bytes))=some (some z,size,bytes)) (ht:P.underlying t=some (.slice e)) (hzs:z.cells.size=size) (hsz:0<size)
  (v:Value) (n:Nat) (xs:List Value) (hown:w.ownsRow base e size v n xs) (xv:Value) (m:Nat) (news:List Value) (hx:Zqf w size xv m news)
  (hbig:(n+m) * (bytes+1)≤140737488355328) (hbase:base≤w.heap.size) :
  ∃ v' w',(Builtin.append_ #[t,t] ty #[v,xv]).run P w = .ok v' w'∧Appended w base e size v (n+m) (xs++news) v' w':=by
 obtain ⟨i,hi,hz,hsi,hby⟩:=info_parts hinfo
 have hb1:n+m≤140737488355328:=Qq (Nat.le_mul_of_pos_right (n+m) (Nat.succ_pos bytes)) hbig
 have hb2:(n+m) * bytes≤140737488355328:=Qq (Nat.mul_le_mul_left _ (Nat.le_succ _)) hbig
 have h63:n+m≤maxLen:=by simp only [maxLen]; omega
 obtain ⟨hl,h1,⟨rfl,rfl⟩ | ⟨a,c,rfl,hnews⟩⟩:=hx
 ·have hn:news=[]:=List.eq_nil_of_length_eq_zero (by simpa using hl)
  subst hn
  exact ⟨v,w,run_append_owned_none w base t ty e i size ht hi v n xs hown,by simpa using hown,Qx _ _,Or.inl rfl⟩
 ·obtain ⟨v',w',hr,hA,hB,hC⟩:=run_append_own (P:=P) w base t ty e i z size bytes ht hi hz hsi hby hzs hsz v n xs hown a m c news hl hnews h1 h63 hb2 hbase
  refine ⟨v',w',hr,hA,Kept.of_grown hB |>.mono (fun k _ h=>h),?_⟩
  rcases Nat.eq_zero_or_pos m with rfl | hm
  ·rcases hown.2 with ⟨rfl,rfl⟩ | ⟨g,cap,cur,rfl,hbg,hg,hnc,hcm,hcs,htake⟩
   ·have:=hC.2 ⟨rfl,rfl⟩
    rw [this]; exact Or.inl rfl
   ·have hfit:n * i.size+news.length≤cur.size:=by rw [hl,hcs,hsi]; simp; exact Nat.mul_le_mul_right _ hnc
    have hr':=run_append_room (P:=P) w t ty e i ht hi g n cap cur hg a 0 c news (by rw [hsi]; exact hl) hnews h1 (by omega) hfit
    rw [hr'] at hr
    injection hr with h2 h3
    subst h2
    exact Or.inl rfl
  ·subst hsi hby
   rcases Zhg (P:=P) w base t ty e i z ht hi hz v n xs hown a m c news hl hm hnews h1 h63 hb2 v' w' hr with h | h
   ·exact .inl h
   ·exact .inr ⟨_,h,Qe _⟩
theorem Zyn {P:Program} {o:Oper} {a:Act} {K:Act→World→Prop} {Q:Exit→Act→World→Prop} (w:World) (s x:Operand) (t:TypeId)
  (ho:o.op = .call { callee := .builtin .append,args:=#[s,x],argTypes:=#[t,t] })
  (base:Nat) (e:TypeId) {z:Value} {size bytes:Nat}
  (hinfo:(P.info? e).map (fun i=>(i.zero,i.size,i.bytes))=some (some z,size,bytes)) (ht:P.underlying t=some (.slice e)) (hzs:z.cells.size=size) (hsz:0<size)
  (v:Value) (n:Nat) (xs:List Value) (hs:a.eval s=v) (hown:w.ownsRow base e size v n xs) (xv:Value) (m:Nat) (news:List Value) (hx:a.eval x=xv) (hr:Zqf w size xv m news)
  (hbig:(n+m) * (bytes+1)≤140737488355328) (hbase:base≤w.heap.size)
  (h:∀ v' w',Appended w base e size v (n+m) (xs++news) v' w'→K (a.put o.dst v') w'):o.wp P a w K Q:=by
 obtain ⟨v',w',hrun,hA⟩:=Zue (P:=P) w t o.type base e hinfo ht hzs hsz v n xs hown xv m news hr hbig hbase
 unfold Oper.wp
 simp [execOp,ho,resolve,invoke,builtin,hs,hx,hrun,Result.andThen]
 exact h v' w' hA
theorem Zcm {P:Program} {ops:Array Oper} {rest:List Oper} {o:Oper} {a:Act} {Q:Exit→Act→World→Prop} (w:World) (hgd:o.guard=none) (s x:Operand) (t:TypeId)
  (ho:o.op = .call { callee := .builtin .append,args:=#[s,x],argTypes:=#[t,t] })
  (base:Nat) (e:TypeId) {z:Value} {size bytes:Nat}
  (hinfo:(P.info? e).map (fun i=>(i.zero,i.size,i.bytes))=some (some z,size,bytes)) (ht:P.underlying t=some (.slice e)) (hzs:z.cells.size=size) (hsz:0<size)
  (v:Value) (n:Nat) (xs:List Value) (hs:a.eval s=v) (hown:w.ownsRow base e size v n xs) (xv:Value) (m:Nat) (news:List Value) (hx:a.eval x=xv) (hr:Zqf w size xv m news)
  (hbig:(n+m) * (bytes+1)≤140737488355328) (hbase:base≤w.heap.size)
  (h:∀ v' w',Appended w base e size v (n+m) (xs++news) v' w'→wpList P ops Q rest (a.put o.dst v') w'):wpList P ops Q (o::rest) a w :=
 wpList_plain hgd fun _ hK=>Zyn w s x t ho base e hinfo ht hzs hsz v n xs hs hown xv m news hx hr hbig hbase fun v' w' h2=>hK _ _ (h v' w' h2)
theorem Zke {w:World} {B:Nat} {e:TypeId} {size n:Nat} {v:Value} {xs:List Value} (h:w.ownsRow B e size v n xs) (h1:∀ u ∈ xs,u.oneCell'=true):Zqf w size v n xs:=by
 refine ⟨h.1,h1,?_⟩
 rcases h.2 with ⟨rfl,rfl⟩ | ⟨g,cap,cur,rfl,_⟩
 ·exact Or.inl ⟨rfl,rfl⟩
 ·exact Or.inr ⟨⟨g,0,none⟩,cap,rfl,fun j u hu=>h.cells (g:=g) rfl j u hu⟩
theorem Zdm (a b:List Sym):Zam (a++b)=Zam a++Zam b:=by simp [Zam]
theorem Zsg (l:List Sym):∀ u ∈ Zam l,u.oneCell'=true:=by
 intro u hu
 simp only [Zam,List.mem_flatMap,Zby] at hu
 obtain ⟨s,_,hs⟩:=hu
 simp at hs
 rcases hs with rfl | rfl | rfl <;> rfl
def Zjm (t:List Sym) (w:World) (e:Ending) (w':World):Prop:=∃ v B,e = .returned v∧w.heap.size≤B∧w'.ownsRow B 133 3 v t.length (Zam t)∧Ext w w'
def Zqg (m:Nat):Prop:=∀ (w:World) (gb:Nat) (v:Value) (gs:List GC) (l:List Sym) (ρ rk:Nat→Nat) (D:Nat→Prop) (T:Nat→List Sym) (i:Nat),GAt w gb v gs→CellsOf gs l→Wf 2 l→UpOk (gs.map GC.up) ρ rk→Known (grOf l) ρ D T→D (ρ i)→i<gs.length→gs.length≤4000→(T (ρ i)).length≤m→(T (ρ i)).length≤4000 →
 Calls Tryz.prog 192 #[.pointer (some ⟨gb,0,none⟩),.int .i64 i] w (Zjm (T (ρ i)) w)
theorem Ybs (m:Nat) (IH:∀ k,k<m→Zqg k):Zqg m:=by
 intro w gb v gs l ρ rk D T i h hc hw hu hK hD hi hl hm hm4
 have hrt:=hu.rt
 have hx:=hrt.lt i (by simpa using hi)
 rw [Ql] at hx
 obtain ⟨x,hxe⟩:∃ x,x=ρ i:=⟨_,rfl⟩
 rw [← hxe] at hx hD hm hm4 ⊢
 obtain ⟨cb,cap,rfl,hcb,hcap,hne,hfz⟩:=h.shape (by omega)
 obtain ⟨cx,hcx⟩:∃ c,gs[x]?=some c:=⟨_,Qb hx⟩
 obtain ⟨hsy,hbe⟩:=hc.all x cx hcx
 have Hr:=Zaa (Zgf w gb (.slice (some ⟨cb,0,none⟩) gs.length cap) gs ρ rk i h hu hi hl)
 rw [← hxe] at Hr
 have b0:w.cell? ⟨gb,0,none⟩=some (.slice (some ⟨cb,0,none⟩) gs.length cap):=Zab h.box 0 _ rfl
 have hgb:=Zac h.box
 obtain ⟨x0,x1,x2,_,_,_⟩:=h.cell hcx
 have harg:cx.sym.args≤4000:=by
  have:=Zud hw (i:=x) (by rw [← hc.len]; exact hx)
  rw [← hsy,← hc.len] at this
  omega
 obtain ⟨KS,hKS⟩:∃ K,K=Zbh l (x+1) cx.sym.args:=⟨_,rfl⟩
 have HKl:Hid (KS.length=cx.sym.args):=by show _=_; rw [hKS,Zdi]
 have hkids:(grOf l).kids x=KS:=by show Zbh l (x+1) (Zba l x).args=KS; rw [hKS,← hsy]
 have Hkat:Hid (∀ k,k<cx.sym.args→KS[k]?=some (Zax l (x+1) k)):=fun k hk=>by rw [hKS]; exact Zce l (x+1) _ k hk
 have Hknx:Hid (∀ k,k<cx.sym.args→Zax l (x+1) k<gs.length):=fun k hk=>by
  have hxl:x<l.length:=by rw [← hc.len]; exact hx
  obtain ⟨_,ex2,_⟩:=Zhd hw hxl
  obtain ⟨_,_,_,_,_,hbx,_⟩:=Zew hw hxl
  have:=ex2 _ (Qh (by rw [← hsy]; exact Zce l (x+1) _ k hk))
  have:=hc.len
  omega
 have hTx:T x=cx.sym::((KS.map (fun k=>T (ρ k))).flatten):=by
  have:=hK.tm x hD
  rw [hkids] at this
  rw [this,hsy]; rfl
 have Hsub:Hid (∀ k n,KS[k]?=some n→D (ρ n)∧1+(((KS.take k).map (fun k=>T (ρ k))).flatten).length+(T (ρ n)).length≤(T x).length):=fun k n hn=>by
  refine ⟨hK.kid x hD n (by rw [hkids]; exact Qh hn),?_⟩
  obtain ⟨hk1,hk2⟩:=Qa.1 hn
  have e:KS=KS.take k++n::KS.drop (k+1):=by
   rw [← hk2,List.getElem_cons_drop,List.take_append_drop]
  rw [hTx]
  conv=>rhs; rw [e]
  simp only [Qr,List.map_cons,List.flatten_append,List.flatten_cons,Qf,Qg]
  omega
 have HT:=Zaa hTx
 have H:=Zaa h
 have Hu:=Zaa hu
 have Hc:=Zaa hc
 have Hw:=Zaa hw
 have Hm:=Zaa hm
 have HK:=Zaa hK
 have Hih:=Zaa IH
 have Hxe:=Zaa hxe
 have Hcx:=Zaa hcx
 have Hm4:=Zaa hm4
 clear hTx h hu hc hw hm hK IH hxe hcx hrt hbe hkids hKS hsy hD hm4
 go_enter Tryz.func192,Tryz.ntmps192
 go_wp2_with fail
 refine Hr.out.mono ?_
 rintro e w1 ⟨rfl,rfl⟩
 have Hnil:Hid (World.ownsRow (w1.alloc (.cells #[.string ⟨cx.sym.name.toArray⟩,.int .i64 cx.sym.num,.int .i64 cx.sym.args] 133)) (w1.heap.size+1) 133 3 (.slice none 0 0) 0 []):=World.ownsRow_nil _ _ _ _
 go_wp2_with (at_builtin; refine Zal (w1.alloc (.cells #[.string ⟨cx.sym.name.toArray⟩,.int .i64 cx.sym.num,.int .i64 cx.sym.args] 133)) rfl (.tmp 22) (.tmp 24) 105 rfl (w1.heap.size+1) 133 Tryz.infoSym Tryz.underlying105 rfl (by decide) (.slice none 0 0) 0 [] rfl Hnil.out #[.string ⟨cx.sym.name.toArray⟩,.int .i64 cx.sym.num,.int .i64 cx.sym.args] (N:=w1.heap.size+1) rfl (by simp) rfl (Zgy _ _ _) ?_ ?_ ?_)
 ·omega
 ·simp
 intro v1 w2 hap
 have hrow:w2.ownsRow (w1.heap.size+1) 133 3 v1 1 (Zam [cx.sym]):=by simpa [Zam,Zby] using hap.owns
 have hbel:Below (w1.heap.size+1) (w1.alloc (.cells #[.string ⟨cx.sym.name.toArray⟩,.int .i64 cx.sym.num,.int .i64 cx.sym.args] 133)) w2:=hap.kept.below (by simp) (fun k hk=>by simp [Zap,Value.ownBlock] at hk)
 have Hrow:=Zaa hrow
 have Hbel:=Zaa hbel
 clear hap hrow hbel
 go_wp2
 go_loopg [7,8,9] (cx.sym.args+1) (fun gk tv av nv wr=>∃ (k:Nat),av = .int .i64 (Zax l (x+1) k:Nat)∧nv = .int .i64 k∧k≤cx.sym.args∧cx.sym.args - k<gk∧Below (w1.heap.size+1) (w1.alloc (.cells #[.string ⟨cx.sym.name.toArray⟩,.int .i64 cx.sym.num,.int .i64 cx.sym.args] 133)) wr ∧
   wr.ownsRow (w1.heap.size+1) 133 3 tv (1+(((KS.take k).map (fun k=>T (ρ k))).flatten).length) (Zam (cx.sym::((KS.take k).map (fun k=>T (ρ k))).flatten)))
 case atStart=>exact ⟨0,by simp [Zax],by go_num,Qm _,by omega,Hbel.out,by simpa using Hrow.out⟩
 case round =>
  obtain ⟨k,rfl,rfl,hk,hgk,hbw,hown⟩:=hrel
  obtain ⟨ta,tcap,rfl⟩:=Zad hown
  have hsr:=hbw.size
  have hsr:w1.heap.size+1≤wr.heap.size:=by simpa using hsr
  have hE:Ext w1 wr:=by
   have h0:Ext w1 (w1.alloc (.cells #[.string ⟨cx.sym.name.toArray⟩,.int .i64 cx.sym.num,.int .i64 cx.sym.args] 133)):=(Ext.of (by repeat' (first | with_reducible(first|exact Qx _ _|apply Kept.drew|apply Kept.drewN|apply Qz|refine Qy ?_ ?_ _)|exact fun h=>absurd h (by simp <;> omega))))
   exact h0.trans (hbw.mono (by omega))
  have hG:=H.out.ext hE
  have b0:wr.cell? ⟨gb,0,none⟩=some (.slice (some ⟨cb,0,none⟩) gs.length cap):=Zab hG.box 0 _ rfl
  have hgb':=Zac hG.box
  have hcb':cb<wr.heap.size:=by omega
  have hbox:wr.heap[w1.heap.size]?=some (.cells #[.string ⟨cx.sym.name.toArray⟩,.int .i64 cx.sym.num,.int .i64 cx.sym.args] 133 (0,0)):=(hbw.block _ (by omega)).trans (heap_alloc_new w1 _)
  have y2:wr.cell? ⟨w1.heap.size,2,none⟩=some (.int .i64 cx.sym.args):=Zab hbox 2 _ rfl
  have hwb:=Zac hbox
  have Hbw:=Zaa hbw
  have Hown:=Zaa hown
  have HG:=Zaa hG
  have HE:=Zaa hE
  clear hbw hown hG hE hbox x0 x1 x2
  by_cases hlt:k<cx.sym.args
  ·obtain ⟨nx,hnx⟩:∃ n,n=Zax l (x+1) k:=⟨_,rfl⟩
   have hnxl:=Hknx.out k hlt
   have hnxa:=Hkat.out k hlt
   rw [← hnx] at hnxl hnxa ⊢
   obtain ⟨cn,hcn⟩:∃ c,gs[nx]?=some c:=⟨_,Qb hnxl⟩
   have hbn:=(Hc.out.all nx cn hcn).2
   obtain ⟨hDn,hle⟩:=Hsub.out k nx hnxa
   have hm4:=Hm4.out
   have HI:=Zaa (Hih.out (T (ρ nx)).length (by have:=Hm.out; omega) wr gb (.slice (some ⟨cb,0,none⟩) gs.length cap) gs l ρ rk D T nx HG.out Hc.out Hw.out Hu.out HK.out hDn hnxl hl (Qe _) (by omega))
   have Hnx:=Zaa hnx
   have Hnxa:=Zaa hnxa
   have Hbn:=Zaa hbn
   have Hcn:=Zaa hcn
   obtain ⟨L,hL⟩:∃ L,L=(((KS.take k).map (fun k=>T (ρ k))).flatten):=⟨_,rfl⟩
   rw [← hL] at hle ⊢
   have HL:=Zaa hL
   clear hnx hnxa hbn hcn hL hDn
   go_wp2_with fail
   refine HI.out.mono ?_
   rintro e w3 ⟨v3,B3,rfl,hB3,hr3,hE3⟩
   obtain ⟨a3,c3,rfl⟩:=Zad hr3
   have hs3:=hE3.size
   have hG3:=HG.out.ext hE3
   have b0:w3.cell? ⟨gb,0,none⟩=some (.slice (some ⟨cb,0,none⟩) gs.length cap):=Zab hG3.box 0 _ rfl
   have hgb3:=Zac hG3.box
   have HR:Hid (Zqf w3 3 (.slice a3 (T (ρ nx)).length c3) (T (ρ nx)).length (Zam (T (ρ nx)))):=Zke hr3 (Zsg _)
   have Hown3:Hid (w3.ownsRow (w1.heap.size+1) 133 3 (.slice ta (1+L.length) tcap) (1+L.length) (Zam (cx.sym::L))):=by
    have:=Zak Hown.out (fun j hj=>hE3.block j (Hown.out.lt j hj).2)
    rw [← HL.out] at this
    exact this
   have HE3:=Zaa hE3
   have HG3:=Zaa hG3
   clear hr3 hE3 hG3
   go_wp2_with (at_builtin; refine Zcm _ rfl (.tmp 46) (.tmp 47) 105 rfl (w1.heap.size+1) 133 Tryz.infoSym Tryz.underlying105 rfl (by decide) _ (1+L.length) (Zam (cx.sym::L)) rfl Hown3.out _ (T (ρ nx)).length (Zam (T (ρ nx))) rfl HR.out ?_ ?_ ?_)
   ·omega
   ·omega
   intro v4 w4 hap
   obtain ⟨a4,c4,rfl⟩:=Zad hap.owns
   have hG4:GAt w4 gb (.slice (some ⟨cb,0,none⟩) gs.length cap) gs:=by
    have hk:=hap.kept.below (B:=w1.heap.size+1) (by omega) (fun j hj=>(Hown3.out.lt j hj).1)
    have he:Ext w1 w4:=HE.out.trans ((HE3.out.mono (by omega)).trans (hk.mono (by omega)))
    exact H.out.ext he
   obtain ⟨_,_,_,z3,_,_⟩:=hG4.cell Hcn.out
   rw [Hbn.out] at z3
   have b0:w4.cell? ⟨gb,0,none⟩=some (.slice (some ⟨cb,0,none⟩) gs.length cap):=Zab hG4.box 0 _ rfl
   have hgb4:=Zac hG4.box
   obtain ⟨bn,hbn⟩:∃ q,q=Zbn l nx:=⟨_,rfl⟩
   rw [← hbn] at z3
   have Hbn2:=Zaa hbn
   have Hap:=Zaa hap
   clear hap hG4 hbn
   go_wp2
   go_roundg (cx.sym.args - k)
   case measure=>omega
   case rel =>
    have ht:=Zhy Hnxa.out
    refine ⟨k+1,by rw [Zci,← Hnx.out,← Hbn2.out],by go_num,by omega,by omega,?_,?_⟩
    ·exact Hbw.out.trans ((HE3.out.mono (by omega)).trans (Hap.out.kept.below (B:=w1.heap.size+1) (by omega) (fun j hj=>(Hown3.out.lt j hj).1)))
    ·have:=Hap.out.owns
     rw [ht,Qr,List.flatten_append,← HL.out]
     simp only [List.map_cons,List.map_nil,List.flatten_cons,List.flatten_nil,Qs,Qg]
     rw [← Zdm,List.cons_append] at this
     rw [← Nat.add_assoc]
     exact this
  ·have hek:k=cx.sym.args:=by omega
   subst hek
   obtain ⟨qa,hqa⟩:∃ q,q=Zax l (x+1) cx.sym.args:=⟨_,rfl⟩
   rw [← hqa]
   clear hqa
   have Hown':Hid (Zjm (T x) w1 (.returned (.slice ta (1+(((KS.take cx.sym.args).map (fun k=>T (ρ k))).flatten).length) tcap)) wr):=by
    refine ⟨_,w1.heap.size+1,rfl,by omega,?_,HE.out⟩
    have:=Hown.out
    rw [← HKl.out,List.take_length] at this ⊢
    rw [HT.out,Qf,Nat.add_comm (((KS.map (fun k=>T (ρ k))).flatten).length) 1]
    exact this
   go_wp2
   go_ret
   exact Hown'.out
theorem Yei (m:Nat):Zqg m:=by
 induction m using Nat.strongRecOn with
 | _ m ih=>exact Ybs m ih
theorem Yiu {l:List Sym} {p j:Nat}:∀ m,p≤j→j<Zax l p m→∃ k,k<m∧Zax l p k≤j∧j<Zbn l (Zax l p k):=by
 intro m
 induction m with
 | zero=>intro h1 h2; simp only [Zax] at h2; omega
 | succ m ih =>
  intro h1 h2
  by_cases h:j<Zax l p m
  ·obtain ⟨k,hk,h3,h4⟩:=ih h1 h
   exact ⟨k,by omega,h3,h4⟩
  ·rw [Zci] at h2
   exact ⟨m,by omega,by omega,h2⟩
theorem Zwb {l:List Sym} (hw:Wf 2 l) {ρ:Nat→Nat} (hcg:∀ i,i<l.length→Cg (grOf l) ρ i) {D:Nat→Prop} {T:Nat→List Sym} (hK:Known (grOf l) ρ D T) :
  ∀ (n p:Nat),p<l.length→Zbn l p - p≤n→D (ρ p)→∀ j,p≤j→j<Zbn l p→D (ρ j):=by
 intro n
 induction n with
 | zero=>intro p hp hn _ j h1 h2; omega
 | succ n ih =>
  intro p hp hn hd j h1 h2
  by_cases e:j=p
  ·subst e; exact hd
  ·obtain ⟨_,e2,e3⟩:=Zhd hw hp
   obtain ⟨_,_,_,_,hb1,hb2,_⟩:=Zew hw hp
   rw [← e3] at h2
   obtain ⟨k,hk,h3,h4⟩:=Yiu _ (by omega:p+1≤j) h2
   have hmem:Zax l (p+1) k ∈ (grOf l).kids p:=Qh (Zce l (p+1) _ k hk)
   have hq:=e2 _ hmem
   have hn':((grOf l).hd p).name≠[]:=fun h=>by
    have:=(Yea hw).vn p hp h
    rw [this] at hmem
    simp at hmem
   obtain ⟨_,h5⟩:=hcg p hp hn'
   have hdk:D (ρ (Zax l (p+1) k)):=by
    have:ρ (Zax l (p+1) k) ∈ ((grOf l).kids (ρ p)).map ρ:=by rw [h5]; exact List.mem_map.2 ⟨_,hmem,rfl⟩
    obtain ⟨k',hk',e'⟩:=List.mem_map.1 this
    rw [← e']; exact hK.kid _ hd k' hk'
   have hle:Zbn l (Zax l (p+1) k)≤Zbn l p:=by
    have mono:∀ m,k+1≤m→m≤(Zba l p).args→Zbn l (Zax l (p+1) k)≤Zax l (p+1) m:=by
     intro m
     induction m with
     | zero=>intro h; omega
     | succ m ihm =>
      intro h6 h7
      by_cases em:m=k
      ·subst em; rw [Zci]; exact Qe _
      ·have:=ihm (by omega) (by omega)
       rw [Zci l (p+1) m]
       have hqm:=e2 _ (Qh (Zce l (p+1) _ m (by omega)))
       obtain ⟨_,_,_,_,h8,_⟩:=Zew hw (i:=Zax l (p+1) m) (by omega)
       omega
    rw [← e3]
    exact mono _ (by omega) (Qe _)
   exact ih _ (by omega) (by omega) hdk j h3 h4
theorem Ybt {a b:List Sym} (ha:Wf 1 a) (hb:Wf 1 b) {ρ:Nat→Nat} (hcg:∀ i,i<(a++b).length→Cg (grOf (a++b)) ρ i) {D:Nat→Prop} {T:Nat→List Sym} (hK:Known (grOf (a++b)) ρ D T) (h0:D (ρ 0)) (h1:D (ρ a.length)):∀ j,j<(a++b).length→D (ρ j):=by
 have hw:Wf 2 (a++b):=Zft ha hb
 have hla:=Zcp ha
 have hlb:=Zcp hb
 have e0:Zbn (a++b) 0=a.length:=by unfold Zbn; simp [Zkq b ha]
 have e1:Zbn (a++b) a.length=(a++b).length:=by
  have:=Zkq [] hb
  rw [Qs] at this
  unfold Zbn; simp [this]
 intro j hj
 have hl:(a++b).length=a.length+b.length:=by simp
 by_cases h:j<a.length
 ·exact Zwb hw hcg hK _ 0 (by omega) (Qe _) h0 j (by omega) (by omega)
 ·exact Zwb hw hcg hK _ a.length (by omega) (Qe _) h1 j (by omega) (by omega)
theorem Zyo (l:List Sym):CellsOf (Zfx l (Zdz l) 0) l:=by
 refine ⟨by rw [Zfy,Zbv],fun i c hc => ?_⟩
 rw [Zgg] at hc
 by_cases h:i<l.length
 ·rw [Zgj h] at hc
  simp at hc
  subst hc
  exact ⟨rfl,rfl⟩
 ·rw [List.getElem?_eq_none (by rw [Zbv]; omega)] at hc
  simp at hc
theorem Yhh {l:List Sym} {k:Nat} (hw:Wf k l):UpOk ((Zfx l (Zdz l) 0).map GC.up) (Zbj l) (fun j=>if Zbj l j=j then 0 else 1):=by
 have hf:=(Zjz l hw).rt
 intro i c hc
 rw [Qj,Zgg] at hc
 by_cases h:i<l.length
 ·rw [Zgj h] at hc
  simp at hc
  subst hc
  have h1:=hf.lt i h
  have h2:=hf.idem i h
  refine ⟨by simp [Zfy,Zbv]; exact h1,h2,fun e=>e,fun e => ?_⟩
  have e':Zbj l i≠i:=e
  show (if Zbj l (Zbj l i)=Zbj l i then 0 else 1)<(if Zbj l i=i then 0 else 1)
  rw [if_pos h2,if_neg e']
  omega
 ·rw [List.getElem?_eq_none (by rw [Zbv]; omega)] at hc
  simp at hc
theorem Yhi (l:List Sym):sz (Zfx l (Zdz l) 0) (fun _=>0)=Zfx l (Zdz l) 0:=by
 apply List.ext_getElem?
 intro i
 cases hc:(Zfx l (Zdz l) 0)[i]? with
 | none=>rw [List.getElem?_eq_none (by rw [Zeq]; exact List.getElem?_eq_none_iff.1 hc)]
 | some c =>
  rw [Zsf hc]
  rw [Zgg] at hc
  by_cases h:i<l.length
  ·rw [Zgj h] at hc
   simp at hc
   subst hc
   rfl
  ·rw [List.getElem?_eq_none (by rw [Zbv]; omega)] at hc
   simp at hc
structure TermsAt (w:World) (B:Nat) (v:Value) (ls:List (List Sym)) (vs:List Value):Prop where
 owns:w.ownsRow B 105 1 v ls.length vs
 all:∀ (i:Nat) (l:List Sym),ls[i]?=some l→∃ x,vs[i]?=some x∧w.ownsRow 0 133 3 x l.length (Zam l)
theorem TermsAt.nil (w:World) (B:Nat):TermsAt w B (.slice none 0 0) [] []:=⟨World.ownsRow_nil _ _ _ _,fun i l h=>by simp at h⟩
theorem TermsAt.ext {w w':World} {B:Nat} {v:Value} {ls:List (List Sym)} {vs:List Value} (h:TermsAt w B v ls vs) (e:Ext w w'):TermsAt w' B v ls vs :=
 ⟨Zak h.owns (fun k hk=>e.block k (h.owns.lt k hk).2),fun i l hl=>by
  obtain ⟨x,h1,h2⟩:=h.all i l hl
  exact ⟨x,h1,Zak h2 (fun k hk=>e.block k (h2.lt k hk).2)⟩⟩
theorem TermsAt.box {w w':World} {M:Nat} {cs:Array Value} {t:TypeId} {fr:Nat × Nat} {B:Nat} {v:Value} {ls:List (List Sym)} {vs:List Value} (h:TermsAt w B v ls vs) (hM:w.heap[M]?=some (.cells cs t fr)) (h1:105≠t) (h2:133≠t) (hk:Kept (fun k=>k=M) w w'):TermsAt w' B v ls vs :=
 ⟨Zdl h.owns hM h1 hk,fun i l hl=>by
  obtain ⟨x,h3,h4⟩:=h.all i l hl
  exact ⟨x,h3,Zdl h4 hM h2 hk⟩⟩
theorem TermsAt.snoc {w w':World} {B:Nat} {v v' x:Value} {ls:List (List Sym)} {vs:List Value} {l:List Sym} (h:TermsAt w B v ls vs) (ha:Appended w B 105 1 v (ls.length+1) (vs++[x]) v' w') (hx:w.ownsRow 0 133 3 x l.length (Zam l)):TermsAt w' B v' (ls++[l]) (vs++[x]):=by
 have keep:∀ {y:Value} {t:List Sym},w.ownsRow 0 133 3 y t.length (Zam t)→w'.ownsRow 0 133 3 y t.length (Zam t):=fun {y t} hy=>ha.kept.owns hy (fun k hk hs=>by
  obtain ⟨cur,hc⟩:=Zar h.owns k hs
  exact Zah hy (by decide) hc hk)
 have hl:vs.length=ls.length:=by have:=h.owns.1; omega
 refine ⟨by simpa using ha.owns,fun i t ht => ?_⟩
 by_cases hi:i<ls.length
 ·rw [Qc hi] at ht
  obtain ⟨y,h1,h2⟩:=h.all i t ht
  exact ⟨y,by rw [Qc (by omega)]; exact h1,keep h2⟩
 ·rw [Qd (by omega)] at ht
  by_cases e:i=ls.length
  ·subst e
   simp at ht
   subst ht
   exact ⟨x,by rw [Qd (by omega)]; simp [hl],keep hx⟩
  ·rw [List.getElem?_eq_none (by simp; omega)] at ht
   simp at ht
theorem TermsAt.put {w:World} {B g cap:Nat} {x:Value} {ls:List (List Sym)} {vs:List Value} {l:List Sym} {n:Nat} (h:TermsAt w B (.slice (some ⟨g,0,none⟩) ls.length cap) ls vs) (hn:n<ls.length) (hx:w.ownsRow 0 133 3 x l.length (Zam l)) :
  TermsAt (w.setCell ⟨g,n,none⟩ x) B (.slice (some ⟨g,0,none⟩) ls.length cap) (ls.set n l) (vs.set n x):=by
 have hl:vs.length=ls.length:=by have:=h.owns.1; omega
 obtain ⟨cur,hg⟩:=Zar h.owns g rfl
 have hk:Kept (fun k=>k=g) w (w.setCell ⟨g,n,none⟩ x):=(Qx (only g) w).put n x
 have keep:∀ {y:Value} {t:List Sym},w.ownsRow 0 133 3 y t.length (Zam t)→(w.setCell ⟨g,n,none⟩ x).ownsRow 0 133 3 y t.length (Zam t):=fun {y t} hy=>Zdl hy hg (by decide) hk
 refine ⟨by rw [List.length_set]; exact Zvv h.owns n x,fun i t ht => ?_⟩
 rw [List.getElem?_set] at ht ⊢
 by_cases e:n=i
 ·subst e
  rw [if_pos rfl,if_pos hn] at ht
  simp at ht
  subst ht
  exact ⟨x,by rw [if_pos rfl,if_pos (by omega)],keep hx⟩
 ·rw [if_neg e] at ht
  obtain ⟨y,h1,h2⟩:=h.all i t ht
  exact ⟨y,by rw [if_neg e]; exact h1,keep h2⟩
structure SubOk (l:List Sym) (ρ:Nat→Nat) (T:Nat→List Sym) (k:Nat) (ts:List (List Sym)):Prop where
 has:∀ i,i<k→(Zba l i).name=[]→ts[(Zba l i).num]?=some (T (ρ i))
 only:∀ n t,ts[n]?=some t→t=[]∨∃ i,i<k∧(Zba l i).name=[]∧(Zba l i).num=n∧t=T (ρ i)
theorem SubOk.nil (l:List Sym) (ρ:Nat→Nat) (T:Nat→List Sym):SubOk l ρ T 0 []:=⟨fun i h=>by omega,fun n t h=>by simp at h⟩
theorem SubOk.pad {l:List Sym} {ρ:Nat→Nat} {T:Nat→List Sym} {k:Nat} {ts:List (List Sym)} (h:SubOk l ρ T k ts):SubOk l ρ T k (ts++[[]]):=by
 refine ⟨fun i hi hn => ?_,fun n t ht => ?_⟩
 ·have:=h.has i hi hn
  rw [Qc ((Qa.1 this).1)]
  exact this
 ·by_cases hl:n<ts.length
  ·rw [Qc hl] at ht
   exact h.only n t ht
  ·rw [Qd (by omega)] at ht
   left
   have:=Qh ht
   simpa using this
theorem SubOk.skip {l:List Sym} {ρ:Nat→Nat} {T:Nat→List Sym} {k:Nat} {ts:List (List Sym)} (h:SubOk l ρ T k ts) (hn:(Zba l k).name≠[]):SubOk l ρ T (k+1) ts:=by
 refine ⟨fun i hi hi' => ?_,fun n t ht => ?_⟩
 ·by_cases e:i=k
  ·subst e; exact absurd hi' hn
  ·exact h.has i (by omega) hi'
 ·rcases h.only n t ht with h1 | ⟨i,h1,h2⟩
  ·exact Or.inl h1
  ·exact Or.inr ⟨i,by omega,h2⟩
theorem SubOk.old {l:List Sym} {ρ:Nat→Nat} {T:Nat→List Sym} {k:Nat} {ts:List (List Sym)} {t:List Sym} (h:SubOk l ρ T k ts) (hv:Vars (grOf l) ρ) (hk:k<l.length) (hn:(Zba l k).name=[]) (ht:ts[(Zba l k).num]?=some t) (hne:t≠[]):SubOk l ρ T (k+1) ts:=by
 refine ⟨fun i hi hi' => ?_,fun n t ht => ?_⟩
 ·by_cases e:i=k
  ·subst e
   rcases h.only _ t ht with h1 | ⟨j,h1,h2,h3,h4⟩
   ·exact absurd h1 hne
   ·have:ρ j=ρ i:=hv j i (by show _<l.length; omega) hk h2 hn h3
    rw [ht,h4,this]
  ·exact h.has i (by omega) hi'
 ·rcases h.only n t ht with h1 | ⟨i,h1,h2⟩
  ·exact Or.inl h1
  ·exact Or.inr ⟨i,by omega,h2⟩
theorem SubOk.new {l:List Sym} {ρ:Nat→Nat} {T:Nat→List Sym} {k:Nat} {ts:List (List Sym)} (h:SubOk l ρ T k ts) (hne:∀ i,i<k→(Zba l i).name=[]→T (ρ i)≠[]) (hn:(Zba l k).name=[]) (ht:ts[(Zba l k).num]?=some []):SubOk l ρ T (k+1) (ts.set (Zba l k).num (T (ρ k))):=by
 have hl:=(Qa.1 ht).1
 refine ⟨fun i hi hi' => ?_,fun n t hnt => ?_⟩
 ·rw [List.getElem?_set]
  by_cases e:i=k
  ·subst e
   rw [if_pos rfl,if_pos hl]
  ·have h1:=h.has i (by omega) hi'
   rw [if_neg]
   ·exact h1
   ·intro e2
    rw [← e2,ht] at h1
    simp only [Qo] at h1
    exact hne i (by omega) hi' h1.symm
 ·rw [List.getElem?_set] at hnt
  by_cases e:(Zba l k).num=n
  ·rw [if_pos e,if_pos hl] at hnt
   simp only [Qo] at hnt
   exact Or.inr ⟨k,by omega,hn,e,hnt.symm⟩
  ·rw [if_neg e] at hnt
   rcases h.only n t hnt with h1 | ⟨i,h1,h2⟩
   ·exact Or.inl h1
   ·exact Or.inr ⟨i,by omega,h2⟩
inductive Ph where
 | rd (lo hi:Nat) (g:List Value→Value)
 | st (p:Nat)
 | no
def Ph.val (vs:List Value):Ph→Value
 | .rd lo _ g=>g (vs.take lo)
 | .st p=>vs.getD p undef
 | .no=>undef
def Ph.due:Ph→Nat
 | .rd lo _ _=>lo
 | .st p=>p+1
 | .no=>0
def Ph.kd (vs:List Value) (q:Ph):Kd := .pur (q.val vs)
def Ph.isSt (p:Nat):Ph→Bool
 | .st r=>r == p
 | _=>false
abbrev phA (a0:Act) (vs:List Value) (lst:Nat→Bool) (ops:List Oper) (ph:List Ph):Act:=pa a0 undef noB lst 0 ops (ph.map (Ph.kd vs))
abbrev phAll (a0:Act) (ops:List Oper) (ph:List Ph) (vs:List Value):Act:=phA a0 vs (fun _=>true) ops ph
theorem Zsh {a0:Act} {lst:Nat→Bool} {f f':Ph→Kd}:∀ {ops:List Oper} {ph:List Ph} {k:Nat},(∀ j q,ph[j]?=some q→lst (k+j)=true→(f q).val undef noB (k+j)=(f' q).val undef noB (k+j)) →
  pa a0 undef noB lst k ops (ph.map f)=pa a0 undef noB lst k ops (ph.map f'):=by
 intro ops
 induction ops with
 | nil=>intro ph k _; simp [pa]
 | cons o os ih =>
  intro ph k h
  cases ph with
  | nil=>simp [pa]
  | cons q qs =>
   have h0:=h 0 q rfl
   simp only [Nat.add_zero] at h0
   have ih':=ih (ph:=qs) (k:=k+1) (fun j r hr=>by
    have:=h (j+1) r (by simpa using hr)
    have e:k+1+j=k+(j+1):=by omega
    rw [e]; exact this)
   simp only [List.map_cons]
   rw [pa,pa,ih']
   split
   ·rename_i hk; rw [h0 hk]
   ·rfl
def Zkf (ops:List Oper):Nat→Nat→Nat→Bool
 | 0,_,_=>false
 | n+1,i,j=>match ops[i]? with
  | some o=>Zcy o j || (List.range i).any fun k=>Zcy o k && Zkf ops n k j
  | none=>false
theorem Zle {ops:List Oper} {L:Nat→Bool} (hcl:∀ (i:Nat) o,ops[i]?=some o→L i=true→∀ j,Zcy o j=true→L j=true):∀ (n i j:Nat),Zkf ops n i j=true→L i=true→L j=true:=by
 intro n
 induction n with
 | zero=>intro i j h; simp [Zkf] at h
 | succ n ih =>
  intro i j h hl
  unfold Zkf at h
  cases ho:ops[i]? with
  | none=>rw [ho] at h; simp at h
  | some o =>
   rw [ho] at h
   simp only [Bool.or_eq_true,List.any_eq_true,List.mem_range,Bool.and_eq_true] at h
   rcases h with h | ⟨k,_,h1,h2⟩
   ·exact hcl i o ho hl j h
   ·exact ih k j h2 (hcl i o ho hl k h1)
theorem Zyp {ops:List Oper} {L:Nat→Bool} (hcl:∀ (i:Nat) o,ops[i]?=some o→L i=true→∀ j,Zcy o j=true→L j=true) {n i j:Nat} {o:Oper} (ho:ops[i]?=some o) (hw:∀ k,Zcy o k=true→L k=true) (h:Zkf ops n i j=true):L j=true:=by
 cases n with
 | zero=>simp [Zkf] at h
 | succ n =>
  unfold Zkf at h
  rw [ho] at h
  simp only [Bool.or_eq_true,List.any_eq_true,List.mem_range,Bool.and_eq_true] at h
  rcases h with h | ⟨k,_,h1,h2⟩
  ·exact hw j h
  ·exact Zle hcl n k j h2 (hw k h1)
def Zyq (ph:List Ph) (p:Nat) (f:Nat→Bool):Bool:=(List.range ph.length).any fun j=>(match ph[j]? with | some r=>r.isSt p | none=>false) && f j
theorem Zkg {ph:List Ph} {p:Nat} {f:Nat→Bool} (h:Zyq ph p f=true):∃ j,ph[j]?=some (.st p)∧f j=true:=by
 unfold Zyq at h
 simp only [List.any_eq_true,List.mem_range,Bool.and_eq_true] at h
 obtain ⟨j,_,h1,h2⟩:=h
 cases hr:ph[j]? with
 | none=>rw [hr] at h1; simp at h1
 | some r =>
  rw [hr] at h1
  cases r with
  | st q =>
   simp only [Ph.isSt,beq_iff_eq] at h1
   subst h1
   exact ⟨j,hr,h2⟩
  | _=>simp [Ph.isSt] at h1
def Zwc (T:Nat) (ops:List Oper) (ph:List Ph) (m n:Nat):Bool :=
 (ops.length == ph.length && (List.range m).all fun p=>Zyq ph p (fun _=>true)) &&
 (List.range ops.length).all fun i=>match ops[i]?,ph[i]? with
  | some o,some q =>
   (match o.guard with
    | none=>true
    | some (j,_)=>Zcy o j && (match ops[j]? with
     | some p=>match p.dst with | some d=>decide (d<T) | none=>false
     | _=>false)) && (match o.op with | .select .. => false | _=>true) &&
   (o.after.all fun e => !Region.binds .any e || e.on<i) &&
   ((List.range ops.length).all fun j=>match ops[j]? with
    | some p=>match p.dst with
     | some d=>((j == i) || (o.dst != some d)) && (!(o.looksAt ops.toArray).contains d || Zcy o j)
     | none=>true
    | none=>true) &&
   (match q with
    | .rd lo hi _=>(lo == 0 || Zyq ph (lo - 1) (fun j=>Zkf ops n i j)) && (decide (m≤hi) || Zyq ph hi (fun j=>Zkf ops n j i))
    | .st p=>decide (p<m) && (p == 0 || Zyq ph (p - 1) (fun j=>Zkf ops n i j)) && ((List.range ops.length).all fun j=>j == i || (match ph[j]? with | some r => !r.isSt p | none=>true))
    | .no=>o.guard.isSome)
  | _,_=>false
structure PhAt (T:Nat) (ops:List Oper) (ph:List Ph) (m n i:Nat) (o:Oper) (q:Ph):Prop where
 gd:o.guard=none∨∃ j b p d,o.guard=some (j,b)∧Zcy o j=true∧ops[j]?=some p∧p.dst=some d∧d<T
 sel:∀ cs b,o.op ≠ .select cs b
 low:∀ e ∈ o.after,Region.binds .any e=true→e.on<i
 dst:∀ j p d,ops[j]?=some p→p.dst=some d→j=i∨o.dst≠some d
 look:∀ j p d,ops[j]?=some p→p.dst=some d→d ∈ o.looksAt ops.toArray→Zcy o j=true
 rdl:∀ lo hi g,q = .rd (lo+1) hi g→∃ j,ph[j]?=some (.st lo)∧Zkf ops n i j=true
 rdh:∀ lo hi g,q = .rd lo hi g→m≤hi∨∃ j,ph[j]?=some (.st hi)∧Zkf ops n j i=true
 stm:∀ p,q = .st p→p<m
 stl:∀ p,q = .st (p+1)→∃ j,ph[j]?=some (.st p)∧Zkf ops n i j=true
 stu:∀ p,q = .st p→∀ j,ph[j]?=some (.st p)→j=i
 ng:q = .no→o.guard≠none
theorem Yej {T:Nat} {ops:List Oper} {ph:List Ph} {m n:Nat} (h:Zwc T ops ph m n=true) {i:Nat} {o:Oper} (ho:ops[i]?=some o):∃ q,ph[i]?=some q∧PhAt T ops ph m n i o q:=by
 unfold Zwc at h
 simp only [Bool.and_eq_true,List.all_eq_true,List.mem_range,beq_iff_eq] at h
 obtain ⟨⟨hl,_⟩,h⟩:=h
 have hi:=(Qa.1 ho).1
 have h:=h i hi
 rw [ho] at h
 cases hq:ph[i]? with
 | none=>rw [hq] at h; simp at h
 | some q =>
  rw [hq] at h
  simp only [Bool.and_eq_true,List.all_eq_true,List.mem_range] at h
  obtain ⟨⟨⟨⟨h1,h2⟩,h3⟩,h4⟩,h5⟩:=h
  refine ⟨q,rfl,?_,?_,?_,?_,?_,?_,?_,?_,?_,?_,?_⟩
  ·cases hgd:o.guard with
   | none=>exact Or.inl rfl
   | some jb =>
    obtain ⟨j,b⟩:=jb
    rw [hgd] at h1
    simp only [Bool.and_eq_true] at h1
    obtain ⟨h6,h7⟩:=h1
    cases hp:ops[j]? with
    | none=>rw [hp] at h7; simp at h7
    | some p =>
     rw [hp] at h7
     simp only at h7
     cases hd:p.dst with
     | none=>rw [hd] at h7; simp at h7
     | some d =>
      rw [hd] at h7
      exact Or.inr ⟨j,b,p,d,rfl,h6,hp,hd,by simpa using h7⟩
  ·intro cs b e; rw [e] at h2; simp at h2
  ·intro e he hb
   have:=Array.all_eq_true_iff_forall_mem.1 h3 e he
   simpa [hb] using this
  ·intro j p d hp hd
   have:=h4 j (Qa.1 hp).1
   rw [hp] at this
   simp only [hd,Bool.and_eq_true,Bool.or_eq_true,beq_iff_eq,bne_iff_ne] at this
   exact this.1
  ·intro j p d hp hd hm
   have:=h4 j (Qa.1 hp).1
   rw [hp] at this
   simp only [hd,Bool.and_eq_true,Bool.or_eq_true,beq_iff_eq,bne_iff_ne] at this
   rcases this.2 with h | h
   ·simp [hm] at h
   ·exact h
  ·intro lo hi g e
   subst e
   simp only [Bool.and_eq_true,Bool.or_eq_true] at h5
   rcases h5.1 with h | h
   ·simp at h
   ·exact Zkg h
  ·intro lo hi g e
   subst e
   simp only [Bool.and_eq_true,Bool.or_eq_true,decide_eq_true_eq] at h5
   rcases h5.2 with h | h
   ·exact Or.inl h
   ·exact Or.inr (Zkg h)
  ·intro p e
   subst e
   simp only [Bool.and_eq_true,decide_eq_true_eq] at h5
   exact h5.1.1
  ·intro p e
   subst e
   simp only [Bool.and_eq_true,Bool.or_eq_true] at h5
   rcases h5.1.2 with h | h
   ·simp at h
   ·exact Zkg h
  ·intro p e j hj
   subst e
   simp only [Bool.and_eq_true,List.all_eq_true,List.mem_range,Bool.or_eq_true,beq_iff_eq] at h5
   rcases h5.2 j (by have:=(Qa.1 hj).1; omega) with h | h
   ·exact h
   ·rw [hj] at h; simp [Ph.isSt] at h
  ·intro e
   subst e
   intro hn
   rw [hn] at h5
   simp at h5
inductive StepOk (P:Program) (S:List Value→World→Prop) (vs:List Value) (u:World) (ev:Operand→Value) (o:Oper):Prop
 | value (v:Value) (w':World) (h:(execOp ev o).run P u = .ok (.value v) w') (hS:S (vs++[v]) w')
 | skip (w':World) (h:(execOp ev o).run P u = .ok .skip w') (hS:S (vs++[undef]) w')
 | call (f:FuncId) (args:Array Value) (u1:World) (h:(execOp ev o).run P u = .ok (.enter f args) u1) (hS:Calls P f args u1 (fun e u'=>∃ v,e = .returned v∧S (vs++[v]) u'))
 | row (f:String) (args:Array Value) (u1:World) (h:(execOp ev o).run P u = .ok (.row f args) u1) (hS:Rows P f args u1 (fun v u'=>S (vs++[v]) u'))
def ObP (P:Program) (S:List Value→World→Prop) (FA:List Value→Act) (ph:List Ph) (o:Oper) (q:Ph):Prop :=
 (match o.guard with
  | none=>True
  | some (j,b)=>match ph[j]? with
   | none=>False
   | some r=>∀ vs u,r.due≤vs.length→S vs u→(match q with | .no=>r.val vs ≠ .bool b | _=>r.val vs = .bool b)) ∧
 (match q with
  | .rd lo hi g=>∀ vs u,lo≤vs.length→vs.length≤hi→S vs u→(execOp (FA vs).eval o).run P u = .ok (.value (g (vs.take lo))) u
  | .st p=>∀ vs u,vs.length=p→S vs u→StepOk P S vs u (FA vs).eval o
  | .no=>True)
def AllObP (P:Program) (S:List Value→World→Prop) (FA:List Value→Act) (ph0:List Ph):List Oper→List Ph→Prop
 | o::os,q::qs=>ObP P S FA ph0 o q∧AllObP P S FA ph0 os qs
 | _,_=>True
theorem AllObP.at {P:Program} {S:List Value→World→Prop} {FA:List Value→Act} {ph0:List Ph}:∀ {ops:List Oper} {ks:List Ph},AllObP P S FA ph0 ops ks →
  ∀ {i:Nat} {o:Oper} {q:Ph},ops[i]?=some o→ks[i]?=some q→ObP P S FA ph0 o q:=by
 intro ops
 induction ops with
 | nil=>intro ks _ i o q h; simp at h
 | cons p os ih =>
  intro ks h i o q ho hq
  cases ks with
  | nil=>simp at hq
  | cons r qs =>
   cases i with
   | zero=>simp at ho hq; subst ho hq; exact h.1
   | succ i=>exact ih h.2 (i:=i) (by simpa using ho) (by simpa using hq)
structure PhPlan (ops:List Oper) (ph:List Ph) (m:Nat) (a0:Act) (S:List Value→World→Prop) (L:Array Bool) (a:Act) (w:World):Prop where
 size:L.size=ops.length
 closed:∀ (i:Nat) o,ops[i]?=some o→L.getD i false=true→∀ j,Zcy o j=true→L.getD j false=true
 st:∃ vs,a=phA a0 vs (fun j=>L.getD j false) ops ph∧S vs w∧vs.length≤m∧(∀ (i p:Nat),ph[i]?=some (Ph.st p)→(L.getD i false=true↔p<vs.length))∧(∀ (i:Nat) q,ph[i]?=some q→L.getD i false=true→q.due≤vs.length)
theorem Zib {P:Program} {ops:List Oper} {id:Nat} {Q:Exit→Act→World→Prop} {a0:Act} {w:World} (hm:P.follows .mixedOrders=true) (ph:List Ph) (m n:Nat) (hfit:Zwc a0.tmps.size ops ph m n=true)
  (S:List Value→World→Prop) (hS0:S [] w.drew) (hob:AllObP P S (fun vs=>phAll a0 ops ph vs) ph ops ph)
  (hQ:∀ vs u,vs.length=m→S vs u→Q .normal (phAll a0 ops ph vs) u) :
  (Code.region id ops.toArray true).wp P Q a0 w:=by
 have hlen:ops.length=ph.length∧∀ p,p<m→∃ j:Nat,ph[j]?=some (Ph.st p):=by
  unfold Zwc at hfit
  simp only [Bool.and_eq_true,beq_iff_eq,List.all_eq_true,List.mem_range] at hfit
  exact ⟨hfit.1.1,fun p hp=>by obtain ⟨j,h,_⟩:=Zkg (hfit.1.2 p hp); exact ⟨j,h⟩⟩
 obtain ⟨hlen,hall⟩:=hlen
 have hkat:∀ {i':Nat} {q':Ph},ph[i']?=some q'→∃ o',ops[i']?=some o'∧PhAt a0.tmps.size ops ph m n i' o' q':=fun {i' q'} h1=>by
  have ho:=Qb (l:=ops) (i:=i') (by have:=(Qa.1 h1).1; omega)
  obtain ⟨q2,hq2,hF2⟩:=Yej hfit ho
  rw [h1] at hq2; simp at hq2; subst hq2
  exact ⟨_,ho,hF2⟩
 refine wp_region_any hm (Zjx (J:=PhPlan ops ph m a0 S) ?_ ?_ _ _ _ _ ?_ ?_)
 ·intro L a u i hr hJ
  obtain ⟨hsz,hcl,vs,rfl,hS,hvm,hst,hdue⟩:=hJ
  obtain ⟨h0,o,ho',_⟩:=mem_ready.1 hr
  have ho:ops[i]?=some o:=by simpa using ho'
  have hi:i<ops.length:=(Qa.1 ho).1
  have hil:i<L.size:=by omega
  have hun:L.getD i false=false:=by simp [hil] at h0 ⊢; exact h0
  obtain ⟨q,hq,hF⟩:=Yej hfit ho
  have hOb:=hob.at ho hq
  have hw1:∀ k,Zcy o k=true→L.getD k false=true:=fun k hk=>Zbu hr ho hk
  have hexec:execOp (phA a0 vs (fun j=>L.getD j false) ops ph).eval o=execOp (phAll a0 ops ph vs).eval o:=by
   refine execOp_congr o hF.sel (fun x hx=>Zpu (fun j p hp hl d hd e => ?_))
   subst e
   have hw:=hF.look j p d hp hd (List.mem_append_left _ (List.mem_filterMap.2 ⟨.tmp d,by simpa using hx,rfl⟩))
   have:=Zbu hr ho hw
   simp only [Nat.zero_add] at hl
   rw [hl] at this
   simp at this
  have hyield:∀ j b,o.guard=some (j,b)→∃ r,ph[j]?=some r∧r.due≤vs.length∧yielded ops.toArray (phA a0 vs (fun j=>L.getD j false) ops ph).tmps j=(match r.val vs with | .bool c=>some c | _=>none):=by
   intro j b hg
   rcases hF.gd with hg' | ⟨j',b',p,d,hg',h1,h3,h4,h5⟩
   ·rw [hg'] at hg; simp at hg
   ·rw [hg'] at hg
    simp only [Qo,Prod.mk.injEq] at hg
    obtain ⟨rfl,rfl⟩:=hg
    obtain ⟨r,hr',hF'⟩:=Yej hfit h3
    have hk:(ph.map (Ph.kd vs))[j']?=some (r.kd vs):=by simp [hr']
    have ht:=Yis (a0:=a0) (vc:=undef) (β:=noB) (lst:=fun j=>L.getD j false) (k:=0) h3 hk (by simpa using hw1 j' h1) h4 (fun j2 p' h6 h7=>by
     rcases hF'.dst j2 p' d h6 h7 with h | h
     ·exact h
     ·exact absurd h4 h) h5
    refine ⟨r,hr',hdue j' r hr' (hw1 j' h1),?_⟩
    unfold yielded
    simp only [List.getElem?_toArray,h3,Option.bind_some,h4,ht,Kd.val,Ph.kd]
    cases r.val vs <;> rfl
  have hL:=Zhb hil
  have hold:∀ j,L.getD j false=true→(L.setIfInBounds i true).getD j false=true:=fun j h=>by rw [hL,h]; rfl
  have hnew:∀ j,j≠i→(L.setIfInBounds i true).getD j false=L.getD j false:=fun j h=>by
   rw [hL]
   have:(j == i)=false:=by rw [Qu]; exact h
   simp [this]
  have hput:∀ vs',(∀ j r,ph[j]?=some r→L.getD j false=true→r.val vs=r.val vs') →
    (phA a0 vs (fun j=>L.getD j false) ops ph).put o.dst (q.val vs')=phA a0 vs' (fun j=>(L.setIfInBounds i true).getD j false) ops ph:=by
   intro vs' hv
   have e1:phA a0 vs (fun j=>L.getD j false) ops ph=phA a0 vs' (fun j=>L.getD j false) ops ph:=Zsh (fun j r hr' hl=>by
    simp only [Nat.zero_add] at hl
    exact hv j r hr' hl)
   rw [e1]
   have hk:(ph.map (Ph.kd vs'))[i]?=some (q.kd vs'):=by simp [hq]
   have e2:=Zvs (a0:=a0) (vc:=undef) (β:=noB) (lst:=fun j=>L.getD j false) (k:=0) ho hk (by simpa using hun) hF.dst
   simp only [Nat.zero_add] at e2
   have e3:(q.kd vs').val undef noB i=q.val vs':=rfl
   rw [e3] at e2
   show (pa a0 undef noB (fun j=>L.getD j false) 0 ops (ph.map (Ph.kd vs'))).put o.dst (q.val vs')=_
   rw [← e2]
   exact Zei (fun j r hr'=>⟨by simp only [Nat.zero_add,hL],fun _=>rfl⟩)
  have hcl':∀ (i':Nat) o',ops[i']?=some o'→(L.setIfInBounds i true).getD i' false=true→∀ j,Zcy o' j=true→(L.setIfInBounds i true).getD j false=true:=by
   intro i' o' h1 h2 j hj
   by_cases e:i'=i
   ·subst e
    rw [ho] at h1; simp at h1; subst h1
    exact hold _ (Zbu hr ho hj)
   ·exact hold _ (hcl i' o' h1 ((hnew i' e).symm.trans h2) j hj)
  have hreach:∀ j,Zkf ops n i j=true→L.getD j false=true:=fun j h=>Zyp (L:=fun j=>L.getD j false) hcl ho hw1 h
  -- the operation turns no memory
  have hkeep:(∀ p,q ≠ .st p)→q.due≤vs.length→PhPlan ops ph m a0 S (L.setIfInBounds i true) ((phA a0 vs (fun j=>L.getD j false) ops ph).put o.dst (q.val vs)) u:=fun hns hqd=>by
   refine ⟨by simpa using hsz,hcl',vs,hput vs (fun _ _ _ _=>rfl),hS,hvm,?_,?_⟩
   ·intro i' p h1
    have hne:i'≠i:=fun e=>by subst e; rw [hq] at h1; exact hns p (Option.some.inj h1)
    rw [hnew i' hne]
    exact hst i' p h1
   ·intro i' q' h1 h2
    by_cases e:i'=i
    ·subst e; rw [hq] at h1; simp at h1; subst h1; exact hqd
    ·exact hdue i' q' h1 ((hnew i' e).symm.trans h2)
  unfold wpOp
  simp only [ho']
  by_cases hqn:q = .no
  ·subst hqn
   cases hg:o.guard with
   | none=>exact absurd hg (hF.ng rfl)
   | some jb =>
    obtain ⟨j,b⟩:=jb
    obtain ⟨r,hr',hd,hy⟩:=hyield j b hg
    have hO:=hOb.1
    rw [hg] at hO
    simp only [hr'] at hO
    have hv:=hO vs u hd hS
    have hwant:Region.wanted o (yielded ops.toArray (phA a0 vs (fun j=>L.getD j false) ops ph).tmps)=false:=by
     unfold Region.wanted
     rw [hg]
     simp only
     rw [hy]
     cases hrv:r.val vs with
     | bool c =>
      rw [hrv] at hv
      have:c≠b:=fun e=>hv (by rw [e])
      simpa using this
     | _=>simp
    rw [if_neg (by rw [hwant]; simp)]
    exact hkeep (fun p=>by simp) (Qm _)
  ·have hwant:Region.wanted o (yielded ops.toArray (phA a0 vs (fun j=>L.getD j false) ops ph).tmps)=true:=by
    cases hg:o.guard with
    | none=>simp [Region.wanted,hg]
    | some jb =>
     obtain ⟨j,b⟩:=jb
     obtain ⟨r,hr',hd,hy⟩:=hyield j b hg
     have hO:=hOb.1
     rw [hg] at hO
     simp only [hr'] at hO
     have hv:=hO vs u hd hS
     have hv':r.val vs = .bool b:=by cases q <;> first | exact hv | exact absurd rfl hqn
     unfold Region.wanted
     rw [hg]
     simp only
     rw [hy,hv']
     simp
   rw [if_pos hwant]
   refine Or.inl ?_
   unfold Oper.wp
   rw [hexec]
   cases q with
   | no=>exact absurd rfl hqn
   | rd lo hi g =>
    have hlo:lo≤vs.length:=by
     cases lo with
     | zero=>exact Qm _
     | succ lo =>
      obtain ⟨j,h1,h2⟩:=hF.rdl lo hi g rfl
      exact (hst j lo h1).1 (hreach j h2)
    have hhi:vs.length≤hi:=by
     rcases hF.rdh lo hi g rfl with h | ⟨j,h1,h2⟩
     ·omega
     ·rcases Nat.lt_or_ge hi vs.length with h | h
      ·have hj:=(hst j hi h1).2 h
       have:=Zle (L:=fun j=>L.getD j false) hcl n j i h2 hj
       rw [hun] at this; simp at this
      ·exact h
    have hO:(execOp (phAll a0 ops ph vs).eval o).run P u=_:=hOb.2 vs u hlo hhi hS
    rw [hO]
    exact hkeep (fun p=>by simp) hlo
   | st p =>
    have hpv:vs.length=p:=by
     have h1:¬ p<vs.length:=fun h=>by
      have:=(hst i p hq).2 h
      rw [hun] at this; simp at this
     cases p with
     | zero=>omega
     | succ p =>
      obtain ⟨j,h2,h3⟩:=hF.stl p rfl
      have:=(hst j p h2).1 (hreach j h3)
      omega
    have hpm:=hF.stm p rfl
    have hstep:∀ v u',S (vs++[v]) u'→PhPlan ops ph m a0 S (L.setIfInBounds i true) ((phA a0 vs (fun j=>L.getD j false) ops ph).put o.dst v) u':=by
     intro v u' hS'
     have hval:(Ph.st p).val (vs++[v])=v:=by
      subst hpv
      simp [Ph.val]
     refine ⟨by simpa using hsz,hcl',vs++[v],?_,hS',by simp; omega,?_,?_⟩
     ·rw [← hput (vs++[v]) ?_,hval]
      intro j r h1 h2
      have hd:=hdue j r h1 h2
      cases r with
      | rd lo hi g =>
       simp only [Ph.due] at hd
       simp only [Ph.val]
       rw [List.take_append_of_le_length hd]
      | st p' =>
       simp only [Ph.due] at hd
       simp only [Ph.val,List.getD_eq_getElem?_getD]
       rw [Qc (by omega)]
      | no=>rfl
     ·intro i' p' h1
      by_cases e:i'=i
      ·subst e
       rw [hq] at h1
       simp at h1
       subst h1
       rw [hL]
       simp
       omega
      ·rw [hnew i' e,hst i' p' h1]
       have hne:p'≠p:=fun e2=>by subst e2; exact e (hF.stu p' rfl i' h1)
       simp only [Qg,Qf,Qt]
       omega
     ·intro i' q' h1 h2
      simp only [Qg,Qf,Qt]
      by_cases e:i'=i
      ·subst e
       rw [hq] at h1; simp at h1; subst h1
       simp only [Ph.due]; omega
      ·have:=hdue i' q' h1 ((hnew i' e).symm.trans h2)
       omega
    have hO:StepOk P S vs u (phAll a0 ops ph vs).eval o:=hOb.2 vs u hpv hS
    cases hO with
    | value v w' h hS'=>rw [h]; exact hstep v w' hS'
    | skip w' h hS'=>rw [h]; exact hstep undef w' hS'
    | call f args u1 h hS' =>
     rw [h]
     refine hS'.mono ?_
     rintro e u' ⟨v,rfl,hr'⟩
     exact hstep v u' hr'
    | row f args u1 h hS' =>
     rw [h]
     exact hS'.mono (fun v u' hr'=>hstep v u' hr')
 ·intro L a u hr hJ
  obtain ⟨hsz,hcl,vs,rfl,hS,hvm,hst,hdue⟩:=hJ
  have hal:∀ i,i<ops.length→L.getD i false=true:=by
   intro i
   induction i using Nat.strongRecOn with
   | _ i ih =>
    intro hi
    cases hl:L.getD i false with
    | true=>rfl
    | false =>
     exfalso
     have ho:ops[i]?=some ops[i]:=Qb hi
     obtain ⟨q,hq,hF⟩:=Yej hfit ho
     have:i ∈ Region.ready .any ops.toArray L:=by
      refine mem_ready.2 ⟨?_,ops[i],by simp,fun e he hb=>ih e.on (hF.low e he hb) (by have:=hF.low e he hb; omega)⟩
      have hi':i<L.size:=by omega
      simp [hi'] at hl ⊢
      exact hl
     rw [hr] at this
     simp at this
  have e:phA a0 vs (fun j=>L.getD j false) ops ph=phAll a0 ops ph vs:=Zei (fun j r hr'=>⟨by
   simp only [Nat.zero_add]
   exact hal j (by have:=(Qa.1 hr').1; simp at this; omega),fun _=>rfl⟩)
  rw [e]
  refine hQ vs u ?_ hS
  rcases Nat.lt_or_ge vs.length m with h | h
  ·obtain ⟨j,hj⟩:=hall _ h
   have:=(hst j _ hj).1 (hal j (by have:=(Qa.1 hj).1; omega))
   omega
  ·omega
 ·have:(ops.toArray).size=ops.length:=by simp
  unfold unl
  exact Qq (List.length_filter_le _ _) (by simp)
 ·have hz:∀ j,(Array.replicate ops.toArray.size false).getD j false=false:=fun j=>by
   simp only [Array.getD_eq_getD_getElem?,Array.getElem?_replicate]
   split <;> rfl
  refine ⟨by simp,?_,[],?_,hS0,Qm _,?_,?_⟩
  ·intro i o _ h; rw [hz] at h; simp at h
  ·have:∀ (k:Nat) (os:List Oper) (qs:List Kd),pa a0 undef noB (fun j=>(Array.replicate ops.toArray.size false).getD j false) k os qs=a0:=by
    intro k os
    induction os generalizing k with
    | nil=>intro qs; simp [pa]
    | cons o os ih =>
     intro qs
     cases qs with
     | nil=>simp [pa]
     | cons q qs=>rw [pa,hz]; simp only [Bool.false_eq_true,if_false]; exact ih _ _
   exact (this _ _ _).symm
  ·intro i p _
   rw [hz]
   simp
  ·intro i q _ h; rw [hz] at h; simp at h
def SubAt (w:World) (l:List Sym) (ρ:Nat→Nat) (T:Nat→List Sym) (k:Nat) (tv:Value) (ts:List (List Sym)) (vs:List Value) (wr:World):Prop :=
 wr.heap[w.heap.size+1]?=some (.cells #[tv] 216 (0,0))∧TermsAt wr w.heap.size tv ts vs∧SubOk l ρ T k ts∧Ext w wr∧wr.heap[w.heap.size]?=some (.cells #[.slice none 0 0] 216 (0,0))∧ts.length≤200001
theorem SubAt.ext {w wr w1:World} {l:List Sym} {ρ:Nat→Nat} {T:Nat→List Sym} {k:Nat} {tv:Value} {ts:List (List Sym)} {vs:List Value} (h:SubAt w l ρ T k tv ts vs wr) (e:Ext wr w1):SubAt w l ρ T k tv ts vs w1:=by
 obtain ⟨h1,h2,h3,h4,h5,h6⟩:=h
 exact ⟨(e.block _ (Zac h1)).trans h1,h2.ext e,h3,h4.trans (e.mono h4.size),(e.block _ (Zac h5)).trans h5,h6⟩
theorem SubAt.to {w wr:World} {l:List Sym} {ρ:Nat→Nat} {T:Nat→List Sym} {k k':Nat} {tv:Value} {ts:List (List Sym)} {vs:List Value} (h:SubAt w l ρ T k tv ts vs wr) (g:SubOk l ρ T k' ts):SubAt w l ρ T k' tv ts vs wr:=⟨h.1,h.2.1,g,h.2.2.2⟩
def Yiv (l:List Sym) (ρ:Nat→Nat) (T:Nat→List Sym) (w:World) (e:Ending) (w':World):Prop:=∃ tv ts vs,e = .returned (.agg #[tv])∧TermsAt w' w.heap.size tv ts vs∧SubOk l ρ T l.length ts∧Ext w w'∧ts.length≤200001
def SubPh (w wr:World) (l:List Sym) (ρ:Nat→Nat) (T:Nat→List Sym) (k:Nat) (tv:Value) (ts:List (List Sym)):List Value→World→Prop
 | [],u=>u=wr.drew
 | [v],u=>Zjm (T (ρ k)) wr.drew (.returned v) u
 | [_,_],u=>∃ vs',SubAt w l ρ T (k+1) tv (ts.set (Zba l k).num (T (ρ k))) vs' u
 | _,_=>False
theorem SubPh.ext {w wr:World} {l:List Sym} {ρ:Nat→Nat} {T:Nat→List Sym} {k:Nat} {tv:Value} {ts:List (List Sym)}:∀ {vs:List Value} {u:World},SubPh w wr l ρ T k tv ts vs u→vs.length≤1→Ext wr.drew u
 | [],u,h,_=>by obtain rfl:u=wr.drew:=h; exact Ext.of (Qx _ _)
 | [v],u,h,_=>by obtain ⟨_,_,_,_,_,h⟩:=h; exact h
 | _::_::_,_,_,h=>by simp at h
theorem Zln (w:World) (gb:Nat) (v:Value) (gs:List GC) (l:List Sym) (ρ rk:Nat→Nat) (D:Nat→Prop) (T:Nat→List Sym) (h:GAt w gb v gs) (hc:CellsOf gs l) (hw:Wf 2 l) (hu:UpOk (gs.map GC.up) ρ rk) (hK:Known (grOf l) ρ D T) (hD:∀ i,i<gs.length→D (ρ i)) (hv:Vars (grOf l) ρ) (hl:gs.length≤4000) (hT:∀ i,i<gs.length→(Zba l i).name=[]→(T (ρ i)).length≤4000) (hn:∀ i,(Zba l i).num≤200000) :
  Calls Tryz.prog 160 #[.pointer (some ⟨gb,0,none⟩)] w (Yiv l ρ T w):=by
 have hpos:0<gs.length:=by have:=Zcp hw; have:=hc.len; omega
 obtain ⟨cb,cap,rfl,hcb,hcap,hne,hfz⟩:=h.shape hpos
 have b0:w.cell? ⟨gb,0,none⟩=some (.slice (some ⟨cb,0,none⟩) gs.length cap):=Zab h.box 0 _ rfl
 have hgb:=Zac h.box
 have H:=Zaa h
 have Hc:=Zaa hc
 have Hw:=Zaa hw
 have Hu:=Zaa hu
 have HK:=Zaa hK
 have HD:=Zaa hD
 have Hv:=Zaa hv
 have HT:=Zaa hT
 have Hn:=Zaa hn
 clear h hc hw hu hK hD hv hT hn
 go_enter Tryz.func160,Tryz.ntmps160
 go_wp2
 go_loopg [12] (gs.length+1) (fun gk iv wr=>∃ (k:Nat) (tv:Value) (ts:List (List Sym)) (vs:List Value),iv = .int .i64 k∧k≤gs.length∧gs.length - k<gk∧SubAt w l ρ T k tv ts vs wr)
 case atStart=>exact ⟨0,.slice none 0 0,[],[],by go_num,Qm _,by omega,by have:=heap_alloc_new (w.alloc (.cells #[.slice none 0 0] 216)) (.cells #[.slice none 0 0] 216); simpa using this,TermsAt.nil _ _,SubOk.nil _ _ _,(Ext.of (by repeat' (first | with_reducible(first|exact Qx _ _|apply Kept.drew|apply Kept.drewN|apply Qz|refine Qy ?_ ?_ _)|exact fun h=>absurd h (by simp <;> omega)))),(Below.heap_alloc _ _ _ (by simp)).trans (heap_alloc_new w _),by simp⟩
 case round =>
  obtain ⟨k,tv,ts,vs,rfl,hk,hgk,hS⟩:=hrel
  have HS:=Zaa hS
  have hext:=hS.2.2.2.1
  have hsr:=hext.size
  have hG:=H.out.ext hext
  have hgr:=Zac hG.box
  have hcr:cb<wr.heap.size:=by omega
  have hsb:=Zac hS.1
  have b0:wr.cell? ⟨gb,0,none⟩=some (.slice (some ⟨cb,0,none⟩) gs.length cap):=Zab hG.box 0 _ rfl
  have t0:wr.cell? ⟨w.heap.size+1,0,none⟩=some tv:=Zab hS.1 0 _ rfl
  have r0:wr.cell? ⟨w.heap.size,0,none⟩=some (.slice none 0 0):=Zab hS.2.2.2.2.1 0 _ rfl
  have rf:=fun i=>Zae hS.2.2.2.2.1 i
  have tf:=fun i=>Zae hS.1 i
  have HG:=Zaa hG
  clear hS hext hG
  by_cases hlt:k<gs.length
  ·obtain ⟨c,hc⟩:∃ c,gs[k]?=some c:=⟨_,Qb hlt⟩
   obtain ⟨c0,c1,c2,c3,c4,c5⟩:=HG.out.cell hc
   obtain ⟨hsy,_⟩:=Hc.out.all k c hc
   have hcn:c.sym.num≤200000:=by rw [hsy]; exact Hn.out k
   have Hsy:=Zaa hsy
   clear hc hsy
   cases hnm:c.sym.name with
   | cons x xs =>
    have hnn:Hid ((Zba l k).name≠[]):=by show _≠_; rw [← Hsy.out,hnm]; simp
    rw [hnm] at c0
    clear hnm
    go_wp2
    go_roundg (gs.length - k)
    case measure=>omega
    case rel =>
     exact ⟨k+1,tv,ts,vs,by go_num,by omega,by omega,SubAt.to (HS.out.ext (Ext.of (by repeat' (first | with_reducible(first|exact Qx _ _|apply Kept.drew|apply Kept.drewN|apply Qz|refine Qy ?_ ?_ _)|exact fun h=>absurd h (by simp <;> omega))))) (HS.out.2.2.1.skip hnn.out)⟩
   | nil =>
    have hnn:Hid ((Zba l k).name=[]):=by show _=_; rw [← Hsy.out,hnm]
    rw [hnm] at c0
    clear hnm
    have hneg:¬ ((c.sym.num:Int)<0):=by omega
    go_wp2
    have HSa:Hid (∀ o,SubAt w l ρ T k tv ts vs (wr.alloc o)):=fun o=>HS.out.ext (Ext.of (by repeat' (first | with_reducible(first|exact Qx _ _|apply Kept.drew|apply Kept.drewN|apply Qz|refine Qy ?_ ?_ _)|exact fun h=>absurd h (by simp <;> omega))))
    obtain ⟨wo,hwo⟩:∃ x,x=wr:=⟨_,rfl⟩
    subst hwo
    clear b0 t0 r0 rf tf c0 c1 c2 c3 c4 c5 HG HS hgr hcr hsb hsr
    go_loopg [28] 200003 (fun gk nv wr=>∃ (tv:Value) (ts:List (List Sym)) (vs:List Value),200002 - ts.length<gk∧SubAt w l ρ T k tv ts vs wr)
    case atStart=>exact ⟨tv,ts,vs,by omega,HSa.out _⟩
    case round =>
     clear HSa
     obtain ⟨tv,ts,vs,hgk2,hS⟩:=hrel
     have HS:=Zaa hS
     have hext:=hS.2.2.2.1
     have hsr:=hext.size
     have hG:=H.out.ext hext
     have hgr:=Zac hG.box
     have hsb:=Zac hS.1
     have ht4:=hS.2.2.2.2.2
     obtain ⟨ta,tcap,rfl⟩:=Zad hS.2.1.owns
     have b0:wr.cell? ⟨gb,0,none⟩=some (.slice (some ⟨cb,0,none⟩) gs.length cap):=Zab hG.box 0 _ rfl
     have t0:wr.cell? ⟨w.heap.size+1,0,none⟩=some (.slice ta ts.length tcap):=Zab hS.1 0 _ rfl
     have tf:=fun i=>Zae hS.1 i
     have HG:=Zaa hG
     clear hS hext hG
     by_cases hle:ts.length≤c.sym.num
     ·have hle':((ts.length:Nat):Int)≤((c.sym.num:Nat):Int):=by omega
      have Hrow:Hid (wr.ownsRow w.heap.size 105 1 (.slice ta ts.length tcap) ts.length vs):=HS.out.2.1.owns
      go_wp2_with (at_builtin; go_loud (refine Zal _ rfl (.tmp 34) (.tmp 35) 85 rfl w.heap.size 105 Tryz.infoSyms Tryz.underlying85 rfl (by decide) (.slice ta ts.length tcap) ts.length vs rfl Hrow.out _ rfl rfl rfl (Zec _ _ _) ?_ ?_ ?_))
      ·omega
      ·omega
      intro v1 w1 hap
      obtain ⟨a1,c1,rfl⟩:=Zad hap.owns
      have hS1:SubAt w l ρ T k (.slice a1 (ts.length+1) c1) (ts++[[]]) (vs++[.slice none 0 0]) (w1.setCell ⟨w.heap.size+1,0,none⟩ (.slice a1 (ts.length+1) c1)):=by
       obtain ⟨g1,g2,g3,g4,g5,g6⟩:=HS.out
       have hb1:=(hap.kept.block _ (Zac g1) (Zah Hrow.out (by decide) g1)).trans g1
       have hb0:=(hap.kept.block _ (Zac g5) (Zah Hrow.out (by decide) g5)).trans g5
       have hK:Kept (fun j=>j=w.heap.size+1) w1 (w1.setCell ⟨w.heap.size+1,0,none⟩ (.slice a1 (ts.length+1) c1)):=(Qx (only (w.heap.size+1)) w1).put 0 _
       have hsz:=hap.kept.size
       refine ⟨Zai hb1 0 _,(g2.snoc hap (World.ownsRow_nil _ _ _ _)).box hb1 (by decide) (by decide) hK,g3.pad,(g4.trans (hap.kept.below (by omega) (fun j hj=>(Hrow.out.lt j hj).1))).trans (hK.below (by omega) (fun j hj=>by omega)),(hK.block _ (Zac hb0) (by omega)).trans hb0,by simp; omega⟩
      have hb1:=(hap.kept.block _ (Zac HS.out.1) (Zah Hrow.out (by decide) HS.out.1)).trans HS.out.1
      have t0:w1.cell? ⟨w.heap.size+1,0,none⟩=some (.slice ta ts.length tcap):=Zab hb1 0 _ rfl
      have tf:=fun i=>Zae hb1 i
      have hsb1:=Zac hb1
      have HS1:=Zaa hS1
      clear hap hS1 hb1
      go_wp2
      go_roundg (200002 - ts.length)
      case measure=>omega
      case rel=>exact ⟨_,_,_,by simp; omega,HS1.out⟩
     ·have hle':¬ (((ts.length:Nat):Int)≤((c.sym.num:Nat):Int)):=by omega
      have hnl:c.sym.num<ts.length:=by omega
      obtain ⟨t,ht⟩:∃ t,ts[c.sym.num]?=some t:=⟨_,Qb hnl⟩
      obtain ⟨xv,hxv,hxo⟩:=HS.out.2.1.all _ t ht
      obtain ⟨xa,xcap,rfl⟩:=Zad hxo
      obtain ⟨g,tcap',cur,he,_,hgb2,hgc⟩:=Zan HS.out.2.1.owns (by omega)
      simp only [Value.slice.injEq] at he
      obtain ⟨rfl,_,rfl⟩:=he
      have x0:wr.cell? ⟨g,c.sym.num,none⟩=some (.slice xa t.length xcap):=Zaf HS.out.2.1.owns _ _ hxv
      have hgl:=Zac hgb2
      have gf:=fun i=>Zae hgb2 i
      have Ht:=Zaa ht
      have Hgb2:=Zaa hgb2
      have hkl:k<l.length:=by rw [← Hc.out.len]; exact hlt
      clear ht hxv hxo hgb2
      cases t with
      | cons a0 t =>
       go_wp2
       go_roundg (gs.length - k)
       case measure=>omega
       case rel=>exact ⟨k+1,_,ts,vs,by go_num,by omega,by omega,HS.out.to (HS.out.2.2.1.old Hv.out hkl hnn.out (by rw [← Hsy.out]; exact Ht.out) (by simp))⟩
      | nil =>
       have HI:=Zaa (Yei _ wr.drew gb (.slice (some ⟨cb,0,none⟩) gs.length cap) gs l ρ rk D T k (HG.out.on (fun _ _=>rfl)) Hc.out Hw.out Hu.out HK.out (HD.out k hlt) hlt hl (Qe _) (HT.out k hlt hnn.out))
       have Hne:Hid (∀ i,i<l.length→T (ρ i)≠[]):=fun i hi=>by rw [HK.out.tm _ (HD.out i (by rw [Hc.out.len]; exact hi))]; simp
       go_wp2_with fail
       refine Zib (by kernel_rfl) [.rd 0 1 (fun _ => .pointer (some ⟨w.heap.size+1,0,none⟩)),.rd 0 1 (fun _ => .slice (some ⟨g,0,none⟩) ts.length tcap),.rd 0 1 (fun _ => .int .i64 c.sym.num),.rd 0 1 (fun _ => .pointer (some ⟨gb,0,none⟩)),.rd 0 1 (fun _ => .int .i64 k),.st 0,.rd 0 1 (fun _ => .pointer (some ⟨g,c.sym.num,none⟩)),.st 1] 2 4 (by kernel_rfl)
        (SubPh w wr l ρ T k (.slice (some ⟨g,0,none⟩) ts.length tcap) ts) rfl ?_ ?_
       ·have hcell:∀ u,Ext wr.drew u→u.cell? ⟨w.heap.size+1,0,none⟩=some (.slice (some ⟨g,0,none⟩) ts.length tcap):=fun u hE=>Zab ((hE.block _ hsb).trans HS.out.1) 0 _ rfl
        refine ⟨⟨trivial,fun vs u _ hl hS => ?_⟩,⟨trivial,fun vs u _ hl hS => ?_⟩,⟨trivial,fun vs u _ hl hS => ?_⟩,⟨trivial,fun vs u _ hl hS => ?_⟩,⟨trivial,fun vs u _ hl hS => ?_⟩,⟨trivial,fun vs u hl hS => ?_⟩,⟨trivial,fun vs u _ hl hS => ?_⟩,⟨trivial,fun vs u hl hS => ?_⟩,trivial⟩
        ·simp [phAll,phA,pa,Ph.kd,Ph.val,Kd.val,go_sem]
        ·have t1:=hcell u (hS.ext hl)
         simp [phAll,phA,pa,Ph.kd,Ph.val,Kd.val,go_sem,t1]
        ·simp [phAll,phA,pa,Ph.kd,Ph.val,Kd.val,go_sem]
        ·simp [phAll,phA,pa,Ph.kd,Ph.val,Kd.val,go_sem]
        ·simp [phAll,phA,pa,Ph.kd,Ph.val,Kd.val,go_sem]
        ·obtain rfl:=List.length_eq_zero_iff.1 hl
         have hu:u=wr.drew:=hS
         subst hu
         refine .call 192 #[.pointer (some ⟨gb,0,none⟩),.int .i64 k] _ (by simp [phAll,phA,pa,Ph.kd,Ph.val,Kd.val,go_sem]) (HI.out.mono ?_)
         rintro e u ⟨v,B,rfl,h⟩
         exact ⟨v,rfl,v,B,rfl,h⟩
        ·simp [phAll,phA,pa,Ph.kd,Ph.val,Kd.val,go_sem,hnl]
        ·obtain ⟨v,rfl⟩:=List.length_eq_one_iff.1 hl
         have hE:=hS.ext (by simp)
         obtain ⟨v',B,he,hB,hr,_⟩:=hS
         simp only [Ending.returned.injEq] at he
         subst he
         have HSu:=HS.out.ext ((Ext.of (Qx _ _).drew:Ext wr wr.drew).trans hE)
         have hgu:=(hE.block _ hgl).trans Hgb2.out
         have gfu:=Zae hgu c.sym.num
         obtain ⟨va1,vc1,rfl⟩:=Zad hr
         have x1:u.cell? ⟨g,c.sym.num,none⟩=some (.slice xa 0 xcap):=(hE.cell (p:=⟨g,c.sym.num,none⟩) hgl).trans x0
         have hgs:g<u.heap.size:=Zac hgu
         have hK:Kept (only g) u (u.setCell ⟨g,c.sym.num,none⟩ (.slice va1 (T (ρ k)).length vc1)):=(Qx (only g) u).put c.sym.num _
         refine .skip (u.setCell ⟨g,c.sym.num,none⟩ (.slice va1 (T (ρ k)).length vc1)) ?_ ?_
         ·simp [phAll,phA,pa,Ph.kd,Ph.val,Kd.val,go_sem,x1,gfu]
         ·obtain ⟨g1,g2,g3,g4,g5,g6⟩:=HSu
          have hn1:w.heap.size+1≠g:=fun e=>Zah g2.owns (by decide) g1 (by rw [e]; rfl)
          have hn0:w.heap.size≠g:=fun e=>Zah g2.owns (by decide) g5 (by rw [e]; rfl)
          have hgw:=(g2.owns.lt g rfl).1
          rw [Hsy.out] at hnl hK ⊢
          have hp:=g2.put (l:=T (ρ k)) hnl (Zbb hr (Qm _))
          exact ⟨_,(hK.block _ (Zac g1) hn1).trans g1,hp,g3.new (fun i hi _=>Hne.out i (by omega)) hnn.out (by rw [← Hsy.out]; exact Ht.out),g4.trans (hK.below g4.size (fun j hj=>by have:j=g:=hj; omega)),(hK.block _ (Zac g5) hn0).trans g5,by rw [List.length_set]; exact g6⟩
       ·rintro vs u hl hS
        match vs,hl,hS with
        | [v,v'],_,hS =>
        obtain ⟨vs',hS'⟩:=hS
        simp only [phAll,phA,paAll,pa,Ph.kd,Ph.val,Kd.val,List.map_cons,List.map_nil,if_true,Act.put,List.setIfInBounds_toArray,List.set_cons_succ,List.set_cons_zero]
        have HS':=Zaa hS'
        clear hS'
        go_wp2
        go_roundg (gs.length - k)
        case measure=>omega
        case rel=>exact ⟨k+1,_,_,vs',by go_num,by omega,by omega,HS'.out⟩
  ·have hek:k=gs.length:=by omega
   subst hek
   obtain ⟨ta,tcap,rfl⟩:=Zad HS.out.2.1.owns
   go_wp2
   have hK:Kept (fun j=>j=w.heap.size) wr (wr.setCell ⟨w.heap.size,0,none⟩ (.slice ta ts.length tcap)):=(Qx (only w.heap.size) wr).put 0 _
   have h0:(wr.setCell ⟨w.heap.size,0,none⟩ (.slice ta ts.length tcap)).cell? ⟨w.heap.size,0,none⟩=some (.slice ta ts.length tcap):=Zab (Zai HS.out.2.2.2.2.1 0 _) 0 _ rfl
   obtain ⟨g1,g2,g3,g4,g5,g6⟩:=HS.out
   rw [Hc.out.len] at g3
   refine bodyPost_ret (v := .agg #[.slice ta ts.length tcap]) (by simp [results,Tryz.results160,go_sem,h0]) rfl ?_
   exact ⟨_,ts,vs,rfl,g2.box g5 (by decide) (by decide) hK,g3,g4.trans (hK.below (by omega) (fun k hk=>by omega)),g6⟩
def sbOf (ts:List (List Sym)) (n:Nat):List Sym:=match ts[n]? with
 | some (x::xs)=>x::xs
 | _=>vr n
theorem Yhj {l:List Sym} {ρ:Nat→Nat} {D:Nat→Prop} {T:Nat→List Sym} {ts:List (List Sym)} (hs:SubOk l ρ T l.length ts) (hK:Known (grOf l) ρ D T) (hv:Vars (grOf l) ρ) (hD:∀ i,i<l.length→D (ρ i)):sbOf ts=Zep (grOf l) ρ D T:=by
 funext n
 by_cases hex:∃ i,i<l.length∧(Zba l i).name=[]∧(Zba l i).num=n
 ·obtain ⟨i,hi,hn,rfl⟩:=hex
  have h1:Zep (grOf l) ρ D T (Zba l i).num=T (ρ i):=Zpl (G:=grOf l) hv hi hn (hD i hi)
  rw [h1]
  have h2:=hs.has i hi hn
  have h3:=hK.tm _ (hD i hi)
  unfold sbOf
  rw [h2]
  rw [h3]
 ·have h1:Zep (grOf l) ρ D T n=vr n:=by
   unfold Zep
   rw [dif_neg]
   rintro ⟨i,h1,h2,h3,_⟩
   exact hex ⟨i,h1,h2,h3⟩
  rw [h1]
  unfold sbOf
  cases ht:ts[n]? with
  | none=>rfl
  | some t =>
   rcases hs.only n t ht with rfl | ⟨i,h1,h2,h3,_⟩
   ·rfl
   ·exact absurd ⟨i,h1,h2,h3⟩ hex
theorem Yhk {gs:List GC} (h:∀ c ∈ gs,c.size=0):sz gs (fun _=>0)=gs:=by
 apply List.ext_getElem?
 intro i
 cases hc:gs[i]? with
 | none=>rw [List.getElem?_eq_none (by rw [Zeq]; exact List.getElem?_eq_none_iff.1 hc)]
 | some c =>
  rw [Zsf hc]
  have:=h c (Qh hc)
  cases c
  simp at this
  subst this
  rfl
theorem Ybu {l:List Sym} {gs':List GC} (h:gs'.map (·.size)=(Zfx l (Zdz l) 0).map (·.size)):sz gs' (fun _=>0)=gs':=by
 refine Yhk (fun c hc => ?_)
 have h1:c.size ∈ (Zfx l (Zdz l) 0).map (·.size):=by rw [← h]; exact List.mem_map.2 ⟨c,hc,rfl⟩
 rw [← Yhi l] at h1
 obtain ⟨d,hd,e⟩:=List.mem_map.1 h1
 obtain ⟨i,hi⟩:=List.mem_iff_getElem?.1 hd
 simp only [sz,List.getElem?_mapIdx,Option.map_eq_some_iff] at hi
 obtain ⟨d',_,rfl⟩:=hi
 exact e.symm
def Zuf (a b:List Sym) (w:World) (e:Ending) (w':World):Prop:=Ext w w'∧∃ x n c q,e = .returned (.tuple #[.agg #[.slice x n c],.int .i64 q]) ∧
 ((q=0∧NoFit a b)∨(q=2∧Vast a b)∨(q=1∧∃ ts vs,TermsAt w' 0 (.slice x n c) ts vs∧Mgu (sbOf ts) a b∧(ap (sbOf ts) a).length≤30∧ts.length≤200001∧∀ t ∈ ts,t.length≤30))
theorem Ybv {l:List Sym} {i:Nat} (hi:i<l.length) (hn:(Zba l i).name=[]):Occ (Zba l i).num l:=by
 refine ⟨Zba l i,?_,hn,rfl⟩
 unfold Zba
 rw [List.getD_eq_getElem?_getD,Qb hi]
 simp
theorem Zot {a b:List Sym} {σ:Nat→List Sym} (h:Mgu σ a b) (hl:(ap σ a).length≤30) {n:Nat} (ho:Occ n (a++b)):(σ n).length≤30:=by
 rcases Zcn.1 ho with ho | ho
 ·have:=Zgp h.ts ho
  have h1:0<a.length:=by obtain ⟨s,hs,_⟩:=ho; exact List.length_pos_of_mem hs
  omega
 ·have:=Zgp h.ts ho
  have h1:0<b.length:=by obtain ⟨s,hs,_⟩:=ho; exact List.length_pos_of_mem hs
  rw [← h.unif] at this
  omega
theorem Ybw {a b:List Sym} (ha:Wf 1 a) (hb:Wf 1 b) {ρ':Nat→Nat} (hj:Joined (grOf (a++b)) (Zbj (a++b)) ρ' [0] [a.length]) {D:Nat→Prop} {T:Nat→List Sym} (hK:Known (grOf (a++b)) ρ' D T) (hd:D (ρ' 0)) :
  Mgu (Zep (grOf (a++b)) ρ' D T) a b∧ap (Zep (grOf (a++b)) ρ' D T) a=T (ρ' 0)∧Vars (grOf (a++b)) ρ'∧∀ i,i<(a++b).length→D (ρ' i):=by
 have hl:=Ybc ha hb
 have hw:Wf 2 (a++b):=Zft ha hb
 have h0:=Zjz (a++b) hw
 have hap:=Zcp ha
 have hbp:=Zcp hb
 have hx:(0:Nat)<(grOf (a++b)).n:=by show 0<(a++b).length; simp; omega
 have hy:a.length<(grOf (a++b)).n:=by show a.length<(a++b).length; simp; omega
 obtain ⟨h1,h2⟩:=Zvj hl h0 hx hy (Zkr ha) (Zjl hb) hj hK hd
 have he:ρ' 0=ρ' a.length:=by simpa using hj.eq
 refine ⟨h1,h2,h0.vars' hj.grow,Ybt ha hb (fun i hi=>hj.cg i hi (h0.cg i hi)) hK hd (he ▸ hd)⟩
end Go.Proofs.YtlmjilpjmgjjcaaGreatDoor
