/-
  PROVED HERE: what the reference's 'joined' does to cells that lie in memory (the conditions stand in the statement).
-/
import Derived.Test.YtlmjilpjmgjjcaaGreatDoorT6
namespace Go.Proofs.YtlmjilpjmgjjcaaGreatDoor
open Go.RowKit
set_option linter.unusedSimpArgs false
set_option linter.unusedVariables false
structure CellS where
 sym:Sym
 kids:List Nat
 up:Nat
def Zlo (c:CellS) (v:Value):List Value:=[.string ⟨c.sym.name.toArray⟩,.int .i64 c.sym.num,v,.int .i64 c.up]
def Zdh:List CellS→List Value→List Value
 | c::cs,v::vs=>Zlo c v++Zdh cs vs
 | _,_=>[]
structure CellsAt (w:World) (B:Nat) (lv:Value) (cs:List CellS) (vs:List Value):Prop where
 len:vs.length=cs.length
 owns:w.ownsRow B 314 4 lv cs.length (Zdh cs vs)
 kids:∀ (i:Nat) c v,cs[i]?=some c→vs[i]?=some v→w.ownsRow B 3 1 v c.kids.length (ints c.kids)
theorem cellsV_at:∀ {cs:List CellS} {vs:List Value} {i:Nat} {c:CellS} {v:Value},cs[i]?=some c→vs[i]?=some v →
  (Zdh cs vs)[i * 4]?=some (.string ⟨c.sym.name.toArray⟩)∧(Zdh cs vs)[i * 4+1]?=some (.int .i64 c.sym.num)∧(Zdh cs vs)[i * 4+2]?=some v∧(Zdh cs vs)[i * 4+3]?=some (.int .i64 c.up):=by
 intro cs
 induction cs with
 | nil=>intro vs i c v h; simp at h
 | cons d cs ih =>
  intro vs i c v h1 h2
  cases vs with
  | nil=>simp at h2
  | cons u vs =>
   cases i with
   | zero =>
    simp at h1 h2
    subst h1 h2
    simp [Zdh,Zlo]
   | succ i =>
    have:=ih (i:=i) (by simpa using h1) (by simpa using h2)
    have hl:(Zlo d u).length=4:=rfl
    rw [Zdh]
    have e:∀ j,(Zlo d u++Zdh cs vs)[(i+1) * 4+j]?=(Zdh cs vs)[i * 4+j]?:=fun j=>by
     rw [List.getElem?_append_right (by rw [hl]; omega),hl]
     congr 1; omega
    have e0:=e 0
    simp only [Nat.add_zero] at e0
    rw [e0,e 1,e 2,e 3]
    exact this
theorem CellsAt.at {w:World} {B:Nat} {lv:Value} {cs:List CellS} {vs:List Value} (h:CellsAt w B lv cs vs) {i:Nat} (hi:i<cs.length) :
  ∃ g cap c v,lv = .slice (some ⟨g,0,none⟩) cs.length cap∧cs[i]?=some c∧vs[i]?=some v∧B≤g∧g<w.heap.size∧cs.length≤cap∧w.cell? ⟨g,i * 4,none⟩=some (.string ⟨c.sym.name.toArray⟩)∧w.cell? ⟨g,i * 4+1,none⟩=some (.int .i64 c.sym.num) ∧
   w.cell? ⟨g,i * 4+2,none⟩=some v∧w.cell? ⟨g,i * 4+3,none⟩=some (.int .i64 c.up)∧(∀ j,w.frozen? ⟨g,j,none⟩=false)∧w.ownsRow B 3 1 v c.kids.length (ints c.kids):=by
 obtain ⟨g,cap,cur,rfl,hB,hb,hc⟩:=Zal h.owns (by omega)
 have hv:i<vs.length:=by rw [h.len]; exact hi
 have h1:cs[i]?=some cs[i]:=List.getElem?_eq_getElem hi
 have h2:vs[i]?=some vs[i]:=List.getElem?_eq_getElem hv
 obtain ⟨a,b,c,d⟩:=cellsV_at h1 h2
 exact ⟨g,cap,cs[i],vs[i],rfl,h1,h2,hB,Zac hb,hc,Zaf h.owns _ _ a,Zaf h.owns _ _ b,Zaf h.owns _ _ c,Zaf h.owns _ _ d,fun j=>Zae hb j,h.kids i _ _ h1 h2⟩
theorem CellsAt.ext {w w':World} {B:Nat} {lv:Value} {cs:List CellS} {vs:List Value} (h:CellsAt w B lv cs vs) (hk:∀ k,k<w.heap.size→w'.heap[k]?=w.heap[k]?):CellsAt w' B lv cs vs :=
 ⟨h.len,Zan h.owns (fun k e=>hk k (h.owns.lt k e).2),fun i c v h1 h2=>Zan (h.kids i c v h1 h2) (fun k e=>hk k ((h.kids i c v h1 h2).lt k e).2)⟩
def turn (cs:List CellS) (x y:Nat):List CellS:=cs.modify x (fun c => { c with up:=y })
theorem Zit (cs:List CellS) (x y:Nat):(turn cs x y).length=cs.length:=by simp [turn]
theorem Zjp (cs:List CellS) (x y i:Nat):(turn cs x y)[i]?=(cs[i]?).map (fun c=>if x=i then { c with up:=y } else c):=by
 simp only [turn,List.getElem?_modify]
 cases cs[i]? with
 | none=>rfl
 | some c=>simp
theorem Ztz:∀ {cs:List CellS} {vs:List Value} {x y:Nat},vs.length=cs.length→x<cs.length→Zdh (turn cs x y) vs=(Zdh cs vs).set (x * 4+3) (.int .i64 y):=by
 intro cs
 induction cs with
 | nil=>intro vs x y _ h; simp at h
 | cons d cs ih =>
  intro vs x y hl hx
  cases vs with
  | nil=>simp at hl
  | cons u vs =>
   cases x with
   | zero=>simp [turn,Zdh,Zlo]
   | succ x =>
    have e:=ih (vs:=vs) (x:=x) (y:=y) (by simpa using hl) (by simpa using hx)
    have e2:turn (d::cs) (x+1) y=d::turn cs x y:=by simp [turn]
    rw [e2,Zdh,Zdh,e,List.set_append_right _ _ (by simp [Zlo]; omega)]
    congr 2
    simp [Zlo]
    try omega
theorem CellsAt.turn {w:World} {B g cap:Nat} {cs:List CellS} {vs:List Value} (h:CellsAt w B (.slice (some ⟨g,0,none⟩) cs.length cap) cs vs) {x:Nat} (hx:x<cs.length) (y:Nat) :
  CellsAt (w.setCell ⟨g,x * 4+3,none⟩ (.int .i64 y)) B (.slice (some ⟨g,0,none⟩) cs.length cap) (YtlmjilpjmgjjcaaGreatDoor.turn cs x y) vs:=by
 refine ⟨by rw [Zit]; exact h.len,?_,?_⟩
 ·rw [Zit,Ztz h.len hx]
  have ho:=h.owns
  refine ⟨by simpa using ho.1,?_⟩
  rcases ho.2 with ⟨h1,_⟩ | ⟨g',cap',cur,h1,hb,hg,hn,hc,hs,ht⟩
  ·simp at h1
  ·simp at h1
   obtain ⟨rfl,rfl⟩:=h1
   refine .inr ⟨g,cap,cur.setIfInBounds (x * 4+3) (.int .i64 y),rfl,hb,Zai hg _ _,hn,hc,by simpa using hs,?_⟩
   rw [← ht]
   simp [List.take_set]
 ·intro i c v h1 h2
  rw [Zjp] at h1
  cases hc:cs[i]? with
  | none=>rw [hc] at h1; simp at h1
  | some c' =>
   rw [hc] at h1
   simp only [Option.map_some,Option.some.injEq] at h1
   have hk:=h.kids i c' v hc h2
   have hne:∀ k,v.ownBlock=some k→k≠g:=fun k e e'=>by
    subst e'
    obtain ⟨cur,hcur⟩:=Zap hk k e
    obtain ⟨cur',hcur'⟩:=Zap h.owns k rfl
    rw [hcur] at hcur'
    simp at hcur'
   have:c.kids=c'.kids:=by rw [← h1]; split <;> rfl
   rw [this]
   exact Zan hk (fun k e=>Below.heap_setCell _ _ _ _ (hne k e))
def UpOk (cs:List CellS) (ρ rk:Nat→Nat):Prop:=∀ (i:Nat) c,cs[i]?=some c→c.up<cs.length∧ρ c.up=ρ i∧(c.up=i→ρ i=i)∧(c.up≠i→rk c.up<rk i)
theorem UpOk.root {cs:List CellS} {ρ rk:Nat→Nat} (h:UpOk cs ρ rk):∀ (n i:Nat) c,rk i≤n→cs[i]?=some c→∃ c',cs[ρ i]?=some c'∧c'.up=ρ i∧ρ (ρ i)=ρ i:=by
 intro n
 induction n with
 | zero =>
  intro i c hn hc
  obtain ⟨h1,h2,h3,h4⟩:=h i c hc
  by_cases e:c.up=i
  ·rw [h3 e]; exact ⟨c,hc,e,h3 e⟩
  ·have:=h4 e; omega
 | succ n ih =>
  intro i c hn hc
  obtain ⟨h1,h2,h3,h4⟩:=h i c hc
  by_cases e:c.up=i
  ·rw [h3 e]; exact ⟨c,hc,e,h3 e⟩
  ·have:=h4 e
   rw [← h2]
   exact ih c.up _ (by omega) (List.getElem?_eq_getElem h1)
theorem UpOk.rt {cs:List CellS} {ρ rk:Nat→Nat} (h:UpOk cs ρ rk):Rt cs.length ρ:=by
 refine ⟨fun i hi => ?_,fun i hi => ?_⟩
 ·obtain ⟨c',h1,_,_⟩:=h.root _ i _ (Nat.le_refl _) (List.getElem?_eq_getElem hi)
  exact (List.getElem?_eq_some_iff.1 h1).1
 ·obtain ⟨c',_,_,h3⟩:=h.root _ i _ (Nat.le_refl _) (List.getElem?_eq_getElem hi)
  exact h3
def Zcx (cs:List CellS):Nat:=((List.range cs.length).filter (fun i=>((cs[i]?).map (fun c=>c.up == i)).getD false)).length
theorem Zgj {cs:List CellS} {x y:Nat} {c:CellS} (hx:cs[x]?=some c) (hr:c.up=x) (hne:x≠y):Zcx (turn cs x y)<Zcx cs:=by
 unfold Zcx
 rw [Zit]
 refine Zmu (x:=x) (fun i _ hi => ?_) (List.mem_range.2 (List.getElem?_eq_some_iff.1 hx).1) (by simp [hx,hr]) ?_
 ·rw [Zjp] at hi
  cases hc:cs[i]? with
  | none=>rw [hc] at hi; simp at hi
  | some d =>
   rw [hc] at hi
   simp only [Option.map_some,Option.getD_some,beq_iff_eq] at hi ⊢
   split at hi
   ·rename_i e; subst e; simp at hi; exact absurd hi.symm hne
   ·exact hi
 ·rw [Zjp,hx]
  simp
  exact fun e=>hne e.symm
theorem UpOk.turn {cs:List CellS} {ρ rk:Nat→Nat} (h:UpOk cs ρ rk) {x y:Nat} (hx:x<cs.length) (hy:y<cs.length) (rx:ρ x=x) (ry:ρ y=y) (hne:x≠y) :
  UpOk (YtlmjilpjmgjjcaaGreatDoor.turn cs x y) (mg ρ x y) (fun i=>if ρ i=x then rk i+rk y+1 else rk i):=by
 intro i c hc
 rw [Zjp] at hc
 cases hd:cs[i]? with
 | none=>rw [hd] at hc; simp at hc
 | some d =>
  rw [hd] at hc
  simp only [Option.map_some,Option.some.injEq] at hc
  obtain ⟨h1,h2,h3,h4⟩:=h i d hd
  rw [Zit]
  by_cases e:x=i
  ·subst e
   rw [if_pos rfl] at hc
   subst hc
   refine ⟨hy,?_,fun e=>absurd e.symm hne,fun _ => ?_⟩
   ·unfold mg
    rw [rx,ry,if_pos rfl,if_neg (fun e=>hne e.symm)]
   ·simp only [rx,ry,if_true]
    rw [if_neg (fun e=>hne e.symm)]; omega
  ·rw [if_neg e] at hc
   subst hc
   refine ⟨h1,?_,fun e' => ?_,fun e' => ?_⟩
   ·unfold mg; rw [h2]
   ·have:=h3 e'
    unfold mg
    rw [this,if_neg (fun e''=>e e''.symm)]
   ·have:=h4 e'
    simp only [h2]
    split <;> omega
set_option maxRecDepth 10000 in
set_option maxHeartbeats 1000000 in
theorem Zqb (w:World) (B:Nat) (lv:Value) (cs:List CellS) (vs:List Value) (ρ rk:Nat→Nat) (i:Nat) (h:CellsAt w B lv cs vs) (hu:UpOk cs ρ rk) (hi:i<cs.length) (hl:cs.length≤4000) :
  Calls Tryz.prog 214 #[lv,.int .i64 i] w fun e w'=>e = .returned (.int .i64 (ρ i))∧w'=w:=by
 obtain ⟨g,cap,_,_,rfl,_,_,_,_,hcap,_⟩:=h.at hi
 have H:=Zaa h
 have Hu:=Zaa hu
 clear h hu
 go_enter Tryz.func214,Tryz.ntmps214
 go_wp2
 go_loopg [1] (rk i+1) (fun gk iv wr=>∃ (k:Nat),iv = .int .i64 k∧k<cs.length∧rk k<gk∧ρ k=ρ i∧wr=w)
 case atStart=>exact ⟨i,rfl,hi,by omega,rfl,rfl⟩
 case round =>
  obtain ⟨k,rfl,hk,hg,hρ,rfl⟩:=hrel
  obtain ⟨g',cap',c,v,he,hc,hv,hB,hgl,hcp,c0,c1,c2,c3,cf,hkid⟩:=H.out.at hk
  simp only [Value.slice.injEq,Option.some.injEq,Addr.mk.injEq] at he
  obtain ⟨⟨rfl,_⟩,_,rfl⟩:=he
  obtain ⟨h1,h2,h3,h4⟩:=Hu.out k c hc
  by_cases e:c.up=k
  ·have e':((c.up:Int) != (k:Int))=false:=by rw [e]; simp
   have Hr:=Zaa (h3 e)
   have Hρ:=Zaa hρ
   clear hc hv hkid h2 h3 h4 hρ
   go_wp2
   go_ret
   exact ⟨by rw [← Hρ.out,Hr.out]; rfl,rfl⟩
  ·have e':((c.up:Int) != (k:Int))=true:=by rw [bne_iff_ne]; omega
   have Hr:=Zaa (h2.trans hρ)
   have h4':=h4 e
   clear hc hv hkid h2 h3 h4 hρ
   go_wp2
   go_roundg (rk k)
   case measure=>omega
   case rel=>exact ⟨c.up,rfl,h1,h4',Hr.out,rfl⟩
end Go.Proofs.YtlmjilpjmgjjcaaGreatDoor
namespace Go.Proofs.YtlmjilpjmgjjcaaGreatDoor
set_option linter.unusedSimpArgs false
set_option linter.unusedVariables false
def skip:Nat→List Sym→Nat
 | 0,_=>0
 | _+1,[]=>0
 | k+1,s::r=>skip (k+s.args) r+1
theorem Zkw:∀ {a:List Sym} {j:Nat} (r:List Sym),Wf j a→skip j (a++r)=a.length:=by
 intro a
 induction a with
 | nil=>intro j r h; have h:j=0:=h; subst h; simp [skip]
 | cons s a ih =>
  intro j r h
  obtain ⟨h1,_,_,h2⟩:=h
  obtain ⟨k,rfl⟩:∃ k,j=k+1:=⟨j - 1,by omega⟩
  simp only [List.cons_append,skip,List.length_cons]
  rw [ih r (by simpa using h2)]
theorem wf_drop:∀ {l:List Sym} {k:Nat} (i:Nat),Wf k l→i≤l.length→∃ k',Wf k' (l.drop i):=by
 intro l
 induction l with
 | nil=>intro k i h hi; simp at hi; subst hi; exact ⟨k,h⟩
 | cons s l ih =>
  intro k i h hi
  cases i with
  | zero=>exact ⟨k,h⟩
  | succ i =>
   obtain ⟨_,_,_,h2⟩:=h
   simp only [List.drop_succ_cons]
   exact ih i h2 (by simpa using hi)
def Zbq (l:List Sym) (i:Nat):Nat:=i+skip 1 (l.drop i)
def tmAt (l:List Sym) (i:Nat):List Sym:=(l.drop i).take (skip 1 (l.drop i))
def Zbj (l:List Sym):Nat→Nat→List Nat
 | _,0=>[]
 | p,m+1=>p::Zbj l (Zbq l p) m
def Zay (l:List Sym):Nat→Nat→Nat
 | p,0=>p
 | p,m+1=>Zay l (Zbq l p) m
theorem Zdi (l:List Sym) (p m:Nat):(Zbj l p m).length=m:=by
 induction m generalizing p with
 | zero=>rfl
 | succ m ih=>simp [Zbj,ih]
theorem Zcp (l:List Sym) (p m:Nat):Zay l p (m+1)=Zbq l (Zay l p m):=by
 induction m generalizing p with
 | zero=>rfl
 | succ m ih=>rw [Zay,ih]; rfl
theorem Zcm (l:List Sym) (p m i:Nat) (hi:i<m):(Zbj l p m)[i]?=some (Zay l p i):=by
 induction m generalizing p i with
 | zero=>omega
 | succ m ih =>
  cases i with
  | zero=>rfl
  | succ i=>simp only [Zbj,List.getElem?_cons_succ,Zay]; exact ih _ _ (by omega)
theorem Zfa {l:List Sym} {k i:Nat} (h:Wf k l) (hi:i<l.length):Wf 1 (tmAt l i)∧∃ r,l.drop i=tmAt l i++r∧r=l.drop (Zbq l i)∧i<Zbq l i∧Zbq l i≤l.length∧(tmAt l i).length=skip 1 (l.drop i):=by
 obtain ⟨k',hk⟩:=wf_drop i h (by omega)
 have hpos:0<k':=by
  rcases Nat.eq_zero_or_pos k' with rfl | hp
  ·cases hd:l.drop i with
   | nil=>have:=congrArg List.length hd; simp at this; omega
   | cons s r=>rw [hd] at hk; obtain ⟨h1,_⟩:=hk; omega
  ·exact hp
 obtain ⟨a,b,e,ha,hb⟩:=Zlt (j:=1) (k:=k' - 1) (l:=l.drop i) (by rw [show 1+(k' - 1)=k' by omega]; exact hk)
 have hs:skip 1 (l.drop i)=a.length:=by rw [e]; exact Zkw b ha
 have ht:tmAt l i=a:=by unfold tmAt; rw [hs,e]; simp
 have hl:a.length+b.length=l.length - i:=by
  have:=congrArg List.length e
  simp at this; omega
 have ha1:=Zcw ha
 refine ⟨by rw [ht]; exact ha,b,by rw [ht]; exact e,?_,by unfold Zbq; omega,by unfold Zbq; omega,by rw [ht,hs]⟩
 unfold Zbq
 rw [hs,← List.drop_drop,e]; simp
theorem kids_of {l:List Sym} {k0:Nat} (h:Wf k0 l):∀ (m:Nat) {p:Nat} {a b:List Sym},l.drop p=a++b→Wf m a→p≤l.length →
  a=((Zbj l p m).map (tmAt l)).flatten∧(∀ x ∈ Zbj l p m,p≤x∧x<p+a.length)∧Zay l p m=p+a.length:=by
 intro m
 induction m with
 | zero =>
  intro p a b e hw _
  have:a=[]:=by
   cases a with
   | nil=>rfl
   | cons s a=>obtain ⟨h1,_⟩:=hw; omega
  subst this
  exact ⟨rfl,by simp [Zbj],rfl⟩
 | succ m ih =>
  intro p a b e hw hp
  obtain ⟨a1,a2,rfl,h1,h2⟩:=Zlt (j:=1) (k:=m) (l:=a) (by rw [Nat.add_comm]; exact hw)
  have hl1:=Zcw h1
  have hpl:p<l.length:=by
   have:=congrArg List.length e
   simp at this; omega
  have hs:skip 1 (l.drop p)=a1.length:=by rw [e,List.append_assoc]; exact Zkw _ h1
  have ht:tmAt l p=a1:=by unfold tmAt; rw [hs,e]; simp
  have hb:Zbq l p=p+a1.length:=by unfold Zbq; rw [hs]
  have e2:l.drop (Zbq l p)=a2++b:=by rw [hb,← List.drop_drop,e]; simp
  have hbl:Zbq l p≤l.length:=by
   have:=congrArg List.length e
   simp at this; omega
  obtain ⟨g1,g2,g3⟩:=ih e2 h2 hbl
  refine ⟨?_,?_,?_⟩
  ·simp only [Zbj,List.map_cons,List.flatten_cons,ht]
   rw [← g1]
  ·intro x hx
   simp only [Zbj,List.mem_cons] at hx
   simp only [List.length_append]
   rcases hx with rfl | hx
   ·omega
   ·have:=g2 x hx; omega
  ·rw [Zay,g3,hb,List.length_append]; omega
theorem Zjq:∀ {l:List Sym} {k i:Nat} {s:Sym},Wf k l→l[i]?=some s→(s.name=[]→s.args=0)∧(s.name≠[]→s.num=0):=by
 intro l
 induction l with
 | nil=>intro k i s _ hs; simp at hs
 | cons t l ih =>
  intro k i s h hs
  obtain ⟨_,h1,h2,h3⟩:=h
  cases i with
  | zero=>simp at hs; subst hs; exact ⟨h1,h2⟩
  | succ i=>exact ih h3 (by simpa using hs)
def Zba (l:List Sym) (i:Nat):Sym:=l.getD i ⟨[],0,0⟩
def grOf (l:List Sym):Gr:=⟨l.length,Zba l,fun i=>Zbj l (i+1) (Zba l i).args⟩
theorem Zhh {l:List Sym} {k i:Nat} (h:Wf k l) (hi:i<l.length):tmAt l i=Zba l i::((Zbj l (i+1) (Zba l i).args).map (tmAt l)).flatten∧(∀ x ∈ Zbj l (i+1) (Zba l i).args,i<x∧x<Zbq l i)∧Zay l (i+1) (Zba l i).args=Zbq l i:=by
 obtain ⟨hw,r,e,hr,hb1,hb2,hb3⟩:=Zfa h hi
 obtain ⟨s,q,e2,hq,_⟩:=Zrl hw
 have hd:l.drop i=l[i]::l.drop (i+1):=List.drop_eq_getElem_cons hi
 rw [e2] at e
 rw [hd] at e
 simp only [List.cons_append,List.cons.injEq] at e
 have hs:Zba l i=s:=by unfold Zba; simp [hi,e.1]
 obtain ⟨g1,g2,g3⟩:=kids_of h s.args e.2 hq (by omega)
 rw [e2] at hb3
 have hlen:Zbq l i=i+1+q.length:=by unfold Zbq; rw [← hb3]; simp; omega
 rw [hs]
 refine ⟨by rw [e2,← g1],fun x hx => ?_,by rw [g3,hlen]⟩
 have:=g2 x hx
 omega
theorem Zkx {a b:List Sym} (h:Wf 1 a):tmAt (a++b) 0=a:=by
 unfold tmAt; rw [List.drop_zero,Zkw b h]; simp
theorem Zjr {a b:List Sym} (h:Wf 1 b):tmAt (a++b) a.length=b:=by
 unfold tmAt
 have e:(a++b).drop a.length=b++[]:=by simp
 rw [e,Zkw [] h]; simp
theorem lay_of {a b:List Sym} (ha:Wf 1 a) (hb:Wf 1 b):Lay (grOf (a++b)) (tmAt (a++b)) a b:=by
 have hw:Wf 2 (a++b):=Zfz ha hb
 refine ⟨⟨?_,?_,?_,?_⟩,?_,?_⟩
 ·intro i hi x hx
  have:=(Zhh hw hi).2.1 x hx
  obtain ⟨_,_,_,_,_,h2,_⟩:=Zfa hw hi
  show x<(a++b).length
  omega
 ·intro i hi; exact (Zdi _ _ _).symm
 ·intro i hi hn
  have hs:(a++b)[i]?=some (Zba (a++b) i):=by
   have hi:i<(a++b).length:=hi
   unfold Zba; simp only [List.getD_eq_getElem?_getD]; rw [List.getElem?_eq_getElem hi]; rfl
  have:=(Zjq hw hs).1 hn
  show Zbj _ _ (Zba (a++b) i).args=[]
  rw [this]; rfl
 ·intro i hi hn
  have hs:(a++b)[i]?=some (Zba (a++b) i):=by
   have hi:i<(a++b).length:=hi
   unfold Zba; simp only [List.getD_eq_getElem?_getD]; rw [List.getElem?_eq_getElem hi]; rfl
  exact (Zjq hw hs).2 hn
 ·intro i hi; exact (Zhh hw hi).1
 ·intro i hi hn
  have hi:i<(a++b).length:=hi
  have hm:Zba (a++b) i ∈ a++b:=by
   unfold Zba; simp only [List.getD_eq_getElem?_getD]; rw [List.getElem?_eq_getElem hi]; exact List.getElem_mem hi
  rcases List.mem_append.1 hm with hm | hm
  ·exact Or.inl ⟨_,hm,hn,rfl⟩
  ·exact Or.inr ⟨_,hm,hn,rfl⟩
def Zbm (l:List Sym) (i:Nat):Nat:=if (Zba l i).name=[] then l.findIdx (fun s=>s.name.isEmpty && s.num == (Zba l i).num) else i
theorem Zkg (l:List Sym) {k:Nat} (hw:Wf k l):Firsts (grOf l) (Zbm l):=by
 have key:∀ i,i<l.length→(Zba l i).name=[]→Zbm l i<l.length∧(Zba l (Zbm l i)).name=[]∧(Zba l (Zbm l i)).num=(Zba l i).num:=by
  intro i hi hn
  unfold Zbm
  rw [if_pos hn]
  have hex:∃ x ∈ l,(x.name.isEmpty && x.num == (Zba l i).num)=true:=by
   refine ⟨Zba l i,?_,by simp [hn]⟩
   unfold Zba; simp only [List.getD_eq_getElem?_getD]; rw [List.getElem?_eq_getElem hi]; exact List.getElem_mem hi
  have hlt:=List.findIdx_lt_length_of_exists hex
  refine ⟨hlt,?_⟩
  have:=List.findIdx_getElem (w:=hlt)
  have e:Zba l (l.findIdx (fun s=>s.name.isEmpty && s.num == (Zba l i).num))=l[l.findIdx (fun s=>s.name.isEmpty && s.num == (Zba l i).num)]:=by
   generalize l.findIdx (fun s=>s.name.isEmpty && s.num == (Zba l i).num)=z at hlt
   unfold Zba; simp only [List.getD_eq_getElem?_getD]; rw [List.getElem?_eq_getElem hlt]; rfl
  rw [e]
  simpa using this
 refine ⟨⟨?_,?_⟩,?_,?_,?_⟩
 ·intro i hi
  by_cases hn:(Zba l i).name=[]
  ·exact (key i hi hn).1
  ·show Zbm l i<_
   unfold Zbm; rw [if_neg hn]; exact hi
 ·intro i hi
  by_cases hn:(Zba l i).name=[]
  ·obtain ⟨h1,h2,h3⟩:=key i hi hn
   show Zbm l (Zbm l i)=Zbm l i
   have e1:Zbm l (Zbm l i)=l.findIdx (fun s=>s.name.isEmpty && s.num == (Zba l (Zbm l i)).num):=by
    generalize Zbm l i=z at h2
    unfold Zbm; rw [if_pos h2]
   have e2:Zbm l i=l.findIdx (fun s=>s.name.isEmpty && s.num == (Zba l i).num):=by unfold Zbm; rw [if_pos hn]
   rw [e1,h3,← e2]
  ·have e:Zbm l i=i:=by unfold Zbm; rw [if_neg hn]
   rw [e,e]
 ·intro i j hi hj h1 h2 e
  show Zbm l i=Zbm l j
  have h1:(Zba l i).name=[]:=h1
  have h2:(Zba l j).name=[]:=h2
  have e:(Zba l i).num=(Zba l j).num:=e
  unfold Zbm; rw [if_pos h1,if_pos h2,e]
 ·intro i hi hn
  have hn:(Zba l i).name≠[]:=hn
  show Zbm l i=i
  unfold Zbm; rw [if_neg hn]
 ·intro i hi hn
  exact (key i hi hn).2
end Go.Proofs.YtlmjilpjmgjjcaaGreatDoor
namespace Go.Proofs.YtlmjilpjmgjjcaaGreatDoor
open Go.RowKit
set_option linter.unusedSimpArgs false
set_option linter.unusedVariables false
structure GC where
 sym:Sym
 behind:Nat
 leader:Nat
 size:Int
def gcV (c:GC):List Value:=[.string ⟨c.sym.name.toArray⟩,.int .i64 c.sym.num,.int .i64 c.sym.args,.int .i64 c.behind,.int .i64 c.leader,.int .i64 c.size]
def gcs (l:List GC):List Value:=l.flatMap gcV
theorem gcs_at {l:List GC} {i:Nat} {c:GC} (h:l[i]?=some c) (j:Nat) (hj:j<6):(gcs l)[i * 6+j]?=(gcV c)[j]?:=by
 induction l generalizing i with
 | nil=>simp at h
 | cons a l ih =>
  have hl:(gcV a).length=6:=rfl
  cases i with
  | zero =>
   simp at h; subst h
   show (gcV a++gcs l)[_]?=_
   rw [List.getElem?_append_left (by omega)]
   simp
  | succ i =>
   show (gcV a++gcs l)[_]?=_
   rw [List.getElem?_append_right (by omega),← ih (by simpa using h),hl]
   congr 1; omega
theorem gcs_snoc (l:List GC) (c:GC):gcs (l++[c])=gcs l++gcV c:=by simp [gcs]
theorem Zxu {l:List GC} {x:Nat} {c:GC} {f:GC→GC} {j:Nat} {u:Value} (h:l[x]?=some c) (hj:j<6) (hf:gcV (f c)=(gcV c).set j u):gcs (l.modify x f)=(gcs l).set (x * 6+j) u:=by
 induction l generalizing x with
 | nil=>simp at h
 | cons a l ih =>
  have hl:(gcV a).length=6:=rfl
  cases x with
  | zero =>
   simp at h; subst h
   show gcV (f a)++gcs l=(gcV a++gcs l).set _ _
   rw [List.set_append_left _ _ (by omega),hf]
   simp
  | succ x =>
   show gcV a++gcs (l.modify x f)=(gcV a++gcs l).set _ _
   rw [List.set_append_right _ _ (by omega),ih (by simpa using h),hl]
   congr 2; omega
structure GAt (w:World) (gb:Nat) (v:Value) (gs:List GC):Prop where
 box:w.heap[gb]?=some (.cells #[v] 266 (0,0))
 owns:w.ownsRow 0 292 6 v gs.length (gcs gs)
theorem Zvp {w:World} {B:Nat} {e:TypeId} {size n g cap:Nat} {xs:List Value} (h:w.ownsRow B e size (.slice (some ⟨g,0,none⟩) n cap) n xs) (i:Nat) (u:Value):(w.setCell ⟨g,i,none⟩ u).ownsRow B e size (.slice (some ⟨g,0,none⟩) n cap) n (xs.set i u):=by
 refine ⟨by simpa using h.1,?_⟩
 rcases h.2 with ⟨h1,_⟩ | ⟨g',cap',cur,h1,hb,hg,hn,hc,hs,ht⟩
 ·simp at h1
 ·simp at h1
  obtain ⟨rfl,rfl⟩:=h1
  refine .inr ⟨g,cap,cur.setIfInBounds i u,rfl,hb,Zai hg _ _,hn,hc,by simpa using hs,?_⟩
  rw [← ht]
  simp [List.take_set]
theorem GAt.shape {w:World} {gb:Nat} {v:Value} {gs:List GC} (h:GAt w gb v gs) (hi:0<gs.length):∃ cb cap,v = .slice (some ⟨cb,0,none⟩) gs.length cap∧cb<w.heap.size∧gs.length≤cap∧cb≠gb∧(∀ j,w.frozen? ⟨cb,j,none⟩=false):=by
 obtain ⟨g,cap,cur,rfl,hB,hb,hc⟩:=Zal h.owns hi
 refine ⟨g,cap,rfl,Zac hb,hc,fun e => ?_,fun j=>Zae hb j⟩
 subst e
 rw [h.box] at hb
 simp at hb
theorem GAt.cell {w:World} {gb cb cap:Nat} {gs:List GC} (h:GAt w gb (.slice (some ⟨cb,0,none⟩) gs.length cap) gs) {i:Nat} {c:GC} (hc:gs[i]?=some c) :
  w.cell? ⟨cb,i * 6,none⟩=some (.string ⟨c.sym.name.toArray⟩)∧w.cell? ⟨cb,i * 6+1,none⟩=some (.int .i64 c.sym.num)∧w.cell? ⟨cb,i * 6+2,none⟩=some (.int .i64 c.sym.args)∧w.cell? ⟨cb,i * 6+3,none⟩=some (.int .i64 c.behind)∧w.cell? ⟨cb,i * 6+4,none⟩=some (.int .i64 c.leader)∧w.cell? ⟨cb,i * 6+5,none⟩=some (.int .i64 c.size):=by
 have e:=fun j hj=>gcs_at hc j hj
 refine ⟨Zaf h.owns _ _ ?_,Zaf h.owns _ _ (by rw [e 1 (by omega)]; rfl),Zaf h.owns _ _ (by rw [e 2 (by omega)]; rfl),Zaf h.owns _ _ (by rw [e 3 (by omega)]; rfl),Zaf h.owns _ _ (by rw [e 4 (by omega)]; rfl),Zaf h.owns _ _ (by rw [e 5 (by omega)]; rfl)⟩
 have:=e 0 (by omega)
 simp only [Nat.add_zero] at this
 rw [this]; rfl
theorem GAt.on {w w':World} {gb:Nat} {v:Value} {gs:List GC} (h:GAt w gb v gs) (hk:∀ k,k<w.heap.size→w'.heap[k]?=w.heap[k]?):GAt w' gb v gs :=
 ⟨(hk gb (Zac h.box)).trans h.box,Zan h.owns (fun k e=>hk k (h.owns.lt k e).2)⟩
theorem GAt.ext {w w':World} {gb:Nat} {v:Value} {gs:List GC} (h:GAt w gb v gs) (e:Ext w w'):GAt w' gb v gs:=h.on (fun k hk=>e.block k hk)
theorem GAt.put {w:World} {gb cb cap:Nat} {gs:List GC} (h:GAt w gb (.slice (some ⟨cb,0,none⟩) gs.length cap) gs) {x:Nat} {c:GC} (hc:gs[x]?=some c) {f:GC→GC} {j:Nat} {u:Value} (hj:j<6) (hf:gcV (f c)=(gcV c).set j u) :
  GAt (w.setCell ⟨cb,x * 6+j,none⟩ u) gb (.slice (some ⟨cb,0,none⟩) gs.length cap) (gs.modify x f):=by
 have hne:cb≠gb:=by
  obtain ⟨cb',cap',e,_,_,hne,_⟩:=h.shape (by have:=(List.getElem?_eq_some_iff.1 hc).1; omega)
  simp at e
  rw [e.1]; exact hne
 refine ⟨(Below.heap_setCell _ _ _ _ (fun e=>hne e.symm)).trans h.box,?_⟩
 rw [Zxu hc hj hf,List.length_modify]
 exact Zvp h.owns _ _
def GC.up (c:GC):CellS:=⟨c.sym,[],c.leader⟩
def Zhs (gs:List GC) (x y:Nat):List GC:=gs.modify x (fun c => { c with leader:=y })
theorem Zvq (gs:List GC) (x y:Nat):(Zhs gs x y).map GC.up=turn (gs.map GC.up) x y:=by
 apply List.ext_getElem?
 intro i
 rw [Zjp,List.getElem?_map,Zhs,List.getElem?_modify,List.getElem?_map]
 cases gs[i]? with
 | none=>rfl
 | some c=>simp; split <;> simp_all [GC.up]
theorem Zid (gs:List GC) (x y:Nat):(Zhs gs x y).length=gs.length:=by simp [Zhs]
structure CellsOf (gs:List GC) (l:List Sym):Prop where
 len:gs.length=l.length
 all:∀ i c,gs[i]?=some c→c.sym=Zba l i∧c.behind=Zbq l i
theorem CellsOf.lead {gs:List GC} {l:List Sym} (h:CellsOf gs l) (x y:Nat):CellsOf (Zhs gs x y) l :=
 ⟨by rw [Zid]; exact h.len,fun i c hc=>by
  rw [Zhs,List.getElem?_modify] at hc
  cases hd:gs[i]? with
  | none=>rw [hd] at hc; simp at hc
  | some d =>
   rw [hd] at hc
   obtain ⟨h1,h2⟩:=h.all i d hd
   simp only [Option.map_eq_map,Option.map_some,Option.some.injEq] at hc
   subst hc
   split <;> exact ⟨h1,h2⟩⟩
set_option maxRecDepth 10000 in
set_option maxHeartbeats 1000000 in
theorem Zgk (w:World) (gb:Nat) (v:Value) (gs:List GC) (ρ rk:Nat→Nat) (i:Nat) (h:GAt w gb v gs) (hu:UpOk (gs.map GC.up) ρ rk) (hi:i<gs.length) (hl:gs.length≤4000) :
  Calls Tryz.prog 189 #[.pointer (some ⟨gb,0,none⟩),.int .i64 i] w fun e w'=>e = .returned (.int .i64 (ρ i))∧w'=w:=by
 obtain ⟨cb,cap,rfl,hcb,hcap,_,_⟩:=h.shape (by omega)
 have b0:w.cell? ⟨gb,0,none⟩=some (.slice (some ⟨cb,0,none⟩) gs.length cap):=Zab h.box 0 _ rfl
 have hgb:=Zac h.box
 have H:=Zaa h
 have Hu:=Zaa hu
 clear h hu
 go_enter Tryz.func189,Tryz.ntmps189
 go_wp2
 go_loopg [1] (rk i+1) (fun gk iv wr=>∃ (k:Nat),iv = .int .i64 k∧k<gs.length∧rk k<gk∧ρ k=ρ i∧wr=w)
 case atStart=>exact ⟨i,rfl,hi,by omega,rfl,rfl⟩
 case round =>
  obtain ⟨k,rfl,hk,hg,hρ,rfl⟩:=hrel
  obtain ⟨c,hc⟩:∃ c,gs[k]?=some c:=⟨_,List.getElem?_eq_getElem hk⟩
  obtain ⟨c0,c1,c2,c3,c4,c5⟩:=H.out.cell hc
  obtain ⟨h1,h2,h3,h4⟩:=Hu.out k c.up (by rw [List.getElem?_map,hc]; rfl)
  have h1:c.leader<gs.length:=by simpa [GC.up] using h1
  have h2:ρ c.leader=ρ k:=h2
  by_cases e:c.leader=k
  ·have e':((c.leader:Int) != (k:Int))=false:=by rw [e]; simp
   have Hr:=Zaa (h3 e)
   have Hρ:=Zaa hρ
   clear hc h2 h3 h4 hρ
   go_wp2
   go_ret
   exact ⟨by rw [← Hρ.out,Hr.out]; rfl,rfl⟩
  ·have e':((c.leader:Int) != (k:Int))=true:=by rw [bne_iff_ne]; omega
   have Hr:=Zaa (h2.trans hρ)
   have h4':=h4 e
   clear hc h2 h3 h4 hρ
   go_wp2
   go_roundg (rk k)
   case measure=>omega
   case rel=>exact ⟨c.leader,rfl,h1,h4',Hr.out,rfl⟩
set_option maxRecDepth 10000 in
set_option maxHeartbeats 1000000 in
theorem Zja (w:World) (gb:Nat) (v:Value) (gs:List GC) (i:Nat) (c:GC) (h:GAt w gb v gs) (hc:gs[i]?=some c) (hl:gs.length≤4000) :
  Calls Tryz.prog 190 #[.pointer (some ⟨gb,0,none⟩),.int .i64 i] w fun e w'=>e = .returned (.bool c.sym.name.isEmpty)∧w'=w:=by
 have hi:=(List.getElem?_eq_some_iff.1 hc).1
 obtain ⟨cb,cap,rfl,hcb,hcap,_,_⟩:=h.shape (by omega)
 have b0:w.cell? ⟨gb,0,none⟩=some (.slice (some ⟨cb,0,none⟩) gs.length cap):=Zab h.box 0 _ rfl
 have hgb:=Zac h.box
 obtain ⟨c0,c1,c2,c3,c4,c5⟩:=h.cell hc
 clear h hc
 go_enter Tryz.func190,Tryz.ntmps190
 go_wp2
 go_ret
 exact ⟨by simp,rfl⟩
def Zel (s t:Sym):Bool:=s.name.isEmpty && (t.name.isEmpty && s.num == t.num)
set_option maxRecDepth 10000 in
set_option maxHeartbeats 1000000 in
theorem Zxv (w:World) (s t:Sym) :
  Calls Tryz.prog 207 #[.agg #[.string ⟨s.name.toArray⟩,.int .i64 s.num,.int .i64 s.args],.agg #[.string ⟨t.name.toArray⟩,.int .i64 t.num,.int .i64 t.args]] w fun e w'=>e = .returned (.bool (Zel s t))∧Ext w w':=by
 have Hs:Hid (∀ a b c,a=s.name.isEmpty→b=t.name.isEmpty→c=(s.num == t.num)→Zel s t=(a && (b && c))):=fun a b c h1 h2 h3=>by rw [h1,h2,h3]; rfl
 cases h1:s.name.isEmpty with
 | false =>
  go_enter Tryz.func207,Tryz.ntmps207
  go_wp2
  go_ret
  refine ⟨?_,(Ext.of (by repeat' (first | with_reducible exact Kept.refl _ _ | with_reducible apply Kept.drew | with_reducible apply Kept.drewN | with_reducible apply Kept.alloc | with_reducible refine Kept.setCell ?_ ?_ _ | exact fun h=>absurd h (by simp <;> omega))))⟩
  rw [Hs.out false _ _ h1.symm rfl rfl]; rfl
 | true =>
  cases h2:t.name.isEmpty with
  | false =>
   go_enter Tryz.func207,Tryz.ntmps207
   go_wp2
   go_ret
   refine ⟨?_,(Ext.of (by repeat' (first | with_reducible exact Kept.refl _ _ | with_reducible apply Kept.drew | with_reducible apply Kept.drewN | with_reducible apply Kept.alloc | with_reducible refine Kept.setCell ?_ ?_ _ | exact fun h=>absurd h (by simp <;> omega))))⟩
   rw [Hs.out true false _ h1.symm h2.symm rfl]; rfl
  | true =>
   have Hn:Hid (((s.num:Int) == (t.num:Int))=(s.num == t.num)):=by
    show _=_
    rw [Bool.eq_iff_iff,beq_iff_eq,beq_iff_eq]; omega
   go_enter Tryz.func207,Tryz.ntmps207
   go_wp2
   go_ret
   refine ⟨?_,(Ext.of (by repeat' (first | with_reducible exact Kept.refl _ _ | with_reducible apply Kept.drew | with_reducible apply Kept.drewN | with_reducible apply Kept.alloc | with_reducible refine Kept.setCell ?_ ?_ _ | exact fun h=>absurd h (by simp <;> omega))))⟩
   rw [Hs.out true true _ h1.symm h2.symm rfl,← Hn.out]; rfl
theorem Joined.swap {G:Gr} {ρ ρ':Nat→Nat} {xs ys:List Nat} (h:Joined G ρ ρ' xs ys):Joined G ρ ρ' ys xs:=⟨h.rt,h.grow,h.eq.symm,h.cg,fun val hv hc e=>h.con val hv hc e.symm⟩
theorem Clash.swap {G:Gr} {ρ:Nat→Nat} {xs ys:List Nat} (h:Clash G ρ xs ys):Clash G ρ ys xs:=fun val hv hc e=>h val hv hc e.symm
theorem lay_of' {l:List Sym} (hw:Wf 2 l):∃ a b,l=a++b∧Wf 1 a∧Wf 1 b∧Lay (grOf l) (tmAt l) a b:=by
  obtain ⟨a,b,e,ha,hb⟩:=Zlt (j:=1) (k:=1) hw
  exact ⟨a,b,e,ha,hb,by rw [e]; exact lay_of ha hb⟩
theorem gr_ok {l:List Sym} (hw:Wf 2 l):(grOf l).Ok:=by
  obtain ⟨a,b,_,_,_,h⟩:=lay_of' hw
  exact h.ok
structure JoinLeft (gb:Nat) (v:Value) (gs:List GC) (l:List Sym) (w w':World) (gs':List GC):Prop where
  at':GAt w' gb v gs'
  cells:CellsOf gs' l
  sizes:gs'.map (·.size)=gs.map (·.size)
  kept:Kept (Zbd v) w w'
  roots:Zcx (gs'.map GC.up)≤Zcx (gs.map GC.up)
def JoinOut (gb:Nat) (v:Value) (gs:List GC) (l:List Sym) (ρ:Nat→Nat) (a b:Nat) (w:World) (e:Ending) (w':World):Prop:=∃ gs',JoinLeft gb v gs l w w' gs'∧∃ ρ' rk',UpOk (gs'.map GC.up) ρ' rk' ∧
  ((e = .returned (.bool true)∧Joined (grOf l) ρ ρ' [a] [b])∨(e = .returned (.bool false)∧Clash (grOf l) ρ [a] [b]))
def Zqc (m:Nat):Prop:=∀ (w:World) (gb:Nat) (v:Value) (gs:List GC) (l:List Sym) (ρ rk:Nat→Nat) (a b:Nat),GAt w gb v gs→CellsOf gs l→Wf 2 l→UpOk (gs.map GC.up) ρ rk→Zcx (gs.map GC.up)≤m→a<gs.length→b<gs.length→gs.length≤4000 →
  Calls Tryz.prog 158 #[.pointer (some ⟨gb,0,none⟩),.int .i64 a,.int .i64 b] w fun e w'=>JoinOut gb v gs l ρ a b w e w'
abbrev kidsAt (l:List Sym) (x:Nat):List Nat:=(grOf l).kids x
def Zsa (gb:Nat) (v:Value) (gs:List GC) (l:List Sym) (ρ:Nat→Nat) (x y:Nat) (w:World) (e:Ending) (w':World):Prop:=∃ gs',JoinLeft gb v gs l w w' gs'∧∃ ρ' rk',UpOk (gs'.map GC.up) ρ' rk' ∧
    ((e = .returned (.bool true)∧(Zba l x).name=(Zba l y).name∧(Zba l x).args=(Zba l y).args∧Joined (grOf l) ρ ρ' (kidsAt l x) (kidsAt l y)) ∨
     (e = .returned (.bool false)∧((Zba l x).name≠(Zba l y).name∨(Zba l x).args≠(Zba l y).args∨Clash (grOf l) ρ (kidsAt l x) (kidsAt l y))))
def Zow (m:Nat):Prop:=∀ (w:World) (gb:Nat) (v:Value) (gs:List GC) (l:List Sym) (ρ rk:Nat→Nat) (x y:Nat),GAt w gb v gs→CellsOf gs l→Wf 2 l→UpOk (gs.map GC.up) ρ rk→Zcx (gs.map GC.up)≤m→x<gs.length→y<gs.length→gs.length≤4000 →
  Calls Tryz.prog 191 #[.pointer (some ⟨gb,0,none⟩),.int .i64 x,.int .i64 y] w fun e w'=>Zsa gb v gs l ρ x y w e w'
theorem JoinLeft.trans {gb:Nat} {v:Value} {gs gs1 gs2:List GC} {l:List Sym} {w w1 w2:World} (h:JoinLeft gb v gs l w w1 gs1) (k:JoinLeft gb v gs1 l w1 w2 gs2):JoinLeft gb v gs l w w2 gs2 :=
  ⟨k.at',k.cells,k.sizes.trans h.sizes,h.kept.trans k.kept,Nat.le_trans k.roots h.roots⟩
theorem JoinLeft.len {gb:Nat} {v:Value} {gs:List GC} {l:List Sym} {w w':World} {gs':List GC} (h:JoinLeft gb v gs l w w' gs'):gs'.length=gs.length:=by simpa using congrArg List.length h.sizes
theorem kids_take {l:List Sym} {x k m:Nat} (h:k≤m):(Zbj l x m).take k=Zbj l x k:=by
  induction m generalizing x k with
  | zero =>
    have:k=0:=by omega
    subst this; rfl
  | succ m ih =>
    cases k with
    | zero=>rfl
    | succ k=>simp only [Zbj,List.take_succ_cons]; rw [ih (by omega)]
theorem Zsb (l:List Sym) (x k:Nat):Zbj l x (k+1)=Zbj l x k++[Zay l x k]:=by
  induction k generalizing x with
  | zero=>rfl
  | succ k ih =>
    have e:Zbj l x (k+1+1)=x::Zbj l (Zbq l x) (k+1):=rfl
    rw [e,ih]
    rfl
theorem Zmx {l:List Nat} {k n:Nat} (h:l[k]?=some n):l=l.take k++n::l.drop (k+1):=by
  obtain ⟨hk,e⟩:=List.getElem?_eq_some_iff.1 h
  have:=List.drop_eq_getElem_cons hk
  rw [e] at this
  rw [← this,List.take_append_drop]
theorem Zox {l:List Sym} {x k m:Nat} (h:k<m):Zbj l x m=Zbj l x k++Zay l x k::(Zbj l x m).drop (k+1):=by
  have h2:=Zcm l x m k h
  have:=Zmx h2
  rw [kids_take (by omega)] at this
  exact this
set_option maxRecDepth 10000 in
set_option maxHeartbeats 4000000 in
theorem Zua (m:Nat) (IH:Zqc m):Zow m:=by
  intro w gb v gs l ρ rk x y h hc hw hu hm hx hy hl
  obtain ⟨cx,hcx⟩:∃ c,gs[x]?=some c:=⟨_,List.getElem?_eq_getElem hx⟩
  obtain ⟨cy,hcy⟩:∃ c,gs[y]?=some c:=⟨_,List.getElem?_eq_getElem hy⟩
  obtain ⟨cb,cap,rfl,hcb,hcap,hne,hfz⟩:=h.shape (by omega)
  have b0:w.cell? ⟨gb,0,none⟩=some (.slice (some ⟨cb,0,none⟩) gs.length cap):=Zab h.box 0 _ rfl
  have hgb:=Zac h.box
  obtain ⟨x0,x1,x2,_,_,_⟩:=h.cell hcx
  obtain ⟨y0,y1,y2,_,_,_⟩:=h.cell hcy
  obtain ⟨sx,_⟩:=hc.all x cx hcx
  obtain ⟨sy,_⟩:=hc.all y cy hcy
  have hlen:=hc.len
  obtain ⟨ex1,ex2,ex3⟩:=Zhh hw (i:=x) (by omega)
  obtain ⟨ey1,ey2,ey3⟩:=Zhh hw (i:=y) (by omega)
  obtain ⟨_,_,_,_,_,hbx,_⟩:=Zfa hw (i:=x) (by omega)
  obtain ⟨_,_,_,_,_,hby,_⟩:=Zfa hw (i:=y) (by omega)
  have hkl:∀ k,k<(Zba l x).args→Zay l (x+1) k<gs.length:=fun k hk=>by
    have:=ex2 _ (List.mem_of_getElem? (Zcm l (x+1) _ k hk))
    omega
  have hkr:∀ k,k<(Zba l y).args→Zay l (y+1) k<gs.length:=fun k hk=>by
    have:=ey2 _ (List.mem_of_getElem? (Zcm l (y+1) _ k hk))
    omega
  have hargs:(Zba l x).args≤4000:=by
    have h1:=congrArg List.length ex1
    have h2:=Zdi l (x+1) (Zba l x).args
    rcases Nat.lt_or_ge 4000 (Zba l x).args with h3 | h3
    · exfalso
      have h4:=hkl 4000 h3
      have mono:∀ k,k≤(Zba l x).args→x+1+k≤Zay l (x+1) k:=by
        intro k
        induction k with
        | zero=>intro _; simp [Zay]
        | succ k ih =>
          intro hk
          have:=ih (by omega)
          rw [Zcp]
          have:=hkl k (by omega)
          obtain ⟨_,_,_,_,h6,_⟩:=Zfa hw (i:=Zay l (x+1) k) (by omega)
          omega
      have:=mono 4000 (by omega)
      omega
    · exact h3
  rw [sx] at x0 x1 x2
  rw [sy] at y0 y1 y2
  obtain ⟨s,hs⟩:∃ s,s=Zba l x:=⟨_,rfl⟩
  obtain ⟨t,ht⟩:∃ t,t=Zba l y:=⟨_,rfl⟩
  rw [← hs] at x0 x1 x2 hkl hargs
  rw [← ht] at y0 y1 y2 hkr
  have Hs:=Zaa hs
  have Ht:=Zaa ht
  have H:=Zaa h
  have Hc:=Zaa hc
  have Hw:=Zaa hw
  have Hu:=Zaa hu
  have Hm:=Zaa hm
  have Hih:=Zaa IH
  have Hkl:=Zaa hkl
  have Hkr:=Zaa hkr
  have Hkx:Hid (kidsAt l x=Zbj l (x+1) s.args):=by show _=_; rw [hs]; rfl
  have Hky:Hid (kidsAt l y=Zbj l (y+1) t.args):=by show _=_; rw [ht]; rfl
  have hxl:x<l.length:=by omega
  have hyl:y<l.length:=by omega
  clear h hc hw hu hm IH hkl hkr hcx hcy sx sy ex1 ex2 ex3 ey1 ey2 ey3 hbx hby hlen hs ht
  have Hno:Hid (∀ w',Kept Zbg w w'→(s.name≠t.name∨s.args≠t.args)→Zsa gb (.slice (some ⟨cb,0,none⟩) gs.length cap) gs l ρ x y w (.returned (.bool false)) w'):=fun w' hk hd=>by
    refine ⟨gs,⟨H.out.on (fun k hk'=>hk.block k hk' (fun h=>h)),Hc.out,rfl,hk.mono (fun _ _ h=>h.elim),Nat.le_refl _⟩,ρ,rk,Hu.out,Or.inr ⟨rfl,?_⟩⟩
    rw [← Hs.out,← Ht.out]
    rcases hd with hd | hd
    · exact Or.inl hd
    · exact Or.inr (Or.inl hd)
  by_cases hnm:s.name=t.name
  · by_cases har:s.args=t.args
    · have hnb:(s.name != t.name)=false:=by rw [hnm]; simp
      have hab:((s.args:Int) != (t.args:Int))=false:=by rw [har]; simp
      have Hnm:=Zaa hnm
      have Har:=Zaa har
      clear hnm har
      go_enter Tryz.func191,Tryz.ntmps191
      go_wp2
      go_loopg [9,10,11] (s.args+1) (fun gk av bv nv wr=>∃ (k:Nat) (gs':List GC) (ρ' rk':Nat→Nat),av = .int .i64 (Zay l (x+1) k:Nat)∧bv = .int .i64 (Zay l (y+1) k:Nat)∧nv = .int .i64 k∧k≤s.args∧s.args - k<gk∧JoinLeft gb (.slice (some ⟨cb,0,none⟩) gs.length cap) gs l w wr gs'∧UpOk (gs'.map GC.up) ρ' rk' ∧
        Joined (grOf l) ρ ρ' (Zbj l (x+1) k) (Zbj l (y+1) k)∧wr.heap[w.heap.size]?=some (.cells #[.string ⟨t.name.toArray⟩,.int .i64 s.num,.int .i64 s.args] 133 (0,0)))
      case atStart =>
        have hrt:=Hu.out.rt
        rw [List.length_map,Hc.out.len] at hrt
        refine ⟨0,gs,ρ,rk,by simp [Zay],by simp [Zay],by go_num,Nat.zero_le _,by omega,⟨H.out.ext (Ext.of (by repeat' (first | with_reducible exact Kept.refl _ _ | with_reducible apply Kept.drew | with_reducible apply Kept.drewN | with_reducible apply Kept.alloc | with_reducible refine Kept.setCell ?_ ?_ _ | exact fun h=>absurd h (by simp <;> omega)))),Hc.out,rfl,((Kept.refl _ w).alloc _).alloc _,Nat.le_refl _⟩,Hu.out,Joined.nil hrt,?_⟩
        have:=Zag (heap_alloc_new w (.cells #[.string ⟨t.name.toArray⟩,.int .i64 s.num,.int .i64 s.args] 133)) (.cells #[.string ⟨t.name.toArray⟩,.int .i64 t.num,.int .i64 t.args] 133)
        simpa using this
      case round =>
        obtain ⟨k,gs',ρ',rk',rfl,rfl,rfl,hk,hgk,hJ,hup,hj,hbox⟩:=hrel
        obtain ⟨s0,s1,s2,sf⟩:=box3 hbox
        have hsr:=hJ.kept.size
        have hl':=hJ.len
        have b0:wr.cell? ⟨gb,0,none⟩=some (.slice (some ⟨cb,0,none⟩) gs.length cap):=Zab hJ.at'.box 0 _ rfl
        have hgb':=Zac hJ.at'.box
        have hwb:=Zac hbox
        have HJ:=Zaa hJ
        have Hup:=Zaa hup
        have Hj:=Zaa hj
        have Hbox:=Zaa hbox
        clear hJ hup hj hbox
        by_cases hlt:k<s.args
        · have ha:=Hkl.out k hlt
          have hb:=Hkr.out k (by have:=Har.out; omega)
          obtain ⟨ak,hak⟩:∃ a,a=Zay l (x+1) k:=⟨_,rfl⟩
          obtain ⟨bk,hbk⟩:∃ b,b=Zay l (y+1) k:=⟨_,rfl⟩
          rw [← hak] at ha ⊢
          rw [← hbk] at hb ⊢
          have hna:¬ ((gs.length:Int)≤(ak:Int)):=by omega
          have hnb2:¬ ((gs.length:Int)≤(bk:Int)):=by omega
          have HI:=Zaa (Hih.out wr gb (.slice (some ⟨cb,0,none⟩) gs.length cap) gs' l ρ' rk' ak bk HJ.out.at' HJ.out.cells Hw.out Hup.out (Nat.le_trans HJ.out.roots Hm.out) (by omega) (by omega) (by omega))
          have Hak:=Zaa hak
          have Hbk:=Zaa hbk
          clear hak hbk
          go_wp2_with fail
          refine HI.out.mono ?_
          rintro e w1 ⟨gs2,hJ2,ρ2,rk2,hup2,hres⟩
          have hl2:=hJ2.len
          have hbox2:=(hJ2.kept.block _ hwb (fun e=>by
            have e:cb=w.heap.size:=by simpa [Zbd,Value.ownBlock] using e
            omega)).trans Hbox.out
          have b0:w1.cell? ⟨gb,0,none⟩=some (.slice (some ⟨cb,0,none⟩) gs.length cap):=Zab hJ2.at'.box 0 _ rfl
          have hgb2:=Zac hJ2.at'.box
          have hs2:=hJ2.kept.size
          obtain ⟨ca,hca⟩:∃ c,gs2[ak]?=some c:=⟨_,List.getElem?_eq_getElem (by omega)⟩
          obtain ⟨cb2,hcb2⟩:∃ c,gs2[bk]?=some c:=⟨_,List.getElem?_eq_getElem (by omega)⟩
          have hat2:GAt w1 gb (.slice (some ⟨cb,0,none⟩) gs2.length cap) gs2:=by rw [hl2,hl']; exact hJ2.at'
          obtain ⟨_,_,_,a3,_,_⟩:=hat2.cell hca
          obtain ⟨_,_,_,b3,_,_⟩:=hat2.cell hcb2
          rw [(hJ2.cells.all _ _ hca).2] at a3
          rw [(hJ2.cells.all _ _ hcb2).2] at b3
          have HJ2:=Zaa hJ2
          have Hup2:=Zaa hup2
          have Hbox2:=Zaa hbox2
          clear hJ2 hup2 hbox2 hat2 hca hcb2
          rcases hres with ⟨rfl,hj2⟩ | ⟨rfl,hcl⟩
          · have Hj2:=Zaa hj2
            clear hj2
            go_wp2
            go_roundg (s.args - k)
            case measure=>omega
            case rel =>
              refine ⟨k+1,gs2,ρ2,rk2,by rw [Zcp,← Hak.out],by rw [Zcp,← Hbk.out],by go_num,by omega,by omega,HJ.out.trans HJ2.out,Hup2.out,?_,Hbox2.out⟩
              rw [Zsb,Zsb,← Hak.out,← Hbk.out]
              have hG:=gr_ok Hw.out
              refine Joined.snoc hG Hj.out Hj2.out (fun j hj => ?_) (fun j hj => ?_)
              · obtain ⟨i,hi⟩:=List.mem_iff_getElem?.1 hj
                have hi2:=(List.getElem?_eq_some_iff.1 hi).1
                rw [Zdi] at hi2
                rw [Zcm l (x+1) k i hi2] at hi
                simp at hi
                subst hi
                have:=Hkl.out i (by omega)
                show _<l.length
                have:=Hc.out.len; omega
              · obtain ⟨i,hi⟩:=List.mem_iff_getElem?.1 hj
                have hi2:=(List.getElem?_eq_some_iff.1 hi).1
                rw [Zdi] at hi2
                rw [Zcm l (y+1) k i hi2] at hi
                simp at hi
                subst hi
                have:=Hkr.out i (by have:=Har.out; omega)
                show _<l.length
                have:=Hc.out.len; omega
          · have Hcl:=Zaa hcl
            clear hcl
            go_wp2
            go_ret
            refine ⟨gs2,HJ.out.trans HJ2.out,ρ2,rk2,Hup2.out,Or.inr ⟨rfl,Or.inr (Or.inr ?_)⟩⟩
            have hc1:=Hcl.out
            rw [Hak.out,Hbk.out] at hc1
            have:=Clash.snoc Hj.out hc1 ((Zbj l (x+1) s.args).drop (k+1)) ((Zbj l (y+1) t.args).drop (k+1))
            rw [← Zox hlt,← Zox (by have:=Har.out; omega)] at this
            rw [Hkx.out,Hky.out]; exact this
        · have hek:k=s.args:=by omega
          subst hek
          go_wp2
          go_ret
          refine ⟨gs',HJ.out,ρ',rk',Hup.out,Or.inl ⟨rfl,?_,?_,?_⟩⟩
          · rw [← Hs.out,← Ht.out]; exact Hnm.out
          · rw [← Hs.out,← Ht.out]; exact Har.out
          · rw [Hkx.out,Hky.out,← Har.out]; exact Hj.out
    · have hnb:(s.name != t.name)=false:=by rw [hnm]; simp
      have hab:((s.args:Int) != (t.args:Int))=true:=by rw [bne_iff_ne]; omega
      have Hd:=Zaa har
      clear hnm har
      go_enter Tryz.func191,Tryz.ntmps191
      go_wp2
      all_goals
        go_ret
        exact Hno.out _ (((Kept.refl _ w).alloc _).alloc _) (Or.inr Hd.out)
  · have hnb:(s.name == t.name)=false:=by simpa using hnm
    have Hd:=Zaa hnm
    clear hnm
    go_enter Tryz.func191,Tryz.ntmps191
    go_wp2
    all_goals
      go_ret
      exact Hno.out _ (((Kept.refl _ w).alloc _).alloc _) (Or.inl Hd.out)
set_option maxRecDepth 10000 in
set_option maxHeartbeats 4000000 in
theorem join_step (m:Nat) (IH:∀ k,k<m→Zow k):Zqc m:=by
  intro w gb v gs l ρ rk a b h hc hw hu hm ha hb hl
  have hrt:=hu.rt
  rw [List.length_map] at hrt
  have hx:=hrt.lt a ha
  have hy:=hrt.lt b hb
  have rx:=hrt.idem a ha
  have ry:=hrt.idem b hb
  obtain ⟨x,hxe⟩:∃ x,x=ρ a:=⟨_,rfl⟩
  obtain ⟨y,hye⟩:∃ y,y=ρ b:=⟨_,rfl⟩
  rw [← hxe] at hx rx
  rw [← hye] at hy ry
  obtain ⟨cx,hcx⟩:∃ c,gs[x]?=some c:=⟨_,List.getElem?_eq_getElem hx⟩
  obtain ⟨cy,hcy⟩:∃ c,gs[y]?=some c:=⟨_,List.getElem?_eq_getElem hy⟩
  obtain ⟨cb,cap,rfl,hcb,hcap,hne,hfz⟩:=h.shape (by omega)
  have b0:w.cell? ⟨gb,0,none⟩=some (.slice (some ⟨cb,0,none⟩) gs.length cap):=Zab h.box 0 _ rfl
  have hgb:=Zac h.box
  have x4:=(h.cell hcx).2.2.2.2.1
  have y4:=(h.cell hcy).2.2.2.2.1
  obtain ⟨sx,_⟩:=hc.all x cx hcx
  obtain ⟨sy,_⟩:=hc.all y cy hcy
  have hlen:=hc.len
  rw [hlen] at hrt
  have hG:=gr_ok hw
  have Hra:=Zaa (Zgk w gb _ gs ρ rk a h hu ha hl)
  have Hrb:=Zaa (Zgk w gb _ gs ρ rk b h hu hb hl)
  rw [← hxe] at Hra
  rw [← hye] at Hrb
  have HVx:=Zaa (Zja w gb _ gs x cx h hcx hl)
  have hax:a<(grOf l).n:=by show a<l.length; omega
  have hbx:b<(grOf l).n:=by show b<l.length; omega
  have hul:∀ x y,x<gs.length→y<gs.length→ρ x=x→ρ y=y→x≠y→UpOk ((Zhs gs x y).map GC.up) (mg ρ x y) (fun i=>if ρ i=x then rk i+rk y+1 else rk i):=fun x y h1 h2 h3 h4 h5=>by
    rw [Zvq]
    exact hu.turn (by simpa using h1) (by simpa using h2) h3 h4 h5
  have hro:∀ x y,x<gs.length→ρ x=x→x≠y→Zcx ((Zhs gs x y).map GC.up)<Zcx (gs.map GC.up):=fun x y h1 h3 h5=>by
    rw [Zvq]
    obtain ⟨c',e1,e2,_⟩:=hu.root _ x _ (Nat.le_refl _) (List.getElem?_eq_getElem (by simpa using h1))
    rw [h3] at e1 e2
    exact Zgj e1 e2 h5
  have hla:∀ (x y:Nat) c,gs[x]?=some c→GAt (w.setCell ⟨cb,x * 6+4,none⟩ (.int .i64 y)) gb (.slice (some ⟨cb,0,none⟩) gs.length cap) (Zhs gs x y):=fun x y c h1=>h.put h1 (f:=fun c => { c with leader:=y }) (by omega) rfl
  have hsz:∀ x y,(Zhs gs x y).map (·.size)=gs.map (·.size):=fun x y=>by
    apply List.ext_getElem?
    intro i
    rw [List.getElem?_map,List.getElem?_map,Zhs,List.getElem?_modify]
    cases gs[i]? with
    | none=>rfl
    | some c=>simp; split <;> rfl
  have hkp:∀ i u,Kept (Zbd (.slice (some ⟨cb,0,none⟩) gs.length cap)) w (w.setCell ⟨cb,i,none⟩ u):=fun i u=>(Kept.refl _ w).setCell (p:=⟨cb,i,none⟩) (fun _=>(rfl:some cb=some cb)) u
  have H:=Zaa h
  have Hc:=Zaa hc
  have Hw:=Zaa hw
  have Hu:=Zaa hu
  have Hm:=Zaa hm
  have Hrt:=Zaa hrt
  have HG:=Zaa hG
  have Hih:=Zaa IH
  have Hxe:=Zaa hxe
  have Hye:=Zaa hye
  have Hrx:=Zaa rx
  have Hry:=Zaa ry
  have Hcx:=Zaa hcx
  have Hcy:=Zaa hcy
  have Hul:=Zaa hul
  have Hro:=Zaa hro
  have Hla:=Zaa hla
  have Hsz:=Zaa hsz
  have Hkp:=Zaa hkp
  have Hsx:=Zaa sx
  have Hsy:=Zaa sy
  clear h hc hw hu hm hrt hG IH hxe hye rx ry hcx hcy hul hro hla hsz hkp sx sy
  by_cases hxy:x=y
  · have hxy':((x:Int) == (y:Int))=true:=by rw [beq_iff_eq]; omega
    have Hxy:=Zaa hxy
    clear hxy
    go_enter Tryz.func158,Tryz.ntmps158
    go_wp2_with fail
    refine Hra.out.mono ?_
    rintro e w1 ⟨rfl,rfl⟩
    go_wp2_with fail
    refine Hrb.out.mono ?_
    rintro e w1 ⟨rfl,rfl⟩
    go_wp2
    go_ret
    exact ⟨gs,⟨H.out,Hc.out,rfl,Kept.refl _ _,Nat.le_refl _⟩,ρ,rk,Hu.out,Or.inl ⟨rfl,Joined.same Hrt.out (Hxe.out.symm.trans (Hxy.out.trans Hye.out))⟩⟩
  · have hxy':((x:Int) == (y:Int))=false:=by rw [beq_eq_false_iff_ne]; omega
    have Hxy:=Zaa hxy
    clear hxy
    by_cases hvx:cx.sym.name=[]
    · have hv:cx.sym.name.isEmpty=true:=by simpa using hvx
      rw [hv] at HVx
      go_enter Tryz.func158,Tryz.ntmps158
      go_wp2_with fail
      refine Hra.out.mono ?_
      rintro e w1 ⟨rfl,rfl⟩
      go_wp2_with fail
      refine Hrb.out.mono ?_
      rintro e w1 ⟨rfl,rfl⟩
      go_wp2_with fail
      refine HVx.out.mono ?_
      rintro e w1 ⟨rfl,rfl⟩
      go_wp2
      go_ret
      exact ⟨Zhs gs x y,⟨Hla.out x y cx Hcx.out,Hc.out.lead _ _,Hsz.out _ _,Hkp.out _ _,Nat.le_of_lt (Hro.out x y hx Hrx.out Hxy.out)⟩,_,_,Hul.out x y hx hy Hrx.out Hry.out Hxy.out,
        Or.inl ⟨rfl,Joined.var Hrt.out hax hbx (Or.inl ⟨Hxe.out,Hye.out⟩) Hxy.out (by show (Zba l x).name=[]; rw [← Hsx.out]; exact hvx)⟩⟩
    · have hv:cx.sym.name.isEmpty=false:=by simpa using hvx
      rw [hv] at HVx
      obtain ⟨W1,hW1⟩:∃ W,W=w.setCell ⟨cb,y * 6+4,none⟩ (.int .i64 x):=⟨_,rfl⟩
      have hA1:=Hla.out y x cy Hcy.out
      rw [← hW1] at hA1
      have hyx:y≠x:=fun e=>Hxy.out e.symm
      have hcy1:(Zhs gs y x)[y]?=some { cy with leader:=x }:=by
        rw [Zhs,List.getElem?_modify,Hcy.out]; simp
      have HVy:=Zaa (Zja W1 gb _ (Zhs gs y x) y _ hA1 hcy1 (by rw [Zid]; exact hl))
      have HK1:Hid (Kept (Zbd (.slice (some ⟨cb,0,none⟩) gs.length cap)) w W1):=by rw [hW1]; exact Hkp.out _ _
      have HA1:=Zaa hA1
      have HW1:=Zaa hW1
      clear hA1 hW1 hcy1
      by_cases hvy:cy.sym.name=[]
      · have hv2:cy.sym.name.isEmpty=true:=by simpa using hvy
        rw [hv2] at HVy
        go_enter Tryz.func158,Tryz.ntmps158
        go_wp2_with fail
        refine Hra.out.mono ?_
        rintro e w1 ⟨rfl,rfl⟩
        go_wp2_with fail
        refine Hrb.out.mono ?_
        rintro e w1 ⟨rfl,rfl⟩
        go_wp2_with fail
        refine HVx.out.mono ?_
        rintro e w1 ⟨rfl,rfl⟩
        go_wp2_with fail
        rw [← HW1.out]
        refine HVy.out.mono ?_
        rintro e w2 ⟨rfl,rfl⟩
        go_wp2
        go_ret
        exact ⟨Zhs gs y x,⟨HA1.out,Hc.out.lead _ _,Hsz.out _ _,HK1.out,Nat.le_of_lt (Hro.out y x hy Hry.out hyx)⟩,_,_,Hul.out y x hy hx Hry.out Hrx.out hyx,
          Or.inl ⟨rfl,Joined.var Hrt.out hax hbx (Or.inr ⟨Hye.out,Hxe.out⟩) hyx (by show (Zba l y).name=[]; rw [← Hsy.out]; exact hvy)⟩⟩
      · have hv2:cy.sym.name.isEmpty=false:=by simpa using hvy
        rw [hv2] at HVy
        have hro1:=Hro.out y x hy Hry.out hyx
        have HI:=Zaa (Hih.out (Zcx ((Zhs gs y x).map GC.up)) (by have:=Hm.out; omega) W1 gb (.slice (some ⟨cb,0,none⟩) gs.length cap) (Zhs gs y x) l (mg ρ y x) _ x y HA1.out (Hc.out.lead _ _) Hw.out (Hul.out y x hy hx Hry.out Hrx.out hyx) (Nat.le_refl _) (by rw [Zid]; exact hx) (by rw [Zid]; exact hy) (by rw [Zid]; exact hl))
        have Hnx:Hid ((Zba l x).name≠[]):=by show _≠_; rw [← Hsx.out]; exact hvx
        have Hny:Hid ((Zba l y).name≠[]):=by show _≠_; rw [← Hsy.out]; exact hvy
        have Hrl:=Zaa hro1
        clear hvx hvy hro1
        go_enter Tryz.func158,Tryz.ntmps158
        go_wp2_with fail
        refine Hra.out.mono ?_
        rintro e w1 ⟨rfl,rfl⟩
        go_wp2_with fail
        refine Hrb.out.mono ?_
        rintro e w1 ⟨rfl,rfl⟩
        go_wp2_with fail
        refine HVx.out.mono ?_
        rintro e w1 ⟨rfl,rfl⟩
        go_wp2_with fail
        rw [← HW1.out]
        refine HVy.out.mono ?_
        rintro e w2 ⟨rfl,rfl⟩
        go_wp2_with fail
        refine HI.out.mono ?_
        rintro e w2 ⟨gs2,hJ2,ρ2,rk2,hup2,hres⟩
        have Hout:Hid (JoinLeft gb (.slice (some ⟨cb,0,none⟩) gs.length cap) gs l w1 w2 gs2):=⟨hJ2.at',hJ2.cells,hJ2.sizes.trans (Hsz.out _ _),HK1.out.trans hJ2.kept,Nat.le_trans hJ2.roots (Nat.le_of_lt Hrl.out)⟩
        have Hup2:=Zaa hup2
        clear hJ2 hup2
        rcases hres with ⟨rfl,h1,h2,h3⟩ | ⟨rfl,h1⟩
        · have Hj:Hid (Joined (grOf l) ρ ρ2 [a] [b]):=Joined.name HG.out Hrt.out hax hbx (Or.inr ⟨Hye.out,Hxe.out⟩) hyx Hny.out h1.symm h3.swap
          clear h1 h2 h3
          go_wp2
          go_ret
          exact ⟨gs2,Hout.out,ρ2,rk2,Hup2.out,Or.inl ⟨rfl,Hj.out⟩⟩
        · have Hcl:Hid (Clash (grOf l) ρ [a] [b]):=by
            by_cases hn:(Zba l x).name=(Zba l y).name
            · rcases h1 with h1 | h1 | h1
              · exact absurd hn h1
              · exact Zje HG.out Hrt.out hax hbx (Or.inr ⟨Hye.out,Hxe.out⟩) Hny.out Hnx.out (Or.inr (fun e=>h1 e.symm))
              · exact Zok HG.out Hrt.out hax hbx (Or.inr ⟨Hye.out,Hxe.out⟩) Hny.out hn.symm h1.swap
            · exact Zje HG.out Hrt.out hax hbx (Or.inr ⟨Hye.out,Hxe.out⟩) Hny.out Hnx.out (Or.inl (fun e=>hn e.symm))
          clear h1
          go_wp2
          go_ret
          exact ⟨gs2,Hout.out,ρ2,rk2,Hup2.out,Or.inr ⟨rfl,Hcl.out⟩⟩
theorem join_any (m:Nat):Zqc m:=by
  induction m using Nat.strongRecOn with
  | _ m ih=>exact join_step m (fun k hk=>Zua k (ih k hk))
def Zge (l:List Sym) (gs:List GC) (p:Nat):List GC:=gs.mapIdx (fun i c=>if p≤i then { c with behind:=Zbq l i } else c)
theorem Zgl (l:List Sym) (gs:List GC) (p i:Nat):(Zge l gs p)[i]?=(gs[i]?).map (fun c=>if p≤i then { c with behind:=Zbq l i } else c):=by
 unfold Zge; rw [List.getElem?_mapIdx]
theorem Zgf (l:List Sym) (gs:List GC) (p:Nat):(Zge l gs p).length=gs.length:=by simp [Zge]
theorem Zxw {l:List Sym} {gs:List GC} {p:Nat}:(Zge l gs (p+1)).modify p (fun c => { c with behind:=Zbq l p })=Zge l gs p:=by
 apply List.ext_getElem?
 intro i
 rw [List.getElem?_modify,Zgl,Zgl]
 cases gs[i]? with
 | none=>rfl
 | some c =>
  simp
  by_cases e:p=i
  ·subst e
   have h1:¬ p+1≤p:=by omega
   simp [h1]
  ·rw [if_neg e]
   by_cases h:p+1≤i
   ·rw [if_pos h,if_pos (by omega)]
   ·rw [if_neg h,if_neg (by omega)]
theorem markG_end (l:List Sym) (gs:List GC) (p:Nat) (h:gs.length≤p):Zge l gs p=gs:=by
 apply List.ext_getElem?
 intro i
 rw [Zgl]
 cases hc:gs[i]? with
 | none=>rfl
 | some c =>
  have:=(List.getElem?_eq_some_iff.1 hc).1
  simp
  omega
set_option maxRecDepth 10000 in
set_option maxHeartbeats 4000000 in
theorem Zsc (w:World) (gb:Nat) (v:Value) (gs:List GC) (l:List Sym) (h:GAt w gb v gs) (hlen:gs.length=l.length) (hs:∀ i c,gs[i]?=some c→c.sym=Zba l i) (hw:Wf 2 l) (hl:gs.length≤4000) :
  Calls Tryz.prog 188 #[.pointer (some ⟨gb,0,none⟩)] w fun e w'=>e = .returned (.tuple #[])∧GAt w' gb v (Zge l gs 0)∧Kept (Zbd v) w w':=by
 have hpos:0<gs.length:=by have:=Zcw hw; omega
 obtain ⟨cb,cap,rfl,hcb,hcap,hne,hfz⟩:=h.shape hpos
 have b0:w.cell? ⟨gb,0,none⟩=some (.slice (some ⟨cb,0,none⟩) gs.length cap):=Zab h.box 0 _ rfl
 have hgb:=Zac h.box
 have H:=Zaa h
 have Hs:=Zaa hs
 have Hw:=Zaa hw
 have Hlen:=Zaa hlen
 clear h hs hw hlen
 go_enter Tryz.func188,Tryz.ntmps188
 go_wp2
 go_loopg [2] (gs.length+1) (fun gk iv wr=>∃ (p:Nat),iv = .int .i64 ((p:Int) - 1)∧p≤gs.length∧p<gk∧GAt wr gb (.slice (some ⟨cb,0,none⟩) gs.length cap) (Zge l gs p)∧Kept (Zbd (.slice (some ⟨cb,0,none⟩) gs.length cap)) w wr)
 case atStart=>exact ⟨gs.length,rfl,Nat.le_refl _,by omega,by rw [markG_end _ _ _ (Nat.le_refl _)]; exact H.out,Kept.refl _ _⟩
 case round =>
  obtain ⟨p,rfl,hp,hgk,hG,hkp⟩:=hrel
  have hsr:=hkp.size
  have b0:wr.cell? ⟨gb,0,none⟩=some (.slice (some ⟨cb,0,none⟩) gs.length cap):=Zab hG.box 0 _ rfl
  have hgb':=Zac hG.box
  have hcb':cb<wr.heap.size:=by omega
  have hfz':∀ j,wr.frozen? ⟨cb,j,none⟩=false:=by
   obtain ⟨cb',cap',e,_,_,_,hf⟩:=hG.shape (by rw [Zgf]; exact hpos)
   simp at e
   obtain ⟨rfl,_⟩:=e
   exact hf
  have HG:=Zaa hG
  have Hkp:=Zaa hkp
  clear hG hkp
  cases p with
  | zero =>
   have hneg:¬ ((0:Int)≤((0:Nat):Int) - 1):=by omega
   go_wp2
   go_end0
   exact ⟨rfl,HG.out,Hkp.out⟩
  | succ p =>
   have hpi:(((p+1:Nat):Int) - 1)=(p:Int):=by omega
   have hpos':(0:Int)≤(p:Int):=by omega
   have hpl:p<gs.length:=by omega
   obtain ⟨c,hc⟩:∃ c,gs[p]?=some c:=⟨_,List.getElem?_eq_getElem hpl⟩
   have hcm:(Zge l gs (p+1))[p]?=some c:=by rw [Zgl,hc]; simp; intro h; omega
   have hG':GAt wr gb (.slice (some ⟨cb,0,none⟩) (Zge l gs (p+1)).length cap) (Zge l gs (p+1)):=by rw [Zgf]; exact HG.out
   obtain ⟨_,_,c2,c3,_,_⟩:=hG'.cell hcm
   have hsy:=Hs.out p c hc
   have hlen:=Hlen.out
   obtain ⟨ex1,ex2,ex3⟩:=Zhh Hw.out (i:=p) (by omega)
   obtain ⟨_,_,_,_,_,hbx,_⟩:=Zfa Hw.out (i:=p) (by omega)
   rw [← hsy] at ex1 ex2 ex3
   have hkl:∀ k,k<c.sym.args→p<Zay l (p+1) k∧Zay l (p+1) k<gs.length:=fun k hk=>by
    have:=ex2 _ (List.mem_of_getElem? (Zcm l (p+1) _ k hk))
    omega
   have hargs:c.sym.args≤4000:=by
    rcases Nat.lt_or_ge 4000 c.sym.args with h3 | h3
    ·exfalso
     have mono:∀ k,k≤c.sym.args→p+1+k≤Zay l (p+1) k:=by
      intro k
      induction k with
      | zero=>intro _; simp [Zay]
      | succ k ih =>
       intro hk
       have:=ih (by omega)
       rw [Zcp]
       have:=hkl k (by omega)
       obtain ⟨_,_,_,_,h6,_⟩:=Zfa Hw.out (i:=Zay l (p+1) k) (by omega)
       omega
     have:=mono 4000 (by omega)
     have:=hkl 4000 h3
     omega
    ·exact h3
   have Hkl:=Zaa hkl
   have Hex3:=Zaa ex3
   have Hcm:=Zaa hcm
   have Hg':=Zaa hG'
   have Hbx:=Zaa hbx
   clear hkl ex1 ex2 ex3 hcm hG' hbx hsy hc hlen
   obtain ⟨wo,hwo⟩:∃ x,x=wr:=⟨_,rfl⟩
   subst hwo
   rw [hpi]
   go_wp2
   go_loopg [3,4] (c.sym.args+1) (fun gk ev nv wr=>∃ (k:Nat),ev = .int .i64 (Zay l (p+1) k:Nat)∧nv = .int .i64 k∧k≤c.sym.args∧c.sym.args - k<gk∧wr=wo)
   case atStart=>exact ⟨0,by simp [Zay],by go_num,Nat.zero_le _,by omega,rfl⟩
   case round =>
    obtain ⟨k,rfl,rfl,hk,hgk2,rfl⟩:=hrel
    by_cases hlt:k<c.sym.args
    ·obtain ⟨h1,h2⟩:=Hkl.out k hlt
     obtain ⟨q,hq⟩:∃ q,q=Zay l (p+1) k:=⟨_,rfl⟩
     rw [← hq] at h1 h2 ⊢
     obtain ⟨cq,hcq⟩:∃ c,(Zge l gs (p+1))[q]?=some c:=⟨_,List.getElem?_eq_getElem (by rw [Zgf]; exact h2)⟩
     obtain ⟨_,_,_,q3,_,_⟩:=Hg'.out.cell hcq
     have hbq:cq.behind=Zbq l q:=by
      rw [Zgl] at hcq
      cases hd:gs[q]? with
      | none=>rw [hd] at hcq; simp at hcq
      | some d =>
       rw [hd] at hcq
       simp at hcq
       rw [if_pos (by omega)] at hcq
       rw [← hcq]
     rw [hbq] at q3
     have Hq:=Zaa hq
     clear hcq hbq hq
     go_wp2
     go_roundg (c.sym.args - k)
     case measure=>omega
     case rel=>exact ⟨k+1,by rw [Zcp,← Hq.out],by go_num,by omega,by omega,rfl⟩
    ·have hek:k=c.sym.args:=by omega
     subst hek
     obtain ⟨q,hq⟩:∃ q,q=Zay l (p+1) c.sym.args:=⟨_,rfl⟩
     rw [← hq]
     have Hq:=Zaa hq
     clear hq
     go_wp2
     go_roundg (p+1)
     case measure=>omega
     case rel =>
      refine ⟨p,by rfl,by omega,by omega,?_,Hkp.out.trans ((Kept.refl _ wr).setCell (p:=⟨cb,p * 6+3,none⟩) (fun _=>(rfl:some cb=some cb)) _)⟩
      have:=Hg'.out.put Hcm.out (f:=fun c => { c with behind:=Zbq l p }) (j:=3) (u := .int .i64 (Zbq l p:Nat)) (by omega) rfl
      rw [Zxw,Zgf] at this
      rw [Hq.out,Hex3.out]
      exact this
theorem Zmy {a0:Act} {vc:Value} {β:Nat→Nat} {lst:Nat→Bool}:∀ {ops:List Oper} {kd:List Kd} {k:Nat},(pa a0 vc β lst k ops kd).tmps.size=a0.tmps.size:=by
 intro ops
 induction ops with
 | nil=>intro kd k; simp [pa]
 | cons o os ih =>
  intro kd k
  cases kd with
  | nil=>simp [pa]
  | cons q qs =>
   rw [pa]
   split
   ·cases o.dst <;> simp [Act.put,ih]
   ·exact ih
theorem pa_at {a0:Act} {vc:Value} {β:Nat→Nat} {lst:Nat→Bool}:∀ {ops:List Oper} {kd:List Kd} {k i:Nat} {o:Oper} {q:Kd} {d:Nat},ops[i]?=some o→kd[i]?=some q→lst (k+i)=true→o.dst=some d →
  (∀ j p,ops[j]?=some p→p.dst=some d→j=i)→d<a0.tmps.size→(pa a0 vc β lst k ops kd).tmps[d]?=some (q.val vc β (k+i)):=by
 intro ops
 induction ops with
 | nil=>intro kd k i o q d h; simp at h
 | cons p os ih =>
  intro kd k i o q d ho hq hl hd hu hs
  cases kd with
  | nil=>simp at hq
  | cons r qs =>
   cases i with
   | zero =>
    simp at ho hq
    subst ho hq
    simp only [Nat.add_zero] at hl ⊢
    rw [pa,if_pos hl,hd]
    simp only [Act.put]
    rw [Array.getElem?_setIfInBounds_self_of_lt (by rw [Zmy]; exact hs)]
   | succ i =>
    have e:k+(i+1)=k+1+i:=by omega
    have ih':=ih (kd:=qs) (k:=k+1) (i:=i) (by simpa using ho) (by simpa using hq) (by rw [← e]; exact hl) hd (fun j p' hp hd'=>by
     have:=hu (j+1) p' (by simpa using hp) hd'
     omega) hs
    rw [e,pa]
    have hne:p.dst≠some d:=fun hd'=>by have:=hu 0 p rfl hd'; omega
    split
    ·cases hpd:p.dst with
     | none=>simpa [Act.put] using ih'
     | some d' =>
      have:d'≠d:=fun e'=>hne (by rw [hpd,e'])
      simp only [Act.put]
      rw [Array.getElem?_setIfInBounds_ne (by exact this)]
      exact ih'
    ·exact ih'
def Zkh (T:Nat) (ops:List Oper) (kd:List Kd) (ic fi:Nat):Bool :=
 ops.length == kd.length &&
 (List.range ops.length).all fun i=>match ops[i]?,kd[i]? with
  | some o,some q =>
   (match o.guard with
    | none=>true
    | some (j,b)=>Zbv o j && (match kd[j]?,ops[j]? with
     | some (.pur (.bool c)),some p=>c == b && (match p.dst with | some d=>decide (d<T) | none=>false)
     | _,_=>false)) && (match o.op with | .select .. => false | _=>true) &&
   (o.after.all fun e => !Region.binds .any e || e.on<i) &&
   ((List.range ops.length).all fun j=>match ops[j]? with
    | some p=>match p.dst with
     | some d=>((j == i) || (o.dst != some d)) && (!(o.looksAt ops.toArray).contains d || Zbv o j)
     | none=>true
    | none=>true) &&
   (match q with
    | .pur _=>(List.range ops.length).any fun j=>i<j && (match ops[j]?,kd[j]? with | some p,some r=>Zbv p i && Zns r | _,_=>false)
    | .cal=>i == ic
    | .post _=>(List.range i).any fun j=>Zbv o j && (match kd[j]? with | some r=>Zcj r | none=>false)
    | .alo .. => false
    | .sto _=>i == fi && o.dst.isNone && ((List.range i).any fun j=>Zbv o j && (match kd[j]? with | some r=>Zcj r | none=>false)))
  | _,_=>false
structure LastAtG (T:Nat) (ops:List Oper) (kd:List Kd) (ic fi i:Nat) (o:Oper) (q:Kd):Prop where
 gd:o.guard=none∨∃ j b p d,o.guard=some (j,b)∧Zbv o j=true∧kd[j]?=some (.pur (.bool b))∧ops[j]?=some p∧p.dst=some d∧d<T
 sel:∀ cs b,o.op ≠ .select cs b
 low:∀ e ∈ o.after,Region.binds .any e=true→e.on<i
 dst:∀ j p d,ops[j]?=some p→p.dst=some d→j=i∨o.dst≠some d
 look:∀ j p d,ops[j]?=some p→p.dst=some d→d ∈ o.looksAt ops.toArray→Zbv o j=true
 pur:∀ c,q = .pur c→∃ j p r,i<j∧ops[j]?=some p∧kd[j]?=some r∧Zbv p i=true∧Zns r=true
 cal:q = .cal→i=ic
 post:Zca q=true→∃ j r,Zbv o j=true∧kd[j]?=some r∧Zcj r=true
 alo:∀ t z s cs,q ≠ .alo t z s cs
 sto:∀ k,q = .sto k→i=fi∧o.dst=none
theorem Zqd {T:Nat} {ops:List Oper} {kd:List Kd} {ic fi:Nat} (h:Zkh T ops kd ic fi=true) {i:Nat} {o:Oper} (ho:ops[i]?=some o):∃ q,kd[i]?=some q∧LastAtG T ops kd ic fi i o q:=by
 unfold Zkh at h
 simp only [Bool.and_eq_true,List.all_eq_true,List.mem_range,beq_iff_eq] at h
 obtain ⟨hl,h⟩:=h
 have hi:=(List.getElem?_eq_some_iff.1 ho).1
 have h:=h i hi
 rw [ho] at h
 cases hq:kd[i]? with
 | none=>rw [hq] at h; simp at h
 | some q =>
  rw [hq] at h
  simp only [Bool.and_eq_true,List.all_eq_true,List.mem_range] at h
  obtain ⟨⟨⟨⟨h1,h2⟩,h3⟩,h4⟩,h5⟩:=h
  have hpost:∀ (b:Bool),((List.range i).any fun j=>Zbv o j && (match kd[j]? with | some r=>Zcj r | none=>false))=true→∃ j r,Zbv o j=true∧kd[j]?=some r∧Zcj r=true:=by
   intro _ h
   simp only [List.any_eq_true,List.mem_range,Bool.and_eq_true] at h
   obtain ⟨j,_,h6,h7⟩:=h
   cases hr:kd[j]? with
   | none=>rw [hr] at h7; simp at h7
   | some r=>rw [hr] at h7; exact ⟨j,r,h6,hr,h7⟩
  refine ⟨q,rfl,?_,?_,?_,?_,?_,?_,?_,?_,?_,?_⟩
  ·cases hgd:o.guard with
   | none=>exact Or.inl rfl
   | some jb =>
    obtain ⟨j,b⟩:=jb
    rw [hgd] at h1
    simp only [Bool.and_eq_true] at h1
    obtain ⟨h6,h7⟩:=h1
    cases hk:kd[j]? with
    | none=>rw [hk] at h7; simp at h7
    | some r =>
     cases hp:ops[j]? with
     | none=>rw [hk,hp] at h7; cases r <;> simp at h7
     | some p =>
      rw [hk,hp] at h7
      cases r with
      | pur c =>
       cases c with
       | bool c =>
        simp only [Bool.and_eq_true,beq_iff_eq] at h7
        obtain ⟨h8,h9⟩:=h7
        cases hd:p.dst with
        | none=>rw [hd] at h9; simp at h9
        | some d =>
         rw [hd] at h9
         subst h8
         exact Or.inr ⟨j,c,p,d,rfl,h6,hk,hp,hd,by simpa using h9⟩
       | _=>simp at h7
      | _=>simp at h7
  ·intro cs b e; rw [e] at h2; simp at h2
  ·intro e he hb
   have:=Array.all_eq_true_iff_forall_mem.1 h3 e he
   simpa [hb] using this
  ·intro j p d hp hd
   have:=h4 j (List.getElem?_eq_some_iff.1 hp).1
   rw [hp] at this
   simp only [hd,Bool.and_eq_true,Bool.or_eq_true,beq_iff_eq,bne_iff_ne] at this
   exact this.1
  ·intro j p d hp hd hm
   have:=h4 j (List.getElem?_eq_some_iff.1 hp).1
   rw [hp] at this
   simp only [hd,Bool.and_eq_true,Bool.or_eq_true,beq_iff_eq,bne_iff_ne] at this
   rcases this.2 with h | h
   ·simp [hm] at h
   ·exact h
  ·intro c e
   subst e
   simp only [List.any_eq_true,List.mem_range,Bool.and_eq_true] at h5
   obtain ⟨j,hj,h6,h7⟩:=h5
   have hp:ops[j]?=some ops[j]:=List.getElem?_eq_getElem hj
   cases hr:kd[j]? with
   | none=>rw [hp,hr] at h7; simp at h7
   | some r =>
    rw [hp,hr] at h7
    simp only [Bool.and_eq_true] at h7
    exact ⟨j,_,r,by simpa using h6,hp,hr,h7.1,h7.2⟩
  ·intro e; subst e; simpa using h5
  ·intro hp
   cases q with
   | post g=>exact hpost true h5
   | sto k =>
    simp only [Bool.and_eq_true] at h5
    exact hpost true h5.2
   | _=>simp [Zca] at hp
  ·intro t z s cs e; subst e; simp at h5
  ·intro k e
   subst e
   simp only [Bool.and_eq_true,beq_iff_eq] at h5
   exact ⟨h5.1.1,by simpa using h5.1.2⟩
theorem Zsd {P:Program} {ops:List Oper} {id:Nat} {Q:Exit→Act→World→Prop} {a0:Act} {w:World} (hm:P.follows .mixedOrders=true) (kd:List Kd) (ic fi:Nat) (hfit:Zkh a0.tmps.size ops kd ic fi=true)
  (R R':Value→World→Prop) (f:FuncId) (args:Array Value)
  (hC:Calls P f args w.drew (fun e u'=>∃ v,e = .returned v∧R v u'))
  (hob:AllObL P w.drew (fun vc=>paAll a0 ops kd vc noB) R R' f args ops kd)
  (hcal:kd[ic]?=some .cal) (hil:ic<ops.length) (hfi:(∃ k,kd[fi]?=some (.sto k))∨(ops.length≤fi∧∀ v u,R v u→R' v u))
  (hQ:∀ vc u,R' vc u→Q .normal (paAll a0 ops kd vc noB) u) :
  (Code.region id ops.toArray true).wp P Q a0 w:=by
 have hlen:ops.length=kd.length:=by
  unfold Zkh at hfit
  simp only [Bool.and_eq_true,beq_iff_eq] at hfit
  exact hfit.1
 have hkat:∀ {i':Nat} {q':Kd},kd[i']?=some q'→∃ o',ops[i']?=some o'∧LastAtG a0.tmps.size ops kd ic fi i' o' q':=fun {i' q'} h1=>by
  have ho:=List.getElem?_eq_getElem (l:=ops) (i:=i') (by have:=(List.getElem?_eq_some_iff.1 h1).1; omega)
  obtain ⟨q2,hq2,hF2⟩:=Zqd hfit ho
  rw [h1] at hq2; simp at hq2; subst hq2
  exact ⟨_,ho,hF2⟩
 refine wp_region_any hm (Zgx (J:=LastPlan ops kd ic fi a0 w.drew R R') ?_ ?_ _ _ _ _ ?_ ?_)
 ·intro L a u i hr hJ
  obtain ⟨hsz,hcl,vc,rfl,hw0,hcR,hpost⟩:=hJ
  obtain ⟨h0,o,ho',_⟩:=mem_ready.1 hr
  have ho:ops[i]?=some o:=by simpa using ho'
  have hi:i<ops.length:=(List.getElem?_eq_some_iff.1 ho).1
  have hil:i<L.size:=by omega
  have hun:L.getD i false=false:=by simp [hil] at h0 ⊢; exact h0
  obtain ⟨q,hq,hF⟩:=Zqd hfit ho
  have hOb:=hob.at ho hq
  have hexec:execOp (pa a0 vc noB (fun j=>L.getD j false) 0 ops kd).eval o=execOp (paAll a0 ops kd vc noB).eval o:=by
   refine execOp_congr o hF.sel (fun x hx=>Zmv (fun j p hp hl d hd e => ?_))
   subst e
   have hw:=hF.look j p d hp hd (List.mem_append_left _ (List.mem_filterMap.2 ⟨.tmp d,by simpa using hx,rfl⟩))
   have:=Zbf hr ho hw
   simp only [Nat.zero_add] at hl
   rw [hl] at this
   simp at this
  have hwant:Region.wanted o (yielded ops.toArray (pa a0 vc noB (fun j=>L.getD j false) 0 ops kd).tmps)=true:=by
   rcases hF.gd with hg | ⟨j,b,p,d,hg,h1,h2,h3,h4,h5⟩
   ·simp [Region.wanted,hg]
   ·obtain ⟨o',ho',hF'⟩:=hkat h2
    rw [h3] at ho'
    simp only [Option.some.injEq] at ho'
    subst ho'
    have ht:=pa_at (a0:=a0) (vc:=vc) (β:=noB) (lst:=fun j=>L.getD j false) (k:=0) h3 h2 (by simpa using Zbf hr ho h1) h4 (fun j' p' h6 h7=>by
     rcases hF'.dst j' p' d h6 h7 with h | h
     ·exact h
     ·exact absurd h4 h) h5
    have hy:yielded ops.toArray (pa a0 vc noB (fun j=>L.getD j false) 0 ops kd).tmps j=some b:=by
     unfold yielded
     simp only [List.getElem?_toArray,h3,Option.bind_some,h4,ht,Kd.val]
    unfold Region.wanted
    rw [hg]
    simp only
    rw [hy]
    simp
  have hL:=Zez hil
  have hput:∀ vc',(∀ j r,kd[j]?=some r→L.getD j false=true→r.val vc noB j=r.val vc' noB j) →
    (pa a0 vc noB (fun j=>L.getD j false) 0 ops kd).put o.dst (q.val vc' noB i)=pa a0 vc' noB (fun j=>(L.setIfInBounds i true).getD j false) 0 ops kd:=by
   intro vc' hv
   have e1:pa a0 vc noB (fun j=>L.getD j false) 0 ops kd=pa a0 vc' noB (fun j=>L.getD j false) 0 ops kd:=Zdb (fun j r hr'=>by
    simp only [Nat.zero_add]
    exact ⟨trivial,fun hl=>hv j r hr' hl⟩)
   rw [e1]
   have e2:=Zor (a0:=a0) (vc:=vc') (β:=noB) (lst:=fun j=>L.getD j false) (k:=0) ho hq (by simpa using hun) hF.dst
   simp only [Nat.zero_add] at e2
   rw [← e2]
   exact Zdb (fun j r hr'=>⟨by simp only [Nat.zero_add,hL],fun _=>rfl⟩)
  have hold:∀ j,L.getD j false=true→(L.setIfInBounds i true).getD j false=true:=fun j h=>by rw [hL,h]; rfl
  have hnew:∀ j,j≠i→(L.setIfInBounds i true).getD j false=L.getD j false:=fun j h=>by
   rw [hL]
   have:(j == i)=false:=by rw [beq_eq_false_iff_ne]; exact h
   simp [this]
  have hne:∀ {i':Nat} {q':Kd},kd[i']?=some q'→q'≠q→i'≠i:=fun {i' q'} h1 h2 e=>by
   subst e; rw [hq] at h1; exact h2 (Option.some.inj h1).symm
  have hcl':∀ (i':Nat) o',ops[i']?=some o'→(L.setIfInBounds i true).getD i' false=true→∀ j,Zbv o' j=true→(L.setIfInBounds i true).getD j false=true:=by
   intro i' o' h1 h2 j hj
   by_cases e:i'=i
   ·subst e
    rw [ho] at h1; simp at h1; subst h1
    exact hold _ (Zbf hr ho hj)
   ·exact hold _ (hcl i' o' h1 ((hnew i' e).symm.trans h2) j hj)
  have hpost':Zca q=false→∀ (i':Nat) q',kd[i']?=some q'→(L.setIfInBounds i true).getD i' false=true→Zca q'=true→(L.setIfInBounds i true).getD ic false=true:=fun hp i' q' h1 h2 h3 =>
   hold _ (hpost i' q' h1 ((hnew i' (hne h1 (fun e=>by rw [e,hp] at h3; simp at h3))).symm.trans h2) h3)
  have hcall:Zca q=true→L.getD ic false=true:=fun hp=>by
   obtain ⟨j,r,h1,h2,h3⟩:=hF.post hp
   have hj:=Zbf hr ho h1
   cases r with
   | post g=>exact hpost j _ h2 hj rfl
   | cal =>
    obtain ⟨o',_,hF'⟩:=hkat h2
    have:=hF'.cal rfl
    rw [← this]; exact hj
   | _=>simp [Zcj] at h3
  -- the reads stand ahead of the call
  have hahead:∀ (n:Nat) (i':Nat) c,ops.length - i'≤n→kd[i']?=some (.pur c)→L.getD ic false=true→L.getD i' false=true:=by
   intro n
   induction n with
   | zero =>
    intro i' c hn h1 _
    have:=(List.getElem?_eq_some_iff.1 h1).1
    omega
   | succ n ih =>
    intro i' c hn h1 h2
    obtain ⟨o',_,hF'⟩:=hkat h1
    obtain ⟨j,p,r,h3,h4,h5,h6,h7⟩:=hF'.pur c rfl
    have hjl:L.getD j false=true:=by
     cases r with
     | pur c'=>exact ih j c' (by omega) h5 h2
     | cal =>
      obtain ⟨o2,_,hF2⟩:=hkat h5
      rw [hF2.cal rfl]; exact h2
     | _=>simp [Zns] at h7
    exact hcl j p h4 hjl i' h6
  unfold wpOp
  simp only [ho']
  rw [if_pos hwant]
  refine Or.inl ?_
  unfold Oper.wp
  rw [hexec]
  cases q with
  | pur c =>
   have hnc:L.getD ic false=false:=by
    cases h:L.getD ic false with
    | false=>rfl
    | true =>
     have:=hahead _ i c (Nat.le_refl _) hq h
     rw [hun] at this; simp at this
   have hic:ic≠i:=hne hcal (by simp)
   have hu:=hw0 hnc
   subst hu
   rw [hOb vc]
   refine ⟨by simpa using hsz,hcl',vc,hput vc (fun _ _ _ _=>rfl),fun _=>rfl,?_,hpost' rfl⟩
   intro h
   rw [hnew ic hic,hnc] at h
   simp at h
  | post g =>
   have hic:=hcall rfl
   have hfn:fi≠i:=by
    rcases hfi with ⟨k,hk⟩ | ⟨hk,_⟩
    ·exact hne hk (by simp)
    ·omega
   have hS:R vc u∨R' vc u:=by
    cases h:L.getD fi false with
    | false=>exact Or.inl ((hcR hic).1 h)
    | true=>exact (hcR hic).2.1 h
   rw [hOb vc u hS]
   refine ⟨by simpa using hsz,hcl',vc,hput vc (fun _ _ _ _=>rfl),?_,?_,fun i' q' _ _ _=>hold _ hic⟩
   ·intro h
    have:=hold _ hic
    rw [h] at this; simp at this
   ·intro _
    rw [hnew fi hfn]
    exact hcR hic
  | cal =>
   have hie:=hF.cal rfl
   have hnc:L.getD ic false=false:=by rw [← hie]; exact hun
   have hu:=hw0 hnc
   subst hu
   rw [hOb vc]
   refine hC.mono ?_
   rintro e u' ⟨v,rfl,hr'⟩
   have hff:L.getD fi false=false:=by
    rcases hfi with ⟨k,hk⟩ | ⟨hk,_⟩
    ·cases h:L.getD fi false with
     | false=>rfl
     | true =>
      have:=hpost fi _ hk h rfl
      rw [hnc] at this; simp at this
    ·have:¬ fi<L.size:=by omega
     simp [this]
   have hfn:fi≠i:=by
    rcases hfi with ⟨k,hk⟩ | ⟨hk,_⟩
    ·exact hne hk (by simp)
    ·omega
   refine ⟨by simpa using hsz,hcl',v,hput v ?_,?_,?_,?_⟩
   ·intro j r h1 h2
    cases r with
    | post g =>
     have:=hpost j _ h1 h2 rfl
     rw [hnc] at this; simp at this
    | cal =>
     obtain ⟨o',_,hF'⟩:=hkat h1
     have:=hF'.cal rfl
     rw [this,hnc] at h2; simp at h2
    | _=>rfl
   ·intro h
    rw [← hie,hL] at h
    simp at h
   ·intro _
    rw [hnew fi hfn,hff]
    exact ⟨fun _=>hr',fun h=>by simp at h,fun h=>by simp at h⟩
   ·intro i' q' _ _ _
    rw [← hie,hL]; simp
  | alo t z s cs=>exact absurd rfl (hF.alo t z s cs)
  | sto k =>
   have hic:=hcall rfl
   obtain ⟨hif,hdn⟩:=hF.sto k rfl
   obtain ⟨w',hrun,hR'⟩:=hOb vc u ((hcR hic).1 (by rw [← hif]; exact hun))
   rw [hrun]
   refine ⟨by simpa using hsz,hcl',vc,hput vc (fun _ _ _ _=>rfl),?_,?_,fun i' q' _ _ _=>hold _ hic⟩
   ·intro h
    have:=hold _ hic
    rw [h] at this; simp at this
   ·intro _
    refine ⟨fun h => ?_,fun _=>Or.inr hR',fun _ _=>hR'⟩
    rw [← hif,hL] at h
    simp at h
 ·intro L a u hr hJ
  obtain ⟨hsz,hcl,vc,rfl,hw0,hcR,hpost⟩:=hJ
  have hall:∀ i,i<ops.length→L.getD i false=true:=by
   intro i
   induction i using Nat.strongRecOn with
   | _ i ih =>
    intro hi
    cases hl:L.getD i false with
    | true=>rfl
    | false =>
     exfalso
     have ho:ops[i]?=some ops[i]:=List.getElem?_eq_getElem hi
     obtain ⟨q,hq,hF⟩:=Zqd hfit ho
     have:i ∈ Region.ready .any ops.toArray L:=by
      refine mem_ready.2 ⟨?_,ops[i],by simp,fun e he hb=>ih e.on (hF.low e he hb) (by have:=hF.low e he hb; omega)⟩
      have hi':i<L.size:=by omega
      simp [hi'] at hl ⊢
      exact hl
     rw [hr] at this
     simp at this
  have e:pa a0 vc noB (fun j=>L.getD j false) 0 ops kd=paAll a0 ops kd vc noB:=Zdb (fun j r hr'=>⟨by
   simp only [Nat.zero_add]
   exact hall j (by have:=(List.getElem?_eq_some_iff.1 hr').1; omega),fun _=>rfl⟩)
  rw [e]
  have hR:=hcR (hall ic hil)
  refine hQ vc u ?_
  rcases hfi with ⟨k,hk⟩ | ⟨hk,hRR⟩
  ·exact hR.2.2 (hall fi (by have:=(List.getElem?_eq_some_iff.1 hk).1; omega)) ⟨k,hk⟩
  ·refine hRR _ _ (hR.1 ?_)
   have:¬ fi<L.size:=by omega
   simp [this]
 ·have:(ops.toArray).size=ops.length:=by simp
  unfold unl
  exact Nat.le_trans (List.length_filter_le _ _) (by simp)
 ·have hz:∀ j,(Array.replicate ops.toArray.size false).getD j false=false:=fun j=>by
   simp only [Array.getD_eq_getD_getElem?,Array.getElem?_replicate]
   split <;> rfl
  refine ⟨by simp,?_,undef,?_,fun _=>rfl,?_,?_⟩
  ·intro i o _ h; rw [hz] at h; simp at h
  ·have:∀ (k:Nat) (os:List Oper) (qs:List Kd),pa a0 undef noB (fun j=>(Array.replicate ops.toArray.size false).getD j false) k os qs=a0:=by
    intro k os
    induction os generalizing k with
    | nil=>intro qs; simp [pa]
    | cons o os ih =>
     intro qs
     cases qs with
     | nil=>simp [pa]
     | cons q qs=>rw [pa,hz]; simp only [Bool.false_eq_true,if_false]; exact ih _ _
   exact (this _ _ _).symm
  ·intro h; rw [hz] at h; simp at h
  ·intro i q _ h; rw [hz] at h; simp at h
def Zgm (o:Oper):Bool:=match o.op with | .move _=>true | _=>false
def Zqe (T:Nat) (ops:List Oper) (kd:List Kd) (ic fi:Nat):Bool :=
 ops.length == kd.length &&
 (List.range ops.length).all fun i=>match ops[i]?,kd[i]? with
  | some o,some q =>
   (match o.guard with
    | none=>true
    | some (j,b)=>Zbv o j && (match kd[j]?,ops[j]? with
     | some (.pur (.bool c)),some p=>c == b && (match p.dst with | some d=>decide (d<T) | none=>false)
     | _,_=>false)) && (match o.op with | .select .. => false | _=>true) &&
   (o.after.all fun e => !Region.binds .any e || e.on<i) &&
   ((List.range ops.length).all fun j=>match ops[j]? with
    | some p=>match p.dst with
     | some d=>((j == i) || (o.dst != some d)) && (!(o.looksAt ops.toArray).contains d || Zbv o j)
     | none=>true
    | none=>true) &&
   (match q with
    | .pur _=>Zgm o || (List.range ops.length).any fun j=>i<j && (match ops[j]?,kd[j]? with | some p,some r=>Zbv p i && (Zns r && !Zgm p) | _,_=>false)
    | .cal=>i == ic
    | .post _=>(List.range i).any fun j=>Zbv o j && (match kd[j]? with | some r=>Zcj r | none=>false)
    | .alo .. => false
    | .sto _=>i == fi && o.dst.isNone && ((List.range i).any fun j=>Zbv o j && (match kd[j]? with | some r=>Zcj r | none=>false)))
  | _,_=>false
structure AppAt (T:Nat) (ops:List Oper) (kd:List Kd) (ic fi i:Nat) (o:Oper) (q:Kd):Prop where
 gd:o.guard=none∨∃ j b p d,o.guard=some (j,b)∧Zbv o j=true∧kd[j]?=some (.pur (.bool b))∧ops[j]?=some p∧p.dst=some d∧d<T
 sel:∀ cs b,o.op ≠ .select cs b
 low:∀ e ∈ o.after,Region.binds .any e=true→e.on<i
 dst:∀ j p d,ops[j]?=some p→p.dst=some d→j=i∨o.dst≠some d
 look:∀ j p d,ops[j]?=some p→p.dst=some d→d ∈ o.looksAt ops.toArray→Zbv o j=true
 pur:∀ c,q = .pur c→Zgm o=true∨∃ j p r,i<j∧ops[j]?=some p∧kd[j]?=some r∧Zbv p i=true∧Zns r=true∧Zgm p=false
 cal:q = .cal→i=ic
 post:Zca q=true→∃ j r,Zbv o j=true∧kd[j]?=some r∧Zcj r=true
 alo:∀ t z s cs,q ≠ .alo t z s cs
 sto:∀ k,q = .sto k→i=fi∧o.dst=none
theorem app_at {T:Nat} {ops:List Oper} {kd:List Kd} {ic fi:Nat} (h:Zqe T ops kd ic fi=true) {i:Nat} {o:Oper} (ho:ops[i]?=some o):∃ q,kd[i]?=some q∧AppAt T ops kd ic fi i o q:=by
 unfold Zqe at h
 simp only [Bool.and_eq_true,List.all_eq_true,List.mem_range,beq_iff_eq] at h
 obtain ⟨hl,h⟩:=h
 have hi:=(List.getElem?_eq_some_iff.1 ho).1
 have h:=h i hi
 rw [ho] at h
 cases hq:kd[i]? with
 | none=>rw [hq] at h; simp at h
 | some q =>
  rw [hq] at h
  simp only [Bool.and_eq_true,List.all_eq_true,List.mem_range] at h
  obtain ⟨⟨⟨⟨h1,h2⟩,h3⟩,h4⟩,h5⟩:=h
  have hpost:∀ (b:Bool),((List.range i).any fun j=>Zbv o j && (match kd[j]? with | some r=>Zcj r | none=>false))=true→∃ j r,Zbv o j=true∧kd[j]?=some r∧Zcj r=true:=by
   intro _ h
   simp only [List.any_eq_true,List.mem_range,Bool.and_eq_true] at h
   obtain ⟨j,_,h6,h7⟩:=h
   cases hr:kd[j]? with
   | none=>rw [hr] at h7; simp at h7
   | some r=>rw [hr] at h7; exact ⟨j,r,h6,hr,h7⟩
  refine ⟨q,rfl,?_,?_,?_,?_,?_,?_,?_,?_,?_,?_⟩
  ·cases hgd:o.guard with
   | none=>exact Or.inl rfl
   | some jb =>
    obtain ⟨j,b⟩:=jb
    rw [hgd] at h1
    simp only [Bool.and_eq_true] at h1
    obtain ⟨h6,h7⟩:=h1
    cases hk:kd[j]? with
    | none=>rw [hk] at h7; simp at h7
    | some r =>
     cases hp:ops[j]? with
     | none=>rw [hk,hp] at h7; cases r <;> simp at h7
     | some p =>
      rw [hk,hp] at h7
      cases r with
      | pur c =>
       cases c with
       | bool c =>
        simp only [Bool.and_eq_true,beq_iff_eq] at h7
        obtain ⟨h8,h9⟩:=h7
        cases hd:p.dst with
        | none=>rw [hd] at h9; simp at h9
        | some d =>
         rw [hd] at h9
         subst h8
         exact Or.inr ⟨j,c,p,d,rfl,h6,hk,hp,hd,by simpa using h9⟩
       | _=>simp at h7
      | _=>simp at h7
  ·intro cs b e; rw [e] at h2; simp at h2
  ·intro e he hb
   have:=Array.all_eq_true_iff_forall_mem.1 h3 e he
   simpa [hb] using this
  ·intro j p d hp hd
   have:=h4 j (List.getElem?_eq_some_iff.1 hp).1
   rw [hp] at this
   simp only [hd,Bool.and_eq_true,Bool.or_eq_true,beq_iff_eq,bne_iff_ne] at this
   exact this.1
  ·intro j p d hp hd hm
   have:=h4 j (List.getElem?_eq_some_iff.1 hp).1
   rw [hp] at this
   simp only [hd,Bool.and_eq_true,Bool.or_eq_true,beq_iff_eq,bne_iff_ne] at this
   rcases this.2 with h | h
   ·simp [hm] at h
   ·exact h
  ·intro c e
   subst e
   simp only [Bool.or_eq_true,List.any_eq_true,List.mem_range,Bool.and_eq_true] at h5
   rcases h5 with h5 | ⟨j,hj,h6,h7⟩
   ·exact Or.inl h5
   have hp:ops[j]?=some ops[j]:=List.getElem?_eq_getElem hj
   cases hr:kd[j]? with
   | none=>rw [hp,hr] at h7; simp at h7
   | some r =>
    rw [hp,hr] at h7
    simp only [Bool.and_eq_true,Bool.not_eq_true'] at h7
    exact Or.inr ⟨j,_,r,by simpa using h6,hp,hr,h7.1,h7.2.1,h7.2.2⟩
  ·intro e; subst e; simpa using h5
  ·intro hp
   cases q with
   | post g=>exact hpost true h5
   | sto k =>
    simp only [Bool.and_eq_true] at h5
    exact hpost true h5.2
   | _=>simp [Zca] at hp
  ·intro t z s cs e; subst e; simp at h5
  ·intro k e
   subst e
   simp only [Bool.and_eq_true,beq_iff_eq] at h5
   exact ⟨h5.1.1,by simpa using h5.1.2⟩
def ObA (P:Program) (ib:Nat) (w0 w1:World) (FA:Value→Act) (R R':Value→World→Prop) (i:Nat) (o:Oper):Kd→Prop
 | .pur c=>if i=ib then ∀ vc,(execOp (FA vc).eval o).run P w0 = .ok (.value c) w1 else ∀ vc u,u=w0∨u=w1∨Zgm o=true→(execOp (FA vc).eval o).run P u = .ok (.value c) u
 | .post g=>∀ vc w,R vc w∨R' vc w→(execOp (FA vc).eval o).run P w = .ok (.value (g vc)) w
 | .cal=>∀ vc,∃ v' w',(execOp (FA vc).eval o).run P w1 = .ok (.value v') w'∧R v' w'
 | .alo .. => True
 | .sto _=>∀ vc w,R vc w→∃ w',(execOp (FA vc).eval o).run P w = .ok .skip w'∧R' vc w'
def AllObA (P:Program) (ib:Nat) (w0 w1:World) (FA:Value→Act) (R R':Value→World→Prop):Nat→List Oper→List Kd→Prop
 | k,o::os,q::qs=>ObA P ib w0 w1 FA R R' k o q∧AllObA P ib w0 w1 FA R R' (k+1) os qs
 | _,_,_=>True
theorem AllObA.at {P:Program} {ib:Nat} {w0 w1:World} {FA:Value→Act} {R R':Value→World→Prop}:∀ {ops:List Oper} {ks:List Kd} {k:Nat},AllObA P ib w0 w1 FA R R' k ops ks →
  ∀ {i:Nat} {o:Oper} {q:Kd},ops[i]?=some o→ks[i]?=some q→ObA P ib w0 w1 FA R R' (k+i) o q:=by
 intro ops
 induction ops with
 | nil=>intro ks k _ i o q h; simp at h
 | cons p os ih =>
  intro ks k h i o q ho hq
  cases ks with
  | nil=>simp at hq
  | cons r qs =>
   cases i with
   | zero=>simp at ho hq; subst ho hq; exact h.1
   | succ i =>
    have:=ih h.2 (i:=i) (by simpa using ho) (by simpa using hq)
    have e:k+1+i=k+(i+1):=by omega
    rw [e] at this; exact this
structure AppPlan (ops:List Oper) (kd:List Kd) (ib ic fi:Nat) (a0:Act) (w0 w1:World) (R R':Value→World→Prop) (L:Array Bool) (a:Act) (w:World):Prop where
 size:L.size=ops.length
 closed:∀ (i:Nat) o,ops[i]?=some o→L.getD i false=true→∀ j,Zbv o j=true→L.getD j false=true
 st:∃ vc,a=pa a0 vc noB (fun j=>L.getD j false) 0 ops kd∧(L.getD ic false=false→w=if L.getD ib false then w1 else w0)∧(L.getD ic false=true→(L.getD fi false=false→R vc w)∧(L.getD fi false=true→R vc w∨R' vc w)∧(L.getD fi false=true→(∃ k,kd[fi]?=some (.sto k))→R' vc w)) ∧
  (∀ (i:Nat) q,kd[i]?=some q→L.getD i false=true→Zca q=true→L.getD ic false=true)
theorem Zoy {P:Program} {ops:List Oper} {id:Nat} {Q:Exit→Act→World→Prop} {a0:Act} {w:World} (hm:P.follows .mixedOrders=true) (kd:List Kd) (ib ic fi:Nat) (hfit:Zqe a0.tmps.size ops kd ic fi=true)
  (R R':Value→World→Prop) (w1:World) (c0:Value) (hib:kd[ib]?=some (.pur c0)) (hnm:∀ o,ops[ib]?=some o→Zgm o=false)
  (hob:AllObA P ib w.drew w1 (fun vc=>paAll a0 ops kd vc noB) R R' 0 ops kd)
  (hcal:kd[ic]?=some .cal) (hil:ic<ops.length) (hfi:(∃ k,kd[fi]?=some (.sto k))∨(ops.length≤fi∧∀ v u,R v u→R' v u))
  (hQ:∀ vc u,R' vc u→Q .normal (paAll a0 ops kd vc noB) u) :
  (Code.region id ops.toArray true).wp P Q a0 w:=by
 have hlen:ops.length=kd.length:=by
  unfold Zqe at hfit
  simp only [Bool.and_eq_true,beq_iff_eq] at hfit
  exact hfit.1
 have hkat:∀ {i':Nat} {q':Kd},kd[i']?=some q'→∃ o',ops[i']?=some o'∧AppAt a0.tmps.size ops kd ic fi i' o' q':=fun {i' q'} h1=>by
  have ho:=List.getElem?_eq_getElem (l:=ops) (i:=i') (by have:=(List.getElem?_eq_some_iff.1 h1).1; omega)
  obtain ⟨q2,hq2,hF2⟩:=app_at hfit ho
  rw [h1] at hq2; simp at hq2; subst hq2
  exact ⟨_,ho,hF2⟩
 refine wp_region_any hm (Zgx (J:=AppPlan ops kd ib ic fi a0 w.drew w1 R R') ?_ ?_ _ _ _ _ ?_ ?_)
 ·intro L a u i hr hJ
  obtain ⟨hsz,hcl,vc,rfl,hw0,hcR,hpost⟩:=hJ
  obtain ⟨h0,o,ho',_⟩:=mem_ready.1 hr
  have ho:ops[i]?=some o:=by simpa using ho'
  have hi:i<ops.length:=(List.getElem?_eq_some_iff.1 ho).1
  have hil:i<L.size:=by omega
  have hun:L.getD i false=false:=by simp [hil] at h0 ⊢; exact h0
  obtain ⟨q,hq,hF⟩:=app_at hfit ho
  have hOb:=hob.at ho hq
  rw [Nat.zero_add] at hOb
  have hexec:execOp (pa a0 vc noB (fun j=>L.getD j false) 0 ops kd).eval o=execOp (paAll a0 ops kd vc noB).eval o:=by
   refine execOp_congr o hF.sel (fun x hx=>Zmv (fun j p hp hl d hd e => ?_))
   subst e
   have hw:=hF.look j p d hp hd (List.mem_append_left _ (List.mem_filterMap.2 ⟨.tmp d,by simpa using hx,rfl⟩))
   have:=Zbf hr ho hw
   simp only [Nat.zero_add] at hl
   rw [hl] at this
   simp at this
  have hwant:Region.wanted o (yielded ops.toArray (pa a0 vc noB (fun j=>L.getD j false) 0 ops kd).tmps)=true:=by
   rcases hF.gd with hg | ⟨j,b,p,d,hg,h1,h2,h3,h4,h5⟩
   ·simp [Region.wanted,hg]
   ·obtain ⟨o',ho',hF'⟩:=hkat h2
    rw [h3] at ho'
    simp only [Option.some.injEq] at ho'
    subst ho'
    have ht:=pa_at (a0:=a0) (vc:=vc) (β:=noB) (lst:=fun j=>L.getD j false) (k:=0) h3 h2 (by simpa using Zbf hr ho h1) h4 (fun j' p' h6 h7=>by
     rcases hF'.dst j' p' d h6 h7 with h | h
     ·exact h
     ·exact absurd h4 h) h5
    have hy:yielded ops.toArray (pa a0 vc noB (fun j=>L.getD j false) 0 ops kd).tmps j=some b:=by
     unfold yielded
     simp only [List.getElem?_toArray,h3,Option.bind_some,h4,ht,Kd.val]
    unfold Region.wanted
    rw [hg]
    simp only
    rw [hy]
    simp
  have hL:=Zez hil
  have hput:∀ vc',(∀ j r,kd[j]?=some r→L.getD j false=true→r.val vc noB j=r.val vc' noB j) →
    (pa a0 vc noB (fun j=>L.getD j false) 0 ops kd).put o.dst (q.val vc' noB i)=pa a0 vc' noB (fun j=>(L.setIfInBounds i true).getD j false) 0 ops kd:=by
   intro vc' hv
   have e1:pa a0 vc noB (fun j=>L.getD j false) 0 ops kd=pa a0 vc' noB (fun j=>L.getD j false) 0 ops kd:=Zdb (fun j r hr'=>by
    simp only [Nat.zero_add]
    exact ⟨trivial,fun hl=>hv j r hr' hl⟩)
   rw [e1]
   have e2:=Zor (a0:=a0) (vc:=vc') (β:=noB) (lst:=fun j=>L.getD j false) (k:=0) ho hq (by simpa using hun) hF.dst
   simp only [Nat.zero_add] at e2
   rw [← e2]
   exact Zdb (fun j r hr'=>⟨by simp only [Nat.zero_add,hL],fun _=>rfl⟩)
  have hold:∀ j,L.getD j false=true→(L.setIfInBounds i true).getD j false=true:=fun j h=>by rw [hL,h]; rfl
  have hnew:∀ j,j≠i→(L.setIfInBounds i true).getD j false=L.getD j false:=fun j h=>by
   rw [hL]
   have:(j == i)=false:=by rw [beq_eq_false_iff_ne]; exact h
   simp [this]
  have hne:∀ {i':Nat} {q':Kd},kd[i']?=some q'→q'≠q→i'≠i:=fun {i' q'} h1 h2 e=>by
   subst e; rw [hq] at h1; exact h2 (Option.some.inj h1).symm
  have hcl':∀ (i':Nat) o',ops[i']?=some o'→(L.setIfInBounds i true).getD i' false=true→∀ j,Zbv o' j=true→(L.setIfInBounds i true).getD j false=true:=by
   intro i' o' h1 h2 j hj
   by_cases e:i'=i
   ·subst e
    rw [ho] at h1; simp at h1; subst h1
    exact hold _ (Zbf hr ho hj)
   ·exact hold _ (hcl i' o' h1 ((hnew i' e).symm.trans h2) j hj)
  have hpost':Zca q=false→∀ (i':Nat) q',kd[i']?=some q'→(L.setIfInBounds i true).getD i' false=true→Zca q'=true→(L.setIfInBounds i true).getD ic false=true:=fun hp i' q' h1 h2 h3 =>
   hold _ (hpost i' q' h1 ((hnew i' (hne h1 (fun e=>by rw [e,hp] at h3; simp at h3))).symm.trans h2) h3)
  have hcall:Zca q=true→L.getD ic false=true:=fun hp=>by
   obtain ⟨j,r,h1,h2,h3⟩:=hF.post hp
   have hj:=Zbf hr ho h1
   cases r with
   | post g=>exact hpost j _ h2 hj rfl
   | cal =>
    obtain ⟨o',_,hF'⟩:=hkat h2
    have:=hF'.cal rfl
    rw [← this]; exact hj
   | _=>simp [Zcj] at h3
  -- the reads stand ahead of the call
  have hahead:∀ (n:Nat) (i':Nat) c o0,ops.length - i'≤n→ops[i']?=some o0→Zgm o0=false→kd[i']?=some (.pur c)→L.getD ic false=true→L.getD i' false=true:=by
   intro n
   induction n with
   | zero =>
    intro i' c o0 hn h0 _ h1 _
    have:=(List.getElem?_eq_some_iff.1 h1).1
    omega
   | succ n ih =>
    intro i' c o0 hn h0 hm0 h1 h2
    obtain ⟨o',ho2,hF'⟩:=hkat h1
    rw [h0] at ho2
    simp only [Option.some.injEq] at ho2
    subst ho2
    rcases hF'.pur c rfl with h | ⟨j,p,r,h3,h4,h5,h6,h7,h8⟩
    ·rw [hm0] at h; simp at h
    have hjl:L.getD j false=true:=by
     cases r with
     | pur c'=>exact ih j c' p (by omega) h4 h8 h5 h2
     | cal =>
      obtain ⟨o2,_,hF2⟩:=hkat h5
      rw [hF2.cal rfl]; exact h2
     | _=>simp [Zns] at h7
    exact hcl j p h4 hjl i' h6
  unfold wpOp
  simp only [ho']
  rw [if_pos hwant]
  refine Or.inl ?_
  unfold Oper.wp
  rw [hexec]
  cases q with
  | pur c =>
   have hic:ic≠i:=hne hcal (by simp)
   cases hnc:L.getD ic false with
   | false =>
    have hu:=hw0 hnc
    by_cases hib':i=ib
    ·subst hib'
     rw [hun] at hu
     simp only [Bool.false_eq_true,if_false] at hu
     subst hu
     simp only [ObA,if_true] at hOb
     rw [hOb vc]
     refine ⟨by simpa using hsz,hcl',vc,hput vc (fun _ _ _ _=>rfl),fun _=>by rw [hL]; simp,?_,hpost' rfl⟩
     intro h
     rw [hnew ic hic,hnc] at h
     simp at h
    ·simp only [ObA,if_neg hib'] at hOb
     rw [hOb vc u (by rw [hu]; split; exact Or.inr (Or.inl rfl); exact Or.inl rfl)]
     refine ⟨by simpa using hsz,hcl',vc,hput vc (fun _ _ _ _=>rfl),fun _=>by rw [hnew ib (fun e=>hib' e.symm)]; exact hu,?_,hpost' rfl⟩
     intro h
     rw [hnew ic hic,hnc] at h
     simp at h
   | true =>
    have hmv:Zgm o=true:=by
     cases h:Zgm o with
     | true=>rfl
     | false =>
      have:=hahead _ i c o (Nat.le_refl _) ho h hq hnc
      rw [hun] at this; simp at this
    have hib':i≠ib:=fun e=>by
     subst e
     have:=hnm o ho
     rw [hmv] at this; simp at this
    have hfn:fi≠i:=by
     rcases hfi with ⟨k,hk⟩ | ⟨hk,_⟩
     ·exact hne hk (by simp)
     ·omega
    simp only [ObA,if_neg hib'] at hOb
    rw [hOb vc u (Or.inr (Or.inr hmv))]
    refine ⟨by simpa using hsz,hcl',vc,hput vc (fun _ _ _ _=>rfl),?_,?_,hpost' rfl⟩
    ·intro h
     rw [hnew ic hic,hnc] at h
     simp at h
    ·intro _
     rw [hnew fi hfn]
     exact hcR hnc
  | post g =>
   have hic:=hcall rfl
   have hfn:fi≠i:=by
    rcases hfi with ⟨k,hk⟩ | ⟨hk,_⟩
    ·exact hne hk (by simp)
    ·omega
   have hS:R vc u∨R' vc u:=by
    cases h:L.getD fi false with
    | false=>exact Or.inl ((hcR hic).1 h)
    | true=>exact (hcR hic).2.1 h
   simp only [ObA] at hOb
   rw [hOb vc u hS]
   refine ⟨by simpa using hsz,hcl',vc,hput vc (fun _ _ _ _=>rfl),?_,?_,fun i' q' _ _ _=>hold _ hic⟩
   ·intro h
    have:=hold _ hic
    rw [h] at this; simp at this
   ·intro _
    rw [hnew fi hfn]
    exact hcR hic
  | cal =>
   have hie:=hF.cal rfl
   have hnc:L.getD ic false=false:=by rw [← hie]; exact hun
   have hu:=hw0 hnc
   have hbl:L.getD ib false=true:=by
    have key:∀ (n:Nat) (i':Nat) c o0,ops.length - i'≤n→ops[i']?=some o0→Zgm o0=false→kd[i']?=some (.pur c)→L.getD i' false=true:=by
     intro n
     induction n with
     | zero =>
      intro i' c o0 hn h0 _ h1
      have:=(List.getElem?_eq_some_iff.1 h1).1
      omega
     | succ n ih =>
      intro i' c o0 hn h0 hm0 h1
      obtain ⟨o',ho2,hF'⟩:=hkat h1
      rw [h0] at ho2
      simp only [Option.some.injEq] at ho2
      subst ho2
      rcases hF'.pur c rfl with h | ⟨j,p,r,h3,h4,h5,h6,h7,h8⟩
      ·rw [hm0] at h; simp at h
      cases r with
      | pur c'=>exact hcl j p h4 (ih j c' p (by omega) h4 h8 h5) i' h6
      | cal =>
       obtain ⟨o2,ho2,hF2⟩:=hkat h5
       have hj:=hF2.cal rfl
       have:j=i:=by omega
       subst this
       rw [ho] at h4
       simp only [Option.some.injEq] at h4
       subst h4
       exact Zbf hr ho h6
      | _=>simp [Zns] at h7
    obtain ⟨ob,hob1,_⟩:=hkat hib
    exact key _ ib c0 ob (Nat.le_refl _) hob1 (hnm ob hob1) hib
   rw [hbl] at hu
   simp only [if_true] at hu
   subst hu
   simp only [ObA] at hOb
   obtain ⟨v,u',hrun,hr'⟩:=hOb vc
   rw [hrun]
   have hff:L.getD fi false=false:=by
    rcases hfi with ⟨k,hk⟩ | ⟨hk,_⟩
    ·cases h:L.getD fi false with
     | false=>rfl
     | true =>
      have:=hpost fi _ hk h rfl
      rw [hnc] at this; simp at this
    ·have:¬ fi<L.size:=by omega
     simp [this]
   have hfn:fi≠i:=by
    rcases hfi with ⟨k,hk⟩ | ⟨hk,_⟩
    ·exact hne hk (by simp)
    ·omega
   refine ⟨by simpa using hsz,hcl',v,hput v ?_,?_,?_,?_⟩
   ·intro j r h1 h2
    cases r with
    | post g =>
     have:=hpost j _ h1 h2 rfl
     rw [hnc] at this; simp at this
    | cal =>
     obtain ⟨o',_,hF'⟩:=hkat h1
     have:=hF'.cal rfl
     rw [this,hnc] at h2; simp at h2
    | _=>rfl
   ·intro h
    rw [← hie,hL] at h
    simp at h
   ·intro _
    rw [hnew fi hfn,hff]
    exact ⟨fun _=>hr',fun h=>by simp at h,fun h=>by simp at h⟩
   ·intro i' q' _ _ _
    rw [← hie,hL]; simp
  | alo t z s cs=>exact absurd rfl (hF.alo t z s cs)
  | sto k =>
   have hic:=hcall rfl
   obtain ⟨hif,hdn⟩:=hF.sto k rfl
   simp only [ObA] at hOb
   obtain ⟨w',hrun,hR'⟩:=hOb vc u ((hcR hic).1 (by rw [← hif]; exact hun))
   rw [hrun]
   refine ⟨by simpa using hsz,hcl',vc,hput vc (fun _ _ _ _=>rfl),?_,?_,fun i' q' _ _ _=>hold _ hic⟩
   ·intro h
    have:=hold _ hic
    rw [h] at this; simp at this
   ·intro _
    refine ⟨fun h => ?_,fun _=>Or.inr hR',fun _ _=>hR'⟩
    rw [← hif,hL] at h
    simp at h
 ·intro L a u hr hJ
  obtain ⟨hsz,hcl,vc,rfl,hw0,hcR,hpost⟩:=hJ
  have hall:∀ i,i<ops.length→L.getD i false=true:=by
   intro i
   induction i using Nat.strongRecOn with
   | _ i ih =>
    intro hi
    cases hl:L.getD i false with
    | true=>rfl
    | false =>
     exfalso
     have ho:ops[i]?=some ops[i]:=List.getElem?_eq_getElem hi
     obtain ⟨q,hq,hF⟩:=app_at hfit ho
     have:i ∈ Region.ready .any ops.toArray L:=by
      refine mem_ready.2 ⟨?_,ops[i],by simp,fun e he hb=>ih e.on (hF.low e he hb) (by have:=hF.low e he hb; omega)⟩
      have hi':i<L.size:=by omega
      simp [hi'] at hl ⊢
      exact hl
     rw [hr] at this
     simp at this
  have e:pa a0 vc noB (fun j=>L.getD j false) 0 ops kd=paAll a0 ops kd vc noB:=Zdb (fun j r hr'=>⟨by
   simp only [Nat.zero_add]
   exact hall j (by have:=(List.getElem?_eq_some_iff.1 hr').1; omega),fun _=>rfl⟩)
  rw [e]
  have hR:=hcR (hall ic hil)
  refine hQ vc u ?_
  rcases hfi with ⟨k,hk⟩ | ⟨hk,hRR⟩
  ·exact hR.2.2 (hall fi (by have:=(List.getElem?_eq_some_iff.1 hk).1; omega)) ⟨k,hk⟩
  ·refine hRR _ _ (hR.1 ?_)
   have:¬ fi<L.size:=by omega
   simp [this]
 ·have:(ops.toArray).size=ops.length:=by simp
  unfold unl
  exact Nat.le_trans (List.length_filter_le _ _) (by simp)
 ·have hz:∀ j,(Array.replicate ops.toArray.size false).getD j false=false:=fun j=>by
   simp only [Array.getD_eq_getD_getElem?,Array.getElem?_replicate]
   split <;> rfl
  refine ⟨by simp,?_,undef,?_,fun _=>by rw [hz]; rfl,?_,?_⟩
  ·intro i o _ h; rw [hz] at h; simp at h
  ·have:∀ (k:Nat) (os:List Oper) (qs:List Kd),pa a0 undef noB (fun j=>(Array.replicate ops.toArray.size false).getD j false) k os qs=a0:=by
    intro k os
    induction os generalizing k with
    | nil=>intro qs; simp [pa]
    | cons o os ih =>
     intro qs
     cases qs with
     | nil=>simp [pa]
     | cons q qs=>rw [pa,hz]; simp only [Bool.false_eq_true,if_false]; exact ih _ _
   exact (this _ _ _).symm
  ·intro h; rw [hz] at h; simp at h
  ·intro i q _ h; rw [hz] at h; simp at h
def gr (cs:List CellS):Gr:=⟨cs.length,fun i=>((cs[i]?).map CellS.sym).getD ⟨[],0,0⟩,fun i=>((cs[i]?).map CellS.kids).getD []⟩
theorem Zub (cs:List CellS) (x y:Nat):gr (turn cs x y)=gr cs:=by
 unfold gr
 rw [Zit]
 congr 1
 ·funext i
  rw [Zjp]
  cases cs[i]? with
  | none=>rfl
  | some c=>simp; split <;> rfl
 ·funext i
  rw [Zjp]
  cases cs[i]? with
  | none=>rfl
  | some c=>simp; split <;> rfl
theorem Zec {cs:List CellS} {i:Nat} {c:CellS} (h:cs[i]?=some c):(gr cs).hd i=c.sym∧(gr cs).kids i=c.kids:=by simp [gr,h]
theorem Zfj (w:World) (g n cap i:Nat) (u:Value):Kept (Zbd (.slice (some ⟨g,0,none⟩) n cap)) w (w.setCell ⟨g,i,none⟩ u):=(Kept.refl _ w).setCell (p:=⟨g,i,none⟩) (fun _=>(rfl:some g=some g)) u
theorem gr_inv {cs cs':List CellS} (h:gr cs'=gr cs) {i:Nat} {c c':CellS} (hc:cs[i]?=some c) (hc':cs'[i]?=some c'):c'.sym=c.sym∧c'.kids=c.kids:=by
 have h1:=Zec hc
 have h2:=Zec hc'
 rw [h] at h2
 exact ⟨h2.1.symm.trans h1.1,h2.2.symm.trans h1.2⟩
theorem gr_len {cs cs':List CellS} (h:gr cs'=gr cs):cs'.length=cs.length:=congrArg Gr.n h
theorem Zie {l:List Nat} {k n:Nat} (h:l[k]?=some n):l.take (k+1)=l.take k++[n]:=by rw [List.take_add_one,h]; rfl
theorem Zjb {l:List Nat} {k n:Nat} (h:l[k]?=some n):l=l.take k++n::l.drop (k+1):=by
 obtain ⟨hk,e⟩:=List.getElem?_eq_some_iff.1 h
 have:=List.drop_eq_getElem_cons hk
 rw [e] at this
 rw [← this,List.take_append_drop]
def Zky (m:Nat):Prop:=∀ (w:World) (B:Nat) (lv:Value) (cs:List CellS) (vs:List Value) (ρ rk:Nat→Nat) (a b:Nat),CellsAt w B lv cs vs→UpOk cs ρ rk→(gr cs).Ok→Zcx cs≤m→a<cs.length→b<cs.length→cs.length≤4000→(∀ (i:Nat),((gr cs).kids i).length≤4000) →
 Calls Tryz.prog 211 #[lv,.int .i64 a,.int .i64 b] w fun e w'=>∃ (q:Bool) (cs':List CellS) (ρ' rk':Nat→Nat),e = .returned (.bool q)∧CellsAt w' B lv cs' vs∧gr cs'=gr cs∧UpOk cs' ρ' rk'∧Zcx cs'≤Zcx cs∧Kept (Zbd lv) w w' ∧
  (q=true→Joined (gr cs) ρ ρ' [a] [b])∧(q=false→Clash (gr cs) ρ [a] [b])
set_option maxRecDepth 10000 in
set_option maxHeartbeats 4000000 in
theorem Zuc (m:Nat) (IH:∀ k,k<m→Zky k):Zky m:=by
 intro w B lv cs vs ρ rk a b h hu hG hm ha hb hl hk4
 have Hk4:=Zaa hk4
 clear hk4
 have hrt:=hu.rt
 have hx:=hrt.lt a ha
 have hy:=hrt.lt b hb
 have rx:=hrt.idem a ha
 have ry:=hrt.idem b hb
 obtain ⟨x,hxe⟩:∃ x,x=ρ a:=⟨_,rfl⟩
 obtain ⟨y,hye⟩:∃ y,y=ρ b:=⟨_,rfl⟩
 rw [← hxe] at hx rx
 rw [← hye] at hy ry
 obtain ⟨g,cap,cx,vx,rfl,hcx,hvx,hB,hgl,hcap,x0,x1,x2,x3,xf,hkx⟩:=h.at hx
 obtain ⟨g',cap',cy,vy,he,hcy,hvy,_,_,_,y0,y1,y2,y3,yf,hky⟩:=h.at hy
 simp only [Value.slice.injEq,Option.some.injEq,Addr.mk.injEq] at he
 obtain ⟨⟨rfl,_⟩,_,rfl⟩:=he
 obtain ⟨xa,xcap,rfl⟩:=Zad hkx
 obtain ⟨ya,ycap,rfl⟩:=Zad hky
 have Hra:=Zaa (Zqb w B _ cs vs ρ rk a h hu ha hl)
 have Hrb:=Zaa (Zqb w B _ cs vs ρ rk b h hu hb hl)
 rw [← hxe] at Hra
 rw [← hye] at Hrb
 have H:=Zaa h
 have Hu:=Zaa hu
 have HG:=Zaa hG
 have Hm:=Zaa hm
 have Hrt:=Zaa hrt
 have Hih:=Zaa IH
 have Hxe:=Zaa hxe
 have Hye:=Zaa hye
 have Hrx:=Zaa rx
 have Hry:=Zaa ry
 have Hcx:=Zaa hcx
 have Hcy:=Zaa hcy
 have Hkx:=Zaa hkx
 have Hwx:=Zaa hvx
 have Hwy:=Zaa hvy
 have Hky:=Zaa hky
 clear h hu hG hm hrt IH hxe hye rx ry hcx hcy hkx hky hvx hvy
 by_cases hxy:x=y
 ·have hxy':((x:Int) == (y:Int))=true:=by rw [beq_iff_eq]; omega
  have Hxy:=Zaa hxy
  clear hxy
  go_enter Tryz.func211,Tryz.ntmps211
  go_wp2_with fail
  refine Hra.out.mono ?_
  rintro e w1 ⟨rfl,rfl⟩
  go_wp2_with fail
  refine Hrb.out.mono ?_
  rintro e w1 ⟨rfl,rfl⟩
  go_wp2
  go_ret
  exact ⟨true,cs,ρ,rk,rfl,H.out,rfl,Hu.out,Nat.le_refl _,Kept.refl _ _,fun _=>Joined.same Hrt.out (Hxe.out.symm.trans (Hxy.out.trans Hye.out)),by simp⟩
 ·have hxy':((x:Int) == (y:Int))=false:=by rw [beq_eq_false_iff_ne]; omega
  have Hxy:=Zaa hxy
  clear hxy
  by_cases hvx:cx.sym.name=[]
  ·have hvx':cx.sym.name.isEmpty=true:=by simpa using hvx
   go_enter Tryz.func211,Tryz.ntmps211
   go_wp2_with fail
   refine Hra.out.mono ?_
   rintro e w1 ⟨rfl,rfl⟩
   go_wp2_with fail
   refine Hrb.out.mono ?_
   rintro e w1 ⟨rfl,rfl⟩
   go_wp2
   go_ret
   refine ⟨true,turn cs x y,mg ρ x y,_,rfl,H.out.turn hx y,Zub _ _ _,Hu.out.turn hx hy Hrx.out Hry.out Hxy.out,?_,Zfj _ _ _ _ _ _,fun _=>Joined.var Hrt.out ha hb (Or.inl ⟨Hxe.out,Hye.out⟩) Hxy.out (by rw [(Zec Hcx.out).1]; exact hvx),by simp⟩
   obtain ⟨c',e1,e2,_⟩:=Hu.out.root _ x cx (Nat.le_refl _) Hcx.out
   rw [Hrx.out] at e1 e2
   exact Nat.le_of_lt (Zgj e1 e2 Hxy.out)
  ·have hvx':cx.sym.name.isEmpty=false:=by simpa using hvx
   by_cases hvy:cy.sym.name=[]
   ·have hvy':cy.sym.name.isEmpty=true:=by simpa using hvy
    go_enter Tryz.func211,Tryz.ntmps211
    go_wp2_with fail
    refine Hra.out.mono ?_
    rintro e w1 ⟨rfl,rfl⟩
    go_wp2_with fail
    refine Hrb.out.mono ?_
    rintro e w1 ⟨rfl,rfl⟩
    go_wp2
    go_ret
    refine ⟨true,turn cs y x,mg ρ y x,_,rfl,H.out.turn hy x,Zub _ _ _,Hu.out.turn hy hx Hry.out Hrx.out (fun e=>Hxy.out e.symm),?_,Zfj _ _ _ _ _ _,fun _=>Joined.var Hrt.out ha hb (Or.inr ⟨Hye.out,Hxe.out⟩) (fun e=>Hxy.out e.symm) (by rw [(Zec Hcy.out).1]; exact hvy),by simp⟩
    obtain ⟨c',e1,e2,_⟩:=Hu.out.root _ y cy (Nat.le_refl _) Hcy.out
    rw [Hry.out] at e1 e2
    exact Nat.le_of_lt (Zgj e1 e2 (fun e=>Hxy.out e.symm))
   ·have hvy':cy.sym.name.isEmpty=false:=by simpa using hvy
    have Hax:Hid (cx.sym.args=cx.kids.length):=by have:=HG.out.ar x hx; rw [(Zec Hcx.out).1,(Zec Hcx.out).2] at this; exact this
    have Hay:Hid (cy.sym.args=cy.kids.length):=by have:=HG.out.ar y hy; rw [(Zec Hcy.out).1,(Zec Hcy.out).2] at this; exact this
    have Hcl:Hid ((cx.sym.name≠cy.sym.name∨cx.kids.length≠cy.kids.length)→Clash (gr cs) ρ [a] [b]):=fun h=>by
     refine Zje HG.out Hrt.out ha hb (Or.inl ⟨Hxe.out,Hye.out⟩) (by rw [(Zec Hcx.out).1]; exact hvx) (by rw [(Zec Hcy.out).1]; exact hvy) ?_
     rw [(Zec Hcx.out).1,(Zec Hcy.out).1,Hax.out,Hay.out]
     exact h
    by_cases hnm:cx.sym.name=cy.sym.name
    ·by_cases hkl:cx.kids.length=cy.kids.length
     ·have hkl':(cx.kids.length:Int)=cy.kids.length:=by omega
      have Hkl:=Zaa hkl
      have Hnm:=Zaa hnm
      have hk4:cx.kids.length≤4000:=by have:=Hk4.out x; rw [(Zec Hcx.out).2] at this; exact this
      have hlt0:Hid (Zcx (turn cs x y)<Zcx cs):=by
       obtain ⟨c',e1,e2,_⟩:=Hu.out.root _ x cx (Nat.le_refl _) Hcx.out
       rw [Hrx.out] at e1 e2
       exact Zgj e1 e2 Hxy.out
      go_enter Tryz.func211,Tryz.ntmps211
      go_wp2_with fail
      refine Hra.out.mono ?_
      rintro e w1 ⟨rfl,rfl⟩
      go_wp2_with fail
      refine Hrb.out.mono ?_
      rintro e w1 ⟨rfl,rfl⟩
      go_wp2_with fail
      go_quiet (fail)
      go_wp2
      go_loopg [9] (cx.kids.length+1) (fun gk i wr=>∃ (k:Nat) (cs':List CellS) (ρ' rk':Nat→Nat),i = .int .i64 k∧k≤cx.kids.length∧cx.kids.length - k<gk∧CellsAt wr B (.slice (some ⟨g,0,none⟩) cs.length cap) cs' vs∧gr cs'=gr cs∧UpOk cs' ρ' rk'∧Zcx cs'<Zcx cs ∧
       Kept (Zbd (.slice (some ⟨g,0,none⟩) cs.length cap)) w1 wr∧Joined (gr cs) (mg ρ x y) ρ' (cx.kids.take k) (cy.kids.take k))
      case atStart =>
       exact ⟨0,turn cs x y,mg ρ x y,_,rfl,Nat.zero_le _,by omega,CellsAt.turn (w:=w1.drewN nq) (H.out.ext (fun _ _=>rfl)) hx y,Zub _ _ _,Hu.out.turn hx hy Hrx.out Hry.out Hxy.out,hlt0.out,((Kept.refl _ w1).drewN nq).trans (Zfj _ _ _ _ _ _),Joined.nil (by have:=(Hu.out.turn hx hy Hrx.out Hry.out Hxy.out).rt; rw [Zit] at this; exact this)⟩
      case round =>
       obtain ⟨k,cs',ρ',rk',rfl,hk,hgk,hcs,hgr,hup,hrt',hkp,hj⟩:=hrel
       have hcl:=gr_len hgr
       obtain ⟨g1,cap1,cx',vx1,he1,hcx',hvx1,_,_,_,_,_,xx2,_,_,hkx'⟩:=hcs.at (i:=x) (by omega)
       obtain ⟨g2,cap2,cy',vy1,he2,hcy',hvy1,_,_,_,_,_,yy2,_,_,hky'⟩:=hcs.at (i:=y) (by omega)
       simp only [Value.slice.injEq,Option.some.injEq,Addr.mk.injEq] at he1 he2
       obtain ⟨⟨rfl,_⟩,hq1,rfl⟩:=he1
       obtain ⟨⟨rfl,_⟩,hq2,rfl⟩:=he2
       clear hq1 hq2
       rw [Hwx.out] at hvx1
       rw [Hwy.out] at hvy1
       simp only [Option.some.injEq] at hvx1 hvy1
       subst hvx1 hvy1
       rw [(gr_inv hgr Hcx.out hcx').2] at hkx'
       rw [(gr_inv hgr Hcy.out hcy').2] at hky'
       have Hcs:=Zaa hcs
       have Hgr:=Zaa hgr
       have Hup:=Zaa hup
       have Hrt':=Zaa hrt'
       have Hkp:=Zaa hkp
       have Hj:=Zaa hj
       clear hcs hgr hup hrt' hkp hj hcx' hcy' x0 x1 x2 x3 xf y0 y1 y2 y3 yf
       by_cases hlt:k<cx.kids.length
       ·obtain ⟨nx,hnx⟩:∃ n,cx.kids[k]?=some n:=⟨_,List.getElem?_eq_getElem hlt⟩
        obtain ⟨ny,hny⟩:∃ n,cy.kids[k]?=some n:=⟨_,List.getElem?_eq_getElem (Hkl.out ▸ hlt)⟩
        obtain ⟨gx,capx,curx,hex,_,_,hcpx⟩:=Zal hkx' (by omega)
        simp only [Value.slice.injEq] at hex
        obtain ⟨rfl,_,rfl⟩:=hex
        obtain ⟨gy,capy,cury,hey,_,_,hcpy⟩:=Zal hky' (by omega)
        simp only [Value.slice.injEq] at hey
        obtain ⟨rfl,_,rfl⟩:=hey
        have zx:wr.cell? ⟨gx,k,none⟩=some (.int .i64 nx):=Zaf hkx' k _ (by simp [ints,hnx])
        have zy:wr.cell? ⟨gy,k,none⟩=some (.int .i64 ny):=Zaf hky' k _ (by simp [ints,hny])
        have hnxl:nx<cs'.length:=by
         have:=HG.out.kl x hx nx (by rw [(Zec Hcx.out).2]; exact List.mem_of_getElem? hnx)
         rw [hcl]; exact this
        have hnyl:ny<cs'.length:=by
         have:=HG.out.kl y hy ny (by rw [(Zec Hcy.out).2]; exact List.mem_of_getElem? hny)
         rw [hcl]; exact this
        have HI:=Zaa (Hih.out (Zcx cs') (by have:=Hm.out; have:=Hrt'.out; omega) wr.drew B (.slice (some ⟨g,0,none⟩) cs.length cap) cs' vs ρ' rk' nx ny (Hcs.out.ext (fun _ _=>rfl)) Hup.out (by rw [Hgr.out]; exact HG.out) (Nat.le_refl _) hnxl hnyl (by omega) (by rw [Hgr.out]; exact Hk4.out))
        have Hnx:=Zaa hnx
        have Hny:=Zaa hny
        have hltn:k<cy.kids.length:=by omega
        clear hkx' hky' hnx hny hcl hkl hkl' hnm
        go_wp2_with fail
        refine Zjo (by kernel_rfl) [.pur (.slice (some ⟨g,0,none⟩) cs.length cap),.pur (.slice (some ⟨g,0,none⟩) cs.length cap),.pur (.int .i64 x),.pur (.pointer (some ⟨g,x * 4,none⟩)),.pur (.pointer (some ⟨g,x * 4+2,none⟩)),.pur (.slice (some ⟨gx,0,none⟩) cx.kids.length xcap),.pur (.int .i64 k),.pur (.pointer (some ⟨gx,k,none⟩)),.pur (.int .i64 nx),
         .pur (.slice (some ⟨g,0,none⟩) cs.length cap),.pur (.int .i64 y),.pur (.pointer (some ⟨g,y * 4,none⟩)),.pur (.pointer (some ⟨g,y * 4+2,none⟩)),.pur (.slice (some ⟨gy,0,none⟩) cy.kids.length ycap),.pur (.int .i64 k),.pur (.pointer (some ⟨gy,k,none⟩)),.pur (.int .i64 ny),.cal,.post (fun v=>v)] 17 19 (by kernel_rfl)
         (fun v u=>∃ (q:Bool) (cs'':List CellS) (ρ'' rk'':Nat→Nat),v = .bool q∧CellsAt u B (.slice (some ⟨g,0,none⟩) cs.length cap) cs'' vs∧gr cs''=gr cs∧UpOk cs'' ρ'' rk''∧Zcx cs''<Zcx cs∧Kept (Zbd (.slice (some ⟨g,0,none⟩) cs.length cap)) wr u ∧
          (q=true→Joined (gr cs) ρ' ρ'' [nx] [ny])∧(q=false→Clash (gr cs) ρ' [nx] [ny]))
         (fun v u=>∃ (q:Bool) (cs'':List CellS) (ρ'' rk'':Nat→Nat),v = .bool q∧CellsAt u B (.slice (some ⟨g,0,none⟩) cs.length cap) cs'' vs∧gr cs''=gr cs∧UpOk cs'' ρ'' rk''∧Zcx cs''<Zcx cs∧Kept (Zbd (.slice (some ⟨g,0,none⟩) cs.length cap)) wr u ∧
          (q=true→Joined (gr cs) ρ' ρ'' [nx] [ny])∧(q=false→Clash (gr cs) ρ' [nx] [ny])) 211 #[.slice (some ⟨g,0,none⟩) cs.length cap,.int .i64 nx,.int .i64 ny] ?_ ?_ rfl (by decide) (Or.inr ⟨by decide,fun _ _ h=>h⟩) ?_
        ·refine HI.out.mono ?_
         rintro e u ⟨q,cs'',ρ'',rk'',rfl,h1,h2,h3,h4,h5,h6,h7⟩
         rw [Hgr.out] at h2 h6 h7
         exact ⟨_,rfl,q,cs'',ρ'',rk'',rfl,h1,h2,h3,by have:=Hrt'.out; omega,⟨h5.os,h5.tape,h5.output,h5.size,h5.block⟩,h6,h7⟩
        ·refine ⟨fun vc => ?_,fun vc => ?_,fun vc => ?_,fun vc => ?_,fun vc => ?_,fun vc => ?_,fun vc => ?_,fun vc => ?_,fun vc => ?_,fun vc => ?_,fun vc => ?_,fun vc => ?_,fun vc => ?_,fun vc => ?_,fun vc => ?_,fun vc => ?_,fun vc => ?_,fun vc => ?_,?_,trivial⟩
         all_goals try (simp [pa,Kd.val,go_sem,xx2,yy2,zx,zy,hlt,hltn,hx,hy]; done)
         intro vc u _
         simp [pa,Kd.val,go_sem]
        rintro vc w2 ⟨q,cs'',ρ'',rk'',rfl,h1,h2,h3,h4,h5,h6,h7⟩
        simp only [paAll,pa,Kd.val,if_true,Act.put]
        have J1:=Zaa h1
        have J2:=Zaa h2
        have J3:=Zaa h3
        have J4:=Zaa h4
        have J5:=Zaa h5
        have J6:=Zaa h6
        have J7:=Zaa h7
        clear h1 h2 h3 h4 h5 h6 h7 xx2 yy2 zx zy
        have Hkk:Hid (∀ j ∈ cx.kids.take k,j<(gr cs).n):=fun j hj=>HG.out.kl x hx j (by rw [(Zec Hcx.out).2]; exact List.mem_of_mem_take hj)
        have Hkk':Hid (∀ j ∈ cy.kids.take k,j<(gr cs).n):=fun j hj=>HG.out.kl y hy j (by rw [(Zec Hcy.out).2]; exact List.mem_of_mem_take hj)
        cases q
        ·go_wp2
         refine bodyPost_ret (v := .bool false) (by simp [results,Tryz.results211,go_sem]) rfl ?_
         have hc:=Clash.snoc Hj.out (J7.out trivial) (cx.kids.drop (k+1)) (cy.kids.drop (k+1))
         rw [← Zjb Hnx.out,← Zjb Hny.out] at hc
         refine Or.inl ⟨rfl,cs'',J1.out,J2.out,⟨ρ'',rk'',J3.out⟩,Nat.le_of_lt J4.out,Hkp.out.trans J5.out,?_⟩
         exact Zok HG.out Hrt.out ha hb (Or.inl ⟨Hxe.out,Hye.out⟩) (by rw [(Zec Hcx.out).1]; exact hvx) (by rw [(Zec Hcx.out).1,(Zec Hcy.out).1]; exact Hnm.out) (by rw [(Zec Hcx.out).2,(Zec Hcy.out).2]; exact hc)
        ·go_wp2
         go_roundg (cx.kids.length - k)
         case measure=>omega
         case rel =>
          have hj2:=Joined.snoc HG.out Hj.out (J6.out trivial) Hkk.out Hkk'.out
          rw [← Zie Hnx.out,← Zie Hny.out] at hj2
          exact ⟨k+1,cs'',ρ'',rk'',by go_num,by omega,by omega,J1.out,J2.out,J3.out,J4.out,Hkp.out.trans J5.out,hj2⟩
       ·have hek:k=cx.kids.length:=by omega
        subst hek
        have Hjj:Hid (Joined (gr cs) ρ ρ' [a] [b]):=by
         have hj3:=Hj.out
         rw [List.take_length,Hkl.out,List.take_length] at hj3
         exact Joined.name HG.out Hrt.out ha hb (Or.inl ⟨Hxe.out,Hye.out⟩) Hxy.out (by rw [(Zec Hcx.out).1]; exact hvx) (by rw [(Zec Hcx.out).1,(Zec Hcy.out).1]; exact Hnm.out) (by rw [(Zec Hcx.out).2,(Zec Hcy.out).2]; exact hj3)
        clear hkx' hky' hcl hkl hkl' hnm
        go_wp2
        go_ret
        exact ⟨true,cs',ρ',rk',rfl,Hcs.out,Hgr.out,Hup.out,Nat.le_of_lt Hrt'.out,Hkp.out,fun _=>Hjj.out,by simp⟩
     ·have hkl':¬ (cx.kids.length:Int)=cy.kids.length:=by omega
      go_enter Tryz.func211,Tryz.ntmps211
      go_wp2_with fail
      refine Hra.out.mono ?_
      rintro e w1 ⟨rfl,rfl⟩
      go_wp2_with fail
      refine Hrb.out.mono ?_
      rintro e w1 ⟨rfl,rfl⟩
      go_wp2_with fail
      go_quiet (fail)
      go_wp2
      go_ret
      exact ⟨false,cs,ρ,rk,rfl,H.out.ext (fun _ _=>rfl),rfl,Hu.out,Nat.le_refl _,⟨rfl,rfl,rfl,Nat.le_refl _,fun _ _ _=>rfl⟩,by simp,fun _=>Hcl.out (Or.inr hkl)⟩
    ·go_enter Tryz.func211,Tryz.ntmps211
     go_wp2_with fail
     refine Hra.out.mono ?_
     rintro e w1 ⟨rfl,rfl⟩
     go_wp2_with fail
     refine Hrb.out.mono ?_
     rintro e w1 ⟨rfl,rfl⟩
     go_wp2_with fail
     go_quiet (fail)
     go_wp2
     go_ret
     exact ⟨false,cs,ρ,rk,rfl,H.out.ext (fun _ _=>rfl),rfl,Hu.out,Nat.le_refl _,⟨rfl,rfl,rfl,Nat.le_refl _,fun _ _ _=>rfl⟩,by simp,fun _=>Hcl.out (Or.inl hnm)⟩
theorem Zxx (m:Nat):Zky m:=by
 induction m using Nat.strongRecOn with
 | _ m ih=>exact Zuc m ih
end Go.Proofs.YtlmjilpjmgjjcaaGreatDoor
