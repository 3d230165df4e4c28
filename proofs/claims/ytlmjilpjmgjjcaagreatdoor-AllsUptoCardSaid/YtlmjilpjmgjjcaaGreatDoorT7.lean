/-
  PROVED HERE: plain facts on laying terms out in cells (no program, no memory; the conditions stand in each statement).
-/
import Derived.Test.YtlmjilpjmgjjcaaGreatDoorT6
set_option linter.unusedSimpArgs false
set_option linter.unusedVariables false
set_option maxRecDepth 10000
set_option maxHeartbeats 4000000
namespace Go.Proofs.YtlmjilpjmgjjcaaGreatDoor
open Go.RowKit
structure CellS where
 sym:Sym
 kids:List Nat
 up:Nat
def Zlm (c:CellS) (v:Value):List Value:=[.string ⟨c.sym.name.toArray⟩,.int .i64 c.sym.num,v,.int .i64 c.up]
def Zdh:List CellS→List Value→List Value
 | c::cs,v::vs=>Zlm c v++Zdh cs vs
 | _,_=>[]
structure CellsAt (w:World) (B:Nat) (lv:Value) (cs:List CellS) (vs:List Value):Prop where
 len:vs.length=cs.length
 owns:w.ownsRow B 314 4 lv cs.length (Zdh cs vs)
 kids:∀ (i:Nat) c v,cs[i]?=some c→vs[i]?=some v→w.ownsRow B 3 1 v c.kids.length (ints c.kids)
theorem Ybb:∀ {cs:List CellS} {vs:List Value} {i:Nat} {c:CellS} {v:Value},cs[i]?=some c→vs[i]?=some v →
  (Zdh cs vs)[i * 4]?=some (.string ⟨c.sym.name.toArray⟩)∧(Zdh cs vs)[i * 4+1]?=some (.int .i64 c.sym.num)∧(Zdh cs vs)[i * 4+2]?=some v∧(Zdh cs vs)[i * 4+3]?=some (.int .i64 c.up):=by
 intro cs
 induction cs with
 | nil=>intro vs i c v h; simp at h
 | cons d cs ih =>
  intro vs i c v h1 h2
  cases vs with
  | nil=>simp at h2
  | cons u vs =>
   cases i with
   | zero =>
    simp at h1 h2
    subst h1 h2
    simp [Zdh,Zlm]
   | succ i =>
    have:=ih (i:=i) (by simpa using h1) (by simpa using h2)
    have hl:(Zlm d u).length=4:=rfl
    rw [Zdh]
    have e:∀ j,(Zlm d u++Zdh cs vs)[(i+1) * 4+j]?=(Zdh cs vs)[i * 4+j]?:=fun j=>by
     rw [Qd (by rw [hl]; omega),hl]
     congr 1; omega
    have e0:=e 0
    simp only [Nat.add_zero] at e0
    rw [e0,e 1,e 2,e 3]
    exact this
theorem CellsAt.at {w:World} {B:Nat} {lv:Value} {cs:List CellS} {vs:List Value} (h:CellsAt w B lv cs vs) {i:Nat} (hi:i<cs.length) :
  ∃ g cap c v,lv = .slice (some ⟨g,0,none⟩) cs.length cap∧cs[i]?=some c∧vs[i]?=some v∧B≤g∧g<w.heap.size∧cs.length≤cap∧w.cell? ⟨g,i * 4,none⟩=some (.string ⟨c.sym.name.toArray⟩)∧w.cell? ⟨g,i * 4+1,none⟩=some (.int .i64 c.sym.num) ∧
   w.cell? ⟨g,i * 4+2,none⟩=some v∧w.cell? ⟨g,i * 4+3,none⟩=some (.int .i64 c.up)∧(∀ j,w.frozen? ⟨g,j,none⟩=false)∧w.ownsRow B 3 1 v c.kids.length (ints c.kids):=by
 obtain ⟨g,cap,cur,rfl,hB,hb,hc⟩:=Zan h.owns (by omega)
 have hv:i<vs.length:=by rw [h.len]; exact hi
 have h1:cs[i]?=some cs[i]:=Qb hi
 have h2:vs[i]?=some vs[i]:=Qb hv
 obtain ⟨a,b,c,d⟩:=Ybb h1 h2
 exact ⟨g,cap,cs[i],vs[i],rfl,h1,h2,hB,Zac hb,hc,Zaf h.owns _ _ a,Zaf h.owns _ _ b,Zaf h.owns _ _ c,Zaf h.owns _ _ d,fun j=>Zae hb j,h.kids i _ _ h1 h2⟩
theorem CellsAt.ext {w w':World} {B:Nat} {lv:Value} {cs:List CellS} {vs:List Value} (h:CellsAt w B lv cs vs) (hk:∀ k,k<w.heap.size→w'.heap[k]?=w.heap[k]?):CellsAt w' B lv cs vs :=
 ⟨h.len,Zak h.owns (fun k e=>hk k (h.owns.lt k e).2),fun i c v h1 h2=>Zak (h.kids i c v h1 h2) (fun k e=>hk k ((h.kids i c v h1 h2).lt k e).2)⟩
def turn (cs:List CellS) (x y:Nat):List CellS:=cs.modify x (fun c => { c with up:=y })
theorem Zin (cs:List CellS) (x y:Nat):(turn cs x y).length=cs.length:=by simp [turn]
theorem Zjj (cs:List CellS) (x y i:Nat):(turn cs x y)[i]?=(cs[i]?).map (fun c=>if x=i then { c with up:=y } else c):=by
 simp only [turn,List.getElem?_modify]
 cases cs[i]? with
 | none=>rfl
 | some c=>simp
theorem Ztv:∀ {cs:List CellS} {vs:List Value} {x y:Nat},vs.length=cs.length→x<cs.length→Zdh (turn cs x y) vs=(Zdh cs vs).set (x * 4+3) (.int .i64 y):=by
 intro cs
 induction cs with
 | nil=>intro vs x y _ h; simp at h
 | cons d cs ih =>
  intro vs x y hl hx
  cases vs with
  | nil=>simp at hl
  | cons u vs =>
   cases x with
   | zero=>simp [turn,Zdh,Zlm]
   | succ x =>
    have e:=ih (vs:=vs) (x:=x) (y:=y) (by simpa using hl) (by simpa using hx)
    have e2:turn (d::cs) (x+1) y=d::turn cs x y:=by simp [turn]
    rw [e2,Zdh,Zdh,e,List.set_append_right _ _ (by simp [Zlm]; omega)]
    congr 2
    simp [Zlm]
    try omega
theorem CellsAt.turn {w:World} {B g cap:Nat} {cs:List CellS} {vs:List Value} (h:CellsAt w B (.slice (some ⟨g,0,none⟩) cs.length cap) cs vs) {x:Nat} (hx:x<cs.length) (y:Nat) :
  CellsAt (w.setCell ⟨g,x * 4+3,none⟩ (.int .i64 y)) B (.slice (some ⟨g,0,none⟩) cs.length cap) (YtlmjilpjmgjjcaaGreatDoor.turn cs x y) vs:=by
 refine ⟨by rw [Zin]; exact h.len,?_,?_⟩
 ·rw [Zin,Ztv h.len hx]
  have ho:=h.owns
  refine ⟨by simpa using ho.1,?_⟩
  rcases ho.2 with ⟨h1,_⟩ | ⟨g',cap',cur,h1,hb,hg,hn,hc,hs,ht⟩
  ·simp at h1
  ·simp at h1
   obtain ⟨rfl,rfl⟩:=h1
   refine .inr ⟨g,cap,cur.setIfInBounds (x * 4+3) (.int .i64 y),rfl,hb,Zai hg _ _,hn,hc,by simpa using hs,?_⟩
   rw [← ht]
   simp [List.take_set]
 ·intro i c v h1 h2
  rw [Zjj] at h1
  cases hc:cs[i]? with
  | none=>rw [hc] at h1; simp at h1
  | some c' =>
   rw [hc] at h1
   simp only [Option.map_some,Qo] at h1
   have hk:=h.kids i c' v hc h2
   have hne:∀ k,v.ownBlock=some k→k≠g:=fun k e e'=>by
    subst e'
    obtain ⟨cur,hcur⟩:=Zar hk k e
    obtain ⟨cur',hcur'⟩:=Zar h.owns k rfl
    rw [hcur] at hcur'
    simp at hcur'
   have:c.kids=c'.kids:=by rw [← h1]; split <;> rfl
   rw [this]
   exact Zak hk (fun k e=>Below.heap_setCell _ _ _ _ (hne k e))
def UpOk (cs:List CellS) (ρ rk:Nat→Nat):Prop:=∀ (i:Nat) c,cs[i]?=some c→c.up<cs.length∧ρ c.up=ρ i∧(c.up=i→ρ i=i)∧(c.up≠i→rk c.up<rk i)
theorem UpOk.root {cs:List CellS} {ρ rk:Nat→Nat} (h:UpOk cs ρ rk):∀ (n i:Nat) c,rk i≤n→cs[i]?=some c→∃ c',cs[ρ i]?=some c'∧c'.up=ρ i∧ρ (ρ i)=ρ i:=by
 intro n
 induction n with
 | zero =>
  intro i c hn hc
  obtain ⟨h1,h2,h3,h4⟩:=h i c hc
  by_cases e:c.up=i
  ·rw [h3 e]; exact ⟨c,hc,e,h3 e⟩
  ·have:=h4 e; omega
 | succ n ih =>
  intro i c hn hc
  obtain ⟨h1,h2,h3,h4⟩:=h i c hc
  by_cases e:c.up=i
  ·rw [h3 e]; exact ⟨c,hc,e,h3 e⟩
  ·have:=h4 e
   rw [← h2]
   exact ih c.up _ (by omega) (Qb h1)
theorem UpOk.rt {cs:List CellS} {ρ rk:Nat→Nat} (h:UpOk cs ρ rk):Rt cs.length ρ:=by
 refine ⟨fun i hi => ?_,fun i hi => ?_⟩
 ·obtain ⟨c',h1,_,_⟩:=h.root _ i _ (Qe _) (Qb hi)
  exact (Qa.1 h1).1
 ·obtain ⟨c',_,_,h3⟩:=h.root _ i _ (Qe _) (Qb hi)
  exact h3
def Zcq (cs:List CellS):Nat:=((List.range cs.length).filter (fun i=>((cs[i]?).map (fun c=>c.up == i)).getD false)).length
theorem Zge {cs:List CellS} {x y:Nat} {c:CellS} (hx:cs[x]?=some c) (hr:c.up=x) (hne:x≠y):Zcq (turn cs x y)<Zcq cs:=by
 unfold Zcq
 rw [Zin]
 refine Zmo (x:=x) (fun i _ hi => ?_) (List.mem_range.2 (Qa.1 hx).1) (by simp [hx,hr]) ?_
 ·rw [Zjj] at hi
  cases hc:cs[i]? with
  | none=>rw [hc] at hi; simp at hi
  | some d =>
   rw [hc] at hi
   simp only [Option.map_some,Option.getD_some,beq_iff_eq] at hi ⊢
   split at hi
   ·rename_i e; subst e; simp at hi; exact absurd hi.symm hne
   ·exact hi
 ·rw [Zjj,hx]
  simp
  exact fun e=>hne e.symm
theorem UpOk.turn {cs:List CellS} {ρ rk:Nat→Nat} (h:UpOk cs ρ rk) {x y:Nat} (hx:x<cs.length) (hy:y<cs.length) (rx:ρ x=x) (ry:ρ y=y) (hne:x≠y) :
  UpOk (YtlmjilpjmgjjcaaGreatDoor.turn cs x y) (mg ρ x y) (fun i=>if ρ i=x then rk i+rk y+1 else rk i):=by
 intro i c hc
 rw [Zjj] at hc
 cases hd:cs[i]? with
 | none=>rw [hd] at hc; simp at hc
 | some d =>
  rw [hd] at hc
  simp only [Option.map_some,Qo] at hc
  obtain ⟨h1,h2,h3,h4⟩:=h i d hd
  rw [Zin]
  by_cases e:x=i
  ·subst e
   rw [if_pos rfl] at hc
   subst hc
   refine ⟨hy,?_,fun e=>absurd e.symm hne,fun _ => ?_⟩
   ·unfold mg
    rw [rx,ry,if_pos rfl,if_neg (fun e=>hne e.symm)]
   ·simp only [rx,ry,if_true]
    rw [if_neg (fun e=>hne e.symm)]; omega
  ·rw [if_neg e] at hc
   subst hc
   refine ⟨h1,?_,fun e' => ?_,fun e' => ?_⟩
   ·unfold mg; rw [h2]
   ·have:=h3 e'
    unfold mg
    rw [this,if_neg (fun e''=>e e''.symm)]
   ·have:=h4 e'
    simp only [h2]
    split <;> omega
theorem Zpw (w:World) (B:Nat) (lv:Value) (cs:List CellS) (vs:List Value) (ρ rk:Nat→Nat) (i:Nat) (h:CellsAt w B lv cs vs) (hu:UpOk cs ρ rk) (hi:i<cs.length) (hl:cs.length≤4000) :
  Calls Tryz.prog 214 #[lv,.int .i64 i] w fun e w'=>e = .returned (.int .i64 (ρ i))∧w'=w:=by
 obtain ⟨g,cap,_,_,rfl,_,_,_,_,hcap,_⟩:=h.at hi
 have H:=Zaa h
 have Hu:=Zaa hu
 clear h hu
 go_enter Tryz.func214,Tryz.ntmps214
 go_wp2
 go_loopg [1] (rk i+1) (fun gk iv wr=>∃ (k:Nat),iv = .int .i64 k∧k<cs.length∧rk k<gk∧ρ k=ρ i∧wr=w)
 case atStart=>exact ⟨i,rfl,hi,by omega,rfl,rfl⟩
 case round =>
  obtain ⟨k,rfl,hk,hg,hρ,rfl⟩:=hrel
  obtain ⟨g',cap',c,v,he,hc,hv,hB,hgl,hcp,c0,c1,c2,c3,cf,hkid⟩:=H.out.at hk
  simp only [Value.slice.injEq,Qo,Addr.mk.injEq] at he
  obtain ⟨⟨rfl,_⟩,_,rfl⟩:=he
  obtain ⟨h1,h2,h3,h4⟩:=Hu.out k c hc
  by_cases e:c.up=k
  ·have e':((c.up:Int) != (k:Int))=false:=by rw [e]; simp
   have Hr:=Zaa (h3 e)
   have Hρ:=Zaa hρ
   clear hc hv hkid h2 h3 h4 hρ
   go_wp2
   go_ret
   exact ⟨by rw [← Hρ.out,Hr.out]; rfl,rfl⟩
  ·have e':((c.up:Int) != (k:Int))=true:=by rw [bne_iff_ne]; omega
   have Hr:=Zaa (h2.trans hρ)
   have h4':=h4 e
   clear hc hv hkid h2 h3 h4 hρ
   go_wp2
   go_roundg (rk k)
   case measure=>omega
   case rel=>exact ⟨c.up,rfl,h1,h4',Hr.out,rfl⟩
end Go.Proofs.YtlmjilpjmgjjcaaGreatDoor
namespace Go.Proofs.YtlmjilpjmgjjcaaGreatDoor
def skip:Nat→List Sym→Nat
 | 0,_=>0
 | _+1,[]=>0
 | k+1,s::r=>skip (k+s.args) r+1
theorem Zkq:∀ {a:List Sym} {j:Nat} (r:List Sym),Wf j a→skip j (a++r)=a.length:=by
 intro a
 induction a with
 | nil=>intro j r h; have h:j=0:=h; subst h; simp [skip]
 | cons s a ih =>
  intro j r h
  obtain ⟨h1,_,_,h2⟩:=h
  obtain ⟨k,rfl⟩:∃ k,j=k+1:=⟨j - 1,by omega⟩
  simp only [List.cons_append,skip,Qf]
  rw [ih r (by simpa using h2)]
theorem Ygw:∀ {l:List Sym} {k:Nat} (i:Nat),Wf k l→i≤l.length→∃ k',Wf k' (l.drop i):=by
 intro l
 induction l with
 | nil=>intro k i h hi; simp at hi; subst hi; exact ⟨k,h⟩
 | cons s l ih =>
  intro k i h hi
  cases i with
  | zero=>exact ⟨k,h⟩
  | succ i =>
   obtain ⟨_,_,_,h2⟩:=h
   simp only [List.drop_succ_cons]
   exact ih i h2 (by simpa using hi)
def Zbn (l:List Sym) (i:Nat):Nat:=i+skip 1 (l.drop i)
def tmAt (l:List Sym) (i:Nat):List Sym:=(l.drop i).take (skip 1 (l.drop i))
def Zbh (l:List Sym):Nat→Nat→List Nat
 | _,0=>[]
 | p,m+1=>p::Zbh l (Zbn l p) m
def Zax (l:List Sym):Nat→Nat→Nat
 | p,0=>p
 | p,m+1=>Zax l (Zbn l p) m
theorem Zdi (l:List Sym) (p m:Nat):(Zbh l p m).length=m:=by
 induction m generalizing p with
 | zero=>rfl
 | succ m ih=>simp [Zbh,ih]
theorem Zci (l:List Sym) (p m:Nat):Zax l p (m+1)=Zbn l (Zax l p m):=by
 induction m generalizing p with
 | zero=>rfl
 | succ m ih=>rw [Zax,ih]; rfl
theorem Zce (l:List Sym) (p m i:Nat) (hi:i<m):(Zbh l p m)[i]?=some (Zax l p i):=by
 induction m generalizing p i with
 | zero=>omega
 | succ m ih =>
  cases i with
  | zero=>rfl
  | succ i=>simp only [Zbh,List.getElem?_cons_succ,Zax]; exact ih _ _ (by omega)
theorem Zew {l:List Sym} {k i:Nat} (h:Wf k l) (hi:i<l.length):Wf 1 (tmAt l i)∧∃ r,l.drop i=tmAt l i++r∧r=l.drop (Zbn l i)∧i<Zbn l i∧Zbn l i≤l.length∧(tmAt l i).length=skip 1 (l.drop i):=by
 obtain ⟨k',hk⟩:=Ygw i h (by omega)
 have hpos:0<k':=by
  rcases Nat.eq_zero_or_pos k' with rfl | hp
  ·cases hd:l.drop i with
   | nil=>have:=congrArg List.length hd; simp at this; omega
   | cons s r=>rw [hd] at hk; obtain ⟨h1,_⟩:=hk; omega
  ·exact hp
 obtain ⟨a,b,e,ha,hb⟩:=Zlp (j:=1) (k:=k' - 1) (l:=l.drop i) (by rw [show 1+(k' - 1)=k' by omega]; exact hk)
 have hs:skip 1 (l.drop i)=a.length:=by rw [e]; exact Zkq b ha
 have ht:tmAt l i=a:=by unfold tmAt; rw [hs,e]; simp
 have hl:a.length+b.length=l.length - i:=by
  have:=congrArg List.length e
  simp at this; omega
 have ha1:=Zcp ha
 refine ⟨by rw [ht]; exact ha,b,by rw [ht]; exact e,?_,by unfold Zbn; omega,by unfold Zbn; omega,by rw [ht,hs]⟩
 unfold Zbn
 rw [hs,← List.drop_drop,e]; simp
theorem Ygx {l:List Sym} {k0:Nat} (h:Wf k0 l):∀ (m:Nat) {p:Nat} {a b:List Sym},l.drop p=a++b→Wf m a→p≤l.length →
  a=((Zbh l p m).map (tmAt l)).flatten∧(∀ x ∈ Zbh l p m,p≤x∧x<p+a.length)∧Zax l p m=p+a.length:=by
 intro m
 induction m with
 | zero =>
  intro p a b e hw _
  have:a=[]:=by
   cases a with
   | nil=>rfl
   | cons s a=>obtain ⟨h1,_⟩:=hw; omega
  subst this
  exact ⟨rfl,by simp [Zbh],rfl⟩
 | succ m ih =>
  intro p a b e hw hp
  obtain ⟨a1,a2,rfl,h1,h2⟩:=Zlp (j:=1) (k:=m) (l:=a) (by rw [Nat.add_comm]; exact hw)
  have hl1:=Zcp h1
  have hpl:p<l.length:=by
   have:=congrArg List.length e
   simp at this; omega
  have hs:skip 1 (l.drop p)=a1.length:=by rw [e,Qi]; exact Zkq _ h1
  have ht:tmAt l p=a1:=by unfold tmAt; rw [hs,e]; simp
  have hb:Zbn l p=p+a1.length:=by unfold Zbn; rw [hs]
  have e2:l.drop (Zbn l p)=a2++b:=by rw [hb,← List.drop_drop,e]; simp
  have hbl:Zbn l p≤l.length:=by
   have:=congrArg List.length e
   simp at this; omega
  obtain ⟨g1,g2,g3⟩:=ih e2 h2 hbl
  refine ⟨?_,?_,?_⟩
  ·simp only [Zbh,List.map_cons,List.flatten_cons,ht]
   rw [← g1]
  ·intro x hx
   simp only [Zbh,Qp] at hx
   simp only [Qg]
   rcases hx with rfl | hx
   ·omega
   ·have:=g2 x hx; omega
  ·rw [Zax,g3,hb,Qg]; omega
theorem Zjk:∀ {l:List Sym} {k i:Nat} {s:Sym},Wf k l→l[i]?=some s→(s.name=[]→s.args=0)∧(s.name≠[]→s.num=0):=by
 intro l
 induction l with
 | nil=>intro k i s _ hs; simp at hs
 | cons t l ih =>
  intro k i s h hs
  obtain ⟨_,h1,h2,h3⟩:=h
  cases i with
  | zero=>simp at hs; subst hs; exact ⟨h1,h2⟩
  | succ i=>exact ih h3 (by simpa using hs)
def Zba (l:List Sym) (i:Nat):Sym:=l.getD i ⟨[],0,0⟩
def grOf (l:List Sym):Gr:=⟨l.length,Zba l,fun i=>Zbh l (i+1) (Zba l i).args⟩
theorem Zhd {l:List Sym} {k i:Nat} (h:Wf k l) (hi:i<l.length):tmAt l i=Zba l i::((Zbh l (i+1) (Zba l i).args).map (tmAt l)).flatten∧(∀ x ∈ Zbh l (i+1) (Zba l i).args,i<x∧x<Zbn l i)∧Zax l (i+1) (Zba l i).args=Zbn l i:=by
 obtain ⟨hw,r,e,hr,hb1,hb2,hb3⟩:=Zew h hi
 obtain ⟨s,q,e2,hq,_⟩:=Zri hw
 have hd:l.drop i=l[i]::l.drop (i+1):=List.drop_eq_getElem_cons hi
 rw [e2] at e
 rw [hd] at e
 simp only [List.cons_append,List.cons.injEq] at e
 have hs:Zba l i=s:=by unfold Zba; simp [hi,e.1]
 obtain ⟨g1,g2,g3⟩:=Ygx h s.args e.2 hq (by omega)
 rw [e2] at hb3
 have hlen:Zbn l i=i+1+q.length:=by unfold Zbn; rw [← hb3]; simp; omega
 rw [hs]
 refine ⟨by rw [e2,← g1],fun x hx => ?_,by rw [g3,hlen]⟩
 have:=g2 x hx
 omega
theorem Zkr {a b:List Sym} (h:Wf 1 a):tmAt (a++b) 0=a:=by
 unfold tmAt; rw [List.drop_zero,Zkq b h]; simp
theorem Zjl {a b:List Sym} (h:Wf 1 b):tmAt (a++b) a.length=b:=by
 unfold tmAt
 have e:(a++b).drop a.length=b++[]:=by simp
 rw [e,Zkq [] h]; simp
theorem Ybc {a b:List Sym} (ha:Wf 1 a) (hb:Wf 1 b):Lay (grOf (a++b)) (tmAt (a++b)) a b:=by
 have hw:Wf 2 (a++b):=Zft ha hb
 refine ⟨⟨?_,?_,?_,?_⟩,?_,?_⟩
 ·intro i hi x hx
  have:=(Zhd hw hi).2.1 x hx
  obtain ⟨_,_,_,_,_,h2,_⟩:=Zew hw hi
  show x<(a++b).length
  omega
 ·intro i hi; exact (Zdi _ _ _).symm
 ·intro i hi hn
  have hs:(a++b)[i]?=some (Zba (a++b) i):=by
   have hi:i<(a++b).length:=hi
   unfold Zba; simp only [List.getD_eq_getElem?_getD]; rw [Qb hi]; rfl
  have:=(Zjk hw hs).1 hn
  show Zbh _ _ (Zba (a++b) i).args=[]
  rw [this]; rfl
 ·intro i hi hn
  have hs:(a++b)[i]?=some (Zba (a++b) i):=by
   have hi:i<(a++b).length:=hi
   unfold Zba; simp only [List.getD_eq_getElem?_getD]; rw [Qb hi]; rfl
  exact (Zjk hw hs).2 hn
 ·intro i hi; exact (Zhd hw hi).1
 ·intro i hi hn
  have hi:i<(a++b).length:=hi
  have hm:Zba (a++b) i ∈ a++b:=by
   unfold Zba; simp only [List.getD_eq_getElem?_getD]; rw [Qb hi]; exact List.getElem_mem hi
  rcases Qk.1 hm with hm | hm
  ·exact Or.inl ⟨_,hm,hn,rfl⟩
  ·exact Or.inr ⟨_,hm,hn,rfl⟩
def Zbj (l:List Sym) (i:Nat):Nat:=if (Zba l i).name=[] then l.findIdx (fun s=>s.name.isEmpty && s.num == (Zba l i).num) else i
theorem Zjz (l:List Sym) {k:Nat} (hw:Wf k l):Firsts (grOf l) (Zbj l):=by
 have key:∀ i,i<l.length→(Zba l i).name=[]→Zbj l i<l.length∧(Zba l (Zbj l i)).name=[]∧(Zba l (Zbj l i)).num=(Zba l i).num:=by
  intro i hi hn
  unfold Zbj
  rw [if_pos hn]
  have hex:∃ x ∈ l,(x.name.isEmpty && x.num == (Zba l i).num)=true:=by
   refine ⟨Zba l i,?_,by simp [hn]⟩
   unfold Zba; simp only [List.getD_eq_getElem?_getD]; rw [Qb hi]; exact List.getElem_mem hi
  have hlt:=List.findIdx_lt_length_of_exists hex
  refine ⟨hlt,?_⟩
  have:=List.findIdx_getElem (w:=hlt)
  have e:Zba l (l.findIdx (fun s=>s.name.isEmpty && s.num == (Zba l i).num))=l[l.findIdx (fun s=>s.name.isEmpty && s.num == (Zba l i).num)]:=by
   generalize l.findIdx (fun s=>s.name.isEmpty && s.num == (Zba l i).num)=z at hlt
   unfold Zba; simp only [List.getD_eq_getElem?_getD]; rw [Qb hlt]; rfl
  rw [e]
  simpa using this
 refine ⟨⟨?_,?_⟩,?_,?_,?_⟩
 ·intro i hi
  by_cases hn:(Zba l i).name=[]
  ·exact (key i hi hn).1
  ·show Zbj l i<_
   unfold Zbj; rw [if_neg hn]; exact hi
 ·intro i hi
  by_cases hn:(Zba l i).name=[]
  ·obtain ⟨h1,h2,h3⟩:=key i hi hn
   show Zbj l (Zbj l i)=Zbj l i
   have e1:Zbj l (Zbj l i)=l.findIdx (fun s=>s.name.isEmpty && s.num == (Zba l (Zbj l i)).num):=by
    generalize Zbj l i=z at h2
    unfold Zbj; rw [if_pos h2]
   have e2:Zbj l i=l.findIdx (fun s=>s.name.isEmpty && s.num == (Zba l i).num):=by unfold Zbj; rw [if_pos hn]
   rw [e1,h3,← e2]
  ·have e:Zbj l i=i:=by unfold Zbj; rw [if_neg hn]
   rw [e,e]
 ·intro i j hi hj h1 h2 e
  show Zbj l i=Zbj l j
  have h1:(Zba l i).name=[]:=h1
  have h2:(Zba l j).name=[]:=h2
  have e:(Zba l i).num=(Zba l j).num:=e
  unfold Zbj; rw [if_pos h1,if_pos h2,e]
 ·intro i hi hn
  have hn:(Zba l i).name≠[]:=hn
  show Zbj l i=i
  unfold Zbj; rw [if_neg hn]
 ·intro i hi hn
  exact (key i hi hn).2
end Go.Proofs.YtlmjilpjmgjjcaaGreatDoor
namespace Go.Proofs.YtlmjilpjmgjjcaaGreatDoor
open Go.RowKit
structure GC where
 sym:Sym
 behind:Nat
 leader:Nat
 size:Int
def gcV (c:GC):List Value:=[.string ⟨c.sym.name.toArray⟩,.int .i64 c.sym.num,.int .i64 c.sym.args,.int .i64 c.behind,.int .i64 c.leader,.int .i64 c.size]
def gcs (l:List GC):List Value:=l.flatMap gcV
theorem Yir {l:List GC} {i:Nat} {c:GC} (h:l[i]?=some c) (j:Nat) (hj:j<6):(gcs l)[i * 6+j]?=(gcV c)[j]?:=by
 induction l generalizing i with
 | nil=>simp at h
 | cons a l ih =>
  have hl:(gcV a).length=6:=rfl
  cases i with
  | zero =>
   simp at h; subst h
   show (gcV a++gcs l)[_]?=_
   rw [Qc (by omega)]
   simp
  | succ i =>
   show (gcV a++gcs l)[_]?=_
   rw [Qd (by omega),← ih (by simpa using h),hl]
   congr 1; omega
theorem Ydz (l:List GC) (c:GC):gcs (l++[c])=gcs l++gcV c:=by simp [gcs]
theorem Zyc {l:List GC} {x:Nat} {c:GC} {f:GC→GC} {j:Nat} {u:Value} (h:l[x]?=some c) (hj:j<6) (hf:gcV (f c)=(gcV c).set j u):gcs (l.modify x f)=(gcs l).set (x * 6+j) u:=by
 induction l generalizing x with
 | nil=>simp at h
 | cons a l ih =>
  have hl:(gcV a).length=6:=rfl
  cases x with
  | zero =>
   simp at h; subst h
   show gcV (f a)++gcs l=(gcV a++gcs l).set _ _
   rw [List.set_append_left _ _ (by omega),hf]
   simp
  | succ x =>
   show gcV a++gcs (l.modify x f)=(gcV a++gcs l).set _ _
   rw [List.set_append_right _ _ (by omega),ih (by simpa using h),hl]
   congr 2; omega
structure GAt (w:World) (gb:Nat) (v:Value) (gs:List GC):Prop where
 box:w.heap[gb]?=some (.cells #[v] 266 (0,0))
 owns:w.ownsRow 0 292 6 v gs.length (gcs gs)
theorem Zvv {w:World} {B:Nat} {e:TypeId} {size n g cap:Nat} {xs:List Value} (h:w.ownsRow B e size (.slice (some ⟨g,0,none⟩) n cap) n xs) (i:Nat) (u:Value):(w.setCell ⟨g,i,none⟩ u).ownsRow B e size (.slice (some ⟨g,0,none⟩) n cap) n (xs.set i u):=by
 refine ⟨by simpa using h.1,?_⟩
 rcases h.2 with ⟨h1,_⟩ | ⟨g',cap',cur,h1,hb,hg,hn,hc,hs,ht⟩
 ·simp at h1
 ·simp at h1
  obtain ⟨rfl,rfl⟩:=h1
  refine .inr ⟨g,cap,cur.setIfInBounds i u,rfl,hb,Zai hg _ _,hn,hc,by simpa using hs,?_⟩
  rw [← ht]
  simp [List.take_set]
theorem GAt.shape {w:World} {gb:Nat} {v:Value} {gs:List GC} (h:GAt w gb v gs) (hi:0<gs.length):∃ cb cap,v = .slice (some ⟨cb,0,none⟩) gs.length cap∧cb<w.heap.size∧gs.length≤cap∧cb≠gb∧(∀ j,w.frozen? ⟨cb,j,none⟩=false):=by
 obtain ⟨g,cap,cur,rfl,hB,hb,hc⟩:=Zan h.owns hi
 refine ⟨g,cap,rfl,Zac hb,hc,fun e => ?_,fun j=>Zae hb j⟩
 subst e
 rw [h.box] at hb
 simp at hb
theorem GAt.cell {w:World} {gb cb cap:Nat} {gs:List GC} (h:GAt w gb (.slice (some ⟨cb,0,none⟩) gs.length cap) gs) {i:Nat} {c:GC} (hc:gs[i]?=some c) :
  w.cell? ⟨cb,i * 6,none⟩=some (.string ⟨c.sym.name.toArray⟩)∧w.cell? ⟨cb,i * 6+1,none⟩=some (.int .i64 c.sym.num)∧w.cell? ⟨cb,i * 6+2,none⟩=some (.int .i64 c.sym.args)∧w.cell? ⟨cb,i * 6+3,none⟩=some (.int .i64 c.behind)∧w.cell? ⟨cb,i * 6+4,none⟩=some (.int .i64 c.leader)∧w.cell? ⟨cb,i * 6+5,none⟩=some (.int .i64 c.size):=by
 have e:=fun j hj=>Yir hc j hj
 refine ⟨Zaf h.owns _ _ ?_,Zaf h.owns _ _ (by rw [e 1 (by omega)]; rfl),Zaf h.owns _ _ (by rw [e 2 (by omega)]; rfl),Zaf h.owns _ _ (by rw [e 3 (by omega)]; rfl),Zaf h.owns _ _ (by rw [e 4 (by omega)]; rfl),Zaf h.owns _ _ (by rw [e 5 (by omega)]; rfl)⟩
 have:=e 0 (by omega)
 simp only [Nat.add_zero] at this
 rw [this]; rfl
theorem GAt.on {w w':World} {gb:Nat} {v:Value} {gs:List GC} (h:GAt w gb v gs) (hk:∀ k,k<w.heap.size→w'.heap[k]?=w.heap[k]?):GAt w' gb v gs :=
 ⟨(hk gb (Zac h.box)).trans h.box,Zak h.owns (fun k e=>hk k (h.owns.lt k e).2)⟩
theorem GAt.ext {w w':World} {gb:Nat} {v:Value} {gs:List GC} (h:GAt w gb v gs) (e:Ext w w'):GAt w' gb v gs:=h.on (fun k hk=>e.block k hk)
theorem GAt.put {w:World} {gb cb cap:Nat} {gs:List GC} (h:GAt w gb (.slice (some ⟨cb,0,none⟩) gs.length cap) gs) {x:Nat} {c:GC} (hc:gs[x]?=some c) {f:GC→GC} {j:Nat} {u:Value} (hj:j<6) (hf:gcV (f c)=(gcV c).set j u) :
  GAt (w.setCell ⟨cb,x * 6+j,none⟩ u) gb (.slice (some ⟨cb,0,none⟩) gs.length cap) (gs.modify x f):=by
 have hne:cb≠gb:=by
  obtain ⟨cb',cap',e,_,_,hne,_⟩:=h.shape (by have:=(Qa.1 hc).1; omega)
  simp at e
  rw [e.1]; exact hne
 refine ⟨(Below.heap_setCell _ _ _ _ (fun e=>hne e.symm)).trans h.box,?_⟩
 rw [Zyc hc hj hf,List.length_modify]
 exact Zvv h.owns _ _
def GC.up (c:GC):CellS:=⟨c.sym,[],c.leader⟩
def Zhm (gs:List GC) (x y:Nat):List GC:=gs.modify x (fun c => { c with leader:=y })
theorem Zvw (gs:List GC) (x y:Nat):(Zhm gs x y).map GC.up=turn (gs.map GC.up) x y:=by
 apply List.ext_getElem?
 intro i
 rw [Zjj,Qj,Zhm,List.getElem?_modify,Qj]
 cases gs[i]? with
 | none=>rfl
 | some c=>simp; split <;> simp_all [GC.up]
theorem Zhx (gs:List GC) (x y:Nat):(Zhm gs x y).length=gs.length:=by simp [Zhm]
structure CellsOf (gs:List GC) (l:List Sym):Prop where
 len:gs.length=l.length
 all:∀ i c,gs[i]?=some c→c.sym=Zba l i∧c.behind=Zbn l i
theorem CellsOf.lead {gs:List GC} {l:List Sym} (h:CellsOf gs l) (x y:Nat):CellsOf (Zhm gs x y) l :=
 ⟨by rw [Zhx]; exact h.len,fun i c hc=>by
  rw [Zhm,List.getElem?_modify] at hc
  cases hd:gs[i]? with
  | none=>rw [hd] at hc; simp at hc
  | some d =>
   rw [hd] at hc
   obtain ⟨h1,h2⟩:=h.all i d hd
   simp only [Option.map_eq_map,Option.map_some,Qo] at hc
   subst hc
   split <;> exact ⟨h1,h2⟩⟩
theorem Zgf (w:World) (gb:Nat) (v:Value) (gs:List GC) (ρ rk:Nat→Nat) (i:Nat) (h:GAt w gb v gs) (hu:UpOk (gs.map GC.up) ρ rk) (hi:i<gs.length) (hl:gs.length≤4000) :
  Calls Tryz.prog 189 #[.pointer (some ⟨gb,0,none⟩),.int .i64 i] w fun e w'=>e = .returned (.int .i64 (ρ i))∧w'=w:=by
 obtain ⟨cb,cap,rfl,hcb,hcap,_,_⟩:=h.shape (by omega)
 have b0:w.cell? ⟨gb,0,none⟩=some (.slice (some ⟨cb,0,none⟩) gs.length cap):=Zab h.box 0 _ rfl
 have hgb:=Zac h.box
 have H:=Zaa h
 have Hu:=Zaa hu
 clear h hu
 go_enter Tryz.func189,Tryz.ntmps189
 go_wp2
 go_loopg [1] (rk i+1) (fun gk iv wr=>∃ (k:Nat),iv = .int .i64 k∧k<gs.length∧rk k<gk∧ρ k=ρ i∧wr=w)
 case atStart=>exact ⟨i,rfl,hi,by omega,rfl,rfl⟩
 case round =>
  obtain ⟨k,rfl,hk,hg,hρ,rfl⟩:=hrel
  obtain ⟨c,hc⟩:∃ c,gs[k]?=some c:=⟨_,Qb hk⟩
  obtain ⟨c0,c1,c2,c3,c4,c5⟩:=H.out.cell hc
  obtain ⟨h1,h2,h3,h4⟩:=Hu.out k c.up (by rw [Qj,hc]; rfl)
  have h1:c.leader<gs.length:=by simpa [GC.up] using h1
  have h2:ρ c.leader=ρ k:=h2
  by_cases e:c.leader=k
  ·have e':((c.leader:Int) != (k:Int))=false:=by rw [e]; simp
   have Hr:=Zaa (h3 e)
   have Hρ:=Zaa hρ
   clear hc h2 h3 h4 hρ
   go_wp2
   go_ret
   exact ⟨by rw [← Hρ.out,Hr.out]; rfl,rfl⟩
  ·have e':((c.leader:Int) != (k:Int))=true:=by rw [bne_iff_ne]; omega
   have Hr:=Zaa (h2.trans hρ)
   have h4':=h4 e
   clear hc h2 h3 h4 hρ
   go_wp2
   go_roundg (rk k)
   case measure=>omega
   case rel=>exact ⟨c.leader,rfl,h1,h4',Hr.out,rfl⟩
theorem Zit (w:World) (gb:Nat) (v:Value) (gs:List GC) (i:Nat) (c:GC) (h:GAt w gb v gs) (hc:gs[i]?=some c) (hl:gs.length≤4000) :
  Calls Tryz.prog 190 #[.pointer (some ⟨gb,0,none⟩),.int .i64 i] w fun e w'=>e = .returned (.bool c.sym.name.isEmpty)∧w'=w:=by
 have hi:=(Qa.1 hc).1
 obtain ⟨cb,cap,rfl,hcb,hcap,_,_⟩:=h.shape (by omega)
 have b0:w.cell? ⟨gb,0,none⟩=some (.slice (some ⟨cb,0,none⟩) gs.length cap):=Zab h.box 0 _ rfl
 have hgb:=Zac h.box
 obtain ⟨c0,c1,c2,c3,c4,c5⟩:=h.cell hc
 clear h hc
 go_enter Tryz.func190,Tryz.ntmps190
 go_wp2
 go_ret
 exact ⟨by simp,rfl⟩
def Zej (s t:Sym):Bool:=s.name.isEmpty && (t.name.isEmpty && s.num == t.num)
theorem Zyd (w:World) (s t:Sym) :
  Calls Tryz.prog 207 #[.agg #[.string ⟨s.name.toArray⟩,.int .i64 s.num,.int .i64 s.args],.agg #[.string ⟨t.name.toArray⟩,.int .i64 t.num,.int .i64 t.args]] w fun e w'=>e = .returned (.bool (Zej s t))∧Ext w w':=by
 have Hs:Hid (∀ a b c,a=s.name.isEmpty→b=t.name.isEmpty→c=(s.num == t.num)→Zej s t=(a && (b && c))):=fun a b c h1 h2 h3=>by rw [h1,h2,h3]; rfl
 cases h1:s.name.isEmpty with
 | false =>
  go_enter Tryz.func207,Tryz.ntmps207
  go_wp2
  go_ret
  refine ⟨?_,(Ext.of (by repeat' (first | with_reducible(first|exact Qx _ _|apply Kept.drew|apply Kept.drewN|apply Qz|refine Qy ?_ ?_ _)|exact fun h=>absurd h (by simp <;> omega))))⟩
  rw [Hs.out false _ _ h1.symm rfl rfl]; rfl
 | true =>
  cases h2:t.name.isEmpty with
  | false =>
   go_enter Tryz.func207,Tryz.ntmps207
   go_wp2
   go_ret
   refine ⟨?_,(Ext.of (by repeat' (first | with_reducible(first|exact Qx _ _|apply Kept.drew|apply Kept.drewN|apply Qz|refine Qy ?_ ?_ _)|exact fun h=>absurd h (by simp <;> omega))))⟩
   rw [Hs.out true false _ h1.symm h2.symm rfl]; rfl
  | true =>
   have Hn:Hid (((s.num:Int) == (t.num:Int))=(s.num == t.num)):=by
    show _=_
    rw [Bool.eq_iff_iff,beq_iff_eq,beq_iff_eq]; omega
   go_enter Tryz.func207,Tryz.ntmps207
   go_wp2
   go_ret
   refine ⟨?_,(Ext.of (by repeat' (first | with_reducible(first|exact Qx _ _|apply Kept.drew|apply Kept.drewN|apply Qz|refine Qy ?_ ?_ _)|exact fun h=>absurd h (by simp <;> omega))))⟩
   rw [Hs.out true true _ h1.symm h2.symm rfl,← Hn.out]; rfl
theorem Joined.swap {G:Gr} {ρ ρ':Nat→Nat} {xs ys:List Nat} (h:Joined G ρ ρ' xs ys):Joined G ρ ρ' ys xs:=⟨h.rt,h.grow,h.eq.symm,h.cg,fun val hv hc e=>h.con val hv hc e.symm⟩
theorem Clash.swap {G:Gr} {ρ:Nat→Nat} {xs ys:List Nat} (h:Clash G ρ xs ys):Clash G ρ ys xs:=fun val hv hc e=>h val hv hc e.symm
theorem Ygy {l:List Sym} (hw:Wf 2 l):∃ a b,l=a++b∧Wf 1 a∧Wf 1 b∧Lay (grOf l) (tmAt l) a b:=by
  obtain ⟨a,b,e,ha,hb⟩:=Zlp (j:=1) (k:=1) hw
  exact ⟨a,b,e,ha,hb,by rw [e]; exact Ybc ha hb⟩
theorem Yea {l:List Sym} (hw:Wf 2 l):(grOf l).Ok:=by
  obtain ⟨a,b,_,_,_,h⟩:=Ygy hw
  exact h.ok
structure JoinLeft (gb:Nat) (v:Value) (gs:List GC) (l:List Sym) (w w':World) (gs':List GC):Prop where
  at':GAt w' gb v gs'
  cells:CellsOf gs' l
  sizes:gs'.map (·.size)=gs.map (·.size)
  kept:Kept (Zap v) w w'
  roots:Zcq (gs'.map GC.up)≤Zcq (gs.map GC.up)
def Ygz (gb:Nat) (v:Value) (gs:List GC) (l:List Sym) (ρ:Nat→Nat) (a b:Nat) (w:World) (e:Ending) (w':World):Prop:=∃ gs',JoinLeft gb v gs l w w' gs'∧∃ ρ' rk',UpOk (gs'.map GC.up) ρ' rk' ∧
  ((e = .returned (.bool true)∧Joined (grOf l) ρ ρ' [a] [b])∨(e = .returned (.bool false)∧Clash (grOf l) ρ [a] [b]))
def Zpx (m:Nat):Prop:=∀ (w:World) (gb:Nat) (v:Value) (gs:List GC) (l:List Sym) (ρ rk:Nat→Nat) (a b:Nat),GAt w gb v gs→CellsOf gs l→Wf 2 l→UpOk (gs.map GC.up) ρ rk→Zcq (gs.map GC.up)≤m→a<gs.length→b<gs.length→gs.length≤4000 →
  Calls Tryz.prog 158 #[.pointer (some ⟨gb,0,none⟩),.int .i64 a,.int .i64 b] w fun e w'=>Ygz gb v gs l ρ a b w e w'
abbrev kidsAt (l:List Sym) (x:Nat):List Nat:=(grOf l).kids x
def Zry (gb:Nat) (v:Value) (gs:List GC) (l:List Sym) (ρ:Nat→Nat) (x y:Nat) (w:World) (e:Ending) (w':World):Prop:=∃ gs',JoinLeft gb v gs l w w' gs'∧∃ ρ' rk',UpOk (gs'.map GC.up) ρ' rk' ∧
    ((e = .returned (.bool true)∧(Zba l x).name=(Zba l y).name∧(Zba l x).args=(Zba l y).args∧Joined (grOf l) ρ ρ' (kidsAt l x) (kidsAt l y)) ∨
     (e = .returned (.bool false)∧((Zba l x).name≠(Zba l y).name∨(Zba l x).args≠(Zba l y).args∨Clash (grOf l) ρ (kidsAt l x) (kidsAt l y))))
def Zoo (m:Nat):Prop:=∀ (w:World) (gb:Nat) (v:Value) (gs:List GC) (l:List Sym) (ρ rk:Nat→Nat) (x y:Nat),GAt w gb v gs→CellsOf gs l→Wf 2 l→UpOk (gs.map GC.up) ρ rk→Zcq (gs.map GC.up)≤m→x<gs.length→y<gs.length→gs.length≤4000 →
  Calls Tryz.prog 191 #[.pointer (some ⟨gb,0,none⟩),.int .i64 x,.int .i64 y] w fun e w'=>Zry gb v gs l ρ x y w e w'
theorem JoinLeft.trans {gb:Nat} {v:Value} {gs gs1 gs2:List GC} {l:List Sym} {w w1 w2:World} (h:JoinLeft gb v gs l w w1 gs1) (k:JoinLeft gb v gs1 l w1 w2 gs2):JoinLeft gb v gs l w w2 gs2 :=
  ⟨k.at',k.cells,k.sizes.trans h.sizes,h.kept.trans k.kept,Qq k.roots h.roots⟩
theorem JoinLeft.len {gb:Nat} {v:Value} {gs:List GC} {l:List Sym} {w w':World} {gs':List GC} (h:JoinLeft gb v gs l w w' gs'):gs'.length=gs.length:=by simpa using congrArg List.length h.sizes
theorem Ybd {l:List Sym} {x k m:Nat} (h:k≤m):(Zbh l x m).take k=Zbh l x k:=by
  induction m generalizing x k with
  | zero =>
    have:k=0:=by omega
    subst this; rfl
  | succ m ih =>
    cases k with
    | zero=>rfl
    | succ k=>simp only [Zbh,List.take_succ_cons]; rw [ih (by omega)]
theorem Zrz (l:List Sym) (x k:Nat):Zbh l x (k+1)=Zbh l x k++[Zax l x k]:=by
  induction k generalizing x with
  | zero=>rfl
  | succ k ih =>
    have e:Zbh l x (k+1+1)=x::Zbh l (Zbn l x) (k+1):=rfl
    rw [e,ih]
    rfl
theorem Zmq {l:List Nat} {k n:Nat} (h:l[k]?=some n):l=l.take k++n::l.drop (k+1):=by
  obtain ⟨hk,e⟩:=Qa.1 h
  have:=List.drop_eq_getElem_cons hk
  rw [e] at this
  rw [← this,List.take_append_drop]
theorem Zop {l:List Sym} {x k m:Nat} (h:k<m):Zbh l x m=Zbh l x k++Zax l x k::(Zbh l x m).drop (k+1):=by
  have h2:=Zce l x m k h
  have:=Zmq h2
  rw [Ybd (by omega)] at this
  exact this
theorem Ztw (m:Nat) (IH:Zpx m):Zoo m:=by
  intro w gb v gs l ρ rk x y h hc hw hu hm hx hy hl
  obtain ⟨cx,hcx⟩:∃ c,gs[x]?=some c:=⟨_,Qb hx⟩
  obtain ⟨cy,hcy⟩:∃ c,gs[y]?=some c:=⟨_,Qb hy⟩
  obtain ⟨cb,cap,rfl,hcb,hcap,hne,hfz⟩:=h.shape (by omega)
  have b0:w.cell? ⟨gb,0,none⟩=some (.slice (some ⟨cb,0,none⟩) gs.length cap):=Zab h.box 0 _ rfl
  have hgb:=Zac h.box
  obtain ⟨x0,x1,x2,_,_,_⟩:=h.cell hcx
  obtain ⟨y0,y1,y2,_,_,_⟩:=h.cell hcy
  obtain ⟨sx,_⟩:=hc.all x cx hcx
  obtain ⟨sy,_⟩:=hc.all y cy hcy
  have hlen:=hc.len
  obtain ⟨ex1,ex2,ex3⟩:=Zhd hw (i:=x) (by omega)
  obtain ⟨ey1,ey2,ey3⟩:=Zhd hw (i:=y) (by omega)
  obtain ⟨_,_,_,_,_,hbx,_⟩:=Zew hw (i:=x) (by omega)
  obtain ⟨_,_,_,_,_,hby,_⟩:=Zew hw (i:=y) (by omega)
  have hkl:∀ k,k<(Zba l x).args→Zax l (x+1) k<gs.length:=fun k hk=>by
    have:=ex2 _ (Qh (Zce l (x+1) _ k hk))
    omega
  have hkr:∀ k,k<(Zba l y).args→Zax l (y+1) k<gs.length:=fun k hk=>by
    have:=ey2 _ (Qh (Zce l (y+1) _ k hk))
    omega
  have hargs:(Zba l x).args≤4000:=by
    have h1:=congrArg List.length ex1
    have h2:=Zdi l (x+1) (Zba l x).args
    rcases Nat.lt_or_ge 4000 (Zba l x).args with h3 | h3
    · exfalso
      have h4:=hkl 4000 h3
      have mono:∀ k,k≤(Zba l x).args→x+1+k≤Zax l (x+1) k:=by
        intro k
        induction k with
        | zero=>intro _; simp [Zax]
        | succ k ih =>
          intro hk
          have:=ih (by omega)
          rw [Zci]
          have:=hkl k (by omega)
          obtain ⟨_,_,_,_,h6,_⟩:=Zew hw (i:=Zax l (x+1) k) (by omega)
          omega
      have:=mono 4000 (by omega)
      omega
    · exact h3
  rw [sx] at x0 x1 x2
  rw [sy] at y0 y1 y2
  obtain ⟨s,hs⟩:∃ s,s=Zba l x:=⟨_,rfl⟩
  obtain ⟨t,ht⟩:∃ t,t=Zba l y:=⟨_,rfl⟩
  rw [← hs] at x0 x1 x2 hkl hargs
  rw [← ht] at y0 y1 y2 hkr
  have Hs:=Zaa hs
  have Ht:=Zaa ht
  have H:=Zaa h
  have Hc:=Zaa hc
  have Hw:=Zaa hw
  have Hu:=Zaa hu
  have Hm:=Zaa hm
  have Hih:=Zaa IH
  have Hkl:=Zaa hkl
  have Hkr:=Zaa hkr
  have Hkx:Hid (kidsAt l x=Zbh l (x+1) s.args):=by show _=_; rw [hs]; rfl
  have Hky:Hid (kidsAt l y=Zbh l (y+1) t.args):=by show _=_; rw [ht]; rfl
  have hxl:x<l.length:=by omega
  have hyl:y<l.length:=by omega
  clear h hc hw hu hm IH hkl hkr hcx hcy sx sy ex1 ex2 ex3 ey1 ey2 ey3 hbx hby hlen hs ht
  have Hno:Hid (∀ w',Kept Zbf w w'→(s.name≠t.name∨s.args≠t.args)→Zry gb (.slice (some ⟨cb,0,none⟩) gs.length cap) gs l ρ x y w (.returned (.bool false)) w'):=fun w' hk hd=>by
    refine ⟨gs,⟨H.out.on (fun k hk'=>hk.block k hk' (fun h=>h)),Hc.out,rfl,hk.mono (fun _ _ h=>h.elim),Qe _⟩,ρ,rk,Hu.out,Or.inr ⟨rfl,?_⟩⟩
    rw [← Hs.out,← Ht.out]
    rcases hd with hd | hd
    · exact Or.inl hd
    · exact Or.inr (Or.inl hd)
  by_cases hnm:s.name=t.name
  · by_cases har:s.args=t.args
    · have hnb:(s.name != t.name)=false:=by rw [hnm]; simp
      have hab:((s.args:Int) != (t.args:Int))=false:=by rw [har]; simp
      have Hnm:=Zaa hnm
      have Har:=Zaa har
      clear hnm har
      go_enter Tryz.func191,Tryz.ntmps191
      go_wp2
      go_loopg [9,10,11] (s.args+1) (fun gk av bv nv wr=>∃ (k:Nat) (gs':List GC) (ρ' rk':Nat→Nat),av = .int .i64 (Zax l (x+1) k:Nat)∧bv = .int .i64 (Zax l (y+1) k:Nat)∧nv = .int .i64 k∧k≤s.args∧s.args - k<gk∧JoinLeft gb (.slice (some ⟨cb,0,none⟩) gs.length cap) gs l w wr gs'∧UpOk (gs'.map GC.up) ρ' rk' ∧
        Joined (grOf l) ρ ρ' (Zbh l (x+1) k) (Zbh l (y+1) k)∧wr.heap[w.heap.size]?=some (.cells #[.string ⟨t.name.toArray⟩,.int .i64 s.num,.int .i64 s.args] 133 (0,0)))
      case atStart =>
        have hrt:=Hu.out.rt
        rw [Ql,Hc.out.len] at hrt
        refine ⟨0,gs,ρ,rk,by simp [Zax],by simp [Zax],by go_num,Qm _,by omega,⟨H.out.ext (Ext.of (by repeat' (first | with_reducible(first|exact Qx _ _|apply Kept.drew|apply Kept.drewN|apply Qz|refine Qy ?_ ?_ _)|exact fun h=>absurd h (by simp <;> omega)))),Hc.out,rfl,((Qx _ w).alloc _).alloc _,Qe _⟩,Hu.out,Joined.nil hrt,?_⟩
        have:=Zag (heap_alloc_new w (.cells #[.string ⟨t.name.toArray⟩,.int .i64 s.num,.int .i64 s.args] 133)) (.cells #[.string ⟨t.name.toArray⟩,.int .i64 t.num,.int .i64 t.args] 133)
        simpa using this
      case round =>
        obtain ⟨k,gs',ρ',rk',rfl,rfl,rfl,hk,hgk,hJ,hup,hj,hbox⟩:=hrel
        obtain ⟨s0,s1,s2,sf⟩:=box3 hbox
        have hsr:=hJ.kept.size
        have hl':=hJ.len
        have b0:wr.cell? ⟨gb,0,none⟩=some (.slice (some ⟨cb,0,none⟩) gs.length cap):=Zab hJ.at'.box 0 _ rfl
        have hgb':=Zac hJ.at'.box
        have hwb:=Zac hbox
        have HJ:=Zaa hJ
        have Hup:=Zaa hup
        have Hj:=Zaa hj
        have Hbox:=Zaa hbox
        clear hJ hup hj hbox
        by_cases hlt:k<s.args
        · have ha:=Hkl.out k hlt
          have hb:=Hkr.out k (by have:=Har.out; omega)
          obtain ⟨ak,hak⟩:∃ a,a=Zax l (x+1) k:=⟨_,rfl⟩
          obtain ⟨bk,hbk⟩:∃ b,b=Zax l (y+1) k:=⟨_,rfl⟩
          rw [← hak] at ha ⊢
          rw [← hbk] at hb ⊢
          have hna:¬ ((gs.length:Int)≤(ak:Int)):=by omega
          have hnb2:¬ ((gs.length:Int)≤(bk:Int)):=by omega
          have HI:=Zaa (Hih.out wr gb (.slice (some ⟨cb,0,none⟩) gs.length cap) gs' l ρ' rk' ak bk HJ.out.at' HJ.out.cells Hw.out Hup.out (Qq HJ.out.roots Hm.out) (by omega) (by omega) (by omega))
          have Hak:=Zaa hak
          have Hbk:=Zaa hbk
          clear hak hbk
          go_wp2_with fail
          refine HI.out.mono ?_
          rintro e w1 ⟨gs2,hJ2,ρ2,rk2,hup2,hres⟩
          have hl2:=hJ2.len
          have hbox2:=(hJ2.kept.block _ hwb (fun e=>by
            have e:cb=w.heap.size:=by simpa [Zap,Value.ownBlock] using e
            omega)).trans Hbox.out
          have b0:w1.cell? ⟨gb,0,none⟩=some (.slice (some ⟨cb,0,none⟩) gs.length cap):=Zab hJ2.at'.box 0 _ rfl
          have hgb2:=Zac hJ2.at'.box
          have hs2:=hJ2.kept.size
          obtain ⟨ca,hca⟩:∃ c,gs2[ak]?=some c:=⟨_,Qb (by omega)⟩
          obtain ⟨cb2,hcb2⟩:∃ c,gs2[bk]?=some c:=⟨_,Qb (by omega)⟩
          have hat2:GAt w1 gb (.slice (some ⟨cb,0,none⟩) gs2.length cap) gs2:=by rw [hl2,hl']; exact hJ2.at'
          obtain ⟨_,_,_,a3,_,_⟩:=hat2.cell hca
          obtain ⟨_,_,_,b3,_,_⟩:=hat2.cell hcb2
          rw [(hJ2.cells.all _ _ hca).2] at a3
          rw [(hJ2.cells.all _ _ hcb2).2] at b3
          have HJ2:=Zaa hJ2
          have Hup2:=Zaa hup2
          have Hbox2:=Zaa hbox2
          clear hJ2 hup2 hbox2 hat2 hca hcb2
          rcases hres with ⟨rfl,hj2⟩ | ⟨rfl,hcl⟩
          · have Hj2:=Zaa hj2
            clear hj2
            go_wp2
            go_roundg (s.args - k)
            case measure=>omega
            case rel =>
              refine ⟨k+1,gs2,ρ2,rk2,by rw [Zci,← Hak.out],by rw [Zci,← Hbk.out],by go_num,by omega,by omega,HJ.out.trans HJ2.out,Hup2.out,?_,Hbox2.out⟩
              rw [Zrz,Zrz,← Hak.out,← Hbk.out]
              have hG:=Yea Hw.out
              refine Joined.snoc hG Hj.out Hj2.out (fun j hj => ?_) (fun j hj => ?_)
              · obtain ⟨i,hi⟩:=List.mem_iff_getElem?.1 hj
                have hi2:=(Qa.1 hi).1
                rw [Zdi] at hi2
                rw [Zce l (x+1) k i hi2] at hi
                simp at hi
                subst hi
                have:=Hkl.out i (by omega)
                show _<l.length
                have:=Hc.out.len; omega
              · obtain ⟨i,hi⟩:=List.mem_iff_getElem?.1 hj
                have hi2:=(Qa.1 hi).1
                rw [Zdi] at hi2
                rw [Zce l (y+1) k i hi2] at hi
                simp at hi
                subst hi
                have:=Hkr.out i (by have:=Har.out; omega)
                show _<l.length
                have:=Hc.out.len; omega
          · have Hcl:=Zaa hcl
            clear hcl
            go_wp2
            go_ret
            refine ⟨gs2,HJ.out.trans HJ2.out,ρ2,rk2,Hup2.out,Or.inr ⟨rfl,Or.inr (Or.inr ?_)⟩⟩
            have hc1:=Hcl.out
            rw [Hak.out,Hbk.out] at hc1
            have:=Clash.snoc Hj.out hc1 ((Zbh l (x+1) s.args).drop (k+1)) ((Zbh l (y+1) t.args).drop (k+1))
            rw [← Zop hlt,← Zop (by have:=Har.out; omega)] at this
            rw [Hkx.out,Hky.out]; exact this
        · have hek:k=s.args:=by omega
          subst hek
          go_wp2
          go_ret
          refine ⟨gs',HJ.out,ρ',rk',Hup.out,Or.inl ⟨rfl,?_,?_,?_⟩⟩
          · rw [← Hs.out,← Ht.out]; exact Hnm.out
          · rw [← Hs.out,← Ht.out]; exact Har.out
          · rw [Hkx.out,Hky.out,← Har.out]; exact Hj.out
    · have hnb:(s.name != t.name)=false:=by rw [hnm]; simp
      have hab:((s.args:Int) != (t.args:Int))=true:=by rw [bne_iff_ne]; omega
      have Hd:=Zaa har
      clear hnm har
      go_enter Tryz.func191,Tryz.ntmps191
      go_wp2
      all_goals
        go_ret
        exact Hno.out _ (((Qx _ w).alloc _).alloc _) (Or.inr Hd.out)
  · have hnb:(s.name == t.name)=false:=by simpa using hnm
    have Hd:=Zaa hnm
    clear hnm
    go_enter Tryz.func191,Tryz.ntmps191
    go_wp2
    all_goals
      go_ret
      exact Hno.out _ (((Qx _ w).alloc _).alloc _) (Or.inl Hd.out)
theorem Ybe (m:Nat) (IH:∀ k,k<m→Zoo k):Zpx m:=by
  intro w gb v gs l ρ rk a b h hc hw hu hm ha hb hl
  have hrt:=hu.rt
  rw [Ql] at hrt
  have hx:=hrt.lt a ha
  have hy:=hrt.lt b hb
  have rx:=hrt.idem a ha
  have ry:=hrt.idem b hb
  obtain ⟨x,hxe⟩:∃ x,x=ρ a:=⟨_,rfl⟩
  obtain ⟨y,hye⟩:∃ y,y=ρ b:=⟨_,rfl⟩
  rw [← hxe] at hx rx
  rw [← hye] at hy ry
  obtain ⟨cx,hcx⟩:∃ c,gs[x]?=some c:=⟨_,Qb hx⟩
  obtain ⟨cy,hcy⟩:∃ c,gs[y]?=some c:=⟨_,Qb hy⟩
  obtain ⟨cb,cap,rfl,hcb,hcap,hne,hfz⟩:=h.shape (by omega)
  have b0:w.cell? ⟨gb,0,none⟩=some (.slice (some ⟨cb,0,none⟩) gs.length cap):=Zab h.box 0 _ rfl
  have hgb:=Zac h.box
  have x4:=(h.cell hcx).2.2.2.2.1
  have y4:=(h.cell hcy).2.2.2.2.1
  obtain ⟨sx,_⟩:=hc.all x cx hcx
  obtain ⟨sy,_⟩:=hc.all y cy hcy
  have hlen:=hc.len
  rw [hlen] at hrt
  have hG:=Yea hw
  have Hra:=Zaa (Zgf w gb _ gs ρ rk a h hu ha hl)
  have Hrb:=Zaa (Zgf w gb _ gs ρ rk b h hu hb hl)
  rw [← hxe] at Hra
  rw [← hye] at Hrb
  have HVx:=Zaa (Zit w gb _ gs x cx h hcx hl)
  have hax:a<(grOf l).n:=by show a<l.length; omega
  have hbx:b<(grOf l).n:=by show b<l.length; omega
  have hul:∀ x y,x<gs.length→y<gs.length→ρ x=x→ρ y=y→x≠y→UpOk ((Zhm gs x y).map GC.up) (mg ρ x y) (fun i=>if ρ i=x then rk i+rk y+1 else rk i):=fun x y h1 h2 h3 h4 h5=>by
    rw [Zvw]
    exact hu.turn (by simpa using h1) (by simpa using h2) h3 h4 h5
  have hro:∀ x y,x<gs.length→ρ x=x→x≠y→Zcq ((Zhm gs x y).map GC.up)<Zcq (gs.map GC.up):=fun x y h1 h3 h5=>by
    rw [Zvw]
    obtain ⟨c',e1,e2,_⟩:=hu.root _ x _ (Qe _) (Qb (by simpa using h1))
    rw [h3] at e1 e2
    exact Zge e1 e2 h5
  have hla:∀ (x y:Nat) c,gs[x]?=some c→GAt (w.setCell ⟨cb,x * 6+4,none⟩ (.int .i64 y)) gb (.slice (some ⟨cb,0,none⟩) gs.length cap) (Zhm gs x y):=fun x y c h1=>h.put h1 (f:=fun c => { c with leader:=y }) (by omega) rfl
  have hsz:∀ x y,(Zhm gs x y).map (·.size)=gs.map (·.size):=fun x y=>by
    apply List.ext_getElem?
    intro i
    rw [Qj,Qj,Zhm,List.getElem?_modify]
    cases gs[i]? with
    | none=>rfl
    | some c=>simp; split <;> rfl
  have hkp:∀ i u,Kept (Zap (.slice (some ⟨cb,0,none⟩) gs.length cap)) w (w.setCell ⟨cb,i,none⟩ u):=fun i u=>(Qx _ w).setCell (p:=⟨cb,i,none⟩) (fun _=>(rfl:some cb=some cb)) u
  have H:=Zaa h
  have Hc:=Zaa hc
  have Hw:=Zaa hw
  have Hu:=Zaa hu
  have Hm:=Zaa hm
  have Hrt:=Zaa hrt
  have HG:=Zaa hG
  have Hih:=Zaa IH
  have Hxe:=Zaa hxe
  have Hye:=Zaa hye
  have Hrx:=Zaa rx
  have Hry:=Zaa ry
  have Hcx:=Zaa hcx
  have Hcy:=Zaa hcy
  have Hul:=Zaa hul
  have Hro:=Zaa hro
  have Hla:=Zaa hla
  have Hsz:=Zaa hsz
  have Hkp:=Zaa hkp
  have Hsx:=Zaa sx
  have Hsy:=Zaa sy
  clear h hc hw hu hm hrt hG IH hxe hye rx ry hcx hcy hul hro hla hsz hkp sx sy
  by_cases hxy:x=y
  · have hxy':((x:Int) == (y:Int))=true:=by rw [beq_iff_eq]; omega
    have Hxy:=Zaa hxy
    clear hxy
    go_enter Tryz.func158,Tryz.ntmps158
    go_wp2_with fail
    refine Hra.out.mono ?_
    rintro e w1 ⟨rfl,rfl⟩
    go_wp2_with fail
    refine Hrb.out.mono ?_
    rintro e w1 ⟨rfl,rfl⟩
    go_wp2
    go_ret
    exact ⟨gs,⟨H.out,Hc.out,rfl,Qx _ _,Qe _⟩,ρ,rk,Hu.out,Or.inl ⟨rfl,Joined.same Hrt.out (Hxe.out.symm.trans (Hxy.out.trans Hye.out))⟩⟩
  · have hxy':((x:Int) == (y:Int))=false:=by rw [Qu]; omega
    have Hxy:=Zaa hxy
    clear hxy
    by_cases hvx:cx.sym.name=[]
    · have hv:cx.sym.name.isEmpty=true:=by simpa using hvx
      rw [hv] at HVx
      go_enter Tryz.func158,Tryz.ntmps158
      go_wp2_with fail
      refine Hra.out.mono ?_
      rintro e w1 ⟨rfl,rfl⟩
      go_wp2_with fail
      refine Hrb.out.mono ?_
      rintro e w1 ⟨rfl,rfl⟩
      go_wp2_with fail
      refine HVx.out.mono ?_
      rintro e w1 ⟨rfl,rfl⟩
      go_wp2
      go_ret
      exact ⟨Zhm gs x y,⟨Hla.out x y cx Hcx.out,Hc.out.lead _ _,Hsz.out _ _,Hkp.out _ _,Nat.le_of_lt (Hro.out x y hx Hrx.out Hxy.out)⟩,_,_,Hul.out x y hx hy Hrx.out Hry.out Hxy.out,
        Or.inl ⟨rfl,Joined.var Hrt.out hax hbx (Or.inl ⟨Hxe.out,Hye.out⟩) Hxy.out (by show (Zba l x).name=[]; rw [← Hsx.out]; exact hvx)⟩⟩
    · have hv:cx.sym.name.isEmpty=false:=by simpa using hvx
      rw [hv] at HVx
      obtain ⟨W1,hW1⟩:∃ W,W=w.setCell ⟨cb,y * 6+4,none⟩ (.int .i64 x):=⟨_,rfl⟩
      have hA1:=Hla.out y x cy Hcy.out
      rw [← hW1] at hA1
      have hyx:y≠x:=fun e=>Hxy.out e.symm
      have hcy1:(Zhm gs y x)[y]?=some { cy with leader:=x }:=by
        rw [Zhm,List.getElem?_modify,Hcy.out]; simp
      have HVy:=Zaa (Zit W1 gb _ (Zhm gs y x) y _ hA1 hcy1 (by rw [Zhx]; exact hl))
      have HK1:Hid (Kept (Zap (.slice (some ⟨cb,0,none⟩) gs.length cap)) w W1):=by rw [hW1]; exact Hkp.out _ _
      have HA1:=Zaa hA1
      have HW1:=Zaa hW1
      clear hA1 hW1 hcy1
      by_cases hvy:cy.sym.name=[]
      · have hv2:cy.sym.name.isEmpty=true:=by simpa using hvy
        rw [hv2] at HVy
        go_enter Tryz.func158,Tryz.ntmps158
        go_wp2_with fail
        refine Hra.out.mono ?_
        rintro e w1 ⟨rfl,rfl⟩
        go_wp2_with fail
        refine Hrb.out.mono ?_
        rintro e w1 ⟨rfl,rfl⟩
        go_wp2_with fail
        refine HVx.out.mono ?_
        rintro e w1 ⟨rfl,rfl⟩
        go_wp2_with fail
        rw [← HW1.out]
        refine HVy.out.mono ?_
        rintro e w2 ⟨rfl,rfl⟩
        go_wp2
        go_ret
        exact ⟨Zhm gs y x,⟨HA1.out,Hc.out.lead _ _,Hsz.out _ _,HK1.out,Nat.le_of_lt (Hro.out y x hy Hry.out hyx)⟩,_,_,Hul.out y x hy hx Hry.out Hrx.out hyx,
          Or.inl ⟨rfl,Joined.var Hrt.out hax hbx (Or.inr ⟨Hye.out,Hxe.out⟩) hyx (by show (Zba l y).name=[]; rw [← Hsy.out]; exact hvy)⟩⟩
      · have hv2:cy.sym.name.isEmpty=false:=by simpa using hvy
        rw [hv2] at HVy
        have hro1:=Hro.out y x hy Hry.out hyx
        have HI:=Zaa (Hih.out (Zcq ((Zhm gs y x).map GC.up)) (by have:=Hm.out; omega) W1 gb (.slice (some ⟨cb,0,none⟩) gs.length cap) (Zhm gs y x) l (mg ρ y x) _ x y HA1.out (Hc.out.lead _ _) Hw.out (Hul.out y x hy hx Hry.out Hrx.out hyx) (Qe _) (by rw [Zhx]; exact hx) (by rw [Zhx]; exact hy) (by rw [Zhx]; exact hl))
        have Hnx:Hid ((Zba l x).name≠[]):=by show _≠_; rw [← Hsx.out]; exact hvx
        have Hny:Hid ((Zba l y).name≠[]):=by show _≠_; rw [← Hsy.out]; exact hvy
        have Hrl:=Zaa hro1
        clear hvx hvy hro1
        go_enter Tryz.func158,Tryz.ntmps158
        go_wp2_with fail
        refine Hra.out.mono ?_
        rintro e w1 ⟨rfl,rfl⟩
        go_wp2_with fail
        refine Hrb.out.mono ?_
        rintro e w1 ⟨rfl,rfl⟩
        go_wp2_with fail
        refine HVx.out.mono ?_
        rintro e w1 ⟨rfl,rfl⟩
        go_wp2_with fail
        rw [← HW1.out]
        refine HVy.out.mono ?_
        rintro e w2 ⟨rfl,rfl⟩
        go_wp2_with fail
        refine HI.out.mono ?_
        rintro e w2 ⟨gs2,hJ2,ρ2,rk2,hup2,hres⟩
        have Hout:Hid (JoinLeft gb (.slice (some ⟨cb,0,none⟩) gs.length cap) gs l w1 w2 gs2):=⟨hJ2.at',hJ2.cells,hJ2.sizes.trans (Hsz.out _ _),HK1.out.trans hJ2.kept,Qq hJ2.roots (Nat.le_of_lt Hrl.out)⟩
        have Hup2:=Zaa hup2
        clear hJ2 hup2
        rcases hres with ⟨rfl,h1,h2,h3⟩ | ⟨rfl,h1⟩
        · have Hj:Hid (Joined (grOf l) ρ ρ2 [a] [b]):=Joined.name HG.out Hrt.out hax hbx (Or.inr ⟨Hye.out,Hxe.out⟩) hyx Hny.out h1.symm h3.swap
          clear h1 h2 h3
          go_wp2
          go_ret
          exact ⟨gs2,Hout.out,ρ2,rk2,Hup2.out,Or.inl ⟨rfl,Hj.out⟩⟩
        · have Hcl:Hid (Clash (grOf l) ρ [a] [b]):=by
            by_cases hn:(Zba l x).name=(Zba l y).name
            · rcases h1 with h1 | h1 | h1
              · exact absurd hn h1
              · exact Ziy HG.out Hrt.out hax hbx (Or.inr ⟨Hye.out,Hxe.out⟩) Hny.out Hnx.out (Or.inr (fun e=>h1 e.symm))
              · exact Zod HG.out Hrt.out hax hbx (Or.inr ⟨Hye.out,Hxe.out⟩) Hny.out hn.symm h1.swap
            · exact Ziy HG.out Hrt.out hax hbx (Or.inr ⟨Hye.out,Hxe.out⟩) Hny.out Hnx.out (Or.inl (fun e=>hn e.symm))
          clear h1
          go_wp2
          go_ret
          exact ⟨gs2,Hout.out,ρ2,rk2,Hup2.out,Or.inr ⟨rfl,Hcl.out⟩⟩
theorem Yeb (m:Nat):Zpx m:=by
  induction m using Nat.strongRecOn with
  | _ m ih=>exact Ybe m (fun k hk=>Ztw k (ih k hk))
def Zfx (l:List Sym) (gs:List GC) (p:Nat):List GC:=gs.mapIdx (fun i c=>if p≤i then { c with behind:=Zbn l i } else c)
theorem Zgg (l:List Sym) (gs:List GC) (p i:Nat):(Zfx l gs p)[i]?=(gs[i]?).map (fun c=>if p≤i then { c with behind:=Zbn l i } else c):=by
 unfold Zfx; rw [List.getElem?_mapIdx]
theorem Zfy (l:List Sym) (gs:List GC) (p:Nat):(Zfx l gs p).length=gs.length:=by simp [Zfx]
theorem Zye {l:List Sym} {gs:List GC} {p:Nat}:(Zfx l gs (p+1)).modify p (fun c => { c with behind:=Zbn l p })=Zfx l gs p:=by
 apply List.ext_getElem?
 intro i
 rw [List.getElem?_modify,Zgg,Zgg]
 cases gs[i]? with
 | none=>rfl
 | some c =>
  simp
  by_cases e:p=i
  ·subst e
   have h1:¬ p+1≤p:=by omega
   simp [h1]
  ·rw [if_neg e]
   by_cases h:p+1≤i
   ·rw [if_pos h,if_pos (by omega)]
   ·rw [if_neg h,if_neg (by omega)]
theorem Ybf (l:List Sym) (gs:List GC) (p:Nat) (h:gs.length≤p):Zfx l gs p=gs:=by
 apply List.ext_getElem?
 intro i
 rw [Zgg]
 cases hc:gs[i]? with
 | none=>rfl
 | some c =>
  have:=(Qa.1 hc).1
  simp
  omega
theorem Zsa (w:World) (gb:Nat) (v:Value) (gs:List GC) (l:List Sym) (h:GAt w gb v gs) (hlen:gs.length=l.length) (hs:∀ i c,gs[i]?=some c→c.sym=Zba l i) (hw:Wf 2 l) (hl:gs.length≤4000) :
  Calls Tryz.prog 188 #[.pointer (some ⟨gb,0,none⟩)] w fun e w'=>e = .returned (.tuple #[])∧GAt w' gb v (Zfx l gs 0)∧Kept (Zap v) w w':=by
 have hpos:0<gs.length:=by have:=Zcp hw; omega
 obtain ⟨cb,cap,rfl,hcb,hcap,hne,hfz⟩:=h.shape hpos
 have b0:w.cell? ⟨gb,0,none⟩=some (.slice (some ⟨cb,0,none⟩) gs.length cap):=Zab h.box 0 _ rfl
 have hgb:=Zac h.box
 have H:=Zaa h
 have Hs:=Zaa hs
 have Hw:=Zaa hw
 have Hlen:=Zaa hlen
 clear h hs hw hlen
 go_enter Tryz.func188,Tryz.ntmps188
 go_wp2
 go_loopg [2] (gs.length+1) (fun gk iv wr=>∃ (p:Nat),iv = .int .i64 ((p:Int) - 1)∧p≤gs.length∧p<gk∧GAt wr gb (.slice (some ⟨cb,0,none⟩) gs.length cap) (Zfx l gs p)∧Kept (Zap (.slice (some ⟨cb,0,none⟩) gs.length cap)) w wr)
 case atStart=>exact ⟨gs.length,rfl,Qe _,by omega,by rw [Ybf _ _ _ (Qe _)]; exact H.out,Qx _ _⟩
 case round =>
  obtain ⟨p,rfl,hp,hgk,hG,hkp⟩:=hrel
  have hsr:=hkp.size
  have b0:wr.cell? ⟨gb,0,none⟩=some (.slice (some ⟨cb,0,none⟩) gs.length cap):=Zab hG.box 0 _ rfl
  have hgb':=Zac hG.box
  have hcb':cb<wr.heap.size:=by omega
  have hfz':∀ j,wr.frozen? ⟨cb,j,none⟩=false:=by
   obtain ⟨cb',cap',e,_,_,_,hf⟩:=hG.shape (by rw [Zfy]; exact hpos)
   simp at e
   obtain ⟨rfl,_⟩:=e
   exact hf
  have HG:=Zaa hG
  have Hkp:=Zaa hkp
  clear hG hkp
  cases p with
  | zero =>
   have hneg:¬ ((0:Int)≤((0:Nat):Int) - 1):=by omega
   go_wp2
   go_end0
   exact ⟨rfl,HG.out,Hkp.out⟩
  | succ p =>
   have hpi:(((p+1:Nat):Int) - 1)=(p:Int):=by omega
   have hpos':(0:Int)≤(p:Int):=by omega
   have hpl:p<gs.length:=by omega
   obtain ⟨c,hc⟩:∃ c,gs[p]?=some c:=⟨_,Qb hpl⟩
   have hcm:(Zfx l gs (p+1))[p]?=some c:=by rw [Zgg,hc]; simp; intro h; omega
   have hG':GAt wr gb (.slice (some ⟨cb,0,none⟩) (Zfx l gs (p+1)).length cap) (Zfx l gs (p+1)):=by rw [Zfy]; exact HG.out
   obtain ⟨_,_,c2,c3,_,_⟩:=hG'.cell hcm
   have hsy:=Hs.out p c hc
   have hlen:=Hlen.out
   obtain ⟨ex1,ex2,ex3⟩:=Zhd Hw.out (i:=p) (by omega)
   obtain ⟨_,_,_,_,_,hbx,_⟩:=Zew Hw.out (i:=p) (by omega)
   rw [← hsy] at ex1 ex2 ex3
   have hkl:∀ k,k<c.sym.args→p<Zax l (p+1) k∧Zax l (p+1) k<gs.length:=fun k hk=>by
    have:=ex2 _ (Qh (Zce l (p+1) _ k hk))
    omega
   have hargs:c.sym.args≤4000:=by
    rcases Nat.lt_or_ge 4000 c.sym.args with h3 | h3
    ·exfalso
     have mono:∀ k,k≤c.sym.args→p+1+k≤Zax l (p+1) k:=by
      intro k
      induction k with
      | zero=>intro _; simp [Zax]
      | succ k ih =>
       intro hk
       have:=ih (by omega)
       rw [Zci]
       have:=hkl k (by omega)
       obtain ⟨_,_,_,_,h6,_⟩:=Zew Hw.out (i:=Zax l (p+1) k) (by omega)
       omega
     have:=mono 4000 (by omega)
     have:=hkl 4000 h3
     omega
    ·exact h3
   have Hkl:=Zaa hkl
   have Hex3:=Zaa ex3
   have Hcm:=Zaa hcm
   have Hg':=Zaa hG'
   have Hbx:=Zaa hbx
   clear hkl ex1 ex2 ex3 hcm hG' hbx hsy hc hlen
   obtain ⟨wo,hwo⟩:∃ x,x=wr:=⟨_,rfl⟩
   subst hwo
   rw [hpi]
   go_wp2
   go_loopg [3,4] (c.sym.args+1) (fun gk ev nv wr=>∃ (k:Nat),ev = .int .i64 (Zax l (p+1) k:Nat)∧nv = .int .i64 k∧k≤c.sym.args∧c.sym.args - k<gk∧wr=wo)
   case atStart=>exact ⟨0,by simp [Zax],by go_num,Qm _,by omega,rfl⟩
   case round =>
    obtain ⟨k,rfl,rfl,hk,hgk2,rfl⟩:=hrel
    by_cases hlt:k<c.sym.args
    ·obtain ⟨h1,h2⟩:=Hkl.out k hlt
     obtain ⟨q,hq⟩:∃ q,q=Zax l (p+1) k:=⟨_,rfl⟩
     rw [← hq] at h1 h2 ⊢
     obtain ⟨cq,hcq⟩:∃ c,(Zfx l gs (p+1))[q]?=some c:=⟨_,Qb (by rw [Zfy]; exact h2)⟩
     obtain ⟨_,_,_,q3,_,_⟩:=Hg'.out.cell hcq
     have hbq:cq.behind=Zbn l q:=by
      rw [Zgg] at hcq
      cases hd:gs[q]? with
      | none=>rw [hd] at hcq; simp at hcq
      | some d =>
       rw [hd] at hcq
       simp at hcq
       rw [if_pos (by omega)] at hcq
       rw [← hcq]
     rw [hbq] at q3
     have Hq:=Zaa hq
     clear hcq hbq hq
     go_wp2
     go_roundg (c.sym.args - k)
     case measure=>omega
     case rel=>exact ⟨k+1,by rw [Zci,← Hq.out],by go_num,by omega,by omega,rfl⟩
    ·have hek:k=c.sym.args:=by omega
     subst hek
     obtain ⟨q,hq⟩:∃ q,q=Zax l (p+1) c.sym.args:=⟨_,rfl⟩
     rw [← hq]
     have Hq:=Zaa hq
     clear hq
     go_wp2
     go_roundg (p+1)
     case measure=>omega
     case rel =>
      refine ⟨p,by rfl,by omega,by omega,?_,Hkp.out.trans ((Qx _ wr).setCell (p:=⟨cb,p * 6+3,none⟩) (fun _=>(rfl:some cb=some cb)) _)⟩
      have:=Hg'.out.put Hcm.out (f:=fun c => { c with behind:=Zbn l p }) (j:=3) (u := .int .i64 (Zbn l p:Nat)) (by omega) rfl
      rw [Zye,Zfy] at this
      rw [Hq.out,Hex3.out]
      exact this
theorem Yha {a0:Act} {vc:Value} {β:Nat→Nat} {lst:Nat→Bool}:∀ {ops:List Oper} {kd:List Kd} {k:Nat},(pa a0 vc β lst k ops kd).tmps.size=a0.tmps.size:=by
 intro ops
 induction ops with
 | nil=>intro kd k; simp [pa]
 | cons o os ih =>
  intro kd k
  cases kd with
  | nil=>simp [pa]
  | cons q qs =>
   rw [pa]
   split
   ·cases o.dst <;> simp [Act.put,ih]
   ·exact ih
theorem Yis {a0:Act} {vc:Value} {β:Nat→Nat} {lst:Nat→Bool}:∀ {ops:List Oper} {kd:List Kd} {k i:Nat} {o:Oper} {q:Kd} {d:Nat},ops[i]?=some o→kd[i]?=some q→lst (k+i)=true→o.dst=some d →
  (∀ j p,ops[j]?=some p→p.dst=some d→j=i)→d<a0.tmps.size→(pa a0 vc β lst k ops kd).tmps[d]?=some (q.val vc β (k+i)):=by
 intro ops
 induction ops with
 | nil=>intro kd k i o q d h; simp at h
 | cons p os ih =>
  intro kd k i o q d ho hq hl hd hu hs
  cases kd with
  | nil=>simp at hq
  | cons r qs =>
   cases i with
   | zero =>
    simp at ho hq
    subst ho hq
    simp only [Nat.add_zero] at hl ⊢
    rw [pa,if_pos hl,hd]
    simp only [Act.put]
    rw [Array.getElem?_setIfInBounds_self_of_lt (by rw [Yha]; exact hs)]
   | succ i =>
    have e:k+(i+1)=k+1+i:=by omega
    have ih':=ih (kd:=qs) (k:=k+1) (i:=i) (by simpa using ho) (by simpa using hq) (by rw [← e]; exact hl) hd (fun j p' hp hd'=>by
     have:=hu (j+1) p' (by simpa using hp) hd'
     omega) hs
    rw [e,pa]
    have hne:p.dst≠some d:=fun hd'=>by have:=hu 0 p rfl hd'; omega
    split
    ·cases hpd:p.dst with
     | none=>simpa [Act.put] using ih'
     | some d' =>
      have:d'≠d:=fun e'=>hne (by rw [hpd,e'])
      simp only [Act.put]
      rw [Array.getElem?_setIfInBounds_ne (by exact this)]
      exact ih'
    ·exact ih'
def Zka (T:Nat) (ops:List Oper) (kd:List Kd) (ic fi:Nat):Bool :=
 ops.length == kd.length &&
 (List.range ops.length).all fun i=>match ops[i]?,kd[i]? with
  | some o,some q =>
   (match o.guard with
    | none=>true
    | some (j,b)=>Zcy o j && (match kd[j]?,ops[j]? with
     | some (.pur (.bool c)),some p=>c == b && (match p.dst with | some d=>decide (d<T) | none=>false)
     | _,_=>false)) && (match o.op with | .select .. => false | _=>true) &&
   (o.after.all fun e => !Region.binds .any e || e.on<i) &&
   ((List.range ops.length).all fun j=>match ops[j]? with
    | some p=>match p.dst with
     | some d=>((j == i) || (o.dst != some d)) && (!(o.looksAt ops.toArray).contains d || Zcy o j)
     | none=>true
    | none=>true) &&
   (match q with
    | .pur _=>(List.range ops.length).any fun j=>i<j && (match ops[j]?,kd[j]? with | some p,some r=>Zcy p i && Zyb r | _,_=>false)
    | .cal=>i == ic
    | .post _=>(List.range i).any fun j=>Zcy o j && (match kd[j]? with | some r=>Zdb r | none=>false)
    | .alo .. => false
    | .sto _=>i == fi && o.dst.isNone && ((List.range i).any fun j=>Zcy o j && (match kd[j]? with | some r=>Zdb r | none=>false)))
  | _,_=>false
structure LastAtG (T:Nat) (ops:List Oper) (kd:List Kd) (ic fi i:Nat) (o:Oper) (q:Kd):Prop where
 gd:o.guard=none∨∃ j b p d,o.guard=some (j,b)∧Zcy o j=true∧kd[j]?=some (.pur (.bool b))∧ops[j]?=some p∧p.dst=some d∧d<T
 sel:∀ cs b,o.op ≠ .select cs b
 low:∀ e ∈ o.after,Region.binds .any e=true→e.on<i
 dst:∀ j p d,ops[j]?=some p→p.dst=some d→j=i∨o.dst≠some d
 look:∀ j p d,ops[j]?=some p→p.dst=some d→d ∈ o.looksAt ops.toArray→Zcy o j=true
 pur:∀ c,q = .pur c→∃ j p r,i<j∧ops[j]?=some p∧kd[j]?=some r∧Zcy p i=true∧Zyb r=true
 cal:q = .cal→i=ic
 post:Zcs q=true→∃ j r,Zcy o j=true∧kd[j]?=some r∧Zdb r=true
 alo:∀ t z s cs,q ≠ .alo t z s cs
 sto:∀ k,q = .sto k→i=fi∧o.dst=none
theorem Zpy {T:Nat} {ops:List Oper} {kd:List Kd} {ic fi:Nat} (h:Zka T ops kd ic fi=true) {i:Nat} {o:Oper} (ho:ops[i]?=some o):∃ q,kd[i]?=some q∧LastAtG T ops kd ic fi i o q:=by
 unfold Zka at h
 simp only [Bool.and_eq_true,List.all_eq_true,List.mem_range,beq_iff_eq] at h
 obtain ⟨hl,h⟩:=h
 have hi:=(Qa.1 ho).1
 have h:=h i hi
 rw [ho] at h
 cases hq:kd[i]? with
 | none=>rw [hq] at h; simp at h
 | some q =>
  rw [hq] at h
  simp only [Bool.and_eq_true,List.all_eq_true,List.mem_range] at h
  obtain ⟨⟨⟨⟨h1,h2⟩,h3⟩,h4⟩,h5⟩:=h
  have hpost:∀ (b:Bool),((List.range i).any fun j=>Zcy o j && (match kd[j]? with | some r=>Zdb r | none=>false))=true→∃ j r,Zcy o j=true∧kd[j]?=some r∧Zdb r=true:=by
   intro _ h
   simp only [List.any_eq_true,List.mem_range,Bool.and_eq_true] at h
   obtain ⟨j,_,h6,h7⟩:=h
   cases hr:kd[j]? with
   | none=>rw [hr] at h7; simp at h7
   | some r=>rw [hr] at h7; exact ⟨j,r,h6,hr,h7⟩
  refine ⟨q,rfl,?_,?_,?_,?_,?_,?_,?_,?_,?_,?_⟩
  ·cases hgd:o.guard with
   | none=>exact Or.inl rfl
   | some jb =>
    obtain ⟨j,b⟩:=jb
    rw [hgd] at h1
    simp only [Bool.and_eq_true] at h1
    obtain ⟨h6,h7⟩:=h1
    cases hk:kd[j]? with
    | none=>rw [hk] at h7; simp at h7
    | some r =>
     cases hp:ops[j]? with
     | none=>rw [hk,hp] at h7; cases r <;> simp at h7
     | some p =>
      rw [hk,hp] at h7
      cases r with
      | pur c =>
       cases c with
       | bool c =>
        simp only [Bool.and_eq_true,beq_iff_eq] at h7
        obtain ⟨h8,h9⟩:=h7
        cases hd:p.dst with
        | none=>rw [hd] at h9; simp at h9
        | some d =>
         rw [hd] at h9
         subst h8
         exact Or.inr ⟨j,c,p,d,rfl,h6,hk,hp,hd,by simpa using h9⟩
       | _=>simp at h7
      | _=>simp at h7
  ·intro cs b e; rw [e] at h2; simp at h2
  ·intro e he hb
   have:=Array.all_eq_true_iff_forall_mem.1 h3 e he
   simpa [hb] using this
  ·intro j p d hp hd
   have:=h4 j (Qa.1 hp).1
   rw [hp] at this
   simp only [hd,Bool.and_eq_true,Bool.or_eq_true,beq_iff_eq,bne_iff_ne] at this
   exact this.1
  ·intro j p d hp hd hm
   have:=h4 j (Qa.1 hp).1
   rw [hp] at this
   simp only [hd,Bool.and_eq_true,Bool.or_eq_true,beq_iff_eq,bne_iff_ne] at this
   rcases this.2 with h | h
   ·simp [hm] at h
   ·exact h
  ·intro c e
   subst e
   simp only [List.any_eq_true,List.mem_range,Bool.and_eq_true] at h5
   obtain ⟨j,hj,h6,h7⟩:=h5
   have hp:ops[j]?=some ops[j]:=Qb hj
   cases hr:kd[j]? with
   | none=>rw [hp,hr] at h7; simp at h7
   | some r =>
    rw [hp,hr] at h7
    simp only [Bool.and_eq_true] at h7
    exact ⟨j,_,r,by simpa using h6,hp,hr,h7.1,h7.2⟩
  ·intro e; subst e; simpa using h5
  ·intro hp
   cases q with
   | post g=>exact hpost true h5
   | sto k =>
    simp only [Bool.and_eq_true] at h5
    exact hpost true h5.2
   | _=>simp [Zcs] at hp
  ·intro t z s cs e; subst e; simp at h5
  ·intro k e
   subst e
   simp only [Bool.and_eq_true,beq_iff_eq] at h5
   exact ⟨h5.1.1,by simpa using h5.1.2⟩
theorem Zsb {P:Program} {ops:List Oper} {id:Nat} {Q:Exit→Act→World→Prop} {a0:Act} {w:World} (hm:P.follows .mixedOrders=true) (kd:List Kd) (ic fi:Nat) (hfit:Zka a0.tmps.size ops kd ic fi=true)
  (R R':Value→World→Prop) (f:FuncId) (args:Array Value)
  (hC:Calls P f args w.drew (fun e u'=>∃ v,e = .returned v∧R v u'))
  (hob:AllObL P w.drew (fun vc=>paAll a0 ops kd vc noB) R R' f args ops kd)
  (hcal:kd[ic]?=some .cal) (hil:ic<ops.length) (hfi:(∃ k,kd[fi]?=some (.sto k))∨(ops.length≤fi∧∀ v u,R v u→R' v u))
  (hQ:∀ vc u,R' vc u→Q .normal (paAll a0 ops kd vc noB) u) :
  (Code.region id ops.toArray true).wp P Q a0 w:=by
 have hlen:ops.length=kd.length:=by
  unfold Zka at hfit
  simp only [Bool.and_eq_true,beq_iff_eq] at hfit
  exact hfit.1
 have hkat:∀ {i':Nat} {q':Kd},kd[i']?=some q'→∃ o',ops[i']?=some o'∧LastAtG a0.tmps.size ops kd ic fi i' o' q':=fun {i' q'} h1=>by
  have ho:=Qb (l:=ops) (i:=i') (by have:=(Qa.1 h1).1; omega)
  obtain ⟨q2,hq2,hF2⟩:=Zpy hfit ho
  rw [h1] at hq2; simp at hq2; subst hq2
  exact ⟨_,ho,hF2⟩
 refine wp_region_any hm (Zjx (J:=LastPlan ops kd ic fi a0 w.drew R R') ?_ ?_ _ _ _ _ ?_ ?_)
 ·intro L a u i hr hJ
  obtain ⟨hsz,hcl,vc,rfl,hw0,hcR,hpost⟩:=hJ
  obtain ⟨h0,o,ho',_⟩:=mem_ready.1 hr
  have ho:ops[i]?=some o:=by simpa using ho'
  have hi:i<ops.length:=(Qa.1 ho).1
  have hil:i<L.size:=by omega
  have hun:L.getD i false=false:=by simp [hil] at h0 ⊢; exact h0
  obtain ⟨q,hq,hF⟩:=Zpy hfit ho
  have hOb:=hob.at ho hq
  have hexec:execOp (pa a0 vc noB (fun j=>L.getD j false) 0 ops kd).eval o=execOp (paAll a0 ops kd vc noB).eval o:=by
   refine execOp_congr o hF.sel (fun x hx=>Zpu (fun j p hp hl d hd e => ?_))
   subst e
   have hw:=hF.look j p d hp hd (List.mem_append_left _ (List.mem_filterMap.2 ⟨.tmp d,by simpa using hx,rfl⟩))
   have:=Zbu hr ho hw
   simp only [Nat.zero_add] at hl
   rw [hl] at this
   simp at this
  have hwant:Region.wanted o (yielded ops.toArray (pa a0 vc noB (fun j=>L.getD j false) 0 ops kd).tmps)=true:=by
   rcases hF.gd with hg | ⟨j,b,p,d,hg,h1,h2,h3,h4,h5⟩
   ·simp [Region.wanted,hg]
   ·obtain ⟨o',ho',hF'⟩:=hkat h2
    rw [h3] at ho'
    simp only [Qo] at ho'
    subst ho'
    have ht:=Yis (a0:=a0) (vc:=vc) (β:=noB) (lst:=fun j=>L.getD j false) (k:=0) h3 h2 (by simpa using Zbu hr ho h1) h4 (fun j' p' h6 h7=>by
     rcases hF'.dst j' p' d h6 h7 with h | h
     ·exact h
     ·exact absurd h4 h) h5
    have hy:yielded ops.toArray (pa a0 vc noB (fun j=>L.getD j false) 0 ops kd).tmps j=some b:=by
     unfold yielded
     simp only [List.getElem?_toArray,h3,Option.bind_some,h4,ht,Kd.val]
    unfold Region.wanted
    rw [hg]
    simp only
    rw [hy]
    simp
  have hL:=Zhb hil
  have hput:∀ vc',(∀ j r,kd[j]?=some r→L.getD j false=true→r.val vc noB j=r.val vc' noB j) →
    (pa a0 vc noB (fun j=>L.getD j false) 0 ops kd).put o.dst (q.val vc' noB i)=pa a0 vc' noB (fun j=>(L.setIfInBounds i true).getD j false) 0 ops kd:=by
   intro vc' hv
   have e1:pa a0 vc noB (fun j=>L.getD j false) 0 ops kd=pa a0 vc' noB (fun j=>L.getD j false) 0 ops kd:=Zei (fun j r hr'=>by
    simp only [Nat.zero_add]
    exact ⟨trivial,fun hl=>hv j r hr' hl⟩)
   rw [e1]
   have e2:=Zvs (a0:=a0) (vc:=vc') (β:=noB) (lst:=fun j=>L.getD j false) (k:=0) ho hq (by simpa using hun) hF.dst
   simp only [Nat.zero_add] at e2
   rw [← e2]
   exact Zei (fun j r hr'=>⟨by simp only [Nat.zero_add,hL],fun _=>rfl⟩)
  have hold:∀ j,L.getD j false=true→(L.setIfInBounds i true).getD j false=true:=fun j h=>by rw [hL,h]; rfl
  have hnew:∀ j,j≠i→(L.setIfInBounds i true).getD j false=L.getD j false:=fun j h=>by
   rw [hL]
   have:(j == i)=false:=by rw [Qu]; exact h
   simp [this]
  have hne:∀ {i':Nat} {q':Kd},kd[i']?=some q'→q'≠q→i'≠i:=fun {i' q'} h1 h2 e=>by
   subst e; rw [hq] at h1; exact h2 (Option.some.inj h1).symm
  have hcl':∀ (i':Nat) o',ops[i']?=some o'→(L.setIfInBounds i true).getD i' false=true→∀ j,Zcy o' j=true→(L.setIfInBounds i true).getD j false=true:=by
   intro i' o' h1 h2 j hj
   by_cases e:i'=i
   ·subst e
    rw [ho] at h1; simp at h1; subst h1
    exact hold _ (Zbu hr ho hj)
   ·exact hold _ (hcl i' o' h1 ((hnew i' e).symm.trans h2) j hj)
  have hpost':Zcs q=false→∀ (i':Nat) q',kd[i']?=some q'→(L.setIfInBounds i true).getD i' false=true→Zcs q'=true→(L.setIfInBounds i true).getD ic false=true:=fun hp i' q' h1 h2 h3 =>
   hold _ (hpost i' q' h1 ((hnew i' (hne h1 (fun e=>by rw [e,hp] at h3; simp at h3))).symm.trans h2) h3)
  have hcall:Zcs q=true→L.getD ic false=true:=fun hp=>by
   obtain ⟨j,r,h1,h2,h3⟩:=hF.post hp
   have hj:=Zbu hr ho h1
   cases r with
   | post g=>exact hpost j _ h2 hj rfl
   | cal =>
    obtain ⟨o',_,hF'⟩:=hkat h2
    have:=hF'.cal rfl
    rw [← this]; exact hj
   | _=>simp [Zdb] at h3
  -- the reads stand ahead of the call
  have hahead:∀ (n:Nat) (i':Nat) c,ops.length - i'≤n→kd[i']?=some (.pur c)→L.getD ic false=true→L.getD i' false=true:=by
   intro n
   induction n with
   | zero =>
    intro i' c hn h1 _
    have:=(Qa.1 h1).1
    omega
   | succ n ih =>
    intro i' c hn h1 h2
    obtain ⟨o',_,hF'⟩:=hkat h1
    obtain ⟨j,p,r,h3,h4,h5,h6,h7⟩:=hF'.pur c rfl
    have hjl:L.getD j false=true:=by
     cases r with
     | pur c'=>exact ih j c' (by omega) h5 h2
     | cal =>
      obtain ⟨o2,_,hF2⟩:=hkat h5
      rw [hF2.cal rfl]; exact h2
     | _=>simp [Zyb] at h7
    exact hcl j p h4 hjl i' h6
  unfold wpOp
  simp only [ho']
  rw [if_pos hwant]
  refine Or.inl ?_
  unfold Oper.wp
  rw [hexec]
  cases q with
  | pur c =>
   have hnc:L.getD ic false=false:=by
    cases h:L.getD ic false with
    | false=>rfl
    | true =>
     have:=hahead _ i c (Qe _) hq h
     rw [hun] at this; simp at this
   have hic:ic≠i:=hne hcal (by simp)
   have hu:=hw0 hnc
   subst hu
   rw [hOb vc]
   refine ⟨by simpa using hsz,hcl',vc,hput vc (fun _ _ _ _=>rfl),fun _=>rfl,?_,hpost' rfl⟩
   intro h
   rw [hnew ic hic,hnc] at h
   simp at h
  | post g =>
   have hic:=hcall rfl
   have hfn:fi≠i:=by
    rcases hfi with ⟨k,hk⟩ | ⟨hk,_⟩
    ·exact hne hk (by simp)
    ·omega
   have hS:R vc u∨R' vc u:=by
    cases h:L.getD fi false with
    | false=>exact Or.inl ((hcR hic).1 h)
    | true=>exact (hcR hic).2.1 h
   rw [hOb vc u hS]
   refine ⟨by simpa using hsz,hcl',vc,hput vc (fun _ _ _ _=>rfl),?_,?_,fun i' q' _ _ _=>hold _ hic⟩
   ·intro h
    have:=hold _ hic
    rw [h] at this; simp at this
   ·intro _
    rw [hnew fi hfn]
    exact hcR hic
  | cal =>
   have hie:=hF.cal rfl
   have hnc:L.getD ic false=false:=by rw [← hie]; exact hun
   have hu:=hw0 hnc
   subst hu
   rw [hOb vc]
   refine hC.mono ?_
   rintro e u' ⟨v,rfl,hr'⟩
   have hff:L.getD fi false=false:=by
    rcases hfi with ⟨k,hk⟩ | ⟨hk,_⟩
    ·cases h:L.getD fi false with
     | false=>rfl
     | true =>
      have:=hpost fi _ hk h rfl
      rw [hnc] at this; simp at this
    ·have:¬ fi<L.size:=by omega
     simp [this]
   have hfn:fi≠i:=by
    rcases hfi with ⟨k,hk⟩ | ⟨hk,_⟩
    ·exact hne hk (by simp)
    ·omega
   refine ⟨by simpa using hsz,hcl',v,hput v ?_,?_,?_,?_⟩
   ·intro j r h1 h2
    cases r with
    | post g =>
     have:=hpost j _ h1 h2 rfl
     rw [hnc] at this; simp at this
    | cal =>
     obtain ⟨o',_,hF'⟩:=hkat h1
     have:=hF'.cal rfl
     rw [this,hnc] at h2; simp at h2
    | _=>rfl
   ·intro h
    rw [← hie,hL] at h
    simp at h
   ·intro _
    rw [hnew fi hfn,hff]
    exact ⟨fun _=>hr',fun h=>by simp at h,fun h=>by simp at h⟩
   ·intro i' q' _ _ _
    rw [← hie,hL]; simp
  | alo t z s cs=>exact absurd rfl (hF.alo t z s cs)
  | sto k =>
   have hic:=hcall rfl
   obtain ⟨hif,hdn⟩:=hF.sto k rfl
   obtain ⟨w',hrun,hR'⟩:=hOb vc u ((hcR hic).1 (by rw [← hif]; exact hun))
   rw [hrun]
   refine ⟨by simpa using hsz,hcl',vc,hput vc (fun _ _ _ _=>rfl),?_,?_,fun i' q' _ _ _=>hold _ hic⟩
   ·intro h
    have:=hold _ hic
    rw [h] at this; simp at this
   ·intro _
    refine ⟨fun h => ?_,fun _=>Or.inr hR',fun _ _=>hR'⟩
    rw [← hif,hL] at h
    simp at h
 ·intro L a u hr hJ
  obtain ⟨hsz,hcl,vc,rfl,hw0,hcR,hpost⟩:=hJ
  have hall:∀ i,i<ops.length→L.getD i false=true:=by
   intro i
   induction i using Nat.strongRecOn with
   | _ i ih =>
    intro hi
    cases hl:L.getD i false with
    | true=>rfl
    | false =>
     exfalso
     have ho:ops[i]?=some ops[i]:=Qb hi
     obtain ⟨q,hq,hF⟩:=Zpy hfit ho
     have:i ∈ Region.ready .any ops.toArray L:=by
      refine mem_ready.2 ⟨?_,ops[i],by simp,fun e he hb=>ih e.on (hF.low e he hb) (by have:=hF.low e he hb; omega)⟩
      have hi':i<L.size:=by omega
      simp [hi'] at hl ⊢
      exact hl
     rw [hr] at this
     simp at this
  have e:pa a0 vc noB (fun j=>L.getD j false) 0 ops kd=paAll a0 ops kd vc noB:=Zei (fun j r hr'=>⟨by
   simp only [Nat.zero_add]
   exact hall j (by have:=(Qa.1 hr').1; omega),fun _=>rfl⟩)
  rw [e]
  have hR:=hcR (hall ic hil)
  refine hQ vc u ?_
  rcases hfi with ⟨k,hk⟩ | ⟨hk,hRR⟩
  ·exact hR.2.2 (hall fi (by have:=(Qa.1 hk).1; omega)) ⟨k,hk⟩
  ·refine hRR _ _ (hR.1 ?_)
   have:¬ fi<L.size:=by omega
   simp [this]
 ·have:(ops.toArray).size=ops.length:=by simp
  unfold unl
  exact Qq (List.length_filter_le _ _) (by simp)
 ·have hz:∀ j,(Array.replicate ops.toArray.size false).getD j false=false:=fun j=>by
   simp only [Array.getD_eq_getD_getElem?,Array.getElem?_replicate]
   split <;> rfl
  refine ⟨by simp,?_,undef,?_,fun _=>rfl,?_,?_⟩
  ·intro i o _ h; rw [hz] at h; simp at h
  ·have:∀ (k:Nat) (os:List Oper) (qs:List Kd),pa a0 undef noB (fun j=>(Array.replicate ops.toArray.size false).getD j false) k os qs=a0:=by
    intro k os
    induction os generalizing k with
    | nil=>intro qs; simp [pa]
    | cons o os ih =>
     intro qs
     cases qs with
     | nil=>simp [pa]
     | cons q qs=>rw [pa,hz]; simp only [Bool.false_eq_true,if_false]; exact ih _ _
   exact (this _ _ _).symm
  ·intro h; rw [hz] at h; simp at h
  ·intro i q _ h; rw [hz] at h; simp at h
def gr (cs:List CellS):Gr:=⟨cs.length,fun i=>((cs[i]?).map CellS.sym).getD ⟨[],0,0⟩,fun i=>((cs[i]?).map CellS.kids).getD []⟩
theorem Ztx (cs:List CellS) (x y:Nat):gr (turn cs x y)=gr cs:=by
 unfold gr
 rw [Zin]
 congr 1
 ·funext i
  rw [Zjj]
  cases cs[i]? with
  | none=>rfl
  | some c=>simp; split <;> rfl
 ·funext i
  rw [Zjj]
  cases cs[i]? with
  | none=>rfl
  | some c=>simp; split <;> rfl
theorem Zdy {cs:List CellS} {i:Nat} {c:CellS} (h:cs[i]?=some c):(gr cs).hd i=c.sym∧(gr cs).kids i=c.kids:=by simp [gr,h]
theorem Zel (w:World) (g n cap i:Nat) (u:Value):Kept (Zap (.slice (some ⟨g,0,none⟩) n cap)) w (w.setCell ⟨g,i,none⟩ u):=(Qx _ w).setCell (p:=⟨g,i,none⟩) (fun _=>(rfl:some g=some g)) u
theorem Ygb {cs cs':List CellS} (h:gr cs'=gr cs) {i:Nat} {c c':CellS} (hc:cs[i]?=some c) (hc':cs'[i]?=some c'):c'.sym=c.sym∧c'.kids=c.kids:=by
 have h1:=Zdy hc
 have h2:=Zdy hc'
 rw [h] at h2
 exact ⟨h2.1.symm.trans h1.1,h2.2.symm.trans h1.2⟩
theorem Ygc {cs cs':List CellS} (h:gr cs'=gr cs):cs'.length=cs.length:=congrArg Gr.n h
theorem Zhy {l:List Nat} {k n:Nat} (h:l[k]?=some n):l.take (k+1)=l.take k++[n]:=by rw [List.take_add_one,h]; rfl
theorem Ziu {l:List Nat} {k n:Nat} (h:l[k]?=some n):l=l.take k++n::l.drop (k+1):=by
 obtain ⟨hk,e⟩:=Qa.1 h
 have:=List.drop_eq_getElem_cons hk
 rw [e] at this
 rw [← this,List.take_append_drop]
def Zks (m:Nat):Prop:=∀ (w:World) (B:Nat) (lv:Value) (cs:List CellS) (vs:List Value) (ρ rk:Nat→Nat) (a b:Nat),CellsAt w B lv cs vs→UpOk cs ρ rk→(gr cs).Ok→Zcq cs≤m→a<cs.length→b<cs.length→cs.length≤4000→(∀ (i:Nat),((gr cs).kids i).length≤4000) →
 Calls Tryz.prog 211 #[lv,.int .i64 a,.int .i64 b] w fun e w'=>∃ (q:Bool) (cs':List CellS) (ρ' rk':Nat→Nat),e = .returned (.bool q)∧CellsAt w' B lv cs' vs∧gr cs'=gr cs∧UpOk cs' ρ' rk'∧Zcq cs'≤Zcq cs∧Kept (Zap lv) w w' ∧
  (q=true→Joined (gr cs) ρ ρ' [a] [b])∧(q=false→Clash (gr cs) ρ [a] [b])
theorem Zty (m:Nat) (IH:∀ k,k<m→Zks k):Zks m:=by
 intro w B lv cs vs ρ rk a b h hu hG hm ha hb hl hk4
 have Hk4:=Zaa hk4
 clear hk4
 have hrt:=hu.rt
 have hx:=hrt.lt a ha
 have hy:=hrt.lt b hb
 have rx:=hrt.idem a ha
 have ry:=hrt.idem b hb
 obtain ⟨x,hxe⟩:∃ x,x=ρ a:=⟨_,rfl⟩
 obtain ⟨y,hye⟩:∃ y,y=ρ b:=⟨_,rfl⟩
 rw [← hxe] at hx rx
 rw [← hye] at hy ry
 obtain ⟨g,cap,cx,vx,rfl,hcx,hvx,hB,hgl,hcap,x0,x1,x2,x3,xf,hkx⟩:=h.at hx
 obtain ⟨g',cap',cy,vy,he,hcy,hvy,_,_,_,y0,y1,y2,y3,yf,hky⟩:=h.at hy
 simp only [Value.slice.injEq,Qo,Addr.mk.injEq] at he
 obtain ⟨⟨rfl,_⟩,_,rfl⟩:=he
 obtain ⟨xa,xcap,rfl⟩:=Zad hkx
 obtain ⟨ya,ycap,rfl⟩:=Zad hky
 have Hra:=Zaa (Zpw w B _ cs vs ρ rk a h hu ha hl)
 have Hrb:=Zaa (Zpw w B _ cs vs ρ rk b h hu hb hl)
 rw [← hxe] at Hra
 rw [← hye] at Hrb
 have H:=Zaa h
 have Hu:=Zaa hu
 have HG:=Zaa hG
 have Hm:=Zaa hm
 have Hrt:=Zaa hrt
 have Hih:=Zaa IH
 have Hxe:=Zaa hxe
 have Hye:=Zaa hye
 have Hrx:=Zaa rx
 have Hry:=Zaa ry
 have Hcx:=Zaa hcx
 have Hcy:=Zaa hcy
 have Hkx:=Zaa hkx
 have Hwx:=Zaa hvx
 have Hwy:=Zaa hvy
 have Hky:=Zaa hky
 clear h hu hG hm hrt IH hxe hye rx ry hcx hcy hkx hky hvx hvy
 by_cases hxy:x=y
 ·have hxy':((x:Int) == (y:Int))=true:=by rw [beq_iff_eq]; omega
  have Hxy:=Zaa hxy
  clear hxy
  go_enter Tryz.func211,Tryz.ntmps211
  go_wp2_with fail
  refine Hra.out.mono ?_
  rintro e w1 ⟨rfl,rfl⟩
  go_wp2_with fail
  refine Hrb.out.mono ?_
  rintro e w1 ⟨rfl,rfl⟩
  go_wp2
  go_ret
  exact ⟨true,cs,ρ,rk,rfl,H.out,rfl,Hu.out,Qe _,Qx _ _,fun _=>Joined.same Hrt.out (Hxe.out.symm.trans (Hxy.out.trans Hye.out)),by simp⟩
 ·have hxy':((x:Int) == (y:Int))=false:=by rw [Qu]; omega
  have Hxy:=Zaa hxy
  clear hxy
  by_cases hvx:cx.sym.name=[]
  ·have hvx':cx.sym.name.isEmpty=true:=by simpa using hvx
   go_enter Tryz.func211,Tryz.ntmps211
   go_wp2_with fail
   refine Hra.out.mono ?_
   rintro e w1 ⟨rfl,rfl⟩
   go_wp2_with fail
   refine Hrb.out.mono ?_
   rintro e w1 ⟨rfl,rfl⟩
   go_wp2
   go_ret
   refine ⟨true,turn cs x y,mg ρ x y,_,rfl,H.out.turn hx y,Ztx _ _ _,Hu.out.turn hx hy Hrx.out Hry.out Hxy.out,?_,Zel _ _ _ _ _ _,fun _=>Joined.var Hrt.out ha hb (Or.inl ⟨Hxe.out,Hye.out⟩) Hxy.out (by rw [(Zdy Hcx.out).1]; exact hvx),by simp⟩
   obtain ⟨c',e1,e2,_⟩:=Hu.out.root _ x cx (Qe _) Hcx.out
   rw [Hrx.out] at e1 e2
   exact Nat.le_of_lt (Zge e1 e2 Hxy.out)
  ·have hvx':cx.sym.name.isEmpty=false:=by simpa using hvx
   by_cases hvy:cy.sym.name=[]
   ·have hvy':cy.sym.name.isEmpty=true:=by simpa using hvy
    go_enter Tryz.func211,Tryz.ntmps211
    go_wp2_with fail
    refine Hra.out.mono ?_
    rintro e w1 ⟨rfl,rfl⟩
    go_wp2_with fail
    refine Hrb.out.mono ?_
    rintro e w1 ⟨rfl,rfl⟩
    go_wp2
    go_ret
    refine ⟨true,turn cs y x,mg ρ y x,_,rfl,H.out.turn hy x,Ztx _ _ _,Hu.out.turn hy hx Hry.out Hrx.out (fun e=>Hxy.out e.symm),?_,Zel _ _ _ _ _ _,fun _=>Joined.var Hrt.out ha hb (Or.inr ⟨Hye.out,Hxe.out⟩) (fun e=>Hxy.out e.symm) (by rw [(Zdy Hcy.out).1]; exact hvy),by simp⟩
    obtain ⟨c',e1,e2,_⟩:=Hu.out.root _ y cy (Qe _) Hcy.out
    rw [Hry.out] at e1 e2
    exact Nat.le_of_lt (Zge e1 e2 (fun e=>Hxy.out e.symm))
   ·have hvy':cy.sym.name.isEmpty=false:=by simpa using hvy
    have Hax:Hid (cx.sym.args=cx.kids.length):=by have:=HG.out.ar x hx; rw [(Zdy Hcx.out).1,(Zdy Hcx.out).2] at this; exact this
    have Hay:Hid (cy.sym.args=cy.kids.length):=by have:=HG.out.ar y hy; rw [(Zdy Hcy.out).1,(Zdy Hcy.out).2] at this; exact this
    have Hcl:Hid ((cx.sym.name≠cy.sym.name∨cx.kids.length≠cy.kids.length)→Clash (gr cs) ρ [a] [b]):=fun h=>by
     refine Ziy HG.out Hrt.out ha hb (Or.inl ⟨Hxe.out,Hye.out⟩) (by rw [(Zdy Hcx.out).1]; exact hvx) (by rw [(Zdy Hcy.out).1]; exact hvy) ?_
     rw [(Zdy Hcx.out).1,(Zdy Hcy.out).1,Hax.out,Hay.out]
     exact h
    by_cases hnm:cx.sym.name=cy.sym.name
    ·by_cases hkl:cx.kids.length=cy.kids.length
     ·have hkl':(cx.kids.length:Int)=cy.kids.length:=by omega
      have Hkl:=Zaa hkl
      have Hnm:=Zaa hnm
      have hk4:cx.kids.length≤4000:=by have:=Hk4.out x; rw [(Zdy Hcx.out).2] at this; exact this
      have hlt0:Hid (Zcq (turn cs x y)<Zcq cs):=by
       obtain ⟨c',e1,e2,_⟩:=Hu.out.root _ x cx (Qe _) Hcx.out
       rw [Hrx.out] at e1 e2
       exact Zge e1 e2 Hxy.out
      go_enter Tryz.func211,Tryz.ntmps211
      go_wp2_with fail
      refine Hra.out.mono ?_
      rintro e w1 ⟨rfl,rfl⟩
      go_wp2_with fail
      refine Hrb.out.mono ?_
      rintro e w1 ⟨rfl,rfl⟩
      go_wp2_with fail
      go_quiet (fail)
      go_wp2
      go_loopg [9] (cx.kids.length+1) (fun gk i wr=>∃ (k:Nat) (cs':List CellS) (ρ' rk':Nat→Nat),i = .int .i64 k∧k≤cx.kids.length∧cx.kids.length - k<gk∧CellsAt wr B (.slice (some ⟨g,0,none⟩) cs.length cap) cs' vs∧gr cs'=gr cs∧UpOk cs' ρ' rk'∧Zcq cs'<Zcq cs ∧
       Kept (Zap (.slice (some ⟨g,0,none⟩) cs.length cap)) w1 wr∧Joined (gr cs) (mg ρ x y) ρ' (cx.kids.take k) (cy.kids.take k))
      case atStart =>
       exact ⟨0,turn cs x y,mg ρ x y,_,rfl,Qm _,by omega,CellsAt.turn (w:=w1.drewN nq) (H.out.ext (fun _ _=>rfl)) hx y,Ztx _ _ _,Hu.out.turn hx hy Hrx.out Hry.out Hxy.out,hlt0.out,((Qx _ w1).drewN nq).trans (Zel _ _ _ _ _ _),Joined.nil (by have:=(Hu.out.turn hx hy Hrx.out Hry.out Hxy.out).rt; rw [Zin] at this; exact this)⟩
      case round =>
       obtain ⟨k,cs',ρ',rk',rfl,hk,hgk,hcs,hgr,hup,hrt',hkp,hj⟩:=hrel
       have hcl:=Ygc hgr
       obtain ⟨g1,cap1,cx',vx1,he1,hcx',hvx1,_,_,_,_,_,xx2,_,_,hkx'⟩:=hcs.at (i:=x) (by omega)
       obtain ⟨g2,cap2,cy',vy1,he2,hcy',hvy1,_,_,_,_,_,yy2,_,_,hky'⟩:=hcs.at (i:=y) (by omega)
       simp only [Value.slice.injEq,Qo,Addr.mk.injEq] at he1 he2
       obtain ⟨⟨rfl,_⟩,hq1,rfl⟩:=he1
       obtain ⟨⟨rfl,_⟩,hq2,rfl⟩:=he2
       clear hq1 hq2
       rw [Hwx.out] at hvx1
       rw [Hwy.out] at hvy1
       simp only [Qo] at hvx1 hvy1
       subst hvx1 hvy1
       rw [(Ygb hgr Hcx.out hcx').2] at hkx'
       rw [(Ygb hgr Hcy.out hcy').2] at hky'
       have Hcs:=Zaa hcs
       have Hgr:=Zaa hgr
       have Hup:=Zaa hup
       have Hrt':=Zaa hrt'
       have Hkp:=Zaa hkp
       have Hj:=Zaa hj
       clear hcs hgr hup hrt' hkp hj hcx' hcy' x0 x1 x2 x3 xf y0 y1 y2 y3 yf
       by_cases hlt:k<cx.kids.length
       ·obtain ⟨nx,hnx⟩:∃ n,cx.kids[k]?=some n:=⟨_,Qb hlt⟩
        obtain ⟨ny,hny⟩:∃ n,cy.kids[k]?=some n:=⟨_,Qb (Hkl.out ▸ hlt)⟩
        obtain ⟨gx,capx,curx,hex,_,_,hcpx⟩:=Zan hkx' (by omega)
        simp only [Value.slice.injEq] at hex
        obtain ⟨rfl,_,rfl⟩:=hex
        obtain ⟨gy,capy,cury,hey,_,_,hcpy⟩:=Zan hky' (by omega)
        simp only [Value.slice.injEq] at hey
        obtain ⟨rfl,_,rfl⟩:=hey
        have zx:wr.cell? ⟨gx,k,none⟩=some (.int .i64 nx):=Zaf hkx' k _ (by simp [ints,hnx])
        have zy:wr.cell? ⟨gy,k,none⟩=some (.int .i64 ny):=Zaf hky' k _ (by simp [ints,hny])
        have hnxl:nx<cs'.length:=by
         have:=HG.out.kl x hx nx (by rw [(Zdy Hcx.out).2]; exact Qh hnx)
         rw [hcl]; exact this
        have hnyl:ny<cs'.length:=by
         have:=HG.out.kl y hy ny (by rw [(Zdy Hcy.out).2]; exact Qh hny)
         rw [hcl]; exact this
        have HI:=Zaa (Hih.out (Zcq cs') (by have:=Hm.out; have:=Hrt'.out; omega) wr.drew B (.slice (some ⟨g,0,none⟩) cs.length cap) cs' vs ρ' rk' nx ny (Hcs.out.ext (fun _ _=>rfl)) Hup.out (by rw [Hgr.out]; exact HG.out) (Qe _) hnxl hnyl (by omega) (by rw [Hgr.out]; exact Hk4.out))
        have Hnx:=Zaa hnx
        have Hny:=Zaa hny
        have hltn:k<cy.kids.length:=by omega
        clear hkx' hky' hnx hny hcl hkl hkl' hnm
        go_wp2_with fail
        refine Zji (by kernel_rfl) [.pur (.slice (some ⟨g,0,none⟩) cs.length cap),.pur (.slice (some ⟨g,0,none⟩) cs.length cap),.pur (.int .i64 x),.pur (.pointer (some ⟨g,x * 4,none⟩)),.pur (.pointer (some ⟨g,x * 4+2,none⟩)),.pur (.slice (some ⟨gx,0,none⟩) cx.kids.length xcap),.pur (.int .i64 k),.pur (.pointer (some ⟨gx,k,none⟩)),.pur (.int .i64 nx),
         .pur (.slice (some ⟨g,0,none⟩) cs.length cap),.pur (.int .i64 y),.pur (.pointer (some ⟨g,y * 4,none⟩)),.pur (.pointer (some ⟨g,y * 4+2,none⟩)),.pur (.slice (some ⟨gy,0,none⟩) cy.kids.length ycap),.pur (.int .i64 k),.pur (.pointer (some ⟨gy,k,none⟩)),.pur (.int .i64 ny),.cal,.post (fun v=>v)] 17 19 (by kernel_rfl)
         (fun v u=>∃ (q:Bool) (cs'':List CellS) (ρ'' rk'':Nat→Nat),v = .bool q∧CellsAt u B (.slice (some ⟨g,0,none⟩) cs.length cap) cs'' vs∧gr cs''=gr cs∧UpOk cs'' ρ'' rk''∧Zcq cs''<Zcq cs∧Kept (Zap (.slice (some ⟨g,0,none⟩) cs.length cap)) wr u ∧
          (q=true→Joined (gr cs) ρ' ρ'' [nx] [ny])∧(q=false→Clash (gr cs) ρ' [nx] [ny]))
         (fun v u=>∃ (q:Bool) (cs'':List CellS) (ρ'' rk'':Nat→Nat),v = .bool q∧CellsAt u B (.slice (some ⟨g,0,none⟩) cs.length cap) cs'' vs∧gr cs''=gr cs∧UpOk cs'' ρ'' rk''∧Zcq cs''<Zcq cs∧Kept (Zap (.slice (some ⟨g,0,none⟩) cs.length cap)) wr u ∧
          (q=true→Joined (gr cs) ρ' ρ'' [nx] [ny])∧(q=false→Clash (gr cs) ρ' [nx] [ny])) 211 #[.slice (some ⟨g,0,none⟩) cs.length cap,.int .i64 nx,.int .i64 ny] ?_ ?_ rfl (by decide) (Or.inr ⟨by decide,fun _ _ h=>h⟩) ?_
        ·refine HI.out.mono ?_
         rintro e u ⟨q,cs'',ρ'',rk'',rfl,h1,h2,h3,h4,h5,h6,h7⟩
         rw [Hgr.out] at h2 h6 h7
         exact ⟨_,rfl,q,cs'',ρ'',rk'',rfl,h1,h2,h3,by have:=Hrt'.out; omega,⟨h5.os,h5.tape,h5.output,h5.size,h5.block⟩,h6,h7⟩
        ·refine ⟨fun vc => ?_,fun vc => ?_,fun vc => ?_,fun vc => ?_,fun vc => ?_,fun vc => ?_,fun vc => ?_,fun vc => ?_,fun vc => ?_,fun vc => ?_,fun vc => ?_,fun vc => ?_,fun vc => ?_,fun vc => ?_,fun vc => ?_,fun vc => ?_,fun vc => ?_,fun vc => ?_,?_,trivial⟩
         all_goals try (simp [pa,Kd.val,go_sem,xx2,yy2,zx,zy,hlt,hltn,hx,hy]; done)
         intro vc u _
         simp [pa,Kd.val,go_sem]
        rintro vc w2 ⟨q,cs'',ρ'',rk'',rfl,h1,h2,h3,h4,h5,h6,h7⟩
        simp only [paAll,pa,Kd.val,if_true,Act.put]
        have J1:=Zaa h1
        have J2:=Zaa h2
        have J3:=Zaa h3
        have J4:=Zaa h4
        have J5:=Zaa h5
        have J6:=Zaa h6
        have J7:=Zaa h7
        clear h1 h2 h3 h4 h5 h6 h7 xx2 yy2 zx zy
        have Hkk:Hid (∀ j ∈ cx.kids.take k,j<(gr cs).n):=fun j hj=>HG.out.kl x hx j (by rw [(Zdy Hcx.out).2]; exact List.mem_of_mem_take hj)
        have Hkk':Hid (∀ j ∈ cy.kids.take k,j<(gr cs).n):=fun j hj=>HG.out.kl y hy j (by rw [(Zdy Hcy.out).2]; exact List.mem_of_mem_take hj)
        cases q
        ·go_wp2
         refine bodyPost_ret (v := .bool false) (by simp [results,Tryz.results211,go_sem]) rfl ?_
         have hc:=Clash.snoc Hj.out (J7.out trivial) (cx.kids.drop (k+1)) (cy.kids.drop (k+1))
         rw [← Ziu Hnx.out,← Ziu Hny.out] at hc
         refine Or.inl ⟨rfl,cs'',J1.out,J2.out,⟨ρ'',rk'',J3.out⟩,Nat.le_of_lt J4.out,Hkp.out.trans J5.out,?_⟩
         exact Zod HG.out Hrt.out ha hb (Or.inl ⟨Hxe.out,Hye.out⟩) (by rw [(Zdy Hcx.out).1]; exact hvx) (by rw [(Zdy Hcx.out).1,(Zdy Hcy.out).1]; exact Hnm.out) (by rw [(Zdy Hcx.out).2,(Zdy Hcy.out).2]; exact hc)
        ·go_wp2
         go_roundg (cx.kids.length - k)
         case measure=>omega
         case rel =>
          have hj2:=Joined.snoc HG.out Hj.out (J6.out trivial) Hkk.out Hkk'.out
          rw [← Zhy Hnx.out,← Zhy Hny.out] at hj2
          exact ⟨k+1,cs'',ρ'',rk'',by go_num,by omega,by omega,J1.out,J2.out,J3.out,J4.out,Hkp.out.trans J5.out,hj2⟩
       ·have hek:k=cx.kids.length:=by omega
        subst hek
        have Hjj:Hid (Joined (gr cs) ρ ρ' [a] [b]):=by
         have hj3:=Hj.out
         rw [List.take_length,Hkl.out,List.take_length] at hj3
         exact Joined.name HG.out Hrt.out ha hb (Or.inl ⟨Hxe.out,Hye.out⟩) Hxy.out (by rw [(Zdy Hcx.out).1]; exact hvx) (by rw [(Zdy Hcx.out).1,(Zdy Hcy.out).1]; exact Hnm.out) (by rw [(Zdy Hcx.out).2,(Zdy Hcy.out).2]; exact hj3)
        clear hkx' hky' hcl hkl hkl' hnm
        go_wp2
        go_ret
        exact ⟨true,cs',ρ',rk',rfl,Hcs.out,Hgr.out,Hup.out,Nat.le_of_lt Hrt'.out,Hkp.out,fun _=>Hjj.out,by simp⟩
     ·have hkl':¬ (cx.kids.length:Int)=cy.kids.length:=by omega
      go_enter Tryz.func211,Tryz.ntmps211
      go_wp2_with fail
      refine Hra.out.mono ?_
      rintro e w1 ⟨rfl,rfl⟩
      go_wp2_with fail
      refine Hrb.out.mono ?_
      rintro e w1 ⟨rfl,rfl⟩
      go_wp2_with fail
      go_quiet (fail)
      go_wp2
      go_ret
      exact ⟨false,cs,ρ,rk,rfl,H.out.ext (fun _ _=>rfl),rfl,Hu.out,Qe _,⟨rfl,rfl,rfl,Qe _,fun _ _ _=>rfl⟩,by simp,fun _=>Hcl.out (Or.inr hkl)⟩
    ·go_enter Tryz.func211,Tryz.ntmps211
     go_wp2_with fail
     refine Hra.out.mono ?_
     rintro e w1 ⟨rfl,rfl⟩
     go_wp2_with fail
     refine Hrb.out.mono ?_
     rintro e w1 ⟨rfl,rfl⟩
     go_wp2_with fail
     go_quiet (fail)
     go_wp2
     go_ret
     exact ⟨false,cs,ρ,rk,rfl,H.out.ext (fun _ _=>rfl),rfl,Hu.out,Qe _,⟨rfl,rfl,rfl,Qe _,fun _ _ _=>rfl⟩,by simp,fun _=>Hcl.out (Or.inl hnm)⟩
theorem Zyf (m:Nat):Zks m:=by
 induction m using Nat.strongRecOn with
 | _ m ih=>exact Zty m ih
def fresh (st:List Nat):Nat:=(st.filter (fun n=>n == 0)).length
theorem Ybg:∀ {st:List Nat} {x:Nat},st[x]?=some 0→fresh (st.set x 1)<fresh st:=by
 intro st
 induction st with
 | nil=>intro x h; simp at h
 | cons n st ih =>
  intro x h
  cases x with
  | zero=>simp at h; subst h; simp [fresh]
  | succ x =>
   have:=ih (x:=x) (by simpa using h)
   simp only [fresh,List.set_cons_succ,List.filter_cons] at this ⊢
   split <;> simp <;> omega
theorem Zyg:∀ {st:List Nat} {x:Nat},fresh (st.set x 2)≤fresh st:=by
 intro st
 induction st with
 | nil=>intro x; simp [fresh]
 | cons n st ih =>
  intro x
  cases x with
  | zero=>simp [fresh,List.filter_cons]; split <;> simp
  | succ x =>
   have:=ih (x:=x)
   simp only [fresh,List.set_cons_succ,List.filter_cons] at this ⊢
   split <;> simp <;> omega
def dn (st:List Nat):Nat→Prop:=fun i=>st[i]?=some 2
def on (st:List Nat):Nat→Prop:=fun i=>st[i]?=some 1
theorem CellsAt.other {w w':World} {B Bs n:Nat} {lv sv:Value} {cs:List CellS} {vs xs:List Value} (h:CellsAt w B lv cs vs) (hs:w.ownsRow Bs 3 1 sv n xs) (hap:∀ (j:Nat) (c:CellS) (v:Value),cs[j]?=some c→vs[j]?=some v→∀ k,v.ownBlock=some k→¬ Zap sv k)
  (hk:Kept (Zap sv) w w'):CellsAt w' B lv cs vs :=
 ⟨h.len,hk.owns h.owns (fun k e=>by
  obtain ⟨cur,hc⟩:=Zar h.owns k e
  exact Zah hs (by decide) hc),fun i c v h1 h2=>hk.owns (h.kids i c v h1 h2) (fun k e=>hap i c v h1 h2 k e)⟩
theorem Zvx (l:List Nat) (i n:Nat):(ints l).set i (.int .i64 n)=ints (l.set i n):=by simp [ints,List.map_set]
theorem Yhb {st:List Nat} {x:Nat} (h:st[x]?=some 0) (j:Nat):on (st.set x 1) j↔on st j∨j=x:=by
 have hx:=(Qa.1 h).1
 unfold on
 rw [List.getElem?_set]
 by_cases e:x=j
 ·subst e; simp [hx]
 ·simp [e]; exact fun e'=>absurd e'.symm e
theorem Ybh {st:List Nat} {x:Nat} (h:st[x]?=some 0) (j:Nat):dn (st.set x 1) j↔dn st j:=by
 have hx:=(Qa.1 h).1
 unfold dn
 rw [List.getElem?_set]
 by_cases e:x=j
 ·subst e; rw [h]; simp [hx]
 ·simp [e]
theorem Ztz {st:List Nat} {x:Nat} (hx:x<st.length) (j:Nat):dn (st.set x 2) j↔dn st j∨j=x:=by
 unfold dn
 rw [List.getElem?_set]
 by_cases e:x=j
 ·subst e; simp [hx]
 ·simp [e]; exact fun e'=>absurd e'.symm e
theorem Yhc {st:List Nat} {x:Nat} (hx:x<st.length) (j:Nat):on (st.set x 2) j↔on st j∧j≠x:=by
 unfold on
 rw [List.getElem?_set]
 by_cases e:x=j
 ·subst e; simp [hx]
 ·simp [e]; exact fun _ e'=>absurd e'.symm e
theorem Zoq {st:List Nat} {x v:Nat} (h:∀ n ∈ st,n≤2) (hv:v≤2):∀ n ∈ st.set x v,n≤2:=by
 intro n hn
 rcases List.mem_or_eq_of_mem_set hn with h' | rfl
 ·exact h n h'
 ·exact hv
theorem Known.congr {G:Gr} {ρ:Nat→Nat} {D D':Nat→Prop} {T T':Nat→List Sym} (h:Known G ρ D T) (hd:∀ i,D' i↔D i) (ht:∀ i,D i→T' i=T i):Known G ρ D' T':=by
 refine ⟨fun r hr=>h.lt r ((hd r).1 hr),fun r hr => ?_,fun r hr k hk=>(hd _).2 (h.kid r ((hd r).1 hr) k hk)⟩
 have hr':=(hd r).1 hr
 rw [ht r hr',h.tm r hr']
 congr 2
 exact List.map_congr_left (fun k hk=>(ht _ (h.kid r hr' k hk)).symm)
def Zpz (m:Nat):Prop:=∀ (w:World) (B Bs:Nat) (lv sv:Value) (cs:List CellS) (vs:List Value) (ρ rk:Nat→Nat) (st:List Nat) (T:Nat→List Sym) (i:Nat),CellsAt w B lv cs vs→UpOk cs ρ rk→(gr cs).Ok→w.ownsRow Bs 3 1 sv st.length (ints st) →
 (∀ (j:Nat) (c:CellS) (v:Value),cs[j]?=some c→vs[j]?=some v→∀ k,v.ownBlock=some k→¬ Zap sv k)→st.length=cs.length→(∀ n ∈ st,n≤2)→fresh st≤m→i<cs.length→cs.length≤4000→(∀ j,((gr cs).kids j).length≤4000)→Known (gr cs) ρ (dn st) T →
 Calls Tryz.prog 212 #[lv,.int .i64 i,sv] w fun e w'=>∃ (qv:Value) (st':List Nat) (T':Nat→List Sym),e = .returned qv∧w'.ownsRow Bs 3 1 sv st'.length (ints st')∧Kept (Zap sv) w w'∧st'.length=st.length ∧
  ((qv = .bool true∧(∀ n ∈ st',n≤2)∧fresh st'≤fresh st∧Known (gr cs) ρ (dn st') T'∧dn st' (ρ i)∧(∀ j,on st' j↔on st j)∧(∀ j,dn st j→dn st' j∧T' j=T j))∨(qv = .bool false∧Stuck (gr cs) ρ (on st) i))
theorem Ybi (m:Nat) (IH:∀ k,k<m→Zpz k):Zpz m:=by
 intro w B Bs lv sv cs vs ρ rk st T i h hu hG hs hap hsl h2 hm hi hl hk4 hK
 have hrt:=hu.rt
 have hx:=hrt.lt i hi
 have rx:=hrt.idem i hi
 obtain ⟨x,hxe⟩:∃ x,x=ρ i:=⟨_,rfl⟩
 rw [← hxe] at hx rx
 obtain ⟨g,cap,cx,vx,rfl,hcx,hvx,hB,hgl,hcap,x0,x1,x2,x3,xf,hkx⟩:=h.at hx
 obtain ⟨xa,xcap,rfl⟩:=Zad hkx
 obtain ⟨gs,scap,scur,rfl,hBs,hsb,hscap⟩:=Zan hs (by omega)
 obtain ⟨n,hn⟩:∃ n,st[x]?=some n:=⟨_,Qb (by omega)⟩
 have s0:w.cell? ⟨gs,x,none⟩=some (.int .i64 n):=Zaf hs x _ (by simp [ints,hn])
 have sf:∀ j,w.frozen? ⟨gs,j,none⟩=false:=fun j=>Zae hsb j
 have hn2:=h2 n (Qh hn)
 have hxs:x<st.length:=by omega
 have Hr:=Zaa (Zpw w B _ cs vs ρ rk i h hu hi hl)
 rw [← hxe] at Hr
 have H:=Zaa h
 have Hu:=Zaa hu
 have HG:=Zaa hG
 have Hm:=Zaa hm
 have Hih:=Zaa IH
 have Hxe:=Zaa hxe
 have Hrx:=Zaa rx
 have Hcx:=Zaa hcx
 have Hkx:=Zaa hkx
 have Hs:=Zaa hs
 have Hap:=Zaa hap
 have H2:=Zaa h2
 have HK:=Zaa hK
 have Hn:=Zaa hn
 have Hwx:=Zaa hvx
 have Hk4:=Zaa hk4
 have Hsl:=Zaa hsl
 clear hsl
 clear h hu hG hm IH hxe rx hcx hkx hs hap h2 hK hn hvx hrt hsb hk4
 have hcase:n=0∨n=1∨n=2:=by omega
 rcases hcase with rfl | rfl | rfl
 ·have hk4:cx.kids.length≤4000:=by have:=Hk4.out x; rw [(Zdy Hcx.out).2] at this; exact this
  go_enter Tryz.func212,Tryz.ntmps212
  go_wp2_with fail
  refine Hr.out.mono ?_
  rintro e w1 ⟨rfl,rfl⟩
  go_wp2
  go_loopg [8] (cx.kids.length+1) (fun gk iv wr=>∃ (k:Nat) (st':List Nat) (T':Nat→List Sym),iv = .int .i64 k∧k≤cx.kids.length∧cx.kids.length - k<gk∧wr.ownsRow Bs 3 1 (.slice (some ⟨gs,0,none⟩) st.length scap) st'.length (ints st')∧Kept (Zap (.slice (some ⟨gs,0,none⟩) st.length scap)) w1 wr ∧
    st'.length=st.length∧(∀ n ∈ st',n≤2)∧fresh st'<fresh st∧Known (gr cs) ρ (dn st') T'∧(∀ j ∈ cx.kids.take k,dn st' (ρ j))∧(∀ j,on st' j↔on st j∨j=x)∧(∀ j,dn st j→dn st' j∧T' j=T j))
  case atStart =>
   refine ⟨0,st.set x 1,T,by go_num,Qm _,by omega,?_,Zel _ _ _ _ _ _,by simp,Zoq H2.out (by omega),Ybg Hn.out,HK.out.congr (Ybh Hn.out) (fun _ _=>rfl),by simp,Yhb Hn.out,fun j hj=>⟨(Ybh Hn.out j).2 hj,rfl⟩⟩
   have:=Zpa Hs.out x (.int .i64 1)
   have e1:(ints st).set x (.int .i64 1)=ints (st.set x 1):=Zvx st x 1
   rw [e1] at this
   simpa using this
  case round =>
   obtain ⟨k,st',T',rfl,hk,hgk,hown,hkp,hlen,hle,hfr,hkn,hkd,hon,hold⟩:=hrel
   obtain ⟨_,_,cx',vx1,he1,hcx',hvx1,_,_,_,_,_,xx2,_,_,hkx'⟩:=(H.out.other Hs.out Hap.out hkp).at (i:=x) (by omega)
   simp only [Value.slice.injEq,Qo,Addr.mk.injEq] at he1
   obtain ⟨⟨rfl,_⟩,hq1,rfl⟩:=he1
   clear hq1
   rw [Hwx.out] at hvx1
   rw [Hcx.out] at hcx'
   simp only [Qo] at hvx1 hcx'
   subst hvx1 hcx'
   have Hcs:=Zaa (H.out.other Hs.out Hap.out hkp)
   have Hown:=Zaa hown
   have Hkp:=Zaa hkp
   have Hlen:=Zaa hlen
   have Hle:=Zaa hle
   have Hfr:=Zaa hfr
   have Hkn:=Zaa hkn
   have Hkd:=Zaa hkd
   have Hon:=Zaa hon
   have Hold:=Zaa hold
   have hsb':∃ cur,wr.heap[gs]?=some (.cells cur 3 (0,0)):=Zar hown gs rfl
   clear hown hkp hlen hle hfr hkn hkd hon hold x0 x1 x2 x3 xf s0 sf
   by_cases hlt:k<cx.kids.length
   ·obtain ⟨nx,hnx⟩:∃ n,cx.kids[k]?=some n:=⟨_,Qb hlt⟩
    obtain ⟨gx,capx,curx,hex,_,_,hcpx⟩:=Zan hkx' (by omega)
    simp only [Value.slice.injEq] at hex
    obtain ⟨rfl,_,rfl⟩:=hex
    have zx:wr.cell? ⟨gx,k,none⟩=some (.int .i64 nx):=Zaf hkx' k _ (by simp [ints,hnx])
    have Hmem:Hid (nx ∈ (gr cs).kids (ρ i)):=by show _ ∈ _; rw [← Hxe.out,(Zdy Hcx.out).2]; exact Qh hnx
    have hnxl:nx<cs.length:=HG.out.kl x hx nx (by rw [(Zdy Hcx.out).2]; exact Qh hnx)
    have HI:=Zaa (Hih.out (fresh st') (by have:=Hm.out; have:=Hfr.out; omega) wr B Bs (.slice (some ⟨g,0,none⟩) cs.length cap) (.slice (some ⟨gs,0,none⟩) st.length scap) cs vs ρ rk st' T' nx Hcs.out Hu.out HG.out Hown.out Hap.out (Hlen.out.trans Hsl.out) Hle.out (Qe _) hnxl hl Hk4.out Hkn.out)
    have Hnx:=Zaa hnx
    clear hkx' hnx hsb'
    go_wp2_with fail
    refine HI.out.mono ?_
    rintro e w2 ⟨qv,st'',T'',rfl,h1,h2,h3,⟨rfl,h4,h5,h6,h7,h8,h9⟩ | ⟨rfl,h4⟩⟩
    ·have J:=Zaa (And.intro h1 (And.intro h2 (And.intro h3 (And.intro h4 (And.intro h5 (And.intro h6 (And.intro h7 (And.intro h8 h9))))))))
     clear h1 h2 h3 h4 h5 h6 h7 h8 h9 xx2 zx
     go_wp2
     go_roundg (cx.kids.length - k)
     case measure=>omega
     case rel =>
      obtain ⟨h1,h2,h3,h4,h5,h6,h7,h8,h9⟩:=J.out
      refine ⟨k+1,st'',T'',by go_num,by omega,by omega,h1,Hkp.out.trans h2,h3.trans Hlen.out,h4,by have:=Hfr.out; omega,h6,?_,fun j=>(h8 j).trans (Hon.out j),fun j hj=>⟨(h9 j (Hold.out j hj).1).1,(h9 j (Hold.out j hj).1).2.trans (Hold.out j hj).2⟩⟩
      intro j hj
      rw [Zhy Hnx.out] at hj
      rcases Qk.1 hj with hj | hj
      ·exact (h9 _ (Hkd.out j hj)).1
      ·simp at hj; subst hj; exact h7
    ·have J:=Zaa (And.intro h1 (And.intro h2 (And.intro h3 h4)))
     clear h1 h2 h3 h4 xx2 zx
     go_wp2
     refine bodyPost_ret (v := .bool false) (by simp [results,Tryz.results212,go_sem]) rfl ?_
     obtain ⟨h1,h2,h3,h4⟩:=J.out
     have hst:Stuck (gr cs) ρ (on st) i:=Stuck.up HG.out hi (by rw [← Hxe.out]; exact hx) Hmem.out (fun val hv hc=>by
      obtain ⟨r,hr,hle⟩:=h4 val hv hc
      exact ⟨r,by rw [← Hxe.out]; exact (Hon.out r).1 hr,hle⟩)
     exact ⟨_,st'',T,rfl,h1,Hkp.out.trans h2,h3.trans Hlen.out,Or.inr ⟨rfl,hst⟩⟩
   ·have hek:k=cx.kids.length:=by omega
    subst hek
    obtain ⟨cur',hcur'⟩:=hsb'
    have zs:∃ u,wr.cell? ⟨gs,x,none⟩=some u:=by
     have hl':=Hlen.out
     have ho:=Hown.out
     rw [hl'] at ho
     have hxl:x<st'.length:=by omega
     exact ⟨_,Zaf ho x (.int .i64 (st'[x]'hxl)) (by simp [ints,hxl])⟩
    obtain ⟨u,zs⟩:=zs
    have zf:∀ j,wr.frozen? ⟨gs,j,none⟩=false:=fun j=>Zae hcur' j
    clear hkx' hcur'
    go_wp2
    refine bodyPost_ret (v := .bool true) (by simp [results,Tryz.results212,go_sem]) rfl ?_
    have hl':=Hlen.out
    have hxl:x<st'.length:=by omega
    have hnd:¬ dn st' x:=fun hd=>by
     have:=(Hon.out x).2 (Or.inr rfl)
     unfold on at this
     unfold dn at hd
     rw [this] at hd
     simp at hd
    have hkd:=Hkd.out
    rw [List.take_length] at hkd
    have hKn:=Hkn.out.more (r:=x) hx Hrx.out hnd (by rw [(Zdy Hcx.out).2]; exact hkd)
    refine ⟨_,st'.set x 2,_,rfl,?_,Hkp.out.trans (Zel _ _ _ _ _ _),by simpa using hl',Or.inl ⟨rfl,Zoq Hle.out (by omega),Qq Zyg (Nat.le_of_lt Hfr.out),hKn.congr (Ztz hxl) (fun _ _=>rfl),by rw [← Hxe.out]; exact (Ztz hxl x).2 (Or.inr rfl),?_,?_⟩⟩
    ·have ho:=Hown.out
     rw [hl'] at ho
     have:=Zpa ho x (.int .i64 2)
     have e1:(ints st').set x (.int .i64 2)=ints (st'.set x 2):=Zvx st' x 2
     rw [e1] at this
     simpa [hl'] using this
    ·intro j
     rw [Yhc hxl,Hon.out]
     constructor
     ·rintro ⟨h | h,hne⟩
      ·exact h
      ·exact absurd h hne
     ·intro h
      refine ⟨Or.inl h,fun e => ?_⟩
      subst e
      unfold on at h
      rw [Hn.out] at h
      simp at h
    ·intro j hj
     refine ⟨(Ztz hxl j).2 (Or.inl (Hold.out j hj).1),?_⟩
     have hjx:j≠x:=fun e=>by
      subst e
      unfold dn at hj
      rw [Hn.out] at hj
      simp at hj
     show (if j=x then _ else T' j)=T j
     rw [if_neg hjx]
     exact (Hold.out j hj).2
 ·go_enter Tryz.func212,Tryz.ntmps212
  go_wp2_with fail
  refine Hr.out.mono ?_
  rintro e w1 ⟨rfl,rfl⟩
  go_wp2
  refine bodyPost_ret (v := .bool false) (by simp [results,Tryz.results212,go_sem]) rfl ?_
  exact ⟨_,st,T,rfl,Hs.out,Qx _ _,rfl,Or.inr ⟨rfl,Stuck.here hi (by rw [← Hxe.out]; exact Hn.out)⟩⟩
 ·go_enter Tryz.func212,Tryz.ntmps212
  go_wp2_with fail
  refine Hr.out.mono ?_
  rintro e w1 ⟨rfl,rfl⟩
  go_wp2
  refine bodyPost_ret (v := .bool true) (by simp [results,Tryz.results212,go_sem]) rfl ?_
  exact ⟨_,st,T,rfl,Hs.out,Qx _ _,rfl,Or.inl ⟨rfl,H2.out,Qe _,HK.out,by rw [← Hxe.out]; exact Hn.out,fun _=>Iff.rfl,fun j hj=>⟨hj,rfl⟩⟩⟩
theorem Yec (m:Nat):Zpz m:=by
 induction m using Nat.strongRecOn with
 | _ m ih=>exact Ybi m ih
def Yhd (cs:List CellS):Prop:=∀ (i j:Nat) c d,cs[i]?=some c→cs[j]?=some d→c.sym.name=[]→d.sym.name=[]→c.sym.num=d.sym.num→i=j
structure LaidL (cs cs':List CellS) (ks:List Nat) (ts:List (List Sym)):Prop where
 ext:∃ new,cs'=cs++new
 kl:∀ k ∈ ks,k<cs'.length
 up:∀ (i:Nat) c,cs.length≤i→cs'[i]?=some c→c.up=i
 ok:∀ (i:Nat) c,cs.length≤i→cs'[i]?=some c→c.sym.args=c.kids.length∧(∀ k ∈ c.kids,k<cs'.length)∧(c.sym.name=[]→c.kids=[])∧(c.sym.name≠[]→c.sym.num=0)∧c.kids.length≤4000
 occ:∀ (i:Nat) c,cs.length≤i→cs'[i]?=some c→c.sym.name=[]→Occ c.sym.num ts.flatten
 uniq:Yhd cs→Yhd cs'
 tm:∀ tm0:Nat→List Sym,(∀ (i:Nat) c,cs[i]?=some c→c.sym.name=[]→tm0 i=vr c.sym.num)→∃ tm:Nat→List Sym,(∀ i,i<cs.length→tm i=tm0 i)∧(∀ (i:Nat) c,cs.length≤i→cs'[i]?=some c→tm i=c.sym::(c.kids.map tm).flatten)∧ks.map tm=ts
 len:cs'.length≤cs.length+ts.flatten.length
theorem LaidL.low {cs cs':List CellS} {ks:List Nat} {ts:List (List Sym)} (h:LaidL cs cs' ks ts) {i:Nat} (hi:i<cs.length):cs'[i]?=cs[i]?:=by
 obtain ⟨new,rfl⟩:=h.ext
 exact Qc hi
theorem LaidL.le {cs cs':List CellS} {ks:List Nat} {ts:List (List Sym)} (h:LaidL cs cs' ks ts):cs.length≤cs'.length:=by
 obtain ⟨new,rfl⟩:=h.ext
 simp
theorem LaidL.nil (cs:List CellS):LaidL cs cs [] [] :=
 ⟨⟨[],by simp⟩,by simp,fun i c h h'=>by have:=(Qa.1 h').1; omega,fun i c h h'=>by have:=(Qa.1 h').1; omega,fun i c h h'=>by have:=(Qa.1 h').1; omega,fun h=>h,
  fun tm0 _=>⟨tm0,fun _ _=>rfl,fun i c h h'=>by have:=(Qa.1 h').1; omega,rfl⟩,by simp⟩
theorem Yhe {s:Sym} (h:s.name=[]) (ha:s.args=0):[s]=vr s.num:=by cases s; simp at h ha; subst h ha; rfl
theorem LaidL.snoc {cs cs1 cs2:List CellS} {ks:List Nat} {ts:List (List Sym)} {k:Nat} {t:List Sym} (h:LaidL cs cs1 ks ts) (h':LaidL cs1 cs2 [k] [t]):LaidL cs cs2 (ks++[k]) (ts++[t]):=by
 have hle:=h.le
 have hle':=h'.le
 have hat:∀ (i:Nat) c,cs2[i]?=some c→(cs1[i]?=some c∧i<cs1.length)∨cs1.length≤i:=fun i c hc=>by
  rcases Nat.lt_or_ge i cs1.length with hi | hi
  ·rw [h'.low hi] at hc; exact Or.inl ⟨hc,hi⟩
  ·exact Or.inr hi
 refine ⟨?_,?_,?_,?_,?_,fun hu=>h'.uniq (h.uniq hu),?_,?_⟩
 ·obtain ⟨n1,rfl⟩:=h.ext
  obtain ⟨n2,rfl⟩:=h'.ext
  exact ⟨n1++n2,by simp⟩
 ·intro j hj
  rcases Qk.1 hj with hj | hj
  ·have:=h.kl j hj; omega
  ·exact h'.kl j hj
 ·intro i c hi hc
  rcases hat i c hc with ⟨h1,_⟩ | h1
  ·exact h.up i c hi h1
  ·exact h'.up i c h1 hc
 ·intro i c hi hc
  rcases hat i c hc with ⟨h1,_⟩ | h1
  ·obtain ⟨a1,a2,a3,a4,a5⟩:=h.ok i c hi h1
   exact ⟨a1,fun k hk=>by have:=a2 k hk; omega,a3,a4,a5⟩
  ·exact h'.ok i c h1 hc
 ·intro i c hi hc hn
  rw [List.flatten_append,Zcn]
  rcases hat i c hc with ⟨h1,_⟩ | h1
  ·exact Or.inl (h.occ i c hi h1 hn)
  ·exact Or.inr (h'.occ i c h1 hc hn)
 ·intro tm0 h0
  obtain ⟨tm1,e1,e2,e3⟩:=h.tm tm0 h0
  obtain ⟨tm2,f1,f2,f3⟩:=h'.tm tm1 (fun i c hc hn=>by
   rcases Nat.lt_or_ge i cs.length with hi | hi
   ·rw [e1 i hi]
    rw [h.low hi] at hc
    exact h0 i c hc hn
   ·obtain ⟨a1,_,a3,_⟩:=h.ok i c hi hc
    rw [e2 i c hi hc,a3 hn]
    simp only [List.map_nil,List.flatten_nil]
    exact Yhe hn (by rw [a1,a3 hn]; rfl))
  refine ⟨tm2,fun i hi=>(f1 i (by omega)).trans (e1 i hi),?_,?_⟩
  ·intro i c hi hc
   rcases hat i c hc with ⟨h1,hlt⟩ | h1
   ·rw [f1 i hlt,e2 i c hi h1]
    congr 2
    exact List.map_congr_left (fun k hk=>(f1 k ((h.ok i c hi h1).2.1 k hk)).symm)
   ·exact f2 i c h1 hc
  ·rw [Qr,f3]
   congr 1
   rw [← e3]
   exact List.map_congr_left (fun k hk=>f1 k (h.kl k hk))
 ·have:=h.len
  have:=h'.len
  simp only [List.flatten_append,Qg] at *
  omega
theorem LaidL.hit {cs:List CellS} {i n:Nat} {c:CellS} (hc:cs[i]?=some c) (hn:c.sym.name=[]) (hv:c.sym.num=n):LaidL cs cs [i] [vr n]:=by
 have hi:=(Qa.1 hc).1
 refine ⟨⟨[],by simp⟩,by simpa using hi,fun i c h h'=>by have:=(Qa.1 h').1; omega,fun i c h h'=>by have:=(Qa.1 h').1; omega,fun i c h h'=>by have:=(Qa.1 h').1; omega,fun h=>h,fun tm0 h0 => ?_,by simp⟩
 exact ⟨tm0,fun _ _=>rfl,fun i c h h'=>by have:=(Qa.1 h').1; omega,by simp [h0 i c hc hn,hv]⟩
theorem LaidL.miss {cs:List CellS} {n:Nat} (hm:∀ (i:Nat) c,cs[i]?=some c→c.sym.name=[]→c.sym.num≠n):LaidL cs (cs++[⟨⟨[],n,0⟩,[],cs.length⟩]) [cs.length] [vr n]:=by
 have hat:∀ (i:Nat) c,(cs++[(⟨⟨[],n,0⟩,[],cs.length⟩:CellS)])[i]?=some c→cs[i]?=some c∨(i=cs.length∧c=⟨⟨[],n,0⟩,[],cs.length⟩):=fun i c hc=>by
  rcases Nat.lt_or_ge i cs.length with hi | hi
  ·rw [Qc hi] at hc; exact Or.inl hc
  ·have:=(Qa.1 hc).1
   simp at this
   have e:i=cs.length:=by omega
   subst e
   simp at hc
   exact Or.inr ⟨rfl,hc.symm⟩
 have hnew:∀ (i:Nat) c,cs.length≤i→(cs++[(⟨⟨[],n,0⟩,[],cs.length⟩:CellS)])[i]?=some c→i=cs.length∧c=⟨⟨[],n,0⟩,[],cs.length⟩:=fun i c hi hc=>by
  rcases hat i c hc with h | h
  ·have:=(Qa.1 h).1; omega
  ·exact h
 refine ⟨⟨_,rfl⟩,by simp,?_,?_,?_,?_,?_,by simp [vr]⟩
 ·intro i c hi hc; obtain ⟨rfl,rfl⟩:=hnew i c hi hc; rfl
 ·intro i c hi hc; obtain ⟨rfl,rfl⟩:=hnew i c hi hc; simp
 ·intro i c hi hc _; obtain ⟨rfl,rfl⟩:=hnew i c hi hc; exact Zcn.2 (Or.inl (Zgb.2 rfl))
 ·intro hu i j c d hc hd h1 h2 h3
  rcases hat i c hc with hc' | ⟨rfl,rfl⟩
  ·rcases hat j d hd with hd' | ⟨rfl,rfl⟩
   ·exact hu i j c d hc' hd' h1 h2 h3
   ·exact absurd h3 (hm i c hc' h1)
  ·rcases hat j d hd with hd' | ⟨rfl,rfl⟩
   ·exact absurd h3.symm (hm j d hd' h2)
   ·rfl
 ·intro tm0 _
  refine ⟨fun i=>if i=cs.length then vr n else tm0 i,fun i hi=>by simp [show i≠cs.length by omega],?_,by simp⟩
  intro i c hi hc
  obtain ⟨rfl,rfl⟩:=hnew i c hi hc
  simp [vr]
def fill (cs:List CellS) (x:Nat) (ks:List Nat):List CellS:=cs.modify x (fun c => { c with kids:=ks })
theorem Zkb (cs:List CellS) (x:Nat) (ks:List Nat):(fill cs x ks).length=cs.length:=by simp [fill]
theorem Zqa (cs:List CellS) (x:Nat) (ks:List Nat) (i:Nat):(fill cs x ks)[i]?=(cs[i]?).map (fun c=>if x=i then { c with kids:=ks } else c):=by
 simp only [fill,List.getElem?_modify]
 cases cs[i]? with
 | none=>rfl
 | some c=>simp
theorem LaidL.name {cs cs':List CellS} {nm:List UInt8} {ls:List (List Sym)} {ks:List Nat} (hn:nm≠[]) (hl:ls.length≤4000) (h:LaidL (cs++[⟨⟨nm,0,ls.length⟩,[],cs.length⟩]) cs' ks ls):LaidL cs (fill cs' cs.length ks) [cs.length] [⟨nm,0,ls.length⟩::ls.flatten]:=by
 obtain ⟨new,he⟩:=h.ext
 have hlen:(cs++[(⟨⟨nm,0,ls.length⟩,[],cs.length⟩:CellS)]).length=cs.length+1:=by simp
 have hle:=h.le
 rw [hlen] at hle
 have hkl:ks.length=ls.length:=by
  obtain ⟨tm,_,_,e⟩:=h.tm (fun i=>((cs++[(⟨⟨nm,0,ls.length⟩,[],cs.length⟩:CellS)])[i]?.map (fun c=>vr c.sym.num)).getD []) (fun i c hc _=>by rw [hc]; rfl)
  simpa using congrArg List.length e
 have hx:cs'[cs.length]?=some ⟨⟨nm,0,ls.length⟩,[],cs.length⟩:=by rw [he]; simp
 have hfx:(fill cs' cs.length ks)[cs.length]?=some ⟨⟨nm,0,ls.length⟩,ks,cs.length⟩:=by rw [Zqa,hx]; simp
 have hfo:∀ i,i≠cs.length→(fill cs' cs.length ks)[i]?=cs'[i]?:=fun i hi=>by
  rw [Zqa]
  cases cs'[i]? with
  | none=>rfl
  | some c=>simp; intro e; exact absurd e.symm hi
 have hcase:∀ (i:Nat) c,cs.length≤i→(fill cs' cs.length ks)[i]?=some c→(i=cs.length∧c=⟨⟨nm,0,ls.length⟩,ks,cs.length⟩)∨(cs.length+1≤i∧cs'[i]?=some c):=fun i c hi hc=>by
  by_cases e:i=cs.length
  ·subst e; rw [hfx] at hc; exact Or.inl ⟨rfl,(Option.some.inj hc).symm⟩
  ·rw [hfo i e] at hc; exact Or.inr ⟨by omega,hc⟩
 refine ⟨?_,?_,?_,?_,?_,?_,?_,?_⟩
 ·refine ⟨⟨⟨nm,0,ls.length⟩,ks,cs.length⟩::new,?_⟩
  apply List.ext_getElem?
  intro i
  rcases Nat.lt_or_ge i cs.length with hi | hi
  ·rw [hfo i (by omega),he,Qi,Qc hi,Qc hi]
  ·by_cases e:i=cs.length
   ·subst e; rw [hfx]; simp
   ·rw [hfo i e,he,Qi,Qd hi,Qd hi]
    cases hj:i - cs.length with
    | zero=>omega
    | succ j=>simp
 ·rw [Zkb]; simp; omega
 ·intro i c hi hc
  rcases hcase i c hi hc with ⟨rfl,rfl⟩ | ⟨h1,h2⟩
  ·rfl
  ·exact h.up i c (by rw [hlen]; exact h1) h2
 ·intro i c hi hc
  rw [Zkb]
  rcases hcase i c hi hc with ⟨rfl,rfl⟩ | ⟨h1,h2⟩
  ·exact ⟨hkl.symm,h.kl,fun e=>absurd e hn,fun _=>rfl,by simp only; omega⟩
  ·exact h.ok i c (by rw [hlen]; exact h1) h2
 ·intro i c hi hc hv
  rcases hcase i c hi hc with ⟨rfl,rfl⟩ | ⟨h1,h2⟩
  ·exact absurd hv hn
  ·obtain ⟨s,hs,h3⟩:=h.occ i c (by rw [hlen]; exact h1) h2 hv
   exact ⟨s,by simp; exact Or.inr (List.mem_flatten.1 hs),h3⟩
 ·intro hu
  have hu1:Yhd (cs++[⟨⟨nm,0,ls.length⟩,[],cs.length⟩]):=by
   intro i j c d hc hd h1 h2 h3
   have hat:∀ (i:Nat) c,(cs++[(⟨⟨nm,0,ls.length⟩,[],cs.length⟩:CellS)])[i]?=some c→c.sym.name=[]→cs[i]?=some c:=fun i c hc hv=>by
    rcases Nat.lt_or_ge i cs.length with hi | hi
    ·rw [Qc hi] at hc; exact hc
    ·have:=(Qa.1 hc).1
     simp at this
     have e:i=cs.length:=by omega
     subst e
     simp at hc
     subst hc
     exact absurd hv hn
   exact hu i j c d (hat i c hc h1) (hat j d hd h2) h1 h2 h3
  have hu2:=h.uniq hu1
  have hat:∀ (i:Nat) c,(fill cs' cs.length ks)[i]?=some c→c.sym.name=[]→cs'[i]?=some c:=fun i c hc hv=>by
   by_cases e:i=cs.length
   ·subst e; rw [hfx] at hc; simp at hc; subst hc; exact absurd hv hn
   ·rw [hfo i e] at hc; exact hc
  intro i j c d hc hd h1 h2 h3
  exact hu2 i j c d (hat i c hc h1) (hat j d hd h2) h1 h2 h3
 ·intro tm0 h0
  obtain ⟨tm,e1,e2,e3⟩:=h.tm (fun i=>if i=cs.length then ⟨nm,0,ls.length⟩::ls.flatten else tm0 i) (fun i c hc hv=>by
   rcases Nat.lt_or_ge i cs.length with hi | hi
   ·rw [Qc hi] at hc
    simp only [show i≠cs.length by omega,if_false]
    exact h0 i c hc hv
   ·have:=(Qa.1 hc).1
    simp at this
    have e:i=cs.length:=by omega
    subst e
    simp at hc
    subst hc
    exact absurd hv hn)
  have ea:tm cs.length=⟨nm,0,ls.length⟩::ls.flatten:=by rw [e1 _ (by rw [hlen]; omega)]; simp
  refine ⟨tm,fun i hi => ?_,?_,by simp [ea]⟩
  ·rw [e1 i (by rw [hlen]; omega)]; simp [show i≠cs.length by omega]
  ·intro i c hi hc
   rcases hcase i c hi hc with ⟨rfl,rfl⟩ | ⟨h1,h2⟩
   ·rw [ea,← e3]
   ·exact e2 i c (by rw [hlen]; exact h1) h2
 ·have:=h.len
  rw [Zkb]
  simp at this ⊢
  omega
end Go.Proofs.YtlmjilpjmgjjcaaGreatDoor
