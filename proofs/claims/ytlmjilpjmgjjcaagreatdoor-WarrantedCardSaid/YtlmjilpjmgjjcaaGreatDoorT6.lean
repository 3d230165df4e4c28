/-
  PROVED HERE: what the program's 'join' and 'joinInside' do to cells that lie in memory (the conditions stand in each statement).
-/
import Derived.Test.YtlmjilpjmgjjcaaGreatDoorT5
import Derived.Lib.ItoaLen
set_option linter.unusedSimpArgs false
set_option linter.unusedVariables false
set_option maxRecDepth 10000
set_option maxHeartbeats 4000000
namespace Go.Proofs.YtlmjilpjmgjjcaaGreatDoor
open Go.RowKit
inductive GT where
 | v (s:List UInt8):GT
 | n (s:List UInt8):GT
 | f (s:List UInt8) (t:GT):GT
 | g (s:List UInt8) (t u:GT):GT
def GT.text:GT→List UInt8
 | .v s=>s
 | .n s=>s
 | .f s t=>s++(40::(t.text++[41]))
 | .g s t u=>s++(40::(t.text++(44::(u.text++[41]))))
def GT.size:GT→Nat
 | .v _=>1
 | .n _=>1
 | .f _ t=>1+t.size
 | .g _ t u=>1+t.size+u.size
def Zhh (b:ByteArray) (s:List UInt8):Bool:=match s with
 | []=>false
 | c::r=>inB c b && (Zbe r == r.length) && decide (s.length≤8)
def GT.ok:GT→Bool
 | .v s=>Zhh Zic s
 | .n s=>Zhh Zec s
 | .f s t=>Zhh Zec s && t.ok
 | .g s t u=>Zhh Zec s && (t.ok && u.ok)
def GT.kd:GT→List (Nat × Nat)
 | .v s=>[(2,s.length)]
 | .n s=>[(1,s.length)]
 | .f s t=>(1,s.length)::(40,1)::(t.kd++[(41,1)])
 | .g s t u=>(1,s.length)::(40,1)::(t.kd++((44,1)::(u.kd++[(41,1)])))
def ksOf (l:List UInt8) (p:Nat):List (Nat × Nat):=(toks l p).map (fun t=>(t.kind,t.text.length))
theorem Znk {c:UInt8} (h:inB c Zgl=true):Zgv c=false:=by
 have:=Zdu (p:=fun c => !inB c Zgl || !Zgv c) (by decide +kernel) c
 simpa [h] using this
theorem Zhq {r rest:List UInt8} (h:Zbe r=r.length) (h2:Zbe rest=0):Zbe (r++rest)=r.length:=by
 induction r with
 | nil=>simpa using h2
 | cons c r ih =>
  rw [Zbe] at h
  split at h
  ·rename_i hc
   rw [List.cons_append,Zhl _ _ hc,ih (by simpa using h)]
   rfl
  ·simp at h
theorem Zlx {c:UInt8} (h:inB c Zic=true):inB c Zec=false:=by
 have:=Zdu (p:=fun c => !inB c Zic || !inB c Zec) (by decide +kernel) c
 simpa [h] using this
theorem Zra {b:ByteArray} {k:Nat} {s rest:List UInt8} (hs:Zhh b s=true) (hb:(b=Zec∧k=1)∨(b=Zic∧k=2)) (hr:Zbe rest=0) (p:Nat):ksOf (s++rest) p=(k,s.length)::ksOf rest (p+s.length):=by
 cases s with
 | nil=>simp [Zhh] at hs
 | cons c r =>
  simp only [Zhh,Bool.and_eq_true,beq_iff_eq] at hs
  obtain ⟨⟨h1,h2⟩,_⟩:=hs
  have hc:inB c Zgl=true:=by
   rcases hb with ⟨rfl,_⟩ | ⟨rfl,_⟩
   ·exact Zer h1
   ·exact Zgu h1
  have hh:Zbm c (r++rest)=(k,r.length):=by
   unfold Zbm
   rcases hb with ⟨rfl,rfl⟩ | ⟨rfl,rfl⟩
   ·rw [if_pos h1,Zhq h2 hr]
   ·rw [if_neg (by simp [Zlx h1]),if_pos h1,Zhq h2 hr]
  unfold ksOf
  rw [List.cons_append,Zes _ _ _ (Znk hc),hh]
  simp only [List.map_cons]
  rw [List.drop_left]
  have e1:((c::(r++rest)).take (r.length+1)).length=(c::r).length:=by simp
  rw [e1,show p+r.length+1=p+(c::r).length by simp; omega]
theorem Zhr {c:UInt8} {rest:List UInt8} (h:c=40∨c=41∨c=44∨c=46) (p:Nat):ksOf (c::rest) p=(c.toNat,1)::ksOf rest (p+1):=by
 have hb:Zgv c=false∧Zbm c rest=(c.toNat,0):=by
  rcases h with rfl | rfl | rfl | rfl
  all_goals
   refine ⟨by decide,?_⟩
   unfold Zbm
   rw [if_neg (by decide +kernel),if_neg (by decide +kernel),if_pos (by decide +kernel)]
 unfold ksOf
 rw [Zes _ _ _ hb.1,hb.2]
 simp
theorem Yhk {rest:List UInt8} (p:Nat):ksOf (58::45::rest) p=(3,2)::ksOf rest (p+2):=by
 have hh:Zbm 58 (45::rest)=(3,1):=by
  unfold Zbm
  rw [if_neg (by decide +kernel),if_neg (by decide +kernel),if_neg (by decide +kernel),if_pos ⟨rfl,rfl⟩]
 unfold ksOf
 rw [Zes _ _ _ (by decide),hh]
 simp
theorem Zrb (t:GT):∀ (rest:List UInt8) (p:Nat),t.ok=true→Zbe rest=0→ksOf (t.text++rest) p=t.kd++ksOf rest (p+t.text.length):=by
 induction t with
 | v s=>intro rest p h hr; exact Zra h (Or.inr ⟨rfl,rfl⟩) hr p
 | n s=>intro rest p h hr; exact Zra h (Or.inl ⟨rfl,rfl⟩) hr p
 | f s t ih =>
  intro rest p h hr
  simp only [GT.ok,Bool.and_eq_true] at h
  simp only [GT.text,GT.kd,Qi,List.cons_append,List.nil_append]
  rw [Zra h.1 (Or.inl ⟨rfl,rfl⟩) (Zbc _ _ (by decide +kernel)),Zhr (Or.inl rfl),ih _ _ h.2 (Zbc _ _ (by decide +kernel)),Zhr (Or.inr (Or.inl rfl))]
  have e:p+s.length+1+t.text.length+1=p+(s++40::(t.text++[41])).length:=by simp; omega
  rw [e]
  rfl
 | g s t u iht ihu =>
  intro rest p h hr
  simp only [GT.ok,Bool.and_eq_true] at h
  simp only [GT.text,GT.kd,Qi,List.cons_append,List.nil_append]
  rw [Zra h.1 (Or.inl ⟨rfl,rfl⟩) (Zbc _ _ (by decide +kernel)),Zhr (Or.inl rfl),iht _ _ h.2.1 (Zbc _ _ (by decide +kernel)),Zhr (Or.inr (Or.inr (Or.inl rfl))),ihu _ _ h.2.2 (Zbc _ _ (by decide +kernel)),Zhr (Or.inr (Or.inl rfl))]
  have e:p+s.length+1+t.text.length+1+u.text.length+1=p+(s++40::(t.text++44::(u.text++[41]))).length:=by simp; omega
  rw [e]
  rfl
def Runs:List (Nat × Nat)→LookS→LookS→Prop
 | [],L,L'=>L'=L
 | (k,n)::ks,L,L'=>k≠4∧(Zcc L k n).err=0∧Runs ks (Zcc L k n) L'
theorem Runs.append:∀ {a b:List (Nat × Nat)} {L M N:LookS},Runs a L M→Runs b M N→Runs (a++b) L N:=by
 intro a
 induction a with
 | nil=>intro b L M N h1 h2; have h1:M=L:=h1; subst h1; exact h2
 | cons x a ih =>
  intro b L M N h1 h2
  obtain ⟨k,n⟩:=x
  exact ⟨h1.1,h1.2.1,ih h1.2.2 h2⟩
theorem Zpj:∀ {ts rest:List Tok} {L M:LookS},Runs (ts.map (fun t=>(t.kind,t.text.length))) L M→Zfy (ts++rest) L=Zfy rest M:=by
 intro ts
 induction ts with
 | nil=>intro rest L M h; have h:M=L:=h; subst h; rfl
 | cons t ts ih =>
  intro rest L M h
  obtain ⟨h1,h2,h3⟩:=h
  simp only [List.cons_append,Zfy]
  rw [if_neg (fun e=>h1 e.1),if_neg (fun e=>e h2)]
  exact ih h3
theorem Zti {b:ByteArray} {s:List UInt8} (h:Zhh b s=true):s.length≤8:=by
 cases s with
 | nil=>simp [Zhh] at h
 | cons c r=>simp only [Zhh,Bool.and_eq_true,decide_eq_true_eq] at h; exact h.2
theorem Zmh (w':Nat) (hw:w'=3∨w'=4) (q b:Bool) (n:Nat) (r:List Nat) (s g h:Nat):Runs [(41,1)] ⟨w',q,b,n::r,s,g,h,0⟩ ⟨4,q,b,r,s,g,h,0⟩:=by
 rcases hw with rfl | rfl <;> simp [Runs,Zcc,Zal]
theorem Ztj (w':Nat) (hw:w'=3∨w'=4) (q b:Bool) (n:Nat) (r:List Nat) (s g h:Nat):Runs [(44,1)] ⟨w',q,b,n::r,s,g,h,0⟩ ⟨2,q,b,n::r,s,g,h,0⟩:=by
 rcases hw with rfl | rfl <;> simp [Runs,Zcc,Zal]
theorem Zmi (q b:Bool) (r:List Nat) (s g h:Nat):Runs [(40,1)] ⟨3,q,b,r,s,g,h,0⟩ ⟨2,q,b,0::r,s,g,h,0⟩:=by
 simp [Runs,Zcc,Zal]
theorem Zko (k l w':Nat) (hk:(k=1∧w'=3)∨(k=2∧w'=4)) (hl:l≤8) (q b:Bool) (n:Nat) (r:List Nat) (s g h:Nat) (hn:n<4) (hs:s+1≤30):Runs [(k,l)] ⟨2,q,b,n::r,s,g,h,0⟩ ⟨w',q,b,(n+1)::r,s+1,g,h,0⟩:=by
 have h1:¬ 4<n+1:=by omega
 have h2:¬ (8<l∨30<s+1):=by omega
 rcases hk with ⟨rfl,rfl⟩ | ⟨rfl,rfl⟩
 ·simp only [Runs,Zcc,Zbj,Zlp,Zcq]
  simp [h2,h1]
 ·simp only [Runs,Zcc,Zbj,Zlp,Zcq]
  simp [h2,h1]
theorem Zrc (t:GT):t.ok=true→∀ (q b:Bool) (n:Nat) (r:List Nat) (s g h:Nat),n<4→s+t.size≤30→∃ w',(w'=3∨w'=4)∧Runs t.kd ⟨2,q,b,n::r,s,g,h,0⟩ ⟨w',q,b,(n+1)::r,s+t.size,g,h,0⟩:=by
 induction t with
 | v x=>intro ho q b n r s g h hn hs; exact ⟨4,Or.inr rfl,Zko 2 _ 4 (Or.inr ⟨rfl,rfl⟩) (Zti ho) q b n r s g h hn hs⟩
 | n x=>intro ho q b n r s g h hn hs; exact ⟨3,Or.inl rfl,Zko 1 _ 3 (Or.inl ⟨rfl,rfl⟩) (Zti ho) q b n r s g h hn hs⟩
 | f x t ih =>
  intro ho q b n r s g h hn hs
  simp only [GT.ok,Bool.and_eq_true] at ho
  simp only [GT.size] at hs ⊢
  obtain ⟨w1,hw1,h1⟩:=ih ho.2 q b 0 ((n+1)::r) (s+1) g h (by omega) (by omega)
  refine ⟨4,Or.inr rfl,?_⟩
  have:=((((Zko 1 _ 3 (Or.inl ⟨rfl,rfl⟩) (Zti ho.1) q b n r s g h hn (by omega)).append (Zmi q b ((n+1)::r) (s+1) g h)).append h1).append (Zmh w1 hw1 q b _ _ _ g h))
  simpa [GT.kd,Nat.add_assoc] using this
 | g x t u iht ihu =>
  intro ho q b n r s g h hn hs
  simp only [GT.ok,Bool.and_eq_true] at ho
  simp only [GT.size] at hs ⊢
  obtain ⟨w1,hw1,h1⟩:=iht ho.2.1 q b 0 ((n+1)::r) (s+1) g h (by omega) (by omega)
  obtain ⟨w2,hw2,h2⟩:=ihu ho.2.2 q b 1 ((n+1)::r) (s+1+t.size) g h (by omega) (by omega)
  refine ⟨4,Or.inr rfl,?_⟩
  have:=((((((Zko 1 _ 3 (Or.inl ⟨rfl,rfl⟩) (Zti ho.1) q b n r s g h hn (by omega)).append (Zmi q b ((n+1)::r) (s+1) g h)).append h1).append (Ztj w1 hw1 q b _ _ _ g h)).append h2).append (Zmh w2 hw2 q b _ _ _ g h))
  simpa [GT.kd,Nat.add_assoc] using this
def GT.atom:GT→Bool
 | .v _=>false
 | _=>true
theorem Yhl (l:Nat) (hl:l≤8) (q b:Bool) (s g h:Nat) (hh:h<24):Runs [(1,l)] ⟨0,q,b,[],s,g,h,0⟩ ⟨3,q,false,[],1,g,h+1,0⟩:=by
 have h1:¬ 24<h+1:=by omega
 have h2:¬ (8<l∨30<0+1):=by omega
 simp only [Runs,Zcc,Zbj,Zlp,Zcq]
 simp [h1]
 omega
theorem Zxn (l:Nat) (hl:l≤8) (q b:Bool) (s g h:Nat) (hg:g<6):Runs [(1,l)] ⟨1,q,b,[],s,g,h,0⟩ ⟨3,q,b,[],1,g+1,h,0⟩:=by
 have h1:¬ 6<g+1:=by omega
 have h2:¬ (8<l∨30<0+1):=by omega
 simp only [Runs,Zcc,Zbj,Zlp,Zcq]
 simp [h1]
 omega
theorem Zrd (t:GT) (ha:t.atom=true) (ho:t.ok=true) (L:LookS) (q b:Bool) (g h:Nat) (hs:t.size≤30) (h1:∀ l,l≤8→Runs [(1,l)] L ⟨3,q,b,[],1,g,h,0⟩):∃ w',(w'=3∨w'=4)∧Runs t.kd L ⟨w',q,b,[],t.size,g,h,0⟩:=by
 cases t with
 | v x=>simp [GT.atom] at ha
 | n x=>exact ⟨3,Or.inl rfl,h1 _ (Zti ho)⟩
 | f x t =>
  simp only [GT.ok,Bool.and_eq_true] at ho
  simp only [GT.size] at hs ⊢
  obtain ⟨w1,hw1,h2⟩:=Zrc t ho.2 q b 0 [] 1 g h (by omega) (by omega)
  refine ⟨4,Or.inr rfl,?_⟩
  have:=(((h1 _ (Zti ho.1)).append (Zmi q b [] 1 g h)).append h2).append (Zmh w1 hw1 q b _ _ _ g h)
  simpa [GT.kd] using this
 | g x t u =>
  simp only [GT.ok,Bool.and_eq_true] at ho
  simp only [GT.size] at hs ⊢
  obtain ⟨w1,hw1,h2⟩:=Zrc t ho.2.1 q b 0 [] 1 g h (by omega) (by omega)
  obtain ⟨w2,hw2,h3⟩:=Zrc u ho.2.2 q b 1 [] (1+t.size) g h (by omega) (by omega)
  refine ⟨4,Or.inr rfl,?_⟩
  have:=(((((h1 _ (Zti ho.1)).append (Zmi q b [] 1 g h)).append h2).append (Ztj w1 hw1 q b _ _ _ g h)).append h3).append (Zmh w2 hw2 q b _ _ _ g h)
  simpa [GT.kd,Nat.add_assoc] using this
def Zci:GT→List GT→List UInt8
 | t,[]=>t.text
 | t,u::r=>t.text++(44::Zci u r)
def Zvq:GT→List GT→List (Nat × Nat)
 | t,[]=>t.kd
 | t,u::r=>t.kd++((44,1)::Zvq u r)
def GT.fine (t:GT):Bool:=t.atom && (t.ok && decide (t.size≤30))
theorem GT.fine_iff {t:GT} (h:t.fine=true):t.atom=true∧t.ok=true∧t.size≤30:=by
 simp only [GT.fine,Bool.and_eq_true,decide_eq_true_eq] at h
 exact h
theorem Ydu:∀ (r:List GT) (t:GT) (rest:List UInt8) (p:Nat),t.fine=true→(∀ u ∈ r,u.fine=true)→Zbe rest=0→ksOf (Zci t r++rest) p=Zvq t r++ksOf rest (p+(Zci t r).length):=by
 intro r
 induction r with
 | nil=>intro t rest p ht _ hr; exact Zrb t rest p (GT.fine_iff ht).2.1 hr
 | cons u r ih =>
  intro t rest p ht hu hr
  simp only [Zci,Zvq,Qi,List.cons_append]
  rw [Zrb t _ _ (GT.fine_iff ht).2.1 (Zbc _ _ (by decide +kernel)),Zhr (Or.inr (Or.inr (Or.inl rfl))),ih u rest _ (hu u (by simp)) (fun x hx=>hu x (by simp [hx])) hr]
  have e:p+t.text.length+1+(Zci u r).length=p+(t.text++44::Zci u r).length:=by simp; omega
  rw [e]
  rfl
theorem Ykn (w':Nat) (hw:w'=3∨w'=4) (q:Bool) (s g h:Nat):Runs [(44,1)] ⟨w',q,true,[],s,g,h,0⟩ ⟨1,q,true,[],s,g,h,0⟩:=by
 rcases hw with rfl | rfl <;> simp [Runs,Zcc,Zal]
theorem Zxo:∀ (r:List GT) (t:GT) (q:Bool) (s g h:Nat),t.fine=true→(∀ u ∈ r,u.fine=true)→g+r.length<6→∃ w' s',(w'=3∨w'=4)∧Runs (Zvq t r) ⟨1,q,true,[],s,g,h,0⟩ ⟨w',q,true,[],s',g+r.length+1,h,0⟩:=by
 intro r
 induction r with
 | nil =>
  intro t q s g h ht _ hg
  obtain ⟨h1,h2,h3⟩:=GT.fine_iff ht
  obtain ⟨w',hw,hr⟩:=Zrd t h1 h2 ⟨1,q,true,[],s,g,h,0⟩ q true (g+1) h h3 (fun l hl=>Zxn l hl q true s g h (by simp at hg; omega))
  exact ⟨w',_,hw,hr⟩
 | cons u r ih =>
  intro t q s g h ht hu hg
  simp only [Qf] at hg
  obtain ⟨h1,h2,h3⟩:=GT.fine_iff ht
  obtain ⟨w1,hw1,hr1⟩:=Zrd t h1 h2 ⟨1,q,true,[],s,g,h,0⟩ q true (g+1) h h3 (fun l hl=>Zxn l hl q true s g h (by omega))
  obtain ⟨w2,s2,hw2,hr2⟩:=ih u q t.size (g+1) h (hu u (by simp)) (fun x hx=>hu x (by simp [hx])) (by omega)
  refine ⟨w2,s2,hw2,?_⟩
  have:=(hr1.append (Ykn w1 hw1 q _ _ h)).append hr2
  rw [show g+(u::r).length+1=g+1+r.length+1 by simp; omega]
  simpa [Zvq] using this
def clT (a:GT):List GT→List UInt8
 | []=>a.text++[46]
 | t::r=>a.text++(58::45::(Zci t r++[46]))
def clK (a:GT):List GT→List (Nat × Nat)
 | []=>a.kd++[(46,1)]
 | t::r=>a.kd++((3,2)::(Zvq t r++[(46,1)]))
structure ClFine (c:GT × List GT):Prop where
 head:c.1.fine=true
 body:∀ t ∈ c.2,t.fine=true
 len:c.2.length≤6
theorem Ydv (c:GT × List GT) (hc:ClFine c) (rest:List UInt8) (p:Nat):ksOf (clT c.1 c.2++rest) p=clK c.1 c.2++ksOf rest (p+(clT c.1 c.2).length):=by
 obtain ⟨a,b⟩:=c
 obtain ⟨h1,h2,h3⟩:=hc
 simp only at h1 h2 h3 ⊢
 cases b with
 | nil =>
  simp only [clT,clK,Qi,List.cons_append,List.nil_append]
  rw [Zrb a _ _ (GT.fine_iff h1).2.1 (Zbc _ _ (by decide +kernel)),Zhr (Or.inr (Or.inr (Or.inr rfl)))]
  have e:p+a.text.length+1=p+(a.text++[46]).length:=by simp; omega
  rw [e]
  rfl
 | cons t r =>
  simp only [clT,clK,Qi,List.cons_append,List.nil_append]
  rw [Zrb a _ _ (GT.fine_iff h1).2.1 (Zbc _ _ (by decide +kernel)),Yhk,Ydu r t _ _ (h2 t (by simp)) (fun x hx=>h2 x (by simp [hx])) (Zbc _ _ (by decide +kernel)),Zhr (Or.inr (Or.inr (Or.inr rfl)))]
  have e:p+a.text.length+2+(Zci t r).length+1=p+(a.text++58::45::(Zci t r++[46])).length:=by simp; omega
  rw [e]
  rfl
theorem Ydw (w':Nat) (hw:w'=3∨w'=4) (b:Bool) (s g h:Nat):Runs [(46,1)] ⟨w',false,b,[],s,g,h,0⟩ ⟨0,false,b,[],s,g,h,0⟩:=by
 rcases hw with rfl | rfl <;> simp [Runs,Zcc,Zal]
theorem Yko (w':Nat) (hw:w'=3∨w'=4) (b:Bool) (s g h:Nat):Runs [(46,1)] ⟨w',true,b,[],s,g,h,0⟩ ⟨5,true,b,[],s,g,h,0⟩:=by
 rcases hw with rfl | rfl <;> simp [Runs,Zcc,Zal]
theorem Ydx (w':Nat) (hw:w'=3∨w'=4) (q:Bool) (s g h:Nat):Runs [(3,2)] ⟨w',q,false,[],s,g,h,0⟩ ⟨1,q,true,[],s,0,h,0⟩:=by
 rcases hw with rfl | rfl <;> simp [Runs,Zcc,Zal]
theorem Yag (c:GT × List GT) (hc:ClFine c) (b0:Bool) (s g h:Nat) (hh:h<24):∃ b' s' g',Runs (clK c.1 c.2) ⟨0,false,b0,[],s,g,h,0⟩ ⟨0,false,b',[],s',g',h+1,0⟩:=by
 obtain ⟨a,b⟩:=c
 obtain ⟨h1,h2,h3⟩:=hc
 simp only at h1 h2 h3 ⊢
 obtain ⟨k1,k2,k3⟩:=GT.fine_iff h1
 obtain ⟨w1,hw1,hr1⟩:=Zrd a k1 k2 ⟨0,false,b0,[],s,g,h,0⟩ false false g (h+1) k3 (fun l hl=>Yhl l hl false b0 s g h hh)
 cases b with
 | nil=>exact ⟨_,_,_,hr1.append (Ydw w1 hw1 _ _ _ _)⟩
 | cons t r =>
  simp only [Qf] at h3
  obtain ⟨w2,s2,hw2,hr2⟩:=Zxo r t false a.size 0 (h+1) (h2 t (by simp)) (fun x hx=>h2 x (by simp [hx])) (by omega)
  have:=((hr1.append (Ydx w1 hw1 false _ _ _)).append hr2).append (Ydw w2 hw2 true _ _ _)
  exact ⟨_,_,_,by simpa [clK] using this⟩
def Zce (P:List (GT × List GT)):List UInt8:=P.flatMap (fun c=>clT c.1 c.2)
theorem Ydy:∀ (P:List (GT × List GT)) (p:Nat) (b0:Bool) (s g h:Nat),(∀ c ∈ P,ClFine c)→h+P.length≤24→∃ b' s' g',Runs (ksOf (Zce P) p) ⟨0,false,b0,[],s,g,h,0⟩ ⟨0,false,b',[],s',g',h+P.length,0⟩:=by
 intro P
 induction P with
 | nil=>intro p b0 s g h _ _; exact ⟨b0,s,g,rfl⟩
 | cons c P ih =>
  intro p b0 s g h hc hh
  simp only [Qf] at hh
  obtain ⟨b1,s1,g1,h1⟩:=Yag c (hc c (by simp)) b0 s g h (by omega)
  obtain ⟨b2,s2,g2,h2⟩:=ih (p+(clT c.1 c.2).length) b1 s1 g1 (h+1) (fun x hx=>hc x (by simp [hx])) (by omega)
  refine ⟨b2,s2,g2,?_⟩
  rw [show Zce (c::P)=clT c.1 c.2++Zce P by simp [Zce],Ydv c (hc c (by simp)),show h+(c::P).length=h+1+P.length by simp; omega]
  exact h1.append h2
theorem Yhm (P:List (GT × List GT)) (hc:∀ c ∈ P,ClFine c) (hl:P.length≤24) (hs:(Zce P).length≤800):∃ cs,Zcj ⟨(Zce P).toArray⟩=some cs:=by
 obtain ⟨b',s',g',h1⟩:=Ydy P 0 false 0 0 0 hc (by omega)
 have hz:(⟨(Zce P).toArray⟩:ByteArray).size≤800:=by simpa [ByteArray.size] using hs
 have h2:(Zfy (Zay ⟨(Zce P).toArray⟩) (Zdc false)).1=0:=by
  unfold Zay
  rw [Zpj (L:=Zdc false) h1]
  simp [Zfy]
 obtain ⟨cs,h3⟩:=Zqt _ hz h2
 refine ⟨cs,?_⟩
 unfold Zcj
 rw [if_neg (by omega),if_neg (fun e=>e h2)]
 exact h3
theorem Ykp (t:GT) (r:List GT) (ht:t.fine=true) (hr:∀ u ∈ r,u.fine=true) (hl:r.length<6) (hs:(Zci t r++[46]).length≤120):∃ a,Zep ⟨(Zci t r++[46]).toArray⟩=some a:=by
 obtain ⟨w',s',hw,h1⟩:=Zxo r t true 0 0 0 ht hr (by omega)
 have h0:=h1.append (Yko w' hw true _ _ _)
 have hz:(⟨(Zci t r++[46]).toArray⟩:ByteArray).size≤120:=by simpa [ByteArray.size] using hs
 have hk:ksOf (Zci t r++[46]) 0=Zvq t r++[(46,1)]:=by
  rw [Ydu r t _ _ ht hr (Zbc _ _ (by decide +kernel)),Zhr (Or.inr (Or.inr (Or.inr rfl)))]
  rfl
 rw [← hk] at h0
 have h2:(Zfy (Zay ⟨(Zci t r++[46]).toArray⟩) (Zdc true)).1=0:=by
  unfold Zay
  rw [Zpj (L:=Zdc true) h0]
  simp [Zfy]
 obtain ⟨qq,h3⟩:=Zux _ hz h2
 refine ⟨(qq.1,qq.2.2),?_⟩
 unfold Zep
 rw [if_neg (by omega),if_neg (fun e=>e h2),h3]
 rfl
def GT.tk:GT→Nat→List Tok
 | .v s,p=>[⟨2,s,p⟩]
 | .n s,p=>[⟨1,s,p⟩]
 | .f s t,p=>⟨1,s,p⟩::⟨40,[40],p+s.length⟩::(t.tk (p+s.length+1)++[⟨41,[41],p+s.length+1+t.text.length⟩])
 | .g s t u,p=>⟨1,s,p⟩::⟨40,[40],p+s.length⟩::(t.tk (p+s.length+1)++(⟨44,[44],p+s.length+1+t.text.length⟩::(u.tk (p+s.length+1+t.text.length+1)++[⟨41,[41],p+s.length+1+t.text.length+1+u.text.length⟩])))
theorem Zkp {b:ByteArray} {k:Nat} {s rest:List UInt8} (hs:Zhh b s=true) (hb:(b=Zec∧k=1)∨(b=Zic∧k=2)) (hr:Zbe rest=0) (p:Nat):toks (s++rest) p=⟨k,s,p⟩::toks rest (p+s.length):=by
 cases s with
 | nil=>simp [Zhh] at hs
 | cons c r =>
  simp only [Zhh,Bool.and_eq_true,beq_iff_eq] at hs
  obtain ⟨⟨h1,h2⟩,_⟩:=hs
  have hc:inB c Zgl=true:=by
   rcases hb with ⟨rfl,_⟩ | ⟨rfl,_⟩
   ·exact Zer h1
   ·exact Zgu h1
  have hh:Zbm c (r++rest)=(k,r.length):=by
   unfold Zbm
   rcases hb with ⟨rfl,rfl⟩ | ⟨rfl,rfl⟩
   ·rw [if_pos h1,Zhq h2 hr]
   ·rw [if_neg (by simp [Zlx h1]),if_pos h1,Zhq h2 hr]
  rw [List.cons_append,Zes _ _ _ (Znk hc),hh]
  simp only
  rw [List.drop_left]
  have e1:(c::(r++rest)).take (r.length+1)=c::r:=by simp
  rw [e1,show p+r.length+1=p+(c::r).length by simp; omega]
theorem Zej {c:UInt8} {rest:List UInt8} (h:c=40∨c=41∨c=44∨c=46) (p:Nat):toks (c::rest) p=⟨c.toNat,[c],p⟩::toks rest (p+1):=by
 have hb:Zgv c=false∧Zbm c rest=(c.toNat,0):=by
  rcases h with rfl | rfl | rfl | rfl
  all_goals
   refine ⟨by decide,?_⟩
   unfold Zbm
   rw [if_neg (by decide +kernel),if_neg (by decide +kernel),if_pos (by decide +kernel)]
 rw [Zes _ _ _ hb.1,hb.2]
 simp
theorem Zpk {rest:List UInt8} (p:Nat):toks (58::45::rest) p=⟨3,[58,45],p⟩::toks rest (p+2):=by
 have hh:Zbm 58 (45::rest)=(3,1):=by
  unfold Zbm
  rw [if_neg (by decide +kernel),if_neg (by decide +kernel),if_neg (by decide +kernel),if_pos ⟨rfl,rfl⟩]
 rw [Zes _ _ _ (by decide),hh]
 simp
theorem Zik (t:GT):∀ (rest:List UInt8) (p:Nat),t.ok=true→Zbe rest=0→toks (t.text++rest) p=t.tk p++toks rest (p+t.text.length):=by
 induction t with
 | v s=>intro rest p h hr; exact Zkp h (Or.inr ⟨rfl,rfl⟩) hr p
 | n s=>intro rest p h hr; exact Zkp h (Or.inl ⟨rfl,rfl⟩) hr p
 | f s t ih =>
  intro rest p h hr
  simp only [GT.ok,Bool.and_eq_true] at h
  simp only [GT.text,GT.tk,Qi,List.cons_append,List.nil_append]
  rw [Zkp h.1 (Or.inl ⟨rfl,rfl⟩) (Zbc _ _ (by decide +kernel)),Zej (Or.inl rfl),ih _ _ h.2 (Zbc _ _ (by decide +kernel)),Zej (Or.inr (Or.inl rfl))]
  have e:p+s.length+1+t.text.length+1=p+(s++40::(t.text++[41])).length:=by simp; omega
  rw [e]
  rfl
 | g s t u iht ihu =>
  intro rest p h hr
  simp only [GT.ok,Bool.and_eq_true] at h
  simp only [GT.text,GT.tk,Qi,List.cons_append,List.nil_append]
  rw [Zkp h.1 (Or.inl ⟨rfl,rfl⟩) (Zbc _ _ (by decide +kernel)),Zej (Or.inl rfl),iht _ _ h.2.1 (Zbc _ _ (by decide +kernel)),Zej (Or.inr (Or.inr (Or.inl rfl))),ihu _ _ h.2.2 (Zbc _ _ (by decide +kernel)),Zej (Or.inr (Or.inl rfl))]
  have e:p+s.length+1+t.text.length+1+u.text.length+1=p+(s++40::(t.text++44::(u.text++[41]))).length:=by simp; omega
  rw [e]
  rfl
def GT.syms:GT→Names→List Sym × Names
 | .v s,N=>([⟨[],(Zbt N s).2,0⟩],(Zbt N s).1)
 | .n s,N=>([⟨s,0,0⟩],N)
 | .f s t,N=>(⟨s,0,1⟩::(t.syms N).1,(t.syms N).2)
 | .g s t u,N=>(⟨s,0,2⟩::((t.syms N).1++(u.syms (t.syms N).2).1),(u.syms (t.syms N).2).2)
theorem Ziz (t:GT):∀ (f p:Nat) (x:Tok) (rest:List Tok) (N:Names),t.size≤f→x.kind≠40→Zcp f (t.tk p++x::rest) N=some ((t.syms N).1,x::rest,(t.syms N).2):=by
 induction t with
 | v s =>
  intro f p x rest N hf hx
  obtain ⟨g,rfl⟩:∃ g,f=g+1:=⟨f - 1,by simp [GT.size] at hf; omega⟩
  simp [GT.tk,GT.syms,Zcp]
 | n s =>
  intro f p x rest N hf hx
  obtain ⟨g,rfl⟩:∃ g,f=g+1:=⟨f - 1,by simp [GT.size] at hf; omega⟩
  simp [GT.tk,GT.syms,Zcp,Zji,hx]
 | f s t ih =>
  intro f p x rest N hf hx
  simp only [GT.size] at hf
  obtain ⟨g,rfl⟩:∃ g,f=g+1:=⟨f - 1,by omega⟩
  simp only [GT.tk,List.cons_append,Qi,List.nil_append,Zcp]
  rw [if_neg (by simp)]
  simp only [Zji]
  rw [if_neg (by simp)]
  simp only [Qg,Qf]
  rw [Zee,if_neg (by simp),ih g _ ⟨41,[41],_⟩ (x::rest) N (by omega) (by simp)]
  simp only
  rw [show (t.tk (p+s.length+1)).length+(rest.length+1+1)=((t.tk (p+s.length+1)).length+(rest.length+1))+1 by omega,Zee]
  simp [GT.syms]
 | g s t u iht ihu =>
  intro f p x rest N hf hx
  simp only [GT.size] at hf
  obtain ⟨g,rfl⟩:∃ g,f=g+1:=⟨f - 1,by omega⟩
  simp only [GT.tk,List.cons_append,Qi,List.nil_append,Zcp]
  rw [if_neg (by simp)]
  simp only [Zji]
  rw [if_neg (by simp)]
  simp only [Qg,Qf]
  rw [Zee,if_neg (by simp),iht g _ ⟨44,[44],_⟩ _ N (by omega) (by simp)]
  simp only
  rw [show (t.tk (p+s.length+1)).length+((u.tk (p+s.length+1+t.text.length+1)).length+(rest.length+1+1)+1)=((t.tk (p+s.length+1)).length+((u.tk (p+s.length+1+t.text.length+1)).length+(rest.length+1))+1)+1 by omega,Zee,if_neg (by simp),ihu g _ ⟨41,[41],_⟩ (x::rest) _ (by omega) (by simp)]
  simp only
  rw [Zee]
  simp [GT.syms]
def Zly:GT→List GT→Nat→List Tok
 | t,[],p=>t.tk p
 | t,u::r,p=>t.tk p++(⟨44,[44],p+t.text.length⟩::Zly u r (p+t.text.length+1))
theorem Ztk:∀ (r:List GT) (t:GT) (rest:List UInt8) (p:Nat),t.fine=true→(∀ u ∈ r,u.fine=true)→Zbe rest=0→toks (Zci t r++rest) p=Zly t r p++toks rest (p+(Zci t r).length):=by
 intro r
 induction r with
 | nil=>intro t rest p ht _ hr; exact Zik t rest p (GT.fine_iff ht).2.1 hr
 | cons u r ih =>
  intro t rest p ht hu hr
  simp only [Zci,Zly,Qi,List.cons_append]
  rw [Zik t _ _ (GT.fine_iff ht).2.1 (Zbc _ _ (by decide +kernel)),Zej (Or.inr (Or.inr (Or.inl rfl))),ih u rest _ (hu u (by simp)) (fun x hx=>hu x (by simp [hx])) hr]
  have e:p+t.text.length+1+(Zci u r).length=p+(t.text++44::Zci u r).length:=by simp; omega
  rw [e]
  rfl
def Zhz:List GT→Names→List (List Sym) × Names
 | [],N=>([],N)
 | t::r,N=>((t.syms N).1::(Zhz r (t.syms N).2).1,(Zhz r (t.syms N).2).2)
theorem Znl:∀ (r:List GT) (t:GT) (g p d:Nat) (rest:List Tok) (N:Names) (acc:List (List Sym)),t.fine=true→(∀ u ∈ r,u.fine=true)→r.length<g→Zcz 1000 g (Zly t r p++⟨46,[46],d⟩::rest) N acc=some (acc++(Zhz (t::r) N).1,rest,(Zhz (t::r) N).2):=by
 intro r
 induction r with
 | nil =>
  intro t g p d rest N acc ht _ hg
  obtain ⟨k,rfl⟩:∃ k,g=k+1:=⟨g - 1,by omega⟩
  simp only [Zly,Zcz]
  rw [Ziz t 1000 p ⟨46,[46],d⟩ rest N (by have:=(GT.fine_iff ht).2.2; omega) (by simp)]
  simp [Zhz]
 | cons u r ih =>
  intro t g p d rest N acc ht hu hg
  simp only [Qf] at hg
  obtain ⟨k,rfl⟩:∃ k,g=k+1:=⟨g - 1,by omega⟩
  simp only [Zly,Qi,List.cons_append,Zcz]
  rw [Ziz t 1000 p ⟨44,[44],_⟩ _ N (by have:=(GT.fine_iff ht).2.2; omega) (by simp)]
  simp only
  rw [if_neg (by simp),ih u k _ d rest _ _ (hu u (by simp)) (fun x hx=>hu x (by simp [hx])) (by omega)]
  simp [Zhz]
def clTk (a:GT):List GT→Nat→List Tok
 | [],p=>a.tk p++[⟨46,[46],p+a.text.length⟩]
 | t::r,p=>a.tk p++(⟨3,[58,45],p+a.text.length⟩::(Zly t r (p+a.text.length+2)++[⟨46,[46],p+a.text.length+2+(Zci t r).length⟩]))
theorem Zvr (c:GT × List GT) (hc:ClFine c) (rest:List UInt8) (p:Nat):toks (clT c.1 c.2++rest) p=clTk c.1 c.2 p++toks rest (p+(clT c.1 c.2).length):=by
 obtain ⟨a,b⟩:=c
 obtain ⟨h1,h2,h3⟩:=hc
 simp only at h1 h2 h3 ⊢
 cases b with
 | nil =>
  simp only [clT,clTk,Qi,List.cons_append,List.nil_append]
  rw [Zik a _ _ (GT.fine_iff h1).2.1 (Zbc _ _ (by decide +kernel)),Zej (Or.inr (Or.inr (Or.inr rfl)))]
  have e:p+a.text.length+1=p+(a.text++[46]).length:=by simp; omega
  rw [e]
  rfl
 | cons t r =>
  simp only [clT,clTk,Qi,List.cons_append,List.nil_append]
  rw [Zik a _ _ (GT.fine_iff h1).2.1 (Zbc _ _ (by decide +kernel)),Zpk,Ztk r t _ _ (h2 t (by simp)) (fun x hx=>h2 x (by simp [hx])) (Zbc _ _ (by decide +kernel)),Zej (Or.inr (Or.inr (Or.inr rfl)))]
  have e:p+a.text.length+2+(Zci t r).length+1=p+(a.text++58::45::(Zci t r++[46])).length:=by simp; omega
  rw [e]
  rfl
def clOf (c:GT × List GT):Cls:=⟨(c.1.syms []).1,(Zhz c.2 (c.1.syms []).2).1,(Zhz c.2 (c.1.syms []).2).2⟩
theorem Ztl (c:GT × List GT) (hc:ClFine c) (p:Nat) (rest:List Tok):Zdo (clTk c.1 c.2 p++rest)=some (clOf c,rest):=by
 obtain ⟨a,b⟩:=c
 obtain ⟨h1,h2,h3⟩:=hc
 simp only at h1 h2 h3 ⊢
 cases b with
 | nil =>
  simp only [clTk,Qi,List.cons_append,List.nil_append,Zdo]
  rw [Ziz a 1000 p ⟨46,[46],_⟩ rest [] (by have:=(GT.fine_iff h1).2.2; omega) (by simp)]
  simp [clOf,Zhz]
 | cons t r =>
  simp only [Qf] at h3
  simp only [clTk,Qi,List.cons_append,List.nil_append,Zdo]
  rw [Ziz a 1000 p ⟨3,[58,45],_⟩ _ [] (by have:=(GT.fine_iff h1).2.2; omega) (by simp)]
  simp only
  rw [if_pos trivial,Znl r t 1000 _ _ rest _ [] (h2 t (by simp)) (fun x hx=>h2 x (by simp [hx])) (by omega)]
  simp [clOf]
def Zpl:List (GT × List GT)→Nat→List Tok
 | [],_=>[]
 | c::P,p=>clTk c.1 c.2 p++Zpl P (p+(clT c.1 c.2).length)
theorem Ydz:∀ (P:List (GT × List GT)) (p:Nat),(∀ c ∈ P,ClFine c)→toks (Zce P) p=Zpl P p:=by
 intro P
 induction P with
 | nil=>intro p _; rfl
 | cons c P ih =>
  intro p hc
  rw [show Zce (c::P)=clT c.1 c.2++Zce P by simp [Zce],Zvr c (hc c (by simp)),ih _ (fun x hx=>hc x (by simp [hx]))]
  rfl
theorem Ykq (t:GT) (h:t.atom=true) (p:Nat):∃ x r,t.tk p=x::r∧x.kind=1:=by
 cases t with
 | v s=>simp [GT.atom] at h
 | n s=>exact ⟨_,_,rfl,rfl⟩
 | f s t=>exact ⟨_,_,rfl,rfl⟩
 | g s t u=>exact ⟨_,_,rfl,rfl⟩
theorem Yah:∀ (P:List (GT × List GT)) (g p d:Nat) (acc:List Cls),(∀ c ∈ P,ClFine c)→P.length<g→Zgm g (Zpl P p++[⟨4,[],d⟩]) acc=some (acc++P.map clOf):=by
 intro P
 induction P with
 | nil =>
  intro g p d acc _ hg
  obtain ⟨k,rfl⟩:∃ k,g=k+1:=⟨g - 1,by omega⟩
  simp [Zpl,Zgm]
 | cons c P ih =>
  intro g p d acc hc hg
  simp only [Qf] at hg
  obtain ⟨k,rfl⟩:∃ k,g=k+1:=⟨g - 1,by omega⟩
  have hcc:=hc c (by simp)
  obtain ⟨x,r,hx,hx1⟩:=Ykq c.1 (GT.fine_iff hcc.head).1 p
  obtain ⟨r',hr'⟩:∃ r',clTk c.1 c.2 p=x::r':=by
   cases hb:c.2 with
   | nil=>exact ⟨_,by simp only [clTk]; rw [hx]; rfl⟩
   | cons t q=>exact ⟨_,by simp only [clTk]; rw [hx]; rfl⟩
  have hpc:=Ztl c hcc p (Zpl P (p+(clT c.1 c.2).length)++[⟨4,[],d⟩])
  simp only [Zpl,Qi]
  rw [hr'] at hpc ⊢
  simp only [List.cons_append] at hpc ⊢
  rw [Zgm,if_neg (by omega),hpc]
  simp only
  rw [ih k _ d _ (fun y hy=>hc y (by simp [hy])) (by omega)]
  simp
theorem Zju (P:List (GT × List GT)) (hc:∀ c ∈ P,ClFine c) (hl:P.length≤24) (hs:(Zce P).length≤800):Zcj ⟨(Zce P).toArray⟩=some (P.map clOf):=by
 obtain ⟨cs,h⟩:=Yhm P hc hl hs
 rw [h]
 unfold Zcj at h
 split at h
 ·simp at h
 ·split at h
  ·simp at h
  ·unfold Zay at h
   rw [show (⟨(Zce P).toArray⟩:ByteArray).data.toList=Zce P from rfl,Ydz P 0 hc,Yah P 1000 0 _ [] hc (by omega)] at h
   simpa using h.symm
theorem Zlh (t:GT) (r:List GT) (ht:t.fine=true) (hr:∀ u ∈ r,u.fine=true) (hl:r.length<6) (hs:(Zci t r++[46]).length≤120):Zep ⟨(Zci t r++[46]).toArray⟩=some (Zhz (t::r) []):=by
 obtain ⟨a,h⟩:=Ykp t r ht hr hl hs
 rw [h]
 unfold Zep at h
 split at h
 ·simp at h
 ·split at h
  ·simp at h
  ·unfold Zay at h
   have e:toks (⟨(Zci t r++[46]).toArray⟩:ByteArray).data.toList 0=Zly t r 0++[⟨46,[46],0+(Zci t r).length⟩]:=by
    show toks (Zci t r++[46]) 0=_
    rw [Ztk r t _ _ ht hr (Zbc _ _ (by decide +kernel)),Zej (Or.inr (Or.inr (Or.inr rfl)))]
    rfl
   rw [e,Qi,List.singleton_append,Znl r t 1000 0 _ _ [] [] ht hr (by omega)] at h
   simpa using h.symm
def Nq (Q:List UInt8→Prop) (l:List Sym):Prop:=∀ s ∈ l,s.name≠[]→Q s.name
theorem Ykr (Q:List UInt8→Prop) (n:Nat):Nq Q (vr n):=fun s hs h=>by simp [vr] at hs; subst hs; exact absurd rfl h
theorem Nq.ap {Q:List UInt8→Prop} {σ:Nat→List Sym} {l:List Sym} (h:Nq Q l) (hσ:∀ n,Nq Q (σ n)):Nq Q (ap σ l):=by
 intro s hs
 simp only [YtlmjilpjmgjjcaaGreatDoor.ap,List.mem_flatMap] at hs
 obtain ⟨t,ht,hs⟩:=hs
 unfold ap1 at hs
 split at hs
 ·exact hσ _ s hs
 ·simp at hs; subst hs; exact h s ht
theorem Nq.of_ap {Q:List UInt8→Prop} {σ:Nat→List Sym} {l:List Sym} (h:Nq Q (YtlmjilpjmgjjcaaGreatDoor.ap σ l)):Nq Q l:=by
 intro s hs hn
 refine h s ?_ hn
 simp only [YtlmjilpjmgjjcaaGreatDoor.ap,List.mem_flatMap]
 exact ⟨s,hs,by unfold ap1; rw [if_neg hn]; simp⟩
theorem Mgu.nq {Q:List UInt8→Prop} {σ:Nat→List Sym} {a b:List Sym} (h:Mgu σ a b) (ha:Nq Q a) (hb:Nq Q b) (n:Nat):Nq Q (σ n):=by
 intro s hs hn
 obtain ⟨t,ht,e⟩:=h.nm n s hs hn
 rw [← e]
 rcases Qk.1 ht with ht | ht
 ·exact ha t ht (by rw [e]; exact hn)
 ·exact hb t ht (by rw [e]; exact hn)
def CQ (Q:List UInt8→Prop) (c:Cls):Prop:=Nq Q c.head∧∀ t ∈ c.body,Nq Q t
structure NodeQ (Q:List UInt8→Prop) (n:ND):Prop where
 names:∀ t ∈ n.terms,Nq Q t
 d0:n.done.map (·.2)=[]→∀ g ∈ n.goals.map (·.2),g=0
 d1:∀ g r,n.done.map (·.2)=g::r→g=0
 len:n.done.length=n.used.length
theorem Yai {Q:List UInt8→Prop} {xs ys:List (List Sym)} (h:Inst xs ys) (hy:∀ y ∈ ys,Nq Q y):∀ x ∈ xs,Nq Q x:=by
 obtain ⟨σ,_,e⟩:=h
 intro x hx
 exact Nq.of_ap (σ:=σ) (hy _ (by rw [e]; exact List.mem_map_of_mem hx))
theorem NodeQ.same {Q:List UInt8→Prop} {n m:ND} (h:NodeQ Q n) (hs:Same m n):NodeQ Q m :=
 ⟨Yai hs.al.1 h.names,by rw [hs.dd,hs.gd]; exact h.d0,by rw [hs.dd]; exact h.d1,by rw [hs.dl,hs.used]; exact h.len⟩
theorem NodeQ.child {Q:List UInt8→Prop} {n:ND} {c:Cls} {k q:Nat} {ch:ND} (hn:NodeQ Q n) (hc:CQ Q c) (h:Out n c k q ch) (hq:q=1∨q=2):NodeQ Q ch:=by
 obtain ⟨g,gs,hg,h⟩:=h
 rcases h with ⟨rfl,_⟩ | ⟨rfl,_⟩ | ⟨σ,h1,_,_,rfl⟩
 ·omega
 ·omega
 ·have hgt:Nq Q g.1:=hn.names g.1 (by simp [ND.terms,hg])
  have hhd:Nq Q (ap (Zdd n.vars) c.head):=hc.1.ap (fun _=>Ykr _ _)
  have hσ:=h1.nq hgt hhd
  refine ⟨?_,?_,?_,?_⟩
  ·intro t ht
   rw [Zfa] at ht
   simp only [Qk,List.mem_map] at ht
   rcases ht with ⟨u,hu,rfl⟩ | ⟨u,hu,rfl⟩ | ⟨u,hu,rfl⟩
   ·rcases hu with ⟨b,hb,rfl⟩ | ⟨x,hx,rfl⟩
    ·exact ((hc.2 b hb).ap (fun _=>Ykr _ _)).ap hσ
    ·exact (hn.names x.1 (by simp only [ND.terms,hg,List.map_cons,List.cons_append,Qp,Qk,List.mem_map]; exact Or.inr (Or.inl ⟨x,hx,rfl⟩))).ap hσ
   ·exact (hn.names u (by simp [ND.terms,hu])).ap hσ
   ·rcases hu with ⟨x,hx,rfl⟩ | hu
    ·exact (hn.names x.1 (by simp only [ND.terms,Qk,List.mem_map]; exact Or.inr (Or.inr ⟨x,hx,rfl⟩))).ap hσ
    ·simp at hu; subst hu; exact hgt.ap hσ
  ·intro e
   simp [Zau,carr] at e
  ·intro d r e
   have e1:(Zau σ n c k g gs).done.map (·.2)=n.done.map (·.2)++[g.2]:=by simp [Zau,carr]
   rw [e1] at e
   cases hd:n.done.map (·.2) with
   | nil =>
    rw [hd] at e
    simp only [List.nil_append,List.cons.injEq] at e
    rw [← e.1]
    exact hn.d0 hd g.2 (by rw [hg]; simp)
   | cons x r' =>
    rw [hd] at e
    simp only [List.cons_append,List.cons.injEq] at e
    rw [← e.1]
    exact hn.d1 x r' hd
  ·have:=hn.len
   simp [Zau,carr,this]
theorem NodeQ.try' {Q:List UInt8→Prop} {n:ND} {c:Cls} {k:Nat} (hn:NodeQ Q n) (hc:CQ Q c) (h:(tryN n c k).2=1∨(tryN n c k).2=2):NodeQ Q (tryN n c k).1:=by
 by_cases hex:∃ r:ND × Nat,∃ m,NOk m∧Same m n∧Out m c k r.2 r.1
 ·have e:tryN n c k=Classical.choose hex:=by unfold tryN; rw [dif_pos hex]
  obtain ⟨m,_,hS,ho⟩:=Classical.choose_spec hex
  rw [e] at h ⊢
  exact (hn.same hS).child hc ho h
 ·have e:tryN n c k=(⟨[],[],[],[],0⟩,0):=by unfold tryN; rw [dif_neg hex]
  rw [e] at h
  simp at h
theorem NodeQ.reach {Q:List UInt8→Prop} {cs:List Cls} (hcs:∀ c ∈ cs,CQ Q c):∀ {ks:List Nat} {n m:ND},NodeQ Q n→Reach cs n ks m→NodeQ Q m:=by
 intro ks
 induction ks with
 | nil=>intro n m h hr; obtain rfl:m=n:=hr; exact h
 | cons k ks ih =>
  intro n m h hr
  obtain ⟨c,h1,_,h3,h4⟩:=hr
  exact ih (h.try' (hcs c (Qh h1)) h3) h4
theorem NodeQ.top {Q:List UInt8→Prop} {a:List (List Sym) × Names} (h:∀ t ∈ a.1,Nq Q t):NodeQ Q (topN a):=by
 refine ⟨fun t ht => ?_,fun _ g hg => ?_,fun g r e=>by simp [topN] at e,rfl⟩
 ·simp only [ND.terms,topN,List.map_nil,Qs,Qk,List.mem_map] at ht
  rcases ht with ⟨x,⟨y,hy,rfl⟩,rfl⟩ | ⟨x,_,rfl⟩
  ·exact h y hy
  ·exact Ykr _ _
 ·simp [topN] at hg
  exact hg.2.symm ▸ rfl
def Zgq (s:List UInt8):Prop:=(∀ c ∈ s,inB c Zgl=true)∧s.length≤8
theorem Zvs:∀ {r:List UInt8},Zbe r=r.length→∀ c ∈ r,inB c Zgl=true:=by
 intro r
 induction r with
 | nil=>intro _ c hc; simp at hc
 | cons a r ih =>
  intro h c hc
  rw [Zbe] at h
  split at h
  ·rename_i ha
   rcases Qp.1 hc with rfl | hc
   ·exact ha
   ·exact ih (by simpa using h) c hc
  ·simp at h
theorem Znm {s:List UInt8} (h:Zhh Zec s=true):Zgq s:=by
 refine ⟨?_,Zti h⟩
 cases s with
 | nil=>simp [Zhh] at h
 | cons a r =>
  simp only [Zhh,Bool.and_eq_true,beq_iff_eq] at h
  intro c hc
  rcases Qp.1 hc with rfl | hc
  ·exact Zer h.1.1
  ·exact Zvs h.1.2 c hc
theorem Ztm (t:GT):t.ok=true→∀ N,Nq Zgq (t.syms N).1:=by
 induction t with
 | v s=>intro h N x hx hn; simp [GT.syms] at hx; subst hx; exact absurd rfl hn
 | n s=>intro h N x hx hn; simp [GT.syms] at hx; subst hx; exact Znm h
 | f s t ih =>
  intro h N x hx hn
  simp only [GT.ok,Bool.and_eq_true] at h
  simp only [GT.syms,Qp] at hx
  rcases hx with rfl | hx
  ·exact Znm h.1
  ·exact ih h.2 N x hx hn
 | g s t u iht ihu =>
  intro h N x hx hn
  simp only [GT.ok,Bool.and_eq_true] at h
  simp only [GT.syms,Qp,Qk] at hx
  rcases hx with rfl | hx | hx
  ·exact Znm h.1
  ·exact iht h.2.1 N x hx hn
  ·exact ihu h.2.2 _ x hx hn
theorem Zpm:∀ (l:List GT) (N:Names),(∀ t ∈ l,t.ok=true)→∀ t ∈ (Zhz l N).1,Nq Zgq t:=by
 intro l
 induction l with
 | nil=>intro N _ t ht; simp [Zhz] at ht
 | cons u l ih =>
  intro N h t ht
  simp only [Zhz,Qp] at ht
  rcases ht with rfl | ht
  ·exact Ztm u (h u (by simp)) N
  ·exact ih _ (fun x hx=>h x (by simp [hx])) t ht
theorem Yea {c:GT × List GT} (h:ClFine c):CQ Zgq (clOf c) :=
 ⟨Ztm _ (GT.fine_iff h.head).2.1 _,Zpm _ _ (fun t ht=>(GT.fine_iff (h.body t ht)).2.1)⟩
theorem Znn:∀ d<10,UInt8.ofNat (48+d)≠10∧UInt8.ofNat (48+d)≠46:=by decide +kernel
theorem Ztn (n:Nat):∀ c ∈ Lib.decDigits n,c≠10∧c≠46:=by
 induction n using Nat.strongRecOn with
 | _ n ih =>
  intro c hc
  rw [Lib.decDigits] at hc
  split at hc
  ·rename_i h
   rw [List.mem_singleton] at hc
   subst hc
   have:=Znn (n % 10) (by omega)
   first
    | exact Znn n h
    | (rw [Nat.mod_eq_of_lt h] at this; exact this)
  ·rename_i h
   rcases Qk.1 hc with hc | hc
   ·exact ih (n / 10) (by omega) c hc
   ·rw [List.mem_singleton] at hc
    subst hc
    exact Znn (n % 10) (by omega)
theorem Zkq:∀ d<26,UInt8.ofNat (65+d)≠10∧UInt8.ofNat (65+d)≠32:=by decide +kernel
theorem Zto (n:Nat):(∀ c ∈ Zek n,c≠10)∧∃ c r,Zek n=c::r∧c≠32:=by
 unfold Zek
 split
 ·rename_i h
  exact ⟨fun c hc=>by rw [List.mem_singleton] at hc; subst hc; exact (Zkq n h).1,_,_,rfl,(Zkq n h).2⟩
 ·refine ⟨fun c hc => ?_,_,_,rfl,(Zkq (n % 26) (by omega)).2⟩
  rcases Qp.1 hc with rfl | hc
  ·exact (Zkq (n % 26) (by omega)).1
  ·exact (Ztn _ c hc).1
theorem Zno {c:UInt8} (h:inB c Zgl=true):c≠10∧c≠32:=by
 have:=Zdu (p:=fun c => !inB c Zgl || (decide (c≠10) && decide (c≠32))) (by decide +kernel) c
 simpa [h] using this
theorem Zpn {s:Sym} (h:s.name≠[]→Zgq s.name):(∀ c ∈ symC s,c≠10)∧∃ c r,symC s=c::r∧c≠32:=by
 unfold symC
 split
 ·exact Zto _
 ·rename_i hn
  have hw:=h hn
  refine ⟨fun c hc=>(Zno (hw.1 c hc)).1,?_⟩
  cases e:s.name with
  | nil=>exact absurd e hn
  | cons c r=>exact ⟨c,r,rfl,(Zno (hw.1 c (by rw [e]; simp))).2⟩
theorem Ztp:∀ (miss:List Nat),∀ c ∈ (Zbr miss).1,c≠10:=by
 intro miss
 induction miss with
 | nil=>intro c hc; simp [Zbr] at hc
 | cons n r ih =>
  intro c hc
  simp only [Zbr] at hc
  split at hc
  ·simp at hc; subst hc; decide
  ·rcases Qp.1 hc with rfl | hc
   ·decide
   ·exact ih c hc
theorem Zvt:∀ (l:List Sym) (miss:List Nat),Nq Zgq l→∀ c ∈ Zby l miss,c≠10:=by
 intro l
 induction l with
 | nil=>intro miss _ c hc; simp [Zby] at hc
 | cons s r ih =>
  intro miss h c hc
  have hs:=Zpn (h s (by simp))
  have hr:Nq Zgq r:=fun x hx=>h x (by simp [hx])
  simp only [Zby] at hc
  split at hc
  ·rcases Qk.1 hc with hc | hc
   ·exact hs.1 c hc
   ·rcases Qp.1 hc with rfl | hc
    ·decide
    ·exact ih _ hr c hc
  ·rcases Qk.1 hc with hc | hc
   ·exact hs.1 c hc
   ·rcases Qk.1 hc with hc | hc
    ·exact Ztp _ c hc
    ·exact ih _ hr c hc
theorem Zvu {l:List Sym} (h:Nq Zgq l) (hne:l≠[]):∃ c r,Zby l []=c::r∧c≠32:=by
 cases l with
 | nil=>exact absurd rfl hne
 | cons s r =>
  obtain ⟨_,c,q,e,h32⟩:=Zpn (h s (by simp))
  simp only [Zby]
  split
  ·exact ⟨c,_,by rw [e]; rfl,h32⟩
  ·exact ⟨c,_,by rw [e]; rfl,h32⟩
theorem Yeb {Q:List UInt8→Prop}:∀ (l:List Sym) (met:List Nat),Nq Q l→Nq Q (Zat l met).1:=by
 intro l
 induction l with
 | nil=>intro met _ s hs; simp [Zat] at hs
 | cons x r ih =>
  intro met h s hs hn
  have hr:Nq Q r:=fun y hy=>h y (by simp [hy])
  simp only [Zat] at hs
  split at hs
  ·rcases Qp.1 hs with rfl | hs
   ·exact absurd rfl hn
   ·exact ih _ hr s hs hn
  ·rcases Qp.1 hs with rfl | hs
   ·exact h s (by simp) hn
   ·exact ih _ hr s hs hn
theorem Yec {Q:List UInt8→Prop}:∀ (ts:List (List Sym)) (met:List Nat),(∀ t ∈ ts,Nq Q t∧t≠[])→∀ t ∈ (Zaq ts met).1,Nq Q t∧t≠[]:=by
 intro ts
 induction ts with
 | nil=>intro met _ t ht; simp [Zaq] at ht
 | cons u ts ih =>
  intro met h t ht
  simp only [Zaq,Qp] at ht
  rcases ht with rfl | ht
  ·refine ⟨Yeb _ _ (h u (by simp)).1,fun e=>(h u (by simp)).2 ?_⟩
   have:=Zhn u met
   rw [e] at this
   exact List.eq_nil_of_length_eq_zero (by simpa using this.symm)
  ·exact ih _ (fun x hx=>h x (by simp [hx])) t ht
def segs:List (List Sym)→List Nat→List Nat→List (List UInt8 × List UInt8)
 | t::ts,d::ds,k::ks=>(List.replicate (2 * d) 32++Zby t [],Lib.decDigits k)::segs ts ds ks
 | _,_,_=>[]
theorem Yaj:∀ (ts:List (List Sym)) (ds ks:List Nat),Zen ts ds ks=linT (segs ts ds ks):=by
 intro ts
 induction ts with
 | nil=>intro ds ks; rfl
 | cons t ts ih =>
  intro ds ks
  cases ds with
  | nil=>rfl
  | cons d ds =>
   cases ks with
   | nil=>rfl
   | cons k ks =>
    simp only [Zen,segs]
    rw [ih]
    simp [linT,segT]
theorem Yks:∀ (ts:List (List Sym)) (ds ks:List Nat),ts.length=ks.length→ds.length=ks.length→linB (segs ts ds ks)=ks.flatMap (fun k=>Lib.decDigits k++[46])∧(segs ts ds ks).length=ks.length:=by
 intro ts
 induction ts with
 | nil=>intro ds ks h1 h2; obtain rfl:ks=[]:=List.eq_nil_of_length_eq_zero (by simpa using h1.symm); exact ⟨by cases ds <;> rfl,by cases ds <;> rfl⟩
 | cons t ts ih =>
  intro ds ks h1 h2
  cases ks with
  | nil=>simp at h1
  | cons k ks =>
   cases ds with
   | nil=>simp at h2
   | cons d ds =>
    obtain ⟨g1,g2⟩:=ih ds ks (by simpa using h1) (by simpa using h2)
    simp only [segs,linB,List.flatMap_cons,Qf,g2]
    exact ⟨by rw [← g1]; rfl,trivial⟩
theorem Ykt:∀ (ks:List Nat),Zcb [46] ks++[46]=46::ks.flatMap (fun k=>Lib.decDigits k++[46]):=by
 intro ks
 induction ks with
 | nil=>rfl
 | cons k ks ih =>
  simp only [Zcb,Qi,List.flatMap_cons]
  rw [ih]
  simp
theorem Yku:∀ (ts:List (List Sym)) (ds ks:List Nat),(∀ t ∈ ts,Nq Zgq t∧t≠[])→∀ s ∈ segs ts ds ks,SegOk s:=by
 intro ts
 induction ts with
 | nil=>intro ds ks _ s hs; simp [segs] at hs
 | cons t ts ih =>
  intro ds ks h s hs
  cases ds with
  | nil=>simp [segs] at hs
  | cons d ds =>
   cases ks with
   | nil=>simp [segs] at hs
   | cons k ks =>
    simp only [segs,Qp] at hs
    rcases hs with rfl | hs
    ·refine ⟨fun c hc => ?_,fun c hc=>Ztn k c hc,Zij k⟩
     rcases Qk.1 hc with hc | hc
     ·have:=List.eq_of_mem_replicate hc
      subst this
      decide
     ·exact Zvt t [] (h t (by simp)).1 c hc
    ·exact ih ds ks (fun x hx=>h x (by simp [hx])) s hs
theorem Yhn {n:ND} {c:Cls} {k:Nat} (hc:COk c) (h:(tryN n c k).2=1∨(tryN n c k).2=2):NOk (tryN n c k).1:=by
 by_cases hex:∃ r:ND × Nat,∃ m,NOk m∧Same m n∧Out m c k r.2 r.1
 ·have e:tryN n c k=Classical.choose hex:=by unfold tryN; rw [dif_pos hex]
  obtain ⟨m,hm,hS,ho⟩:=Classical.choose_spec hex
  rw [e] at h ⊢
  exact ((Zwy hm hm (Same.refl hm) hc ho ho).2 h).1
 ·have e:tryN n c k=(⟨[],[],[],[],0⟩,0):=by unfold tryN; rw [dif_neg hex]
  rw [e] at h
  simp at h
theorem Yed {cs:List Cls} (hcs:∀ c ∈ cs,COk c):∀ {ks:List Nat} {n m:ND},ks≠[]→Reach cs n ks m→NOk m:=by
 intro ks
 induction ks with
 | nil=>intro n m h; exact absurd rfl h
 | cons k ks ih =>
  intro n m _ hr
  obtain ⟨c,h1,_,h3,h4⟩:=hr
  cases ks with
  | nil=>obtain rfl:m=_:=h4; exact Yhn (hcs c (Qh h1)) h3
  | cons j ks=>exact ih (by simp) h4
theorem Zre {n:ND} (hQ:NodeQ Zgq n) (hN:NOk n) (h0:n.used≠[]):∃ L,(∀ s ∈ L,SegOk s)∧L≠[]∧Zev n=linT L∧Zdl n++[46]=linB L∧∃ c,(Zev n)[0]?=some c∧c≠32:=by
 obtain ⟨ts,hts⟩:∃ ts,ts=(Zaq (n.done.map (·.1)) []).1:=⟨_,rfl⟩
 have hw:∀ t ∈ ts,Nq Zgq t∧t≠[]:=by
  rw [hts]
  refine Yec _ _ (fun t ht => ?_)
  have hm:t ∈ n.terms:=by unfold ND.terms; simp only [Qk]; exact Or.inr (Or.inr ht)
  refine ⟨hQ.names t hm,fun e => ?_⟩
  have:=hN.wf t hm
  rw [e] at this
  simp [Wf] at this
 have hl1:ts.length=n.used.length:=by rw [hts,Zdw]; simpa using hN.dl
 have hl2:(n.done.map (·.2)).length=n.used.length:=by simpa using hN.dl
 obtain ⟨g1,g2⟩:=Yks ts (n.done.map (·.2)) n.used hl1 hl2
 have e1:Zev n=linT (segs ts (n.done.map (·.2)) n.used):=by unfold Zev; rw [← hts]; exact Yaj _ _ _
 refine ⟨segs ts (n.done.map (·.2)) n.used,Yku _ _ _ hw,fun e=>h0 ?_,e1,?_,?_⟩
 ·rw [e] at g2
  exact List.eq_nil_of_length_eq_zero (by simpa using g2.symm)
 ·rw [g1]
  unfold Zdl
  cases hu:n.used with
  | nil=>exact absurd hu h0
  | cons k ks =>
   simp only [Zcb,List.nil_append,Qi,List.flatMap_cons]
   rw [Ykt]
   simp
 ·cases hu:n.used with
  | nil=>exact absurd hu h0
  | cons k ks =>
   rw [hu] at hl1 hl2
   cases hd:n.done.map (·.2) with
   | nil=>rw [hd] at hl2; simp at hl2
   | cons d ds =>
    cases ht:ts with
    | nil=>rw [ht] at hl1; simp at hl1
    | cons t tr =>
     have hd0:=hQ.d1 d ds hd
     subst hd0
     obtain ⟨c,r,hc,h32⟩:=Zvu (hw t (by rw [ht]; simp)).1 (hw t (by rw [ht]; simp)).2
     refine ⟨c,?_,h32⟩
     unfold Zev
     rw [← hts,ht,hd,hu]
     simp [Zen,hc]
theorem Zxp {w:World} {B e size n:Nat} {v:Value} {xs:List Value} (h:w.ownsRow B e size v n xs):∀ k,Zbo v k→∃ cl fr,w.heap[k]?=some (.cells cl e fr):=fun k hk=>by
 rcases h.2 with ⟨rfl,_⟩ | ⟨g,cap,cur,rfl,_,hg,_⟩
 ·simp [Zbo,Value.ownBlock] at hk
 ·simp [Zbo,Value.ownBlock] at hk
  subst hk
  exact ⟨_,_,hg⟩
def OfTy (S:Nat→Prop) (w:World) (t:TypeId):Prop:=∀ k,S k→∃ cl fr,w.heap[k]?=some (.cells cl t fr)
theorem OfTy.block {S:Nat→Prop} {w w':World} {t t':TypeId} {k:Nat} {cl:Array Value} {fr:Nat × Nat} (hS:OfTy S w t) (hk:Kept S w w') (h:w.heap[k]?=some (.cells cl t' fr)) (ht:t'≠t):w'.heap[k]?=some (.cells cl t' fr) :=
 (hk.block k (Zab h) (fun hs=>by
  obtain ⟨cl',fr',h1⟩:=hS k hs
  rw [h] at h1
  simp at h1
  exact ht h1.2.1)).trans h
theorem OfTy.row {S:Nat→Prop} {w w':World} {t B e size n:Nat} {v:Value} {xs:List Value} (hS:OfTy S w t) (hk:Kept S w w') (h:w.ownsRow B e size v n xs) (ht:e≠t):w'.ownsRow B e size v n xs :=
 Zah h (fun k hj=>by
  obtain ⟨cl,fr,h1⟩:=Zxp h k hj
  rw [hS.block hk h1 ht,h1])
def Zrf (c:Int) (n:Nat):Nat:=((if c<0 then -(c+1) else c) % (n:Int)).toNat
theorem Yho (c:Int) (n:Nat) (hn:0<n):Zrf c n<n:=by
 have h1:=Int.emod_nonneg (if c<0 then -(c+1) else c) (show (n:Int)≠0 by omega)
 have h2:=Int.emod_lt_of_pos (if c<0 then -(c+1) else c) (show (0:Int)<n by omega)
 unfold Zrf
 omega
theorem Yhp (c:Int) (n:Nat) (w:World) (hc : -9223372036854775808≤c∧c<9223372036854775808) (hn:0<n∧n<1000000) :
  Calls Tryz.prog 45 #[.int .i64 c,.int .i64 n] w fun e w'=>e = .returned (.int .i64 (Zrf c n))∧w'=w:=by
 have hn0:¬ (n:Int)=0:=by omega
 obtain ⟨hc1,hc2⟩:=hc
 obtain ⟨hn1,hn2⟩:=hn
 by_cases h0:c<0
 ·have e : -((c+1).tmod n)=(Zrf c n:Int):=by
   unfold Zrf
   rw [if_pos h0,← Int.neg_tmod,Int.tmod_eq_emod_of_nonneg (by omega),Int.toNat_of_nonneg (Int.emod_nonneg _ hn0)]
  go_enter Tryz.func45,Tryz.ntmps45
  go_wp2
  go_ret
  exact ⟨by first | rfl | (rw [← e]; rfl) | simp [e],rfl⟩
 ·have e:c.tmod n=(Zrf c n:Int):=by
   unfold Zrf
   rw [if_neg h0,Int.tmod_eq_emod_of_nonneg (by omega),Int.toNat_of_nonneg (Int.emod_nonneg _ hn0)]
  have e':c % n=(Zrf c n:Int):=by rw [← e,Int.tmod_eq_emod_of_nonneg (by omega)]
  go_enter Tryz.func45,Tryz.ntmps45
  go_wp2
  go_ret
  exact ⟨by first | rfl | (rw [← e]; rfl) | (rw [← e']; rfl) | simp [e,e'],rfl⟩
structure RawAt (w:World) (B b:Nat) (ra:Option Addr) (rl rc:Nat) (at':Nat):Prop where
 le:B≤b
 box:w.heap[b]?=some (.cells #[.slice ra rl rc,.int .i64 at'] 28 (0,0))
 far:at'≤rl
 len:rl≤9223372036854775807
 cells:∀ i,i<rl→∃ (k off:Nat) (c:Int),ra=some ⟨k,off,none⟩∧k<B∧w.cell? ⟨k,off+i,none⟩=some (.int .i64 c) ∧ -9223372036854775808≤c∧c<9223372036854775808
def Zeb (w:World) (B b:Nat) (ra:Option Addr) (rl rc:Nat):Prop:=∃ at',RawAt w B b ra rl rc at'
theorem RawAt.put {w w':World} {B b:Nat} {ra:Option Addr} {rl rc at' at2:Nat} (h:RawAt w B b ra rl rc at') (hK:Kept (only b) w w') (hb:w'.heap[b]?=some (.cells #[.slice ra rl rc,.int .i64 at2] 28 (0,0))) (h2:at2≤rl):RawAt w' B b ra rl rc at2:=by
 refine ⟨h.le,hb,h2,h.len,fun i hi => ?_⟩
 obtain ⟨k,off,c,h1,h3,h4,h5⟩:=h.cells i hi
 exact ⟨k,off,c,h1,h3,hK.cell h4 (fun e=>by have e:k=b:=e; have:=h.le; omega),h5⟩
theorem Zfe (w:World) (B b:Nat) (ra:Option Addr) (rl rc:Nat) (h:Zeb w B b ra rl rc) (n:Nat) (hn:0<n∧n≤100) :
  Calls Tryz.prog 23 #[.pointer (some ⟨b,0,none⟩),.int .i64 n] w fun e w'=>∃ v:Nat,v<n∧e = .returned (.int .i64 v)∧Kept (only b) w w'∧Zeb w' B b ra rl rc:=by
 obtain ⟨p,h⟩:=h
 have c0:=Zaa h.box 0 _ rfl
 have c1:=Zaa h.box 1 _ rfl
 have hb:=Zab h.box
 have hf:=fun i=>Zad h.box i
 have hfar:=h.far
 have hlen:=h.len
 have HR:=Zac h
 by_cases hlt:p<rl
 ·obtain ⟨k,off,c,rfl,hk,hc,hc1,hc2⟩:=h.cells p hlt
  have hkb:k<w.heap.size:=by have:=h.le; omega
  have HP:=Zac (fun u=>Yhp c n u ⟨hc1,hc2⟩ ⟨hn.1,by omega⟩)
  have hpl:=Yho c n hn.1
  obtain ⟨v,hv⟩:∃ v,v=Zrf c n:=⟨_,rfl⟩
  rw [← hv] at HP hpl
  have hI:¬ (rl:Int)≤(p:Int):=by omega
  have hI2:decide ((rl:Int)≤(p:Int))=false:=by simpa using hI
  clear h hv
  go_enter Tryz.func23,Tryz.ntmps23
  go_wp2_with fail
  go_quiet (fail)
  go_wp2_with fail
  have d0:(w.drewN nq).cell? ⟨b,0,none⟩=some (.slice (some ⟨k,off,none⟩) rl rc):=c0
  have d1:(w.drewN nq).cell? ⟨b,1,none⟩=some (.int .i64 p):=c1
  have dc:(w.drewN nq).cell? ⟨k,off+p,none⟩=some (.int .i64 c):=hc
  have df:∀ i,(w.drewN nq).frozen? ⟨b,i,none⟩=false:=hf
  have db:b<(w.drewN nq).heap.size:=hb
  have HK:Hid (Kept (only b) w (w.drewN nq)):=(Qx _ _).drewN nq
  have HB:Hid ((w.drewN nq).heap[b]?=some (.cells #[.slice (some ⟨k,off,none⟩) rl rc,.int .i64 p] 28 (0,0))):=HR.out.box
  clear c0 c1 hc hf hb hkb
  generalize w.drewN nq=W at d0 d1 dc df db HK HB ⊢
  go_quiet ((go_at_call 45; exact Calls.quiet_of_same (HP.out _)))
  go_wp2
  go_ret
  have hKe:∀ u:Value,Kept (only b) W (W.setCell ⟨b,1,none⟩ u):=fun u=>(Qx _ _).put 1 u
  refine ⟨v,hpl,rfl,?_,p+1,?_⟩
  ·exact HK.out.trans (by repeat (first | with_reducible exact Qx _ _ | with_reducible apply Kept.drewN | with_reducible apply Kept.put))
  ·refine HR.out.put (HK.out.trans (by repeat (first | with_reducible exact Qx _ _ | with_reducible apply Kept.drewN | with_reducible apply Kept.put))) ?_ (by omega)
   exact Zaf HB.out 1 _
 ·have hI:(rl:Int)≤(p:Int):=by omega
  have hI2:decide ((rl:Int)≤(p:Int))=true:=by simpa using hI
  clear h
  go_enter Tryz.func23,Tryz.ntmps23
  go_wp2_with fail
  go_quiet (fail)
  go_wp2
  go_ret
  exact ⟨0,hn.1,rfl,(Qx _ _).drewN _,p,HR.out.put ((Qx _ _).drewN _) HR.out.box hfar⟩
def Ykv (w:World) (B b:Nat) (ra:Option Addr) (rl rc:Nat) (S Len:Nat) (e:Ending) (w':World):Prop:=∃ t:GT,t.ok=true∧t.size≤S∧t.text.length≤Len∧e = .returned (.string ⟨t.text.toArray⟩)∧Kept (only b) w w'∧Zeb w' B b ra rl rc
def tS:Nat→Nat
 | 0=>1
 | d+1=>1+2 * tS d
def tL:Nat→Nat
 | 0=>3
 | d+1=>4+2 * tL d
theorem Ykw:(⟨#[88,89,90]⟩:ByteArray).extract 0 1=⟨#[88]⟩∧(⟨#[88,89,90]⟩:ByteArray).extract 1 2=⟨#[89]⟩∧(⟨#[88,89,90]⟩:ByteArray).extract 2 3=⟨#[90]⟩:=by
 refine ⟨?_,?_,?_⟩ <;> rw [Lib.extract_eq] <;> rfl
theorem Yjn (s:List UInt8) (t:GT):(⟨(GT.f s t).text.toArray⟩:ByteArray)=⟨(s++[40]).toArray⟩++⟨t.text.toArray⟩++⟨#[41]⟩:=by
 show _=⟨(s++[40]).toArray⟩++⟨t.text.toArray⟩++(⟨[41].toArray⟩:ByteArray)
 rw [Zbb,Zbb]
 simp [GT.text]
theorem Yjo (s:List UInt8) (t u:GT):(⟨(GT.g s t u).text.toArray⟩:ByteArray)=⟨(s++[40]).toArray⟩++⟨t.text.toArray⟩++⟨#[44]⟩++⟨u.text.toArray⟩++⟨#[41]⟩:=by
 show _=⟨(s++[40]).toArray⟩++⟨t.text.toArray⟩++(⟨[44].toArray⟩:ByteArray)++⟨u.text.toArray⟩++(⟨[41].toArray⟩:ByteArray)
 rw [Zbb,Zbb,Zbb,Zbb]
 simp [GT.text]
theorem Yee (B b:Nat) (ra:Option Addr) (rl rc:Nat):∀ (d:Nat),d≤2→∀ (w:World),Zeb w B b ra rl rc→Calls Tryz.prog 71 #[.pointer (some ⟨b,0,none⟩),.int .i64 d] w (Ykv w B b ra rl rc (tS d) (tL d)):=by
 obtain ⟨x0,x1,x2⟩:=Ykw
 intro d
 induction d with
 | zero =>
  intro hd w h
  have HT:=Zac (Zfe w B b ra rl rc h 5 ⟨by omega,by omega⟩)
  clear h
  go_enter Tryz.func71,Tryz.ntmps71
  go_wp2_with fail
  refine HT.out.mono ?_
  rintro e w1 ⟨v,hv,rfl,hK,hR⟩
  have HK:Hid (Kept (only b) w w1∧Zeb w1 B b ra rl rc):=⟨hK,hR⟩
  clear hK hR HT
  rcases (by omega:v=0∨v=1∨v=2∨v=3∨v=4) with rfl | rfl | rfl | rfl | rfl
  ·go_wp2
   go_ret
   exact ⟨.v [88],by decide +kernel,by decide,by decide,by first | rfl | (simp [GT.text,x0]),HK.out.1,HK.out.2⟩
  ·go_wp2
   go_ret
   exact ⟨.v [89],by decide +kernel,by decide,by decide,by first | rfl | (simp [GT.text,x1]),HK.out.1,HK.out.2⟩
  ·go_wp2
   go_ret
   exact ⟨.v [90],by decide +kernel,by decide,by decide,by first | rfl | (simp [GT.text,x2]),HK.out.1,HK.out.2⟩
  ·go_wp2
   go_ret
   exact ⟨.n [122],by decide +kernel,by decide,by decide,rfl,HK.out.1,HK.out.2⟩
  ·go_wp2
   go_ret
   exact ⟨.n [110,105,108],by decide +kernel,by decide,by decide,rfl,HK.out.1,HK.out.2⟩
 | succ d ih =>
  intro hd w h
  have HT:=Zac (Zfe w B b ra rl rc h 7 ⟨by omega,by omega⟩)
  have IH:=Zac (ih (by omega))
  have hdi:((d+1:Nat):Int) - 1=(d:Int):=by omega
  have hdp:(0:Int)<((d+1:Nat):Int):=by omega
  have hLb:tL d≤24:=by rcases (by omega:d=0∨d=1) with rfl | rfl <;> decide
  clear h ih
  go_enter Tryz.func71,Tryz.ntmps71
  go_wp2_with fail
  refine HT.out.mono ?_
  rintro e w1 ⟨v,hv,rfl,hK,hR⟩
  have HK:Hid (Kept (only b) w w1∧Zeb w1 B b ra rl rc):=⟨hK,hR⟩
  clear hK hR HT
  rcases (by omega:v=0∨v=1∨v=2∨v=3∨v=4∨v=5∨v=6) with rfl | rfl | rfl | rfl | rfl | rfl | rfl
  ·go_wp2
   go_ret
   exact ⟨.v [88],by decide +kernel,by simp [GT.size,tS],by simp [GT.text,tL]; omega,by first | rfl | (simp [GT.text,x0]),HK.out.1,HK.out.2⟩
  ·go_wp2
   go_ret
   exact ⟨.v [89],by decide +kernel,by simp [GT.size,tS],by simp [GT.text,tL]; omega,by first | rfl | (simp [GT.text,x1]),HK.out.1,HK.out.2⟩
  ·go_wp2
   go_ret
   exact ⟨.v [90],by decide +kernel,by simp [GT.size,tS],by simp [GT.text,tL]; omega,by first | rfl | (simp [GT.text,x2]),HK.out.1,HK.out.2⟩
  ·go_wp2
   go_ret
   exact ⟨.n [122],by decide +kernel,by simp [GT.size,tS],by simp [GT.text,tL]; omega,rfl,HK.out.1,HK.out.2⟩
  ·go_wp2
   go_ret
   exact ⟨.n [110,105,108],by decide +kernel,by simp [GT.size,tS],by simp [GT.text,tL]; omega,rfl,HK.out.1,HK.out.2⟩
  ·have H1:=Zac (IH.out w1 HK.out.2)
   go_wp2_with fail
   refine H1.out.mono ?_
   rintro e w2 ⟨t,h1,h2,h3,rfl,hK2,hR2⟩
   have HK2:Hid (Kept (only b) w w2∧Zeb w2 B b ra rl rc):=⟨HK.out.1.trans hK2,hR2⟩
   have Ht:=Zac (Yjn [115] t)
   clear hK2 hR2 H1
   go_wp2
   go_ret
   exact ⟨.f [115] t,by simp [GT.ok,h1]; decide +kernel,by simp [GT.size,tS]; omega,by simp [GT.text,tL]; omega,by rw [Ht.out]; rfl,HK2.out.1,HK2.out.2⟩
  ·have H1:=Zac (IH.out w1 HK.out.2)
   go_wp2_with fail
   refine H1.out.mono ?_
   rintro e w2 ⟨t,h1,h2,h3,rfl,hK2,hR2⟩
   have HK2:Hid (Kept (only b) w w2∧Zeb w2 B b ra rl rc):=⟨HK.out.1.trans hK2,hR2⟩
   have H2:=Zac (IH.out w2 hR2)
   clear hK2 hR2 H1
   go_wp2_with fail
   refine H2.out.mono ?_
   rintro e w3 ⟨u,k1,k2,k3,rfl,hK3,hR3⟩
   have HK3:Hid (Kept (only b) w w3∧Zeb w3 B b ra rl rc):=⟨HK2.out.1.trans hK3,hR3⟩
   have Ht:=Zac (Yjo [102] t u)
   clear hK3 hR3 H2
   go_wp2
   go_ret
   exact ⟨.g [102] t u,by simp [GT.ok,h1,k1]; decide +kernel,by simp [GT.size,tS]; omega,by simp [GT.text,tL]; omega,by rw [Ht.out]; rfl,HK3.out.1,HK3.out.2⟩
def tok0 (t:Tok):Tok:=⟨t.kind,t.text,0⟩
theorem Yef:∀ (n:Nat) (l:List UInt8) (p q:Nat),l.length≤n→(toks l p).map tok0=(toks l q).map tok0:=by
 intro n
 induction n with
 | zero =>
  intro l p q h
  obtain rfl:l=[]:=List.eq_nil_of_length_eq_zero (by omega)
  rfl
 | succ n ih =>
  intro l p q h
  cases l with
  | nil=>rfl
  | cons c r =>
   simp only [Qf] at h
   cases hb:Zgv c with
   | true=>rw [Ziq c r p hb,Ziq c r q hb]; exact ih r _ _ (by omega)
   | false =>
    rw [Zes c r p hb,Zes c r q hb]
    simp only [List.map_cons,tok0]
    rw [ih _ (p+(Zbm c r).2+1) (q+(Zbm c r).2+1) (by simp; omega)]
def kt (l:List UInt8):List Tok:=(toks l 0).map tok0
theorem Yhq (l:List UInt8) (p:Nat):(toks l p).map tok0=kt l:=Yef _ l p 0 (Qe _)
theorem Yhr {c:UInt8} {l:List UInt8} (h:Zgv c=true):kt (c::l)=kt l:=by
 unfold kt
 rw [Ziq c l 0 h]
 exact Yhq l 1
theorem Yeg {c:UInt8} {l:List UInt8} (h:c=40∨c=41∨c=44∨c=46):kt (c::l)=⟨c.toNat,[c],0⟩::kt l:=by
 unfold kt
 rw [Zej h,List.map_cons,Yhq]
 rfl
theorem Yhs {l:List UInt8}:kt (58::45::l)=⟨3,[58,45],0⟩::kt l:=by
 unfold kt
 rw [Zpk,List.map_cons,Yhq]
 rfl
def ktG (t:GT):List Tok:=(t.tk 0).map tok0
theorem Ykx {t:GT} {rest:List UInt8} (h:t.ok=true) (hr:Zbe rest=0):kt (t.text++rest)=ktG t++kt rest:=by
 unfold kt ktG
 rw [Zik t rest 0 h hr,Qr,Yhq]
 rfl
abbrev RdO:=Option (List Sym × List Tok × Names)
def rd0 (r:List Sym × List Tok × Names):List Sym × List Tok × Names:=(r.1,r.2.1.map tok0,r.2.2)
def rds0 (r:List (List Sym) × List Tok × Names):List (List Sym) × List Tok × Names:=(r.1,r.2.1.map tok0,r.2.2)
theorem Yky {p:List Tok→Names→RdO} (hp:∀ ts N,p (ts.map tok0) N=(p ts N).map rd0):∀ (g:Nat) (ts:List Tok) (N:Names) (acc:List (List Sym)),Zee p g (ts.map tok0) N acc=(Zee p g ts N acc).map rds0:=by
 intro g
 induction g with
 | zero=>intro ts N acc; rfl
 | succ g ih =>
  intro ts N acc
  cases ts with
  | nil=>rfl
  | cons t ts =>
   simp only [List.map_cons,Zee]
   by_cases h:t.kind=41
   ·rw [if_pos h,if_pos (show (tok0 t).kind=41 from h)]
    rfl
   ·rw [if_neg h,if_neg (show ¬ (tok0 t).kind=41 from h),hp ts N]
    cases p ts N with
    | none=>rfl
    | some r=>simp only [Option.map_some]; exact ih _ _ _
theorem Yeh:∀ (f:Nat) (ts:List Tok) (N:Names),Zcp f (ts.map tok0) N=(Zcp f ts N).map rd0:=by
 intro f
 induction f with
 | zero=>intro ts N; rfl
 | succ f ih =>
  intro ts N
  cases ts with
  | nil=>rfl
  | cons t ts =>
   simp only [List.map_cons,Zcp]
   by_cases h:t.kind=2
   ·rw [if_pos h,if_pos (show (tok0 t).kind=2 from h)]
    rfl
   ·rw [if_neg h,if_neg (show ¬ (tok0 t).kind=2 from h)]
    cases ts with
    | nil=>rfl
    | cons u us =>
     simp only [List.map_cons,Zji]
     by_cases h2:u.kind≠40
     ·rw [if_pos h2,if_pos (show (tok0 u).kind≠40 from h2)]
      rfl
     ·have e:=Yky ih (us.length+1) (u::us) N []
      simp only [List.map_cons] at e
      rw [if_neg h2,if_neg (show ¬ (tok0 u).kind≠40 from h2),Ql,e,Option.map_map,Option.map_map]
      rfl
theorem Yht:∀ (g:Nat) (ts:List Tok) (N:Names) (acc:List (List Sym)),Zcz 1000 g (ts.map tok0) N acc=(Zcz 1000 g ts N acc).map rds0:=by
 intro g
 induction g with
 | zero=>intro ts N acc; rfl
 | succ g ih =>
  intro ts N acc
  simp only [Zcz]
  rw [Yeh]
  cases Zcp 1000 ts N with
  | none=>rfl
  | some r =>
   simp only [Option.map_some,rd0]
   cases r.2.1 with
   | nil=>rfl
   | cons x rest =>
    simp only [List.map_cons]
    by_cases h:x.kind=46
    ·rw [if_pos h,if_pos (show (tok0 x).kind=46 from h)]
     rfl
    ·rw [if_neg h,if_neg (show ¬ (tok0 x).kind=46 from h)]
     exact ih _ _ _
theorem Yei (ts:List Tok):Zdo (ts.map tok0)=(Zdo ts).map (fun r=>(r.1,r.2.map tok0)):=by
 unfold Zdo
 rw [Yeh]
 cases Zcp 1000 ts [] with
 | none=>rfl
 | some r =>
  simp only [Option.map_some,rd0]
  cases r.2.1 with
  | nil=>rfl
  | cons x rest =>
   simp only [List.map_cons]
   by_cases h:x.kind=3
   ·rw [if_pos h,if_pos (show (tok0 x).kind=3 from h),Yht,Option.map_map,Option.map_map]
    rfl
   ·rw [if_neg h,if_neg (show ¬ (tok0 x).kind=3 from h)]
    rfl
theorem Yej:∀ (g:Nat) (ts:List Tok) (acc:List Cls),Zgm g (ts.map tok0) acc=Zgm g ts acc:=by
 intro g
 induction g with
 | zero=>intro ts acc; rfl
 | succ g ih =>
  intro ts acc
  cases ts with
  | nil=>rfl
  | cons t ts =>
   have e:=Yei (t::ts)
   simp only [List.map_cons] at e
   simp only [List.map_cons,Zgm]
   by_cases h:t.kind=4
   ·rw [if_pos h,if_pos (show (tok0 t).kind=4 from h)]
   ·rw [if_neg h,if_neg (show ¬ (tok0 t).kind=4 from h),e]
    cases Zdo (t::ts) with
    | none=>rfl
    | some r=>simp only [Option.map_some]; exact ih _ _
theorem Yek:∀ (ts:List Tok) (L:LookS),(Zfy (ts.map tok0) L).1=(Zfy ts L).1:=by
 intro ts
 induction ts with
 | nil=>intro L; rfl
 | cons t ts ih =>
  intro L
  simp only [List.map_cons,Zfy]
  by_cases h:t.kind=4∧(L.want=5∨L.want=0)
  ·rw [if_pos h,if_pos (show (tok0 t).kind=4∧_ from h)]
  ·rw [if_neg h,if_neg (show ¬ ((tok0 t).kind=4∧_) from h)]
   by_cases h2:(Zcc L t.kind t.text.length).err≠0
   ·rw [if_pos h2,if_pos (show (Zcc L (tok0 t).kind (tok0 t).text.length).err≠0 from h2)]
    rfl
   ·rw [if_neg h2,if_neg (show ¬ (Zcc L (tok0 t).kind (tok0 t).text.length).err≠0 from h2)]
    exact ih _
theorem Ztq (s:List UInt8):(Zay ⟨s.toArray⟩).map tok0=kt s++[⟨4,[],0⟩]:=by
 unfold Zay
 rw [Qr]
 rfl
theorem Yel {s s':List UInt8} (h:kt s=kt s') (h1:s.length≤800) (h2:s'.length≤800):Zcj ⟨s.toArray⟩=Zcj ⟨s'.toArray⟩:=by
 have e:(Zay ⟨s.toArray⟩).map tok0=(Zay ⟨s'.toArray⟩).map tok0:=by rw [Ztq,Ztq,h]
 have z1:¬ 800<(⟨s.toArray⟩:ByteArray).size:=by simp [ByteArray.size]; omega
 have z2:¬ 800<(⟨s'.toArray⟩:ByteArray).size:=by simp [ByteArray.size]; omega
 unfold Zcj
 rw [if_neg z1,if_neg z2,← Yek (Zay ⟨s.toArray⟩),← Yek (Zay ⟨s'.toArray⟩),← Yej _ (Zay ⟨s.toArray⟩),← Yej _ (Zay ⟨s'.toArray⟩),e]
structure Sty (cm ar dt:List UInt8):Prop where
 c:∀ r,kt (cm++r)=⟨44,[44],0⟩::kt r
 cw:∀ r,Zbe (cm++r)=0
 a:∀ r,kt (ar++r)=⟨3,[58,45],0⟩::kt r
 aw:∀ r,Zbe (ar++r)=0
 d:∀ r,kt (dt++r)=⟨46,[46],0⟩::kt r
 dw:∀ r,Zbe (dt++r)=0
def styB (at':GT→List UInt8) (cm:List UInt8):GT→List GT→List UInt8
 | t,[]=>at' t
 | t,u::r=>at' t++(cm++styB at' cm u r)
def styT (at':GT→List UInt8) (cm ar dt:List UInt8) (a:GT):List GT→List UInt8
 | []=>at' a++dt
 | t::r=>at' a++(ar++(styB at' cm t r++dt))
def Yhu (K:GT→List Tok):GT→List GT→List Tok
 | t,[]=>K t
 | t,u::r=>K t++(⟨44,[44],0⟩::Yhu K u r)
def styK (K:GT→List Tok) (a:GT):List GT→List Tok
 | []=>K a++[⟨46,[46],0⟩]
 | t::r=>K a++(⟨3,[58,45],0⟩::(Yhu K t r++[⟨46,[46],0⟩]))
def Yem (at':GT→List UInt8) (K:GT→List Tok) (t:GT):Prop:=∀ r,Zbe r=0→kt (at' t++r)=K t++kt r
theorem Ykz {at':GT→List UInt8} {K:GT→List Tok} {cm ar dt:List UInt8} (h:Sty cm ar dt):∀ (r:List GT) (t:GT) (rest:List UInt8),Yem at' K t→(∀ u ∈ r,Yem at' K u)→Zbe rest=0→kt (styB at' cm t r++rest)=Yhu K t r++kt rest:=by
 intro r
 induction r with
 | nil=>intro t rest ht _ hr; exact ht rest hr
 | cons u r ih =>
  intro t rest ht hu hr
  simp only [styB,Yhu,Qi,List.cons_append]
  rw [ht _ (h.cw _),h.c,ih u rest (hu u (by simp)) (fun x hx=>hu x (by simp [hx])) hr]
theorem Yla {at':GT→List UInt8} {K:GT→List Tok} {cm ar dt:List UInt8} (h:Sty cm ar dt) (a:GT) (b:List GT) (rest:List UInt8) (ha:Yem at' K a) (hb:∀ u ∈ b,Yem at' K u):kt (styT at' cm ar dt a b++rest)=styK K a b++kt rest:=by
 cases b with
 | nil =>
  simp only [styT,styK,Qi,List.cons_append,List.nil_append]
  rw [ha _ (h.dw _),h.d]
 | cons t r =>
  simp only [styT,styK,Qi,List.cons_append,List.nil_append]
  rw [ha _ (h.aw _),h.a,Ykz h r t _ (hb t (by simp)) (fun x hx=>hb x (by simp [hx])) (h.dw _),h.d]
theorem sty0:Sty [44] [58,45] [46] :=
 ⟨fun r=>Yeg (by simp),fun r=>Zbc _ _ (by decide +kernel),fun r=>Yhs,fun r=>Zbc _ _ (by decide +kernel),fun r=>Yeg (by simp),fun r=>Zbc _ _ (by decide +kernel)⟩
theorem Yen:∀ (r:List GT) (t:GT),styB GT.text [44] t r=Zci t r:=by
 intro r
 induction r with
 | nil=>intro t; rfl
 | cons u r ih=>intro t; simp only [styB,Zci,ih u]; rfl
theorem Ylb (a:GT) (b:List GT):styT GT.text [44] [58,45] [46] a b=clT a b:=by
 cases b with
 | nil=>rfl
 | cons t r=>simp only [styT,clT,Yen]; rfl
theorem Zpo {t:GT} (h:t.ok=true):Yem GT.text ktG t:=fun r hr=>Ykx h hr
end Go.Proofs.YtlmjilpjmgjjcaaGreatDoor
namespace Go.Proofs.YtlmjilpjmgjjcaaGreatDoor
def skip:Nat→List Sym→Nat
 | 0,_=>0
 | _+1,[]=>0
 | k+1,s::r=>skip (k+s.args) r+1
theorem Zjv:∀ {a:List Sym} {j:Nat} (r:List Sym),Wf j a→skip j (a++r)=a.length:=by
 intro a
 induction a with
 | nil=>intro j r h; have h:j=0:=h; subst h; simp [skip]
 | cons s a ih =>
  intro j r h
  obtain ⟨h1,_,_,h2⟩:=h
  obtain ⟨k,rfl⟩:∃ k,j=k+1:=⟨j - 1,by omega⟩
  simp only [List.cons_append,skip,Qf]
  rw [ih r (by simpa using h2)]
theorem Ylc:∀ {l:List Sym} {k:Nat} (i:Nat),Wf k l→i≤l.length→∃ k',Wf k' (l.drop i):=by
 intro l
 induction l with
 | nil=>intro k i h hi; simp at hi; subst hi; exact ⟨k,h⟩
 | cons s l ih =>
  intro k i h hi
  cases i with
  | zero=>exact ⟨k,h⟩
  | succ i =>
   obtain ⟨_,_,_,h2⟩:=h
   simp only [List.drop_succ_cons]
   exact ih i h2 (by simpa using hi)
def Zbh (l:List Sym) (i:Nat):Nat:=i+skip 1 (l.drop i)
def tmAt (l:List Sym) (i:Nat):List Sym:=(l.drop i).take (skip 1 (l.drop i))
def Zbd (l:List Sym):Nat→Nat→List Nat
 | _,0=>[]
 | p,m+1=>p::Zbd l (Zbh l p) m
def Zav (l:List Sym):Nat→Nat→Nat
 | p,0=>p
 | p,m+1=>Zav l (Zbh l p) m
theorem Zdg (l:List Sym) (p m:Nat):(Zbd l p m).length=m:=by
 induction m generalizing p with
 | zero=>rfl
 | succ m ih=>simp [Zbd,ih]
theorem Zcf (l:List Sym) (p m:Nat):Zav l p (m+1)=Zbh l (Zav l p m):=by
 induction m generalizing p with
 | zero=>rfl
 | succ m ih=>rw [Zav,ih]; rfl
theorem Zcd (l:List Sym) (p m i:Nat) (hi:i<m):(Zbd l p m)[i]?=some (Zav l p i):=by
 induction m generalizing p i with
 | zero=>omega
 | succ m ih =>
  cases i with
  | zero=>rfl
  | succ i=>simp only [Zbd,List.getElem?_cons_succ,Zav]; exact ih _ _ (by omega)
theorem Zff {l:List Sym} {k i:Nat} (h:Wf k l) (hi:i<l.length):Wf 1 (tmAt l i)∧∃ r,l.drop i=tmAt l i++r∧r=l.drop (Zbh l i)∧i<Zbh l i∧Zbh l i≤l.length∧(tmAt l i).length=skip 1 (l.drop i):=by
 obtain ⟨k',hk⟩:=Ylc i h (by omega)
 have hpos:0<k':=by
  rcases Nat.eq_zero_or_pos k' with rfl | hp
  ·cases hd:l.drop i with
   | nil=>have:=congrArg List.length hd; simp at this; omega
   | cons s r=>rw [hd] at hk; obtain ⟨h1,_⟩:=hk; omega
  ·exact hp
 obtain ⟨a,b,e,ha,hb⟩:=Zkd (j:=1) (k:=k' - 1) (l:=l.drop i) (by rw [show 1+(k' - 1)=k' by omega]; exact hk)
 have hs:skip 1 (l.drop i)=a.length:=by rw [e]; exact Zjv b ha
 have ht:tmAt l i=a:=by unfold tmAt; rw [hs,e]; simp
 have hl:a.length+b.length=l.length - i:=by
  have:=congrArg List.length e
  simp at this; omega
 have ha1:=Zez ha
 refine ⟨by rw [ht]; exact ha,b,by rw [ht]; exact e,?_,by unfold Zbh; omega,by unfold Zbh; omega,by rw [ht,hs]⟩
 unfold Zbh
 rw [hs,← List.drop_drop,e]; simp
theorem Yld {l:List Sym} {k0:Nat} (h:Wf k0 l):∀ (m:Nat) {p:Nat} {a b:List Sym},l.drop p=a++b→Wf m a→p≤l.length →
  a=((Zbd l p m).map (tmAt l)).flatten∧(∀ x ∈ Zbd l p m,p≤x∧x<p+a.length)∧Zav l p m=p+a.length:=by
 intro m
 induction m with
 | zero =>
  intro p a b e hw _
  have:a=[]:=by
   cases a with
   | nil=>rfl
   | cons s a=>obtain ⟨h1,_⟩:=hw; omega
  subst this
  exact ⟨rfl,by simp [Zbd],rfl⟩
 | succ m ih =>
  intro p a b e hw hp
  obtain ⟨a1,a2,rfl,h1,h2⟩:=Zkd (j:=1) (k:=m) (l:=a) (by rw [Nat.add_comm]; exact hw)
  have hl1:=Zez h1
  have hpl:p<l.length:=by
   have:=congrArg List.length e
   simp at this; omega
  have hs:skip 1 (l.drop p)=a1.length:=by rw [e,Qi]; exact Zjv _ h1
  have ht:tmAt l p=a1:=by unfold tmAt; rw [hs,e]; simp
  have hb:Zbh l p=p+a1.length:=by unfold Zbh; rw [hs]
  have e2:l.drop (Zbh l p)=a2++b:=by rw [hb,← List.drop_drop,e]; simp
  have hbl:Zbh l p≤l.length:=by
   have:=congrArg List.length e
   simp at this; omega
  obtain ⟨g1,g2,g3⟩:=ih e2 h2 hbl
  refine ⟨?_,?_,?_⟩
  ·simp only [Zbd,List.map_cons,List.flatten_cons,ht]
   rw [← g1]
  ·intro x hx
   simp only [Zbd,Qp] at hx
   simp only [Qg]
   rcases hx with rfl | hx
   ·omega
   ·have:=g2 x hx; omega
  ·rw [Zav,g3,hb,Qg]; omega
theorem Zjw:∀ {l:List Sym} {k i:Nat} {s:Sym},Wf k l→l[i]?=some s→(s.name=[]→s.args=0)∧(s.name≠[]→s.num=0):=by
 intro l
 induction l with
 | nil=>intro k i s _ hs; simp at hs
 | cons t l ih =>
  intro k i s h hs
  obtain ⟨_,h1,h2,h3⟩:=h
  cases i with
  | zero=>simp at hs; subst hs; exact ⟨h1,h2⟩
  | succ i=>exact ih h3 (by simpa using hs)
def Zax (l:List Sym) (i:Nat):Sym:=l.getD i ⟨[],0,0⟩
def grOf (l:List Sym):Gr:=⟨l.length,Zax l,fun i=>Zbd l (i+1) (Zax l i).args⟩
theorem Zhs {l:List Sym} {k i:Nat} (h:Wf k l) (hi:i<l.length):tmAt l i=Zax l i::((Zbd l (i+1) (Zax l i).args).map (tmAt l)).flatten∧(∀ x ∈ Zbd l (i+1) (Zax l i).args,i<x∧x<Zbh l i)∧Zav l (i+1) (Zax l i).args=Zbh l i:=by
 obtain ⟨hw,r,e,hr,hb1,hb2,hb3⟩:=Zff h hi
 obtain ⟨s,q,e2,hq,_⟩:=Zls hw
 have hd:l.drop i=l[i]::l.drop (i+1):=List.drop_eq_getElem_cons hi
 rw [e2] at e
 rw [hd] at e
 simp only [List.cons_append,List.cons.injEq] at e
 have hs:Zax l i=s:=by unfold Zax; simp [hi,e.1]
 obtain ⟨g1,g2,g3⟩:=Yld h s.args e.2 hq (by omega)
 rw [e2] at hb3
 have hlen:Zbh l i=i+1+q.length:=by unfold Zbh; rw [← hb3]; simp; omega
 rw [hs]
 refine ⟨by rw [e2,← g1],fun x hx => ?_,by rw [g3,hlen]⟩
 have:=g2 x hx
 omega
theorem Zli {a b:List Sym} (h:Wf 1 a):tmAt (a++b) 0=a:=by
 unfold tmAt; rw [List.drop_zero,Zjv b h]; simp
theorem Zjx {a b:List Sym} (h:Wf 1 b):tmAt (a++b) a.length=b:=by
 unfold tmAt
 have e:(a++b).drop a.length=b++[]:=by simp
 rw [e,Zjv [] h]; simp
theorem Yeo {a b:List Sym} (ha:Wf 1 a) (hb:Wf 1 b):Lay (grOf (a++b)) (tmAt (a++b)) a b:=by
 have hw:Wf 2 (a++b):=Zga ha hb
 refine ⟨⟨?_,?_,?_,?_⟩,?_,?_⟩
 ·intro i hi x hx
  have:=(Zhs hw hi).2.1 x hx
  obtain ⟨_,_,_,_,_,h2,_⟩:=Zff hw hi
  show x<(a++b).length
  omega
 ·intro i hi; exact (Zdg _ _ _).symm
 ·intro i hi hn
  have hs:(a++b)[i]?=some (Zax (a++b) i):=by
   have hi:i<(a++b).length:=hi
   unfold Zax; simp only [List.getD_eq_getElem?_getD]; rw [Qb hi]; rfl
  have:=(Zjw hw hs).1 hn
  show Zbd _ _ (Zax (a++b) i).args=[]
  rw [this]; rfl
 ·intro i hi hn
  have hs:(a++b)[i]?=some (Zax (a++b) i):=by
   have hi:i<(a++b).length:=hi
   unfold Zax; simp only [List.getD_eq_getElem?_getD]; rw [Qb hi]; rfl
  exact (Zjw hw hs).2 hn
 ·intro i hi; exact (Zhs hw hi).1
 ·intro i hi hn
  have hi:i<(a++b).length:=hi
  have hm:Zax (a++b) i ∈ a++b:=by
   unfold Zax; simp only [List.getD_eq_getElem?_getD]; rw [Qb hi]; exact List.getElem_mem hi
  rcases Qk.1 hm with hm | hm
  ·exact Or.inl ⟨_,hm,hn,rfl⟩
  ·exact Or.inr ⟨_,hm,hn,rfl⟩
def Zbg (l:List Sym) (i:Nat):Nat:=if (Zax l i).name=[] then l.findIdx (fun s=>s.name.isEmpty && s.num == (Zax l i).num) else i
theorem Zkr (l:List Sym) {k:Nat} (hw:Wf k l):Firsts (grOf l) (Zbg l):=by
 have key:∀ i,i<l.length→(Zax l i).name=[]→Zbg l i<l.length∧(Zax l (Zbg l i)).name=[]∧(Zax l (Zbg l i)).num=(Zax l i).num:=by
  intro i hi hn
  unfold Zbg
  rw [if_pos hn]
  have hex:∃ x ∈ l,(x.name.isEmpty && x.num == (Zax l i).num)=true:=by
   refine ⟨Zax l i,?_,by simp [hn]⟩
   unfold Zax; simp only [List.getD_eq_getElem?_getD]; rw [Qb hi]; exact List.getElem_mem hi
  have hlt:=List.findIdx_lt_length_of_exists hex
  refine ⟨hlt,?_⟩
  have:=List.findIdx_getElem (w:=hlt)
  have e:Zax l (l.findIdx (fun s=>s.name.isEmpty && s.num == (Zax l i).num))=l[l.findIdx (fun s=>s.name.isEmpty && s.num == (Zax l i).num)]:=by
   generalize l.findIdx (fun s=>s.name.isEmpty && s.num == (Zax l i).num)=z at hlt
   unfold Zax; simp only [List.getD_eq_getElem?_getD]; rw [Qb hlt]; rfl
  rw [e]
  simpa using this
 refine ⟨⟨?_,?_⟩,?_,?_,?_⟩
 ·intro i hi
  by_cases hn:(Zax l i).name=[]
  ·exact (key i hi hn).1
  ·show Zbg l i<_
   unfold Zbg; rw [if_neg hn]; exact hi
 ·intro i hi
  by_cases hn:(Zax l i).name=[]
  ·obtain ⟨h1,h2,h3⟩:=key i hi hn
   show Zbg l (Zbg l i)=Zbg l i
   have e1:Zbg l (Zbg l i)=l.findIdx (fun s=>s.name.isEmpty && s.num == (Zax l (Zbg l i)).num):=by
    generalize Zbg l i=z at h2
    unfold Zbg; rw [if_pos h2]
   have e2:Zbg l i=l.findIdx (fun s=>s.name.isEmpty && s.num == (Zax l i).num):=by unfold Zbg; rw [if_pos hn]
   rw [e1,h3,← e2]
  ·have e:Zbg l i=i:=by unfold Zbg; rw [if_neg hn]
   rw [e,e]
 ·intro i j hi hj h1 h2 e
  show Zbg l i=Zbg l j
  have h1:(Zax l i).name=[]:=h1
  have h2:(Zax l j).name=[]:=h2
  have e:(Zax l i).num=(Zax l j).num:=e
  unfold Zbg; rw [if_pos h1,if_pos h2,e]
 ·intro i hi hn
  have hn:(Zax l i).name≠[]:=hn
  show Zbg l i=i
  unfold Zbg; rw [if_neg hn]
 ·intro i hi hn
  exact (key i hi hn).2
end Go.Proofs.YtlmjilpjmgjjcaaGreatDoor
namespace Go.Proofs.YtlmjilpjmgjjcaaGreatDoor
open Go.RowKit
def symB (s t:Sym):Bool:=s.name == t.name && s.num == t.num && s.args == t.args
theorem Yep {s t:Sym} (h:symB s t=true):s=t:=by
 unfold symB at h
 simp only [Bool.and_eq_true,beq_iff_eq] at h
 obtain ⟨⟨h1,h2⟩,h3⟩:=h
 cases s; cases t
 simp_all
theorem Yle {s t:Sym} (h:symB s t=false):s≠t:=by
 rintro rfl
 simp [symB] at h
def Zrg:List Sym→List Sym→Option (List Sym × List Sym)
 | s::a,t::b=>if symB s t then Zrg a b else some ((s::a).take (skip 1 (s::a)),(t::b).take (skip 1 (t::b)))
 | _,_=>none
theorem Zxq {l:List Sym} {j:Nat} (h:Wf j l) (hj:0<j):Wf 1 (l.take (skip 1 l))∧l=l.take (skip 1 l)++l.drop (skip 1 l):=by
 refine ⟨?_,(List.take_append_drop _ _).symm⟩
 obtain ⟨k,rfl⟩:∃ k,j=1+k:=⟨j - 1,by omega⟩
 obtain ⟨a,b,rfl,ha,hb⟩:=Zkd h
 rw [Zjv b ha,List.take_left]
 exact ha
theorem Zpp {s:Sym} {l:List Sym}:((s::l).take (skip 1 (s::l))).head?=some s:=by simp [skip]
theorem Yak:∀ {a b:List Sym} {j:Nat} {x y:List Sym},Wf j a→Wf j b→Zrg a b=some (x,y)→Parts a b x y:=by
 intro a
 induction a with
 | nil=>intro b j x y _ _ h; simp [Zrg] at h
 | cons s a ih =>
  intro b j x y ha hb h
  cases b with
  | nil=>simp [Zrg] at h
  | cons t b =>
   unfold Zrg at h
   split at h
   ·rename_i e
    obtain rfl:=Yep e
    obtain ⟨_,_,_,h1⟩:=ha
    obtain ⟨_,_,_,h2⟩:=hb
    obtain ⟨⟨p,ra,rb,rfl,rfl⟩,wx,wy,ne⟩:=ih h1 h2 h
    exact ⟨⟨s::p,ra,rb,by simp,by simp⟩,wx,wy,ne⟩
   ·rename_i e
    obtain ⟨rfl,rfl⟩:(s::a).take (skip 1 (s::a))=x∧(t::b).take (skip 1 (t::b))=y:=by simpa using h
    obtain ⟨w1,e1⟩:=Zxq ha ha.1
    obtain ⟨w2,e2⟩:=Zxq hb hb.1
    refine ⟨⟨[],_,_,by rw [List.nil_append]; exact e1,by rw [List.nil_append]; exact e2⟩,w1,w2,?_⟩
    rw [Zpp,Zpp]
    intro h1
    exact Yle (by simpa using e) (by simpa using h1)
theorem Yal:∀ {a b:List Sym} {j:Nat},Wf j a→Wf j b→Zrg a b=none→a=b:=by
 intro a
 induction a with
 | nil =>
  intro b j ha hb h
  cases b with
  | nil=>rfl
  | cons t b=>have h1:j=0:=ha; have h2:=hb.1; omega
 | cons s a ih =>
  intro b j ha hb h
  cases b with
  | nil=>have h1:j=0:=hb; have h2:=ha.1; omega
  | cons t b =>
   unfold Zrg at h
   split at h
   ·rename_i e
    obtain rfl:=Yep e
    obtain ⟨_,_,_,h1⟩:=ha
    obtain ⟨_,_,_,h2⟩:=hb
    rw [ih h1 h2 h]
   ·simp at h
def occB (v:Nat) (l:List Sym):Bool:=l.any (fun s=>s.name.isEmpty && s.num == v)
theorem Zxr {v:Nat} {l:List Sym} (h:occB v l=true):Occ v l:=by
 unfold occB at h
 rw [List.any_eq_true] at h
 obtain ⟨s,h1,h2⟩:=h
 simp only [Bool.and_eq_true,beq_iff_eq,List.isEmpty_iff] at h2
 exact ⟨s,h1,h2.1,h2.2⟩
def sgC (bs:List (Nat × List Sym)):Nat→List Sym:=fun n=>bs.foldl (fun t b=>ap (sub1 b.1 b.2) t) (vr n)
theorem Zxs (bs:List (Nat × List Sym)) (v:Nat) (y:List Sym):sgC (bs++[(v,y)])=fun n=>ap (sub1 v y) (sgC bs n):=by
 funext n
 simp [sgC,List.foldl_append]
def fitC:Nat→List Sym→List Sym→List (Nat × List Sym)→Option (Option (List (Nat × List Sym)))
 | 0,_,_,_=>none
 | f+1,a,b,bs=>match Zrg a b with
  | none=>some (some bs)
  | some (x,y)=>match x.head?,y.head? with
   | some s,some t=>if s.name.isEmpty then (if occB s.num y then some none else fitC f (ap (sub1 s.num y) a) (ap (sub1 s.num y) b) (bs++[(s.num,y)]))
     else if t.name.isEmpty then (if occB t.num x then some none else fitC f (ap (sub1 t.num x) a) (ap (sub1 t.num x) b) (bs++[(t.num,x)]))
     else some none
   | _,_=>none
theorem Zxt {x:List Sym} {s:Sym} (h:Wf 1 x) (hs:x.head?=some s) (hn:s.name.isEmpty=true):x=vr s.num:=by
 obtain ⟨s',r,rfl,_,h2⟩:=Zls h
 simp at hs
 subst hs
 exact h2 (by simpa using hn)
theorem Ylf {a0 b0:List Sym} {j:Nat}:∀ {f:Nat} {a b:List Sym} {bs:List (Nat × List Sym)},Carr a0 b0 (sgC bs) a b→Wf j a→Wf j b →
  (fitC f a b bs=some none→NoFit a0 b0)∧(∀ bs',fitC f a b bs=some (some bs')→Mgu (sgC bs') a0 b0):=by
 intro f
 induction f with
 | zero=>intro a b bs _ _ _; exact ⟨fun h=>by simp [fitC] at h,fun _ h=>by simp [fitC] at h⟩
 | succ f ih =>
  intro a b bs hC ha hb
  unfold fitC
  cases hp:Zrg a b with
  | none =>
   refine ⟨fun h=>by simp at h,fun bs' h => ?_⟩
   simp at h
   subst h
   exact hC.done (Yal ha hb hp)
  | some xy =>
   obtain ⟨x,y⟩:=xy
   have hP:=Yak ha hb hp
   simp only
   obtain ⟨s,r,hx,_,_⟩:=Zls hP.wx
   obtain ⟨t,q,hy,_,_⟩:=Zls hP.wy
   have hsx:x.head?=some s:=by rw [hx]; rfl
   have hty:y.head?=some t:=by rw [hy]; rfl
   rw [hsx,hty]
   simp only
   split
   ·rename_i e
    have hv:=Zxt hP.wx hsx e
    split
    ·rename_i o
     exact ⟨fun _=>hC.none (Or.inl (Zmo hP hv (Zxr o))),fun _ h=>by simp at h⟩
    ·have hC':=hC.step (Or.inl hP) hv
     rw [← Zxs] at hC'
     exact ih hC' (Zjl (Zmn hP.wy) ha) (Zjl (Zmn hP.wy) hb)
   ·rename_i e
    split
    ·rename_i e2
     have hv:=Zxt hP.wy hty e2
     split
     ·rename_i o
      exact ⟨fun _=>hC.none (Or.inr (Zmo hP.symm hv (Zxr o))),fun _ h=>by simp at h⟩
     ·have hC':=hC.step (Or.inr hP.symm) hv
      rw [← Zxs] at hC'
      exact ih hC' (Zjl (Zmn hP.wx) ha) (Zjl (Zmn hP.wx) hb)
    ·rename_i e2
     exact ⟨fun _=>hC.none (Or.inl (Zyq hP hx hy (by simpa using e) (by simpa using e2))),fun _ h=>by simp at h⟩
def tryC (n:ND) (c:Cls) (k:Nat):Option (ND × Nat):=match n.goals with
 | []=>none
 | g::gs=>match fitC 200 g.1 (ap (Zdd n.vars) c.head) [] with
  | none=>none
  | some none=>some (⟨[],[],[],[],0⟩,0)
  | some (some bs)=>if 30<(ap (sgC bs) g.1).length then some (⟨[],[],[],[],0⟩,3) else some (Zau (sgC bs) n c k g gs,Zfk (Zau (sgC bs) n c k g gs))
theorem Yhv {n:ND} {c:Cls} {k q:Nat} {ch:ND} (hn:NOk n) (hc:COk c) (h:tryC n c k=some (ch,q)):Out n c k q ch:=by
 unfold tryC at h
 split at h
 ·simp at h
 ·rename_i g gs hg
  have w1:Wf 1 g.1:=hn.wf g.1 (by unfold ND.terms; rw [hg]; simp)
  have w2:Wf 1 (ap (Zdd n.vars) c.head):=Zjl (fun m=>Zur _) hc.wfh
  have hC:=Ylf (f:=200) (bs:=[]) (j:=1) (Carr.start w1 w2) w1 w2
  refine ⟨g,gs,hg,?_⟩
  split at h
  ·simp at h
  ·rename_i e
   simp at h
   exact Or.inl ⟨h.2.symm,hC.1 e⟩
  ·rename_i bs e
   have hM:=hC.2 bs e
   split at h
   ·rename_i hl
    simp at h
    exact Or.inr (Or.inl ⟨h.2.symm,hM.small hl⟩)
   ·rename_i hl
    simp at h
    exact Or.inr (Or.inr ⟨sgC bs,hM,by omega,h.2.symm,h.1.symm⟩)
structure GC where
 sym:Sym
 behind:Nat
 leader:Nat
 size:Int
def gcV (c:GC):List Value:=[.string ⟨c.sym.name.toArray⟩,.int .i64 c.sym.num,.int .i64 c.sym.args,.int .i64 c.behind,.int .i64 c.leader,.int .i64 c.size]
def gcs (l:List GC):List Value:=l.flatMap gcV
theorem Ymn {l:List GC} {i:Nat} {c:GC} (h:l[i]?=some c) (j:Nat) (hj:j<6):(gcs l)[i * 6+j]?=(gcV c)[j]?:=by
 induction l generalizing i with
 | nil=>simp at h
 | cons a l ih =>
  have hl:(gcV a).length=6:=rfl
  cases i with
  | zero =>
   simp at h; subst h
   show (gcV a++gcs l)[_]?=_
   rw [Qc (by omega)]
   simp
  | succ i =>
   show (gcV a++gcs l)[_]?=_
   rw [Qd (by omega),← ih (by simpa using h),hl]
   congr 1; omega
theorem Yhw (l:List GC) (c:GC):gcs (l++[c])=gcs l++gcV c:=by simp [gcs]
theorem Yam {l:List GC} {x:Nat} {c:GC} {f:GC→GC} {j:Nat} {u:Value} (h:l[x]?=some c) (hj:j<6) (hf:gcV (f c)=(gcV c).set j u):gcs (l.modify x f)=(gcs l).set (x * 6+j) u:=by
 induction l generalizing x with
 | nil=>simp at h
 | cons a l ih =>
  have hl:(gcV a).length=6:=rfl
  cases x with
  | zero =>
   simp at h; subst h
   show gcV (f a)++gcs l=(gcV a++gcs l).set _ _
   rw [List.set_append_left _ _ (by omega),hf]
   simp
  | succ x =>
   show gcV a++gcs (l.modify x f)=(gcV a++gcs l).set _ _
   rw [List.set_append_right _ _ (by omega),ih (by simpa using h),hl]
   congr 2; omega
structure GAt (w:World) (gb:Nat) (v:Value) (gs:List GC):Prop where
 box:w.heap[gb]?=some (.cells #[v] 266 (0,0))
 owns:w.ownsRow 0 292 6 v gs.length (gcs gs)
theorem Zxu {w:World} {B:Nat} {e:TypeId} {size n g cap:Nat} {xs:List Value} (h:w.ownsRow B e size (.slice (some ⟨g,0,none⟩) n cap) n xs) (i:Nat) (u:Value):(w.setCell ⟨g,i,none⟩ u).ownsRow B e size (.slice (some ⟨g,0,none⟩) n cap) n (xs.set i u):=by
 refine ⟨by simpa using h.1,?_⟩
 rcases h.2 with ⟨h1,_⟩ | ⟨g',cap',cur,h1,hb,hg,hn,hc,hs,ht⟩
 ·simp at h1
 ·simp at h1
  obtain ⟨rfl,rfl⟩:=h1
  refine .inr ⟨g,cap,cur.setIfInBounds i u,rfl,hb,Zaf hg _ _,hn,hc,by simpa using hs,?_⟩
  rw [← ht]
  simp [List.take_set]
theorem GAt.shape {w:World} {gb:Nat} {v:Value} {gs:List GC} (h:GAt w gb v gs) (hi:0<gs.length):∃ cb cap,v = .slice (some ⟨cb,0,none⟩) gs.length cap∧cb<w.heap.size∧gs.length≤cap∧cb≠gb∧(∀ j,w.frozen? ⟨cb,j,none⟩=false):=by
 obtain ⟨g,cap,cur,rfl,hB,hb,hc⟩:=Zap h.owns hi
 refine ⟨g,cap,rfl,Zab hb,hc,fun e => ?_,fun j=>Zad hb j⟩
 subst e
 rw [h.box] at hb
 simp at hb
theorem GAt.cell {w:World} {gb cb cap:Nat} {gs:List GC} (h:GAt w gb (.slice (some ⟨cb,0,none⟩) gs.length cap) gs) {i:Nat} {c:GC} (hc:gs[i]?=some c) :
  w.cell? ⟨cb,i * 6,none⟩=some (.string ⟨c.sym.name.toArray⟩)∧w.cell? ⟨cb,i * 6+1,none⟩=some (.int .i64 c.sym.num)∧w.cell? ⟨cb,i * 6+2,none⟩=some (.int .i64 c.sym.args)∧w.cell? ⟨cb,i * 6+3,none⟩=some (.int .i64 c.behind)∧w.cell? ⟨cb,i * 6+4,none⟩=some (.int .i64 c.leader)∧w.cell? ⟨cb,i * 6+5,none⟩=some (.int .i64 c.size):=by
 have e:=fun j hj=>Ymn hc j hj
 refine ⟨Zai h.owns _ _ ?_,Zai h.owns _ _ (by rw [e 1 (by omega)]; rfl),Zai h.owns _ _ (by rw [e 2 (by omega)]; rfl),Zai h.owns _ _ (by rw [e 3 (by omega)]; rfl),Zai h.owns _ _ (by rw [e 4 (by omega)]; rfl),Zai h.owns _ _ (by rw [e 5 (by omega)]; rfl)⟩
 have:=e 0 (by omega)
 simp only [Nat.add_zero] at this
 rw [this]; rfl
theorem GAt.on {w w':World} {gb:Nat} {v:Value} {gs:List GC} (h:GAt w gb v gs) (hk:∀ k,k<w.heap.size→w'.heap[k]?=w.heap[k]?):GAt w' gb v gs :=
 ⟨(hk gb (Zab h.box)).trans h.box,Zah h.owns (fun k e=>hk k (h.owns.lt k e).2)⟩
theorem GAt.ext {w w':World} {gb:Nat} {v:Value} {gs:List GC} (h:GAt w gb v gs) (e:Ext w w'):GAt w' gb v gs:=h.on (fun k hk=>e.block k hk)
theorem GAt.put {w:World} {gb cb cap:Nat} {gs:List GC} (h:GAt w gb (.slice (some ⟨cb,0,none⟩) gs.length cap) gs) {x:Nat} {c:GC} (hc:gs[x]?=some c) {f:GC→GC} {j:Nat} {u:Value} (hj:j<6) (hf:gcV (f c)=(gcV c).set j u) :
  GAt (w.setCell ⟨cb,x * 6+j,none⟩ u) gb (.slice (some ⟨cb,0,none⟩) gs.length cap) (gs.modify x f):=by
 have hne:cb≠gb:=by
  obtain ⟨cb',cap',e,_,_,hne,_⟩:=h.shape (by have:=(Qa.1 hc).1; omega)
  simp at e
  rw [e.1]; exact hne
 refine ⟨(Below.heap_setCell _ _ _ _ (fun e=>hne e.symm)).trans h.box,?_⟩
 rw [Yam hc hj hf,List.length_modify]
 exact Zxu h.owns _ _
def GC.up (c:GC):CellS:=⟨c.sym,[],c.leader⟩
def Zia (gs:List GC) (x y:Nat):List GC:=gs.modify x (fun c => { c with leader:=y })
theorem Zxv (gs:List GC) (x y:Nat):(Zia gs x y).map GC.up=turn (gs.map GC.up) x y:=by
 apply List.ext_getElem?
 intro i
 rw [Zqo,Qj,Zia,List.getElem?_modify,Qj]
 cases gs[i]? with
 | none=>rfl
 | some c=>simp; split <;> simp_all [GC.up]
theorem Zil (gs:List GC) (x y:Nat):(Zia gs x y).length=gs.length:=by simp [Zia]
structure CellsOf (gs:List GC) (l:List Sym):Prop where
 len:gs.length=l.length
 all:∀ i c,gs[i]?=some c→c.sym=Zax l i∧c.behind=Zbh l i
theorem CellsOf.lead {gs:List GC} {l:List Sym} (h:CellsOf gs l) (x y:Nat):CellsOf (Zia gs x y) l :=
 ⟨by rw [Zil]; exact h.len,fun i c hc=>by
  rw [Zia,List.getElem?_modify] at hc
  cases hd:gs[i]? with
  | none=>rw [hd] at hc; simp at hc
  | some d =>
   rw [hd] at hc
   obtain ⟨h1,h2⟩:=h.all i d hd
   simp only [Option.map_eq_map,Option.map_some,Qo] at hc
   subst hc
   split <;> exact ⟨h1,h2⟩⟩
theorem Zgr (w:World) (gb:Nat) (v:Value) (gs:List GC) (ρ rk:Nat→Nat) (i:Nat) (h:GAt w gb v gs) (hu:UpOk (gs.map GC.up) ρ rk) (hi:i<gs.length) (hl:gs.length≤4000) :
  Calls Tryz.prog 189 #[.pointer (some ⟨gb,0,none⟩),.int .i64 i] w fun e w'=>e = .returned (.int .i64 (ρ i))∧w'=w:=by
 obtain ⟨cb,cap,rfl,hcb,hcap,_,_⟩:=h.shape (by omega)
 have b0:w.cell? ⟨gb,0,none⟩=some (.slice (some ⟨cb,0,none⟩) gs.length cap):=Zaa h.box 0 _ rfl
 have hgb:=Zab h.box
 have H:=Zac h
 have Hu:=Zac hu
 clear h hu
 go_enter Tryz.func189,Tryz.ntmps189
 go_wp2
 go_loopg [1] (rk i+1) (fun gk iv wr=>∃ (k:Nat),iv = .int .i64 k∧k<gs.length∧rk k<gk∧ρ k=ρ i∧wr=w)
 case atStart=>exact ⟨i,rfl,hi,by omega,rfl,rfl⟩
 case round =>
  obtain ⟨k,rfl,hk,hg,hρ,rfl⟩:=hrel
  obtain ⟨c,hc⟩:∃ c,gs[k]?=some c:=⟨_,Qb hk⟩
  obtain ⟨c0,c1,c2,c3,c4,c5⟩:=H.out.cell hc
  obtain ⟨h1,h2,h3,h4⟩:=Hu.out k c.up (by rw [Qj,hc]; rfl)
  have h1:c.leader<gs.length:=by simpa [GC.up] using h1
  have h2:ρ c.leader=ρ k:=h2
  by_cases e:c.leader=k
  ·have e':((c.leader:Int) != (k:Int))=false:=by rw [e]; simp
   have Hr:=Zac (h3 e)
   have Hρ:=Zac hρ
   clear hc h2 h3 h4 hρ
   go_wp2
   go_ret
   exact ⟨by rw [← Hρ.out,Hr.out]; rfl,rfl⟩
  ·have e':((c.leader:Int) != (k:Int))=true:=by rw [bne_iff_ne]; omega
   have Hr:=Zac (h2.trans hρ)
   have h4':=h4 e
   clear hc h2 h3 h4 hρ
   go_wp2
   go_roundg (rk k)
   case measure=>omega
   case rel=>exact ⟨c.leader,rfl,h1,h4',Hr.out,rfl⟩
theorem Zjh (w:World) (gb:Nat) (v:Value) (gs:List GC) (i:Nat) (c:GC) (h:GAt w gb v gs) (hc:gs[i]?=some c) (hl:gs.length≤4000) :
  Calls Tryz.prog 190 #[.pointer (some ⟨gb,0,none⟩),.int .i64 i] w fun e w'=>e = .returned (.bool c.sym.name.isEmpty)∧w'=w:=by
 have hi:=(Qa.1 hc).1
 obtain ⟨cb,cap,rfl,hcb,hcap,_,_⟩:=h.shape (by omega)
 have b0:w.cell? ⟨gb,0,none⟩=some (.slice (some ⟨cb,0,none⟩) gs.length cap):=Zaa h.box 0 _ rfl
 have hgb:=Zab h.box
 obtain ⟨c0,c1,c2,c3,c4,c5⟩:=h.cell hc
 clear h hc
 go_enter Tryz.func190,Tryz.ntmps190
 go_wp2
 go_ret
 exact ⟨by simp,rfl⟩
def Zem (s t:Sym):Bool:=s.name.isEmpty && (t.name.isEmpty && s.num == t.num)
theorem Yan (w:World) (s t:Sym) :
  Calls Tryz.prog 207 #[.agg #[.string ⟨s.name.toArray⟩,.int .i64 s.num,.int .i64 s.args],.agg #[.string ⟨t.name.toArray⟩,.int .i64 t.num,.int .i64 t.args]] w fun e w'=>e = .returned (.bool (Zem s t))∧Ext w w':=by
 have Hs:Hid (∀ a b c,a=s.name.isEmpty→b=t.name.isEmpty→c=(s.num == t.num)→Zem s t=(a && (b && c))):=fun a b c h1 h2 h3=>by rw [h1,h2,h3]; rfl
 cases h1:s.name.isEmpty with
 | false =>
  go_enter Tryz.func207,Tryz.ntmps207
  go_wp2
  go_ret
  refine ⟨?_,(Ext.of (by repeat' (first | with_reducible(first|exact Qx _ _|apply Kept.drew|apply Kept.drewN|apply Qz|refine Qy ?_ ?_ _)|exact fun h=>absurd h (by simp <;> omega))))⟩
  rw [Hs.out false _ _ h1.symm rfl rfl]; rfl
 | true =>
  cases h2:t.name.isEmpty with
  | false =>
   go_enter Tryz.func207,Tryz.ntmps207
   go_wp2
   go_ret
   refine ⟨?_,(Ext.of (by repeat' (first | with_reducible(first|exact Qx _ _|apply Kept.drew|apply Kept.drewN|apply Qz|refine Qy ?_ ?_ _)|exact fun h=>absurd h (by simp <;> omega))))⟩
   rw [Hs.out true false _ h1.symm h2.symm rfl]; rfl
  | true =>
   have Hn:Hid (((s.num:Int) == (t.num:Int))=(s.num == t.num)):=by
    show _=_
    rw [Bool.eq_iff_iff,beq_iff_eq,beq_iff_eq]; omega
   go_enter Tryz.func207,Tryz.ntmps207
   go_wp2
   go_ret
   refine ⟨?_,(Ext.of (by repeat' (first | with_reducible(first|exact Qx _ _|apply Kept.drew|apply Kept.drewN|apply Qz|refine Qy ?_ ?_ _)|exact fun h=>absurd h (by simp <;> omega))))⟩
   rw [Hs.out true true _ h1.symm h2.symm rfl,← Hn.out]; rfl
theorem Joined.swap {G:Gr} {ρ ρ':Nat→Nat} {xs ys:List Nat} (h:Joined G ρ ρ' xs ys):Joined G ρ ρ' ys xs:=⟨h.rt,h.grow,h.eq.symm,h.cg,fun val hv hc e=>h.con val hv hc e.symm⟩
theorem Clash.swap {G:Gr} {ρ:Nat→Nat} {xs ys:List Nat} (h:Clash G ρ xs ys):Clash G ρ ys xs:=fun val hv hc e=>h val hv hc e.symm
theorem Ylg {l:List Sym} (hw:Wf 2 l):∃ a b,l=a++b∧Wf 1 a∧Wf 1 b∧Lay (grOf l) (tmAt l) a b:=by
  obtain ⟨a,b,e,ha,hb⟩:=Zkd (j:=1) (k:=1) hw
  exact ⟨a,b,e,ha,hb,by rw [e]; exact Yeo ha hb⟩
theorem Yhx {l:List Sym} (hw:Wf 2 l):(grOf l).Ok:=by
  obtain ⟨a,b,_,_,_,h⟩:=Ylg hw
  exact h.ok
structure JoinLeft (gb:Nat) (v:Value) (gs:List GC) (l:List Sym) (w w':World) (gs':List GC):Prop where
  at':GAt w' gb v gs'
  cells:CellsOf gs' l
  sizes:gs'.map (·.size)=gs.map (·.size)
  kept:Kept (Zbo v) w w'
  roots:Zgy (gs'.map GC.up)≤Zgy (gs.map GC.up)
def Ylh (gb:Nat) (v:Value) (gs:List GC) (l:List Sym) (ρ:Nat→Nat) (a b:Nat) (w:World) (e:Ending) (w':World):Prop:=∃ gs',JoinLeft gb v gs l w w' gs'∧∃ ρ' rk',UpOk (gs'.map GC.up) ρ' rk' ∧
  ((e = .returned (.bool true)∧Joined (grOf l) ρ ρ' [a] [b])∨(e = .returned (.bool false)∧Clash (grOf l) ρ [a] [b]))
def Zrh (m:Nat):Prop:=∀ (w:World) (gb:Nat) (v:Value) (gs:List GC) (l:List Sym) (ρ rk:Nat→Nat) (a b:Nat),GAt w gb v gs→CellsOf gs l→Wf 2 l→UpOk (gs.map GC.up) ρ rk→Zgy (gs.map GC.up)≤m→a<gs.length→b<gs.length→gs.length≤4000 →
  Calls Tryz.prog 158 #[.pointer (some ⟨gb,0,none⟩),.int .i64 a,.int .i64 b] w fun e w'=>Ylh gb v gs l ρ a b w e w'
abbrev kidsAt (l:List Sym) (x:Nat):List Nat:=(grOf l).kids x
def Ztr (gb:Nat) (v:Value) (gs:List GC) (l:List Sym) (ρ:Nat→Nat) (x y:Nat) (w:World) (e:Ending) (w':World):Prop:=∃ gs',JoinLeft gb v gs l w w' gs'∧∃ ρ' rk',UpOk (gs'.map GC.up) ρ' rk' ∧
    ((e = .returned (.bool true)∧(Zax l x).name=(Zax l y).name∧(Zax l x).args=(Zax l y).args∧Joined (grOf l) ρ ρ' (kidsAt l x) (kidsAt l y)) ∨
     (e = .returned (.bool false)∧((Zax l x).name≠(Zax l y).name∨(Zax l x).args≠(Zax l y).args∨Clash (grOf l) ρ (kidsAt l x) (kidsAt l y))))
def Zpq (m:Nat):Prop:=∀ (w:World) (gb:Nat) (v:Value) (gs:List GC) (l:List Sym) (ρ rk:Nat→Nat) (x y:Nat),GAt w gb v gs→CellsOf gs l→Wf 2 l→UpOk (gs.map GC.up) ρ rk→Zgy (gs.map GC.up)≤m→x<gs.length→y<gs.length→gs.length≤4000 →
  Calls Tryz.prog 191 #[.pointer (some ⟨gb,0,none⟩),.int .i64 x,.int .i64 y] w fun e w'=>Ztr gb v gs l ρ x y w e w'
theorem JoinLeft.trans {gb:Nat} {v:Value} {gs gs1 gs2:List GC} {l:List Sym} {w w1 w2:World} (h:JoinLeft gb v gs l w w1 gs1) (k:JoinLeft gb v gs1 l w1 w2 gs2):JoinLeft gb v gs l w w2 gs2 :=
  ⟨k.at',k.cells,k.sizes.trans h.sizes,h.kept.trans k.kept,Qq k.roots h.roots⟩
theorem JoinLeft.len {gb:Nat} {v:Value} {gs:List GC} {l:List Sym} {w w':World} {gs':List GC} (h:JoinLeft gb v gs l w w' gs'):gs'.length=gs.length:=by simpa using congrArg List.length h.sizes
theorem Yeq {l:List Sym} {x k m:Nat} (h:k≤m):(Zbd l x m).take k=Zbd l x k:=by
  induction m generalizing x k with
  | zero =>
    have:k=0:=by omega
    subst this; rfl
  | succ m ih =>
    cases k with
    | zero=>rfl
    | succ k=>simp only [Zbd,List.take_succ_cons]; rw [ih (by omega)]
theorem Zts (l:List Sym) (x k:Nat):Zbd l x (k+1)=Zbd l x k++[Zav l x k]:=by
  induction k generalizing x with
  | zero=>rfl
  | succ k ih =>
    have e:Zbd l x (k+1+1)=x::Zbd l (Zbh l x) (k+1):=rfl
    rw [e,ih]
    rfl
theorem Znp {l:List Nat} {k n:Nat} (h:l[k]?=some n):l=l.take k++n::l.drop (k+1):=by
  obtain ⟨hk,e⟩:=Qa.1 h
  have:=List.drop_eq_getElem_cons hk
  rw [e] at this
  rw [← this,List.take_append_drop]
theorem Zpr {l:List Sym} {x k m:Nat} (h:k<m):Zbd l x m=Zbd l x k++Zav l x k::(Zbd l x m).drop (k+1):=by
  have h2:=Zcd l x m k h
  have:=Znp h2
  rw [Yeq (by omega)] at this
  exact this
theorem Zvv (m:Nat) (IH:Zrh m):Zpq m:=by
  intro w gb v gs l ρ rk x y h hc hw hu hm hx hy hl
  obtain ⟨cx,hcx⟩:∃ c,gs[x]?=some c:=⟨_,Qb hx⟩
  obtain ⟨cy,hcy⟩:∃ c,gs[y]?=some c:=⟨_,Qb hy⟩
  obtain ⟨cb,cap,rfl,hcb,hcap,hne,hfz⟩:=h.shape (by omega)
  have b0:w.cell? ⟨gb,0,none⟩=some (.slice (some ⟨cb,0,none⟩) gs.length cap):=Zaa h.box 0 _ rfl
  have hgb:=Zab h.box
  obtain ⟨x0,x1,x2,_,_,_⟩:=h.cell hcx
  obtain ⟨y0,y1,y2,_,_,_⟩:=h.cell hcy
  obtain ⟨sx,_⟩:=hc.all x cx hcx
  obtain ⟨sy,_⟩:=hc.all y cy hcy
  have hlen:=hc.len
  obtain ⟨ex1,ex2,ex3⟩:=Zhs hw (i:=x) (by omega)
  obtain ⟨ey1,ey2,ey3⟩:=Zhs hw (i:=y) (by omega)
  obtain ⟨_,_,_,_,_,hbx,_⟩:=Zff hw (i:=x) (by omega)
  obtain ⟨_,_,_,_,_,hby,_⟩:=Zff hw (i:=y) (by omega)
  have hkl:∀ k,k<(Zax l x).args→Zav l (x+1) k<gs.length:=fun k hk=>by
    have:=ex2 _ (Qh (Zcd l (x+1) _ k hk))
    omega
  have hkr:∀ k,k<(Zax l y).args→Zav l (y+1) k<gs.length:=fun k hk=>by
    have:=ey2 _ (Qh (Zcd l (y+1) _ k hk))
    omega
  have hargs:(Zax l x).args≤4000:=by
    have h1:=congrArg List.length ex1
    have h2:=Zdg l (x+1) (Zax l x).args
    rcases Nat.lt_or_ge 4000 (Zax l x).args with h3 | h3
    · exfalso
      have h4:=hkl 4000 h3
      have mono:∀ k,k≤(Zax l x).args→x+1+k≤Zav l (x+1) k:=by
        intro k
        induction k with
        | zero=>intro _; simp [Zav]
        | succ k ih =>
          intro hk
          have:=ih (by omega)
          rw [Zcf]
          have:=hkl k (by omega)
          obtain ⟨_,_,_,_,h6,_⟩:=Zff hw (i:=Zav l (x+1) k) (by omega)
          omega
      have:=mono 4000 (by omega)
      omega
    · exact h3
  rw [sx] at x0 x1 x2
  rw [sy] at y0 y1 y2
  obtain ⟨s,hs⟩:∃ s,s=Zax l x:=⟨_,rfl⟩
  obtain ⟨t,ht⟩:∃ t,t=Zax l y:=⟨_,rfl⟩
  rw [← hs] at x0 x1 x2 hkl hargs
  rw [← ht] at y0 y1 y2 hkr
  have Hs:=Zac hs
  have Ht:=Zac ht
  have H:=Zac h
  have Hc:=Zac hc
  have Hw:=Zac hw
  have Hu:=Zac hu
  have Hm:=Zac hm
  have Hih:=Zac IH
  have Hkl:=Zac hkl
  have Hkr:=Zac hkr
  have Hkx:Hid (kidsAt l x=Zbd l (x+1) s.args):=by show _=_; rw [hs]; rfl
  have Hky:Hid (kidsAt l y=Zbd l (y+1) t.args):=by show _=_; rw [ht]; rfl
  have hxl:x<l.length:=by omega
  have hyl:y<l.length:=by omega
  clear h hc hw hu hm IH hkl hkr hcx hcy sx sy ex1 ex2 ex3 ey1 ey2 ey3 hbx hby hlen hs ht
  have Hno:Hid (∀ w',Kept Zdk w w'→(s.name≠t.name∨s.args≠t.args)→Ztr gb (.slice (some ⟨cb,0,none⟩) gs.length cap) gs l ρ x y w (.returned (.bool false)) w'):=fun w' hk hd=>by
    refine ⟨gs,⟨H.out.on (fun k hk'=>hk.block k hk' (fun h=>h)),Hc.out,rfl,hk.mono (fun _ _ h=>h.elim),Qe _⟩,ρ,rk,Hu.out,Or.inr ⟨rfl,?_⟩⟩
    rw [← Hs.out,← Ht.out]
    rcases hd with hd | hd
    · exact Or.inl hd
    · exact Or.inr (Or.inl hd)
  by_cases hnm:s.name=t.name
  · by_cases har:s.args=t.args
    · have hnb:(s.name != t.name)=false:=by rw [hnm]; simp
      have hab:((s.args:Int) != (t.args:Int))=false:=by rw [har]; simp
      have Hnm:=Zac hnm
      have Har:=Zac har
      clear hnm har
      go_enter Tryz.func191,Tryz.ntmps191
      go_wp2
      go_loopg [9,10,11] (s.args+1) (fun gk av bv nv wr=>∃ (k:Nat) (gs':List GC) (ρ' rk':Nat→Nat),av = .int .i64 (Zav l (x+1) k:Nat)∧bv = .int .i64 (Zav l (y+1) k:Nat)∧nv = .int .i64 k∧k≤s.args∧s.args - k<gk∧JoinLeft gb (.slice (some ⟨cb,0,none⟩) gs.length cap) gs l w wr gs'∧UpOk (gs'.map GC.up) ρ' rk' ∧
        Joined (grOf l) ρ ρ' (Zbd l (x+1) k) (Zbd l (y+1) k)∧wr.heap[w.heap.size]?=some (.cells #[.string ⟨t.name.toArray⟩,.int .i64 s.num,.int .i64 s.args] 133 (0,0)))
      case atStart =>
        have hrt:=Hu.out.rt
        rw [Ql,Hc.out.len] at hrt
        refine ⟨0,gs,ρ,rk,by simp [Zav],by simp [Zav],by go_num,Qm _,by omega,⟨H.out.ext (Ext.of (by repeat' (first | with_reducible(first|exact Qx _ _|apply Kept.drew|apply Kept.drewN|apply Qz|refine Qy ?_ ?_ _)|exact fun h=>absurd h (by simp <;> omega)))),Hc.out,rfl,((Qx _ w).alloc _).alloc _,Qe _⟩,Hu.out,Joined.nil hrt,?_⟩
        have:=Zas (heap_alloc_new w (.cells #[.string ⟨t.name.toArray⟩,.int .i64 s.num,.int .i64 s.args] 133)) (.cells #[.string ⟨t.name.toArray⟩,.int .i64 t.num,.int .i64 t.args] 133)
        simpa using this
      case round =>
        obtain ⟨k,gs',ρ',rk',rfl,rfl,rfl,hk,hgk,hJ,hup,hj,hbox⟩:=hrel
        obtain ⟨s0,s1,s2,sf⟩:=box3 hbox
        have hsr:=hJ.kept.size
        have hl':=hJ.len
        have b0:wr.cell? ⟨gb,0,none⟩=some (.slice (some ⟨cb,0,none⟩) gs.length cap):=Zaa hJ.at'.box 0 _ rfl
        have hgb':=Zab hJ.at'.box
        have hwb:=Zab hbox
        have HJ:=Zac hJ
        have Hup:=Zac hup
        have Hj:=Zac hj
        have Hbox:=Zac hbox
        clear hJ hup hj hbox
        by_cases hlt:k<s.args
        · have ha:=Hkl.out k hlt
          have hb:=Hkr.out k (by have:=Har.out; omega)
          obtain ⟨ak,hak⟩:∃ a,a=Zav l (x+1) k:=⟨_,rfl⟩
          obtain ⟨bk,hbk⟩:∃ b,b=Zav l (y+1) k:=⟨_,rfl⟩
          rw [← hak] at ha ⊢
          rw [← hbk] at hb ⊢
          have hna:¬ ((gs.length:Int)≤(ak:Int)):=by omega
          have hnb2:¬ ((gs.length:Int)≤(bk:Int)):=by omega
          have HI:=Zac (Hih.out wr gb (.slice (some ⟨cb,0,none⟩) gs.length cap) gs' l ρ' rk' ak bk HJ.out.at' HJ.out.cells Hw.out Hup.out (Qq HJ.out.roots Hm.out) (by omega) (by omega) (by omega))
          have Hak:=Zac hak
          have Hbk:=Zac hbk
          clear hak hbk
          go_wp2_with fail
          refine HI.out.mono ?_
          rintro e w1 ⟨gs2,hJ2,ρ2,rk2,hup2,hres⟩
          have hl2:=hJ2.len
          have hbox2:=(hJ2.kept.block _ hwb (fun e=>by
            have e:cb=w.heap.size:=by simpa [Zbo,Value.ownBlock] using e
            omega)).trans Hbox.out
          have b0:w1.cell? ⟨gb,0,none⟩=some (.slice (some ⟨cb,0,none⟩) gs.length cap):=Zaa hJ2.at'.box 0 _ rfl
          have hgb2:=Zab hJ2.at'.box
          have hs2:=hJ2.kept.size
          obtain ⟨ca,hca⟩:∃ c,gs2[ak]?=some c:=⟨_,Qb (by omega)⟩
          obtain ⟨cb2,hcb2⟩:∃ c,gs2[bk]?=some c:=⟨_,Qb (by omega)⟩
          have hat2:GAt w1 gb (.slice (some ⟨cb,0,none⟩) gs2.length cap) gs2:=by rw [hl2,hl']; exact hJ2.at'
          obtain ⟨_,_,_,a3,_,_⟩:=hat2.cell hca
          obtain ⟨_,_,_,b3,_,_⟩:=hat2.cell hcb2
          rw [(hJ2.cells.all _ _ hca).2] at a3
          rw [(hJ2.cells.all _ _ hcb2).2] at b3
          have HJ2:=Zac hJ2
          have Hup2:=Zac hup2
          have Hbox2:=Zac hbox2
          clear hJ2 hup2 hbox2 hat2 hca hcb2
          rcases hres with ⟨rfl,hj2⟩ | ⟨rfl,hcl⟩
          · have Hj2:=Zac hj2
            clear hj2
            go_wp2
            go_roundg (s.args - k)
            case measure=>omega
            case rel =>
              refine ⟨k+1,gs2,ρ2,rk2,by rw [Zcf,← Hak.out],by rw [Zcf,← Hbk.out],by go_num,by omega,by omega,HJ.out.trans HJ2.out,Hup2.out,?_,Hbox2.out⟩
              rw [Zts,Zts,← Hak.out,← Hbk.out]
              have hG:=Yhx Hw.out
              refine Joined.snoc hG Hj.out Hj2.out (fun j hj => ?_) (fun j hj => ?_)
              · obtain ⟨i,hi⟩:=List.mem_iff_getElem?.1 hj
                have hi2:=(Qa.1 hi).1
                rw [Zdg] at hi2
                rw [Zcd l (x+1) k i hi2] at hi
                simp at hi
                subst hi
                have:=Hkl.out i (by omega)
                show _<l.length
                have:=Hc.out.len; omega
              · obtain ⟨i,hi⟩:=List.mem_iff_getElem?.1 hj
                have hi2:=(Qa.1 hi).1
                rw [Zdg] at hi2
                rw [Zcd l (y+1) k i hi2] at hi
                simp at hi
                subst hi
                have:=Hkr.out i (by have:=Har.out; omega)
                show _<l.length
                have:=Hc.out.len; omega
          · have Hcl:=Zac hcl
            clear hcl
            go_wp2
            go_ret
            refine ⟨gs2,HJ.out.trans HJ2.out,ρ2,rk2,Hup2.out,Or.inr ⟨rfl,Or.inr (Or.inr ?_)⟩⟩
            have hc1:=Hcl.out
            rw [Hak.out,Hbk.out] at hc1
            have:=Clash.snoc Hj.out hc1 ((Zbd l (x+1) s.args).drop (k+1)) ((Zbd l (y+1) t.args).drop (k+1))
            rw [← Zpr hlt,← Zpr (by have:=Har.out; omega)] at this
            rw [Hkx.out,Hky.out]; exact this
        · have hek:k=s.args:=by omega
          subst hek
          go_wp2
          go_ret
          refine ⟨gs',HJ.out,ρ',rk',Hup.out,Or.inl ⟨rfl,?_,?_,?_⟩⟩
          · rw [← Hs.out,← Ht.out]; exact Hnm.out
          · rw [← Hs.out,← Ht.out]; exact Har.out
          · rw [Hkx.out,Hky.out,← Har.out]; exact Hj.out
    · have hnb:(s.name != t.name)=false:=by rw [hnm]; simp
      have hab:((s.args:Int) != (t.args:Int))=true:=by rw [bne_iff_ne]; omega
      have Hd:=Zac har
      clear hnm har
      go_enter Tryz.func191,Tryz.ntmps191
      go_wp2
      all_goals
        go_ret
        exact Hno.out _ (((Qx _ w).alloc _).alloc _) (Or.inr Hd.out)
  · have hnb:(s.name == t.name)=false:=by simpa using hnm
    have Hd:=Zac hnm
    clear hnm
    go_enter Tryz.func191,Tryz.ntmps191
    go_wp2
    all_goals
      go_ret
      exact Hno.out _ (((Qx _ w).alloc _).alloc _) (Or.inl Hd.out)
theorem Yer (m:Nat) (IH:∀ k,k<m→Zpq k):Zrh m:=by
  intro w gb v gs l ρ rk a b h hc hw hu hm ha hb hl
  have hrt:=hu.rt
  rw [Ql] at hrt
  have hx:=hrt.lt a ha
  have hy:=hrt.lt b hb
  have rx:=hrt.idem a ha
  have ry:=hrt.idem b hb
  obtain ⟨x,hxe⟩:∃ x,x=ρ a:=⟨_,rfl⟩
  obtain ⟨y,hye⟩:∃ y,y=ρ b:=⟨_,rfl⟩
  rw [← hxe] at hx rx
  rw [← hye] at hy ry
  obtain ⟨cx,hcx⟩:∃ c,gs[x]?=some c:=⟨_,Qb hx⟩
  obtain ⟨cy,hcy⟩:∃ c,gs[y]?=some c:=⟨_,Qb hy⟩
  obtain ⟨cb,cap,rfl,hcb,hcap,hne,hfz⟩:=h.shape (by omega)
  have b0:w.cell? ⟨gb,0,none⟩=some (.slice (some ⟨cb,0,none⟩) gs.length cap):=Zaa h.box 0 _ rfl
  have hgb:=Zab h.box
  have x4:=(h.cell hcx).2.2.2.2.1
  have y4:=(h.cell hcy).2.2.2.2.1
  obtain ⟨sx,_⟩:=hc.all x cx hcx
  obtain ⟨sy,_⟩:=hc.all y cy hcy
  have hlen:=hc.len
  rw [hlen] at hrt
  have hG:=Yhx hw
  have Hra:=Zac (Zgr w gb _ gs ρ rk a h hu ha hl)
  have Hrb:=Zac (Zgr w gb _ gs ρ rk b h hu hb hl)
  rw [← hxe] at Hra
  rw [← hye] at Hrb
  have HVx:=Zac (Zjh w gb _ gs x cx h hcx hl)
  have hax:a<(grOf l).n:=by show a<l.length; omega
  have hbx:b<(grOf l).n:=by show b<l.length; omega
  have hul:∀ x y,x<gs.length→y<gs.length→ρ x=x→ρ y=y→x≠y→UpOk ((Zia gs x y).map GC.up) (mg ρ x y) (fun i=>if ρ i=x then rk i+rk y+1 else rk i):=fun x y h1 h2 h3 h4 h5=>by
    rw [Zxv]
    exact hu.turn (by simpa using h1) (by simpa using h2) h3 h4 h5
  have hro:∀ x y,x<gs.length→ρ x=x→x≠y→Zgy ((Zia gs x y).map GC.up)<Zgy (gs.map GC.up):=fun x y h1 h3 h5=>by
    rw [Zxv]
    obtain ⟨c',e1,e2,_⟩:=hu.root _ x _ (Qe _) (Qb (by simpa using h1))
    rw [h3] at e1 e2
    exact Zsg e1 e2 h5
  have hla:∀ (x y:Nat) c,gs[x]?=some c→GAt (w.setCell ⟨cb,x * 6+4,none⟩ (.int .i64 y)) gb (.slice (some ⟨cb,0,none⟩) gs.length cap) (Zia gs x y):=fun x y c h1=>h.put h1 (f:=fun c => { c with leader:=y }) (by omega) rfl
  have hsz:∀ x y,(Zia gs x y).map (·.size)=gs.map (·.size):=fun x y=>by
    apply List.ext_getElem?
    intro i
    rw [Qj,Qj,Zia,List.getElem?_modify]
    cases gs[i]? with
    | none=>rfl
    | some c=>simp; split <;> rfl
  have hkp:∀ i u,Kept (Zbo (.slice (some ⟨cb,0,none⟩) gs.length cap)) w (w.setCell ⟨cb,i,none⟩ u):=fun i u=>(Qx _ w).setCell (p:=⟨cb,i,none⟩) (fun _=>(rfl:some cb=some cb)) u
  have H:=Zac h
  have Hc:=Zac hc
  have Hw:=Zac hw
  have Hu:=Zac hu
  have Hm:=Zac hm
  have Hrt:=Zac hrt
  have HG:=Zac hG
  have Hih:=Zac IH
  have Hxe:=Zac hxe
  have Hye:=Zac hye
  have Hrx:=Zac rx
  have Hry:=Zac ry
  have Hcx:=Zac hcx
  have Hcy:=Zac hcy
  have Hul:=Zac hul
  have Hro:=Zac hro
  have Hla:=Zac hla
  have Hsz:=Zac hsz
  have Hkp:=Zac hkp
  have Hsx:=Zac sx
  have Hsy:=Zac sy
  clear h hc hw hu hm hrt hG IH hxe hye rx ry hcx hcy hul hro hla hsz hkp sx sy
  by_cases hxy:x=y
  · have hxy':((x:Int) == (y:Int))=true:=by rw [beq_iff_eq]; omega
    have Hxy:=Zac hxy
    clear hxy
    go_enter Tryz.func158,Tryz.ntmps158
    go_wp2_with fail
    refine Hra.out.mono ?_
    rintro e w1 ⟨rfl,rfl⟩
    go_wp2_with fail
    refine Hrb.out.mono ?_
    rintro e w1 ⟨rfl,rfl⟩
    go_wp2
    go_ret
    exact ⟨gs,⟨H.out,Hc.out,rfl,Qx _ _,Qe _⟩,ρ,rk,Hu.out,Or.inl ⟨rfl,Joined.same Hrt.out (Hxe.out.symm.trans (Hxy.out.trans Hye.out))⟩⟩
  · have hxy':((x:Int) == (y:Int))=false:=by rw [Qu]; omega
    have Hxy:=Zac hxy
    clear hxy
    by_cases hvx:cx.sym.name=[]
    · have hv:cx.sym.name.isEmpty=true:=by simpa using hvx
      rw [hv] at HVx
      go_enter Tryz.func158,Tryz.ntmps158
      go_wp2_with fail
      refine Hra.out.mono ?_
      rintro e w1 ⟨rfl,rfl⟩
      go_wp2_with fail
      refine Hrb.out.mono ?_
      rintro e w1 ⟨rfl,rfl⟩
      go_wp2_with fail
      refine HVx.out.mono ?_
      rintro e w1 ⟨rfl,rfl⟩
      go_wp2
      go_ret
      exact ⟨Zia gs x y,⟨Hla.out x y cx Hcx.out,Hc.out.lead _ _,Hsz.out _ _,Hkp.out _ _,Nat.le_of_lt (Hro.out x y hx Hrx.out Hxy.out)⟩,_,_,Hul.out x y hx hy Hrx.out Hry.out Hxy.out,
        Or.inl ⟨rfl,Joined.var Hrt.out hax hbx (Or.inl ⟨Hxe.out,Hye.out⟩) Hxy.out (by show (Zax l x).name=[]; rw [← Hsx.out]; exact hvx)⟩⟩
    · have hv:cx.sym.name.isEmpty=false:=by simpa using hvx
      rw [hv] at HVx
      obtain ⟨W1,hW1⟩:∃ W,W=w.setCell ⟨cb,y * 6+4,none⟩ (.int .i64 x):=⟨_,rfl⟩
      have hA1:=Hla.out y x cy Hcy.out
      rw [← hW1] at hA1
      have hyx:y≠x:=fun e=>Hxy.out e.symm
      have hcy1:(Zia gs y x)[y]?=some { cy with leader:=x }:=by
        rw [Zia,List.getElem?_modify,Hcy.out]; simp
      have HVy:=Zac (Zjh W1 gb _ (Zia gs y x) y _ hA1 hcy1 (by rw [Zil]; exact hl))
      have HK1:Hid (Kept (Zbo (.slice (some ⟨cb,0,none⟩) gs.length cap)) w W1):=by rw [hW1]; exact Hkp.out _ _
      have HA1:=Zac hA1
      have HW1:=Zac hW1
      clear hA1 hW1 hcy1
      by_cases hvy:cy.sym.name=[]
      · have hv2:cy.sym.name.isEmpty=true:=by simpa using hvy
        rw [hv2] at HVy
        go_enter Tryz.func158,Tryz.ntmps158
        go_wp2_with fail
        refine Hra.out.mono ?_
        rintro e w1 ⟨rfl,rfl⟩
        go_wp2_with fail
        refine Hrb.out.mono ?_
        rintro e w1 ⟨rfl,rfl⟩
        go_wp2_with fail
        refine HVx.out.mono ?_
        rintro e w1 ⟨rfl,rfl⟩
        go_wp2_with fail
        rw [← HW1.out]
        refine HVy.out.mono ?_
        rintro e w2 ⟨rfl,rfl⟩
        go_wp2
        go_ret
        exact ⟨Zia gs y x,⟨HA1.out,Hc.out.lead _ _,Hsz.out _ _,HK1.out,Nat.le_of_lt (Hro.out y x hy Hry.out hyx)⟩,_,_,Hul.out y x hy hx Hry.out Hrx.out hyx,
          Or.inl ⟨rfl,Joined.var Hrt.out hax hbx (Or.inr ⟨Hye.out,Hxe.out⟩) hyx (by show (Zax l y).name=[]; rw [← Hsy.out]; exact hvy)⟩⟩
      · have hv2:cy.sym.name.isEmpty=false:=by simpa using hvy
        rw [hv2] at HVy
        have hro1:=Hro.out y x hy Hry.out hyx
        have HI:=Zac (Hih.out (Zgy ((Zia gs y x).map GC.up)) (by have:=Hm.out; omega) W1 gb (.slice (some ⟨cb,0,none⟩) gs.length cap) (Zia gs y x) l (mg ρ y x) _ x y HA1.out (Hc.out.lead _ _) Hw.out (Hul.out y x hy hx Hry.out Hrx.out hyx) (Qe _) (by rw [Zil]; exact hx) (by rw [Zil]; exact hy) (by rw [Zil]; exact hl))
        have Hnx:Hid ((Zax l x).name≠[]):=by show _≠_; rw [← Hsx.out]; exact hvx
        have Hny:Hid ((Zax l y).name≠[]):=by show _≠_; rw [← Hsy.out]; exact hvy
        have Hrl:=Zac hro1
        clear hvx hvy hro1
        go_enter Tryz.func158,Tryz.ntmps158
        go_wp2_with fail
        refine Hra.out.mono ?_
        rintro e w1 ⟨rfl,rfl⟩
        go_wp2_with fail
        refine Hrb.out.mono ?_
        rintro e w1 ⟨rfl,rfl⟩
        go_wp2_with fail
        refine HVx.out.mono ?_
        rintro e w1 ⟨rfl,rfl⟩
        go_wp2_with fail
        rw [← HW1.out]
        refine HVy.out.mono ?_
        rintro e w2 ⟨rfl,rfl⟩
        go_wp2_with fail
        refine HI.out.mono ?_
        rintro e w2 ⟨gs2,hJ2,ρ2,rk2,hup2,hres⟩
        have Hout:Hid (JoinLeft gb (.slice (some ⟨cb,0,none⟩) gs.length cap) gs l w1 w2 gs2):=⟨hJ2.at',hJ2.cells,hJ2.sizes.trans (Hsz.out _ _),HK1.out.trans hJ2.kept,Qq hJ2.roots (Nat.le_of_lt Hrl.out)⟩
        have Hup2:=Zac hup2
        clear hJ2 hup2
        rcases hres with ⟨rfl,h1,h2,h3⟩ | ⟨rfl,h1⟩
        · have Hj:Hid (Joined (grOf l) ρ ρ2 [a] [b]):=Joined.name HG.out Hrt.out hax hbx (Or.inr ⟨Hye.out,Hxe.out⟩) hyx Hny.out h1.symm h3.swap
          clear h1 h2 h3
          go_wp2
          go_ret
          exact ⟨gs2,Hout.out,ρ2,rk2,Hup2.out,Or.inl ⟨rfl,Hj.out⟩⟩
        · have Hcl:Hid (Clash (grOf l) ρ [a] [b]):=by
            by_cases hn:(Zax l x).name=(Zax l y).name
            · rcases h1 with h1 | h1 | h1
              · exact absurd hn h1
              · exact Zmp HG.out Hrt.out hax hbx (Or.inr ⟨Hye.out,Hxe.out⟩) Hny.out Hnx.out (Or.inr (fun e=>h1 e.symm))
              · exact Zyr HG.out Hrt.out hax hbx (Or.inr ⟨Hye.out,Hxe.out⟩) Hny.out hn.symm h1.swap
            · exact Zmp HG.out Hrt.out hax hbx (Or.inr ⟨Hye.out,Hxe.out⟩) Hny.out Hnx.out (Or.inl (fun e=>hn e.symm))
          clear h1
          go_wp2
          go_ret
          exact ⟨gs2,Hout.out,ρ2,rk2,Hup2.out,Or.inr ⟨rfl,Hcl.out⟩⟩
theorem Yhy (m:Nat):Zrh m:=by
  induction m using Nat.strongRecOn with
  | _ m ih=>exact Yer m (fun k hk=>Zvv k (ih k hk))
end Go.Proofs.YtlmjilpjmgjjcaaGreatDoor
