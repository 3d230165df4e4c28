/-
  PROVED HERE: the texts of made rules (the conditions stand in each statement).
-/
import Derived.Test.YtlmjilpjmgjjcaaGreatDoorT3
import Derived.Laws.OwnMore
import Derived.Orders
import Derived.BigQuiet
import Derived.Deep.QuietTactic
import Derived.Deep.RegionWith
import Derived.Lib.ItoaLen
import Derived.Shelf.LaysM
import Derived.Shelf.Strconv.Itoa3
import Derived.Lib.AppendIntMem
import Derived.Lib.Strings
set_option linter.unusedSimpArgs false
set_option linter.unusedVariables false
set_option maxRecDepth 10000
set_option maxHeartbeats 4000000
namespace Go.Proofs.YtlmjilpjmgjjcaaGreatDoor
open Go.RowKit
inductive GT where
 | v (s:List UInt8):GT
 | n (s:List UInt8):GT
 | f (s:List UInt8) (t:GT):GT
 | g (s:List UInt8) (t u:GT):GT
def GT.text:GT→List UInt8
 | .v s=>s
 | .n s=>s
 | .f s t=>s++(40::(t.text++[41]))
 | .g s t u=>s++(40::(t.text++(44::(u.text++[41]))))
def GT.size:GT→Nat
 | .v _=>1
 | .n _=>1
 | .f _ t=>1+t.size
 | .g _ t u=>1+t.size+u.size
def Zjb (b:ByteArray) (s:List UInt8):Bool:=match s with
 | []=>false
 | c::r=>inB c b && (Zbm r == r.length) && decide (s.length≤8)
def GT.ok:GT→Bool
 | .v s=>Zjb Zhi s
 | .n s=>Zjb Zdx s
 | .f s t=>Zjb Zdx s && t.ok
 | .g s t u=>Zjb Zdx s && (t.ok && u.ok)
def GT.kd:GT→List (Nat × Nat)
 | .v s=>[(2,s.length)]
 | .n s=>[(1,s.length)]
 | .f s t=>(1,s.length)::(40,1)::(t.kd++[(41,1)])
 | .g s t u=>(1,s.length)::(40,1)::(t.kd++((44,1)::(u.kd++[(41,1)])))
def ksOf (l:List UInt8) (p:Nat):List (Nat × Nat):=(toks l p).map (fun t=>(t.kind,t.text.length))
theorem Zmf {c:UInt8} (h:inB c Zhf=true):Zgq c=false:=by
 have:=Zdp (p:=fun c => !inB c Zhf || !Zgq c) (by decide +kernel) c
 simpa [h] using this
theorem Zgt {r rest:List UInt8} (h:Zbm r=r.length) (h2:Zbm rest=0):Zbm (r++rest)=r.length:=by
 induction r with
 | nil=>simpa using h2
 | cons c r ih =>
  rw [Zbm] at h
  split at h
  ·rename_i hc
   rw [List.cons_append,Zgp _ _ hc,ih (by simpa using h)]
   rfl
  ·simp at h
theorem Zkl {c:UInt8} (h:inB c Zhi=true):inB c Zdx=false:=by
 have:=Zdp (p:=fun c => !inB c Zhi || !inB c Zdx) (by decide +kernel) c
 simpa [h] using this
theorem Zpa {b:ByteArray} {k:Nat} {s rest:List UInt8} (hs:Zjb b s=true) (hb:(b=Zdx∧k=1)∨(b=Zhi∧k=2)) (hr:Zbm rest=0) (p:Nat):ksOf (s++rest) p=(k,s.length)::ksOf rest (p+s.length):=by
 cases s with
 | nil=>simp [Zjb] at hs
 | cons c r =>
  simp only [Zjb,Bool.and_eq_true,beq_iff_eq] at hs
  obtain ⟨⟨h1,h2⟩,_⟩:=hs
  have hc:inB c Zhf=true:=by
   rcases hb with ⟨rfl,_⟩ | ⟨rfl,_⟩
   ·exact Zfd h1
   ·exact Zga h1
  have hh:Zbn c (r++rest)=(k,r.length):=by
   unfold Zbn
   rcases hb with ⟨rfl,rfl⟩ | ⟨rfl,rfl⟩
   ·rw [if_pos h1,Zgt h2 hr]
   ·rw [if_neg (by simp [Zkl h1]),if_pos h1,Zgt h2 hr]
  unfold ksOf
  rw [List.cons_append,Zfe _ _ _ (Zmf hc),hh]
  simp only [List.map_cons]
  rw [List.drop_left]
  have e1:((c::(r++rest)).take (r.length+1)).length=(c::r).length:=by simp
  rw [e1,show p+r.length+1=p+(c::r).length by simp; omega]
theorem Zgu {c:UInt8} {rest:List UInt8} (h:c=40∨c=41∨c=44∨c=46) (p:Nat):ksOf (c::rest) p=(c.toNat,1)::ksOf rest (p+1):=by
 have hb:Zgq c=false∧Zbn c rest=(c.toNat,0):=by
  rcases h with rfl | rfl | rfl | rfl
  all_goals
   refine ⟨by decide,?_⟩
   unfold Zbn
   rw [if_neg (by decide +kernel),if_neg (by decide +kernel),if_pos (by decide +kernel)]
 unfold ksOf
 rw [Zfe _ _ _ hb.1,hb.2]
 simp
theorem Yeb {rest:List UInt8} (p:Nat):ksOf (58::45::rest) p=(3,2)::ksOf rest (p+2):=by
 have hh:Zbn 58 (45::rest)=(3,1):=by
  unfold Zbn
  rw [if_neg (by decide +kernel),if_neg (by decide +kernel),if_neg (by decide +kernel),if_pos ⟨rfl,rfl⟩]
 unfold ksOf
 rw [Zfe _ _ _ (by decide),hh]
 simp
theorem Zpb (t:GT):∀ (rest:List UInt8) (p:Nat),t.ok=true→Zbm rest=0→ksOf (t.text++rest) p=t.kd++ksOf rest (p+t.text.length):=by
 induction t with
 | v s=>intro rest p h hr; exact Zpa h (Or.inr ⟨rfl,rfl⟩) hr p
 | n s=>intro rest p h hr; exact Zpa h (Or.inl ⟨rfl,rfl⟩) hr p
 | f s t ih =>
  intro rest p h hr
  simp only [GT.ok,Bool.and_eq_true] at h
  simp only [GT.text,GT.kd,Qi,List.cons_append,List.nil_append]
  rw [Zpa h.1 (Or.inl ⟨rfl,rfl⟩) (Zbe _ _ (by decide +kernel)),Zgu (Or.inl rfl),ih _ _ h.2 (Zbe _ _ (by decide +kernel)),Zgu (Or.inr (Or.inl rfl))]
  have e:p+s.length+1+t.text.length+1=p+(s++40::(t.text++[41])).length:=by simp; omega
  rw [e]
  rfl
 | g s t u iht ihu =>
  intro rest p h hr
  simp only [GT.ok,Bool.and_eq_true] at h
  simp only [GT.text,GT.kd,Qi,List.cons_append,List.nil_append]
  rw [Zpa h.1 (Or.inl ⟨rfl,rfl⟩) (Zbe _ _ (by decide +kernel)),Zgu (Or.inl rfl),iht _ _ h.2.1 (Zbe _ _ (by decide +kernel)),Zgu (Or.inr (Or.inr (Or.inl rfl))),ihu _ _ h.2.2 (Zbe _ _ (by decide +kernel)),Zgu (Or.inr (Or.inl rfl))]
  have e:p+s.length+1+t.text.length+1+u.text.length+1=p+(s++40::(t.text++44::(u.text++[41]))).length:=by simp; omega
  rw [e]
  rfl
def Runs:List (Nat × Nat)→LookS→LookS→Prop
 | [],L,L'=>L'=L
 | (k,n)::ks,L,L'=>k≠4∧(Zca L k n).err=0∧Runs ks (Zca L k n) L'
theorem Runs.append:∀ {a b:List (Nat × Nat)} {L M N:LookS},Runs a L M→Runs b M N→Runs (a++b) L N:=by
 intro a
 induction a with
 | nil=>intro b L M N h1 h2; have h1:M=L:=h1; subst h1; exact h2
 | cons x a ih =>
  intro b L M N h1 h2
  obtain ⟨k,n⟩:=x
  exact ⟨h1.1,h1.2.1,ih h1.2.2 h2⟩
theorem Znm:∀ {ts rest:List Tok} {L M:LookS},Runs (ts.map (fun t=>(t.kind,t.text.length))) L M→Zge (ts++rest) L=Zge rest M:=by
 intro ts
 induction ts with
 | nil=>intro rest L M h; have h:M=L:=h; subst h; rfl
 | cons t ts ih =>
  intro rest L M h
  obtain ⟨h1,h2,h3⟩:=h
  simp only [List.cons_append,Zge]
  rw [if_neg (fun e=>h1 e.1),if_neg (fun e=>e h2)]
  exact ih h3
theorem Zsz {b:ByteArray} {s:List UInt8} (h:Zjb b s=true):s.length≤8:=by
 cases s with
 | nil=>simp [Zjb] at h
 | cons c r=>simp only [Zjb,Bool.and_eq_true,decide_eq_true_eq] at h; exact h.2
theorem Zla (w':Nat) (hw:w'=3∨w'=4) (q b:Bool) (n:Nat) (r:List Nat) (s g h:Nat):Runs [(41,1)] ⟨w',q,b,n::r,s,g,h,0⟩ ⟨4,q,b,r,s,g,h,0⟩:=by
 rcases hw with rfl | rfl <;> simp [Runs,Zca,Zak]
theorem Zqu (w':Nat) (hw:w'=3∨w'=4) (q b:Bool) (n:Nat) (r:List Nat) (s g h:Nat):Runs [(44,1)] ⟨w',q,b,n::r,s,g,h,0⟩ ⟨2,q,b,n::r,s,g,h,0⟩:=by
 rcases hw with rfl | rfl <;> simp [Runs,Zca,Zak]
theorem Zlb (q b:Bool) (r:List Nat) (s g h:Nat):Runs [(40,1)] ⟨3,q,b,r,s,g,h,0⟩ ⟨2,q,b,0::r,s,g,h,0⟩:=by
 simp [Runs,Zca,Zak]
theorem Zjc (k l w':Nat) (hk:(k=1∧w'=3)∨(k=2∧w'=4)) (hl:l≤8) (q b:Bool) (n:Nat) (r:List Nat) (s g h:Nat) (hn:n<4) (hs:s+1≤30):Runs [(k,l)] ⟨2,q,b,n::r,s,g,h,0⟩ ⟨w',q,b,(n+1)::r,s+1,g,h,0⟩:=by
 have h1:¬ 4<n+1:=by omega
 have h2:¬ (8<l∨30<s+1):=by omega
 rcases hk with ⟨rfl,rfl⟩ | ⟨rfl,rfl⟩
 ·simp only [Runs,Zca,Zbh,Zkh,Zci]
  simp [h2,h1]
 ·simp only [Runs,Zca,Zbh,Zkh,Zci]
  simp [h2,h1]
theorem Zpc (t:GT):t.ok=true→∀ (q b:Bool) (n:Nat) (r:List Nat) (s g h:Nat),n<4→s+t.size≤30→∃ w',(w'=3∨w'=4)∧Runs t.kd ⟨2,q,b,n::r,s,g,h,0⟩ ⟨w',q,b,(n+1)::r,s+t.size,g,h,0⟩:=by
 induction t with
 | v x=>intro ho q b n r s g h hn hs; exact ⟨4,Or.inr rfl,Zjc 2 _ 4 (Or.inr ⟨rfl,rfl⟩) (Zsz ho) q b n r s g h hn hs⟩
 | n x=>intro ho q b n r s g h hn hs; exact ⟨3,Or.inl rfl,Zjc 1 _ 3 (Or.inl ⟨rfl,rfl⟩) (Zsz ho) q b n r s g h hn hs⟩
 | f x t ih =>
  intro ho q b n r s g h hn hs
  simp only [GT.ok,Bool.and_eq_true] at ho
  simp only [GT.size] at hs ⊢
  obtain ⟨w1,hw1,h1⟩:=ih ho.2 q b 0 ((n+1)::r) (s+1) g h (by omega) (by omega)
  refine ⟨4,Or.inr rfl,?_⟩
  have:=((((Zjc 1 _ 3 (Or.inl ⟨rfl,rfl⟩) (Zsz ho.1) q b n r s g h hn (by omega)).append (Zlb q b ((n+1)::r) (s+1) g h)).append h1).append (Zla w1 hw1 q b _ _ _ g h))
  simpa [GT.kd,Nat.add_assoc] using this
 | g x t u iht ihu =>
  intro ho q b n r s g h hn hs
  simp only [GT.ok,Bool.and_eq_true] at ho
  simp only [GT.size] at hs ⊢
  obtain ⟨w1,hw1,h1⟩:=iht ho.2.1 q b 0 ((n+1)::r) (s+1) g h (by omega) (by omega)
  obtain ⟨w2,hw2,h2⟩:=ihu ho.2.2 q b 1 ((n+1)::r) (s+1+t.size) g h (by omega) (by omega)
  refine ⟨4,Or.inr rfl,?_⟩
  have:=((((((Zjc 1 _ 3 (Or.inl ⟨rfl,rfl⟩) (Zsz ho.1) q b n r s g h hn (by omega)).append (Zlb q b ((n+1)::r) (s+1) g h)).append h1).append (Zqu w1 hw1 q b _ _ _ g h)).append h2).append (Zla w2 hw2 q b _ _ _ g h))
  simpa [GT.kd,Nat.add_assoc] using this
def GT.atom:GT→Bool
 | .v _=>false
 | _=>true
theorem Yec (l:Nat) (hl:l≤8) (q b:Bool) (s g h:Nat) (hh:h<24):Runs [(1,l)] ⟨0,q,b,[],s,g,h,0⟩ ⟨3,q,false,[],1,g,h+1,0⟩:=by
 have h1:¬ 24<h+1:=by omega
 have h2:¬ (8<l∨30<0+1):=by omega
 simp only [Runs,Zca,Zbh,Zkh,Zci]
 simp [h1]
 omega
theorem Zuw (l:Nat) (hl:l≤8) (q b:Bool) (s g h:Nat) (hg:g<6):Runs [(1,l)] ⟨1,q,b,[],s,g,h,0⟩ ⟨3,q,b,[],1,g+1,h,0⟩:=by
 have h1:¬ 6<g+1:=by omega
 have h2:¬ (8<l∨30<0+1):=by omega
 simp only [Runs,Zca,Zbh,Zkh,Zci]
 simp [h1]
 omega
theorem Zpd (t:GT) (ha:t.atom=true) (ho:t.ok=true) (L:LookS) (q b:Bool) (g h:Nat) (hs:t.size≤30) (h1:∀ l,l≤8→Runs [(1,l)] L ⟨3,q,b,[],1,g,h,0⟩):∃ w',(w'=3∨w'=4)∧Runs t.kd L ⟨w',q,b,[],t.size,g,h,0⟩:=by
 cases t with
 | v x=>simp [GT.atom] at ha
 | n x=>exact ⟨3,Or.inl rfl,h1 _ (Zsz ho)⟩
 | f x t =>
  simp only [GT.ok,Bool.and_eq_true] at ho
  simp only [GT.size] at hs ⊢
  obtain ⟨w1,hw1,h2⟩:=Zpc t ho.2 q b 0 [] 1 g h (by omega) (by omega)
  refine ⟨4,Or.inr rfl,?_⟩
  have:=(((h1 _ (Zsz ho.1)).append (Zlb q b [] 1 g h)).append h2).append (Zla w1 hw1 q b _ _ _ g h)
  simpa [GT.kd] using this
 | g x t u =>
  simp only [GT.ok,Bool.and_eq_true] at ho
  simp only [GT.size] at hs ⊢
  obtain ⟨w1,hw1,h2⟩:=Zpc t ho.2.1 q b 0 [] 1 g h (by omega) (by omega)
  obtain ⟨w2,hw2,h3⟩:=Zpc u ho.2.2 q b 1 [] (1+t.size) g h (by omega) (by omega)
  refine ⟨4,Or.inr rfl,?_⟩
  have:=(((((h1 _ (Zsz ho.1)).append (Zlb q b [] 1 g h)).append h2).append (Zqu w1 hw1 q b _ _ _ g h)).append h3).append (Zla w2 hw2 q b _ _ _ g h)
  simpa [GT.kd,Nat.add_assoc] using this
def Zdd:GT→List GT→List UInt8
 | t,[]=>t.text
 | t,u::r=>t.text++(44::Zdd u r)
def Zta:GT→List GT→List (Nat × Nat)
 | t,[]=>t.kd
 | t,u::r=>t.kd++((44,1)::Zta u r)
def GT.fine (t:GT):Bool:=t.atom && (t.ok && decide (t.size≤30))
theorem GT.fine_iff {t:GT} (h:t.fine=true):t.atom=true∧t.ok=true∧t.size≤30:=by
 simp only [GT.fine,Bool.and_eq_true,decide_eq_true_eq] at h
 exact h
theorem Yaf:∀ (r:List GT) (t:GT) (rest:List UInt8) (p:Nat),t.fine=true→(∀ u ∈ r,u.fine=true)→Zbm rest=0→ksOf (Zdd t r++rest) p=Zta t r++ksOf rest (p+(Zdd t r).length):=by
 intro r
 induction r with
 | nil=>intro t rest p ht _ hr; exact Zpb t rest p (GT.fine_iff ht).2.1 hr
 | cons u r ih =>
  intro t rest p ht hu hr
  simp only [Zdd,Zta,Qi,List.cons_append]
  rw [Zpb t _ _ (GT.fine_iff ht).2.1 (Zbe _ _ (by decide +kernel)),Zgu (Or.inr (Or.inr (Or.inl rfl))),ih u rest _ (hu u (by simp)) (fun x hx=>hu x (by simp [hx])) hr]
  have e:p+t.text.length+1+(Zdd u r).length=p+(t.text++44::Zdd u r).length:=by simp; omega
  rw [e]
  rfl
theorem Ygy (w':Nat) (hw:w'=3∨w'=4) (q:Bool) (s g h:Nat):Runs [(44,1)] ⟨w',q,true,[],s,g,h,0⟩ ⟨1,q,true,[],s,g,h,0⟩:=by
 rcases hw with rfl | rfl <;> simp [Runs,Zca,Zak]
theorem Zux:∀ (r:List GT) (t:GT) (q:Bool) (s g h:Nat),t.fine=true→(∀ u ∈ r,u.fine=true)→g+r.length<6→∃ w' s',(w'=3∨w'=4)∧Runs (Zta t r) ⟨1,q,true,[],s,g,h,0⟩ ⟨w',q,true,[],s',g+r.length+1,h,0⟩:=by
 intro r
 induction r with
 | nil =>
  intro t q s g h ht _ hg
  obtain ⟨h1,h2,h3⟩:=GT.fine_iff ht
  obtain ⟨w',hw,hr⟩:=Zpd t h1 h2 ⟨1,q,true,[],s,g,h,0⟩ q true (g+1) h h3 (fun l hl=>Zuw l hl q true s g h (by simp at hg; omega))
  exact ⟨w',_,hw,hr⟩
 | cons u r ih =>
  intro t q s g h ht hu hg
  simp only [Qf] at hg
  obtain ⟨h1,h2,h3⟩:=GT.fine_iff ht
  obtain ⟨w1,hw1,hr1⟩:=Zpd t h1 h2 ⟨1,q,true,[],s,g,h,0⟩ q true (g+1) h h3 (fun l hl=>Zuw l hl q true s g h (by omega))
  obtain ⟨w2,s2,hw2,hr2⟩:=ih u q t.size (g+1) h (hu u (by simp)) (fun x hx=>hu x (by simp [hx])) (by omega)
  refine ⟨w2,s2,hw2,?_⟩
  have:=(hr1.append (Ygy w1 hw1 q _ _ h)).append hr2
  rw [show g+(u::r).length+1=g+1+r.length+1 by simp; omega]
  simpa [Zta] using this
def clT (a:GT):List GT→List UInt8
 | []=>a.text++[46]
 | t::r=>a.text++(58::45::(Zdd t r++[46]))
def clK (a:GT):List GT→List (Nat × Nat)
 | []=>a.kd++[(46,1)]
 | t::r=>a.kd++((3,2)::(Zta t r++[(46,1)]))
structure ClFine (c:GT × List GT):Prop where
 head:c.1.fine=true
 body:∀ t ∈ c.2,t.fine=true
 len:c.2.length≤6
theorem Yag (c:GT × List GT) (hc:ClFine c) (rest:List UInt8) (p:Nat):ksOf (clT c.1 c.2++rest) p=clK c.1 c.2++ksOf rest (p+(clT c.1 c.2).length):=by
 obtain ⟨a,b⟩:=c
 obtain ⟨h1,h2,h3⟩:=hc
 simp only at h1 h2 h3 ⊢
 cases b with
 | nil =>
  simp only [clT,clK,Qi,List.cons_append,List.nil_append]
  rw [Zpb a _ _ (GT.fine_iff h1).2.1 (Zbe _ _ (by decide +kernel)),Zgu (Or.inr (Or.inr (Or.inr rfl)))]
  have e:p+a.text.length+1=p+(a.text++[46]).length:=by simp; omega
  rw [e]
  rfl
 | cons t r =>
  simp only [clT,clK,Qi,List.cons_append,List.nil_append]
  rw [Zpb a _ _ (GT.fine_iff h1).2.1 (Zbe _ _ (by decide +kernel)),Yeb,Yaf r t _ _ (h2 t (by simp)) (fun x hx=>h2 x (by simp [hx])) (Zbe _ _ (by decide +kernel)),Zgu (Or.inr (Or.inr (Or.inr rfl)))]
  have e:p+a.text.length+2+(Zdd t r).length+1=p+(a.text++58::45::(Zdd t r++[46])).length:=by simp; omega
  rw [e]
  rfl
theorem Yah (w':Nat) (hw:w'=3∨w'=4) (b:Bool) (s g h:Nat):Runs [(46,1)] ⟨w',false,b,[],s,g,h,0⟩ ⟨0,false,b,[],s,g,h,0⟩:=by
 rcases hw with rfl | rfl <;> simp [Runs,Zca,Zak]
theorem Ygz (w':Nat) (hw:w'=3∨w'=4) (b:Bool) (s g h:Nat):Runs [(46,1)] ⟨w',true,b,[],s,g,h,0⟩ ⟨5,true,b,[],s,g,h,0⟩:=by
 rcases hw with rfl | rfl <;> simp [Runs,Zca,Zak]
theorem Yai (w':Nat) (hw:w'=3∨w'=4) (q:Bool) (s g h:Nat):Runs [(3,2)] ⟨w',q,false,[],s,g,h,0⟩ ⟨1,q,true,[],s,0,h,0⟩:=by
 rcases hw with rfl | rfl <;> simp [Runs,Zca,Zak]
theorem Zwz (c:GT × List GT) (hc:ClFine c) (b0:Bool) (s g h:Nat) (hh:h<24):∃ b' s' g',Runs (clK c.1 c.2) ⟨0,false,b0,[],s,g,h,0⟩ ⟨0,false,b',[],s',g',h+1,0⟩:=by
 obtain ⟨a,b⟩:=c
 obtain ⟨h1,h2,h3⟩:=hc
 simp only at h1 h2 h3 ⊢
 obtain ⟨k1,k2,k3⟩:=GT.fine_iff h1
 obtain ⟨w1,hw1,hr1⟩:=Zpd a k1 k2 ⟨0,false,b0,[],s,g,h,0⟩ false false g (h+1) k3 (fun l hl=>Yec l hl false b0 s g h hh)
 cases b with
 | nil=>exact ⟨_,_,_,hr1.append (Yah w1 hw1 _ _ _ _)⟩
 | cons t r =>
  simp only [Qf] at h3
  obtain ⟨w2,s2,hw2,hr2⟩:=Zux r t false a.size 0 (h+1) (h2 t (by simp)) (fun x hx=>h2 x (by simp [hx])) (by omega)
  have:=((hr1.append (Yai w1 hw1 false _ _ _)).append hr2).append (Yah w2 hw2 true _ _ _)
  exact ⟨_,_,_,by simpa [clK] using this⟩
def Zde (P:List (GT × List GT)):List UInt8:=P.flatMap (fun c=>clT c.1 c.2)
theorem Yaj:∀ (P:List (GT × List GT)) (p:Nat) (b0:Bool) (s g h:Nat),(∀ c ∈ P,ClFine c)→h+P.length≤24→∃ b' s' g',Runs (ksOf (Zde P) p) ⟨0,false,b0,[],s,g,h,0⟩ ⟨0,false,b',[],s',g',h+P.length,0⟩:=by
 intro P
 induction P with
 | nil=>intro p b0 s g h _ _; exact ⟨b0,s,g,rfl⟩
 | cons c P ih =>
  intro p b0 s g h hc hh
  simp only [Qf] at hh
  obtain ⟨b1,s1,g1,h1⟩:=Zwz c (hc c (by simp)) b0 s g h (by omega)
  obtain ⟨b2,s2,g2,h2⟩:=ih (p+(clT c.1 c.2).length) b1 s1 g1 (h+1) (fun x hx=>hc x (by simp [hx])) (by omega)
  refine ⟨b2,s2,g2,?_⟩
  rw [show Zde (c::P)=clT c.1 c.2++Zde P by simp [Zde],Yag c (hc c (by simp)),show h+(c::P).length=h+1+P.length by simp; omega]
  exact h1.append h2
theorem Yed (P:List (GT × List GT)) (hc:∀ c ∈ P,ClFine c) (hl:P.length≤24) (hs:(Zde P).length≤800):∃ cs,Zdb ⟨(Zde P).toArray⟩=some cs:=by
 obtain ⟨b',s',g',h1⟩:=Yaj P 0 false 0 0 0 hc (by omega)
 have hz:(⟨(Zde P).toArray⟩:ByteArray).size≤800:=by simpa [ByteArray.size] using hs
 have h2:(Zge (Zaz ⟨(Zde P).toArray⟩) (Zcp false)).1=0:=by
  unfold Zaz
  rw [Znm (L:=Zcp false) h1]
  simp [Zge]
 obtain ⟨cs,h3⟩:=Zow _ hz h2
 refine ⟨cs,?_⟩
 unfold Zdb
 rw [if_neg (by omega),if_neg (fun e=>e h2)]
 exact h3
theorem Yha (t:GT) (r:List GT) (ht:t.fine=true) (hr:∀ u ∈ r,u.fine=true) (hl:r.length<6) (hs:(Zdd t r++[46]).length≤120):∃ a,Zex ⟨(Zdd t r++[46]).toArray⟩=some a:=by
 obtain ⟨w',s',hw,h1⟩:=Zux r t true 0 0 0 ht hr (by omega)
 have h0:=h1.append (Ygz w' hw true _ _ _)
 have hz:(⟨(Zdd t r++[46]).toArray⟩:ByteArray).size≤120:=by simpa [ByteArray.size] using hs
 have hk:ksOf (Zdd t r++[46]) 0=Zta t r++[(46,1)]:=by
  rw [Yaf r t _ _ ht hr (Zbe _ _ (by decide +kernel)),Zgu (Or.inr (Or.inr (Or.inr rfl)))]
  rfl
 rw [← hk] at h0
 have h2:(Zge (Zaz ⟨(Zdd t r++[46]).toArray⟩) (Zcp true)).1=0:=by
  unfold Zaz
  rw [Znm (L:=Zcp true) h0]
  simp [Zge]
 obtain ⟨qq,h3⟩:=Zsp _ hz h2
 refine ⟨(qq.1,qq.2.2),?_⟩
 unfold Zex
 rw [if_neg (by omega),if_neg (fun e=>e h2),h3]
 rfl
def GT.tk:GT→Nat→List Tok
 | .v s,p=>[⟨2,s,p⟩]
 | .n s,p=>[⟨1,s,p⟩]
 | .f s t,p=>⟨1,s,p⟩::⟨40,[40],p+s.length⟩::(t.tk (p+s.length+1)++[⟨41,[41],p+s.length+1+t.text.length⟩])
 | .g s t u,p=>⟨1,s,p⟩::⟨40,[40],p+s.length⟩::(t.tk (p+s.length+1)++(⟨44,[44],p+s.length+1+t.text.length⟩::(u.tk (p+s.length+1+t.text.length+1)++[⟨41,[41],p+s.length+1+t.text.length+1+u.text.length⟩])))
theorem Zjd {b:ByteArray} {k:Nat} {s rest:List UInt8} (hs:Zjb b s=true) (hb:(b=Zdx∧k=1)∨(b=Zhi∧k=2)) (hr:Zbm rest=0) (p:Nat):toks (s++rest) p=⟨k,s,p⟩::toks rest (p+s.length):=by
 cases s with
 | nil=>simp [Zjb] at hs
 | cons c r =>
  simp only [Zjb,Bool.and_eq_true,beq_iff_eq] at hs
  obtain ⟨⟨h1,h2⟩,_⟩:=hs
  have hc:inB c Zhf=true:=by
   rcases hb with ⟨rfl,_⟩ | ⟨rfl,_⟩
   ·exact Zfd h1
   ·exact Zga h1
  have hh:Zbn c (r++rest)=(k,r.length):=by
   unfold Zbn
   rcases hb with ⟨rfl,rfl⟩ | ⟨rfl,rfl⟩
   ·rw [if_pos h1,Zgt h2 hr]
   ·rw [if_neg (by simp [Zkl h1]),if_pos h1,Zgt h2 hr]
  rw [List.cons_append,Zfe _ _ _ (Zmf hc),hh]
  simp only
  rw [List.drop_left]
  have e1:(c::(r++rest)).take (r.length+1)=c::r:=by simp
  rw [e1,show p+r.length+1=p+(c::r).length by simp; omega]
theorem Zec {c:UInt8} {rest:List UInt8} (h:c=40∨c=41∨c=44∨c=46) (p:Nat):toks (c::rest) p=⟨c.toNat,[c],p⟩::toks rest (p+1):=by
 have hb:Zgq c=false∧Zbn c rest=(c.toNat,0):=by
  rcases h with rfl | rfl | rfl | rfl
  all_goals
   refine ⟨by decide,?_⟩
   unfold Zbn
   rw [if_neg (by decide +kernel),if_neg (by decide +kernel),if_pos (by decide +kernel)]
 rw [Zfe _ _ _ hb.1,hb.2]
 simp
theorem Zxa {rest:List UInt8} (p:Nat):toks (58::45::rest) p=⟨3,[58,45],p⟩::toks rest (p+2):=by
 have hh:Zbn 58 (45::rest)=(3,1):=by
  unfold Zbn
  rw [if_neg (by decide +kernel),if_neg (by decide +kernel),if_neg (by decide +kernel),if_pos ⟨rfl,rfl⟩]
 rw [Zfe _ _ _ (by decide),hh]
 simp
theorem Zje (t:GT):∀ (rest:List UInt8) (p:Nat),t.ok=true→Zbm rest=0→toks (t.text++rest) p=t.tk p++toks rest (p+t.text.length):=by
 induction t with
 | v s=>intro rest p h hr; exact Zjd h (Or.inr ⟨rfl,rfl⟩) hr p
 | n s=>intro rest p h hr; exact Zjd h (Or.inl ⟨rfl,rfl⟩) hr p
 | f s t ih =>
  intro rest p h hr
  simp only [GT.ok,Bool.and_eq_true] at h
  simp only [GT.text,GT.tk,Qi,List.cons_append,List.nil_append]
  rw [Zjd h.1 (Or.inl ⟨rfl,rfl⟩) (Zbe _ _ (by decide +kernel)),Zec (Or.inl rfl),ih _ _ h.2 (Zbe _ _ (by decide +kernel)),Zec (Or.inr (Or.inl rfl))]
  have e:p+s.length+1+t.text.length+1=p+(s++40::(t.text++[41])).length:=by simp; omega
  rw [e]
  rfl
 | g s t u iht ihu =>
  intro rest p h hr
  simp only [GT.ok,Bool.and_eq_true] at h
  simp only [GT.text,GT.tk,Qi,List.cons_append,List.nil_append]
  rw [Zjd h.1 (Or.inl ⟨rfl,rfl⟩) (Zbe _ _ (by decide +kernel)),Zec (Or.inl rfl),iht _ _ h.2.1 (Zbe _ _ (by decide +kernel)),Zec (Or.inr (Or.inr (Or.inl rfl))),ihu _ _ h.2.2 (Zbe _ _ (by decide +kernel)),Zec (Or.inr (Or.inl rfl))]
  have e:p+s.length+1+t.text.length+1+u.text.length+1=p+(s++40::(t.text++44::(u.text++[41]))).length:=by simp; omega
  rw [e]
  rfl
def GT.syms:GT→Names→List Sym × Names
 | .v s,N=>([⟨[],(Zbb N s).2,0⟩],(Zbb N s).1)
 | .n s,N=>([⟨s,0,0⟩],N)
 | .f s t,N=>(⟨s,0,1⟩::(t.syms N).1,(t.syms N).2)
 | .g s t u,N=>(⟨s,0,2⟩::((t.syms N).1++(u.syms (t.syms N).2).1),(u.syms (t.syms N).2).2)
theorem Zhv (t:GT):∀ (f p:Nat) (x:Tok) (rest:List Tok) (N:Names),t.size≤f→x.kind≠40→Zcs f (t.tk p++x::rest) N=some ((t.syms N).1,x::rest,(t.syms N).2):=by
 induction t with
 | v s =>
  intro f p x rest N hf hx
  obtain ⟨g,rfl⟩:∃ g,f=g+1:=⟨f - 1,by simp [GT.size] at hf; omega⟩
  simp [GT.tk,GT.syms,Zcs]
 | n s =>
  intro f p x rest N hf hx
  obtain ⟨g,rfl⟩:∃ g,f=g+1:=⟨f - 1,by simp [GT.size] at hf; omega⟩
  simp [GT.tk,GT.syms,Zcs,Ziu,hx]
 | f s t ih =>
  intro f p x rest N hf hx
  simp only [GT.size] at hf
  obtain ⟨g,rfl⟩:∃ g,f=g+1:=⟨f - 1,by omega⟩
  simp only [GT.tk,List.cons_append,Qi,List.nil_append,Zcs]
  rw [if_neg (by simp)]
  simp only [Ziu]
  rw [if_neg (by simp)]
  simp only [Qg,Qf]
  rw [Zdz,if_neg (by simp),ih g _ ⟨41,[41],_⟩ (x::rest) N (by omega) (by simp)]
  simp only
  rw [show (t.tk (p+s.length+1)).length+(rest.length+1+1)=((t.tk (p+s.length+1)).length+(rest.length+1))+1 by omega,Zdz]
  simp [GT.syms]
 | g s t u iht ihu =>
  intro f p x rest N hf hx
  simp only [GT.size] at hf
  obtain ⟨g,rfl⟩:∃ g,f=g+1:=⟨f - 1,by omega⟩
  simp only [GT.tk,List.cons_append,Qi,List.nil_append,Zcs]
  rw [if_neg (by simp)]
  simp only [Ziu]
  rw [if_neg (by simp)]
  simp only [Qg,Qf]
  rw [Zdz,if_neg (by simp),iht g _ ⟨44,[44],_⟩ _ N (by omega) (by simp)]
  simp only
  rw [show (t.tk (p+s.length+1)).length+((u.tk (p+s.length+1+t.text.length+1)).length+(rest.length+1+1)+1)=((t.tk (p+s.length+1)).length+((u.tk (p+s.length+1+t.text.length+1)).length+(rest.length+1))+1)+1 by omega,Zdz,if_neg (by simp),ihu g _ ⟨41,[41],_⟩ (x::rest) _ (by omega) (by simp)]
  simp only
  rw [Zdz]
  simp [GT.syms]
def Zkm:GT→List GT→Nat→List Tok
 | t,[],p=>t.tk p
 | t,u::r,p=>t.tk p++(⟨44,[44],p+t.text.length⟩::Zkm u r (p+t.text.length+1))
theorem Zqv:∀ (r:List GT) (t:GT) (rest:List UInt8) (p:Nat),t.fine=true→(∀ u ∈ r,u.fine=true)→Zbm rest=0→toks (Zdd t r++rest) p=Zkm t r p++toks rest (p+(Zdd t r).length):=by
 intro r
 induction r with
 | nil=>intro t rest p ht _ hr; exact Zje t rest p (GT.fine_iff ht).2.1 hr
 | cons u r ih =>
  intro t rest p ht hu hr
  simp only [Zdd,Zkm,Qi,List.cons_append]
  rw [Zje t _ _ (GT.fine_iff ht).2.1 (Zbe _ _ (by decide +kernel)),Zec (Or.inr (Or.inr (Or.inl rfl))),ih u rest _ (hu u (by simp)) (fun x hx=>hu x (by simp [hx])) hr]
  have e:p+t.text.length+1+(Zdd u r).length=p+(t.text++44::Zdd u r).length:=by simp; omega
  rw [e]
  rfl
def Zck:List GT→Names→List (List Sym) × Names
 | [],N=>([],N)
 | t::r,N=>((t.syms N).1::(Zck r (t.syms N).2).1,(Zck r (t.syms N).2).2)
theorem Zmg:∀ (r:List GT) (t:GT) (g p d:Nat) (rest:List Tok) (N:Names) (acc:List (List Sym)),t.fine=true→(∀ u ∈ r,u.fine=true)→r.length<g→Zcy 1000 g (Zkm t r p++⟨46,[46],d⟩::rest) N acc=some (acc++(Zck (t::r) N).1,rest,(Zck (t::r) N).2):=by
 intro r
 induction r with
 | nil =>
  intro t g p d rest N acc ht _ hg
  obtain ⟨k,rfl⟩:∃ k,g=k+1:=⟨g - 1,by omega⟩
  simp only [Zkm,Zcy]
  rw [Zhv t 1000 p ⟨46,[46],d⟩ rest N (by have:=(GT.fine_iff ht).2.2; omega) (by simp)]
  simp [Zck]
 | cons u r ih =>
  intro t g p d rest N acc ht hu hg
  simp only [Qf] at hg
  obtain ⟨k,rfl⟩:∃ k,g=k+1:=⟨g - 1,by omega⟩
  simp only [Zkm,Qi,List.cons_append,Zcy]
  rw [Zhv t 1000 p ⟨44,[44],_⟩ _ N (by have:=(GT.fine_iff ht).2.2; omega) (by simp)]
  simp only
  rw [if_neg (by simp),ih u k _ d rest _ _ (hu u (by simp)) (fun x hx=>hu x (by simp [hx])) (by omega)]
  simp [Zck]
def clTk (a:GT):List GT→Nat→List Tok
 | [],p=>a.tk p++[⟨46,[46],p+a.text.length⟩]
 | t::r,p=>a.tk p++(⟨3,[58,45],p+a.text.length⟩::(Zkm t r (p+a.text.length+2)++[⟨46,[46],p+a.text.length+2+(Zdd t r).length⟩]))
theorem Ztb (c:GT × List GT) (hc:ClFine c) (rest:List UInt8) (p:Nat):toks (clT c.1 c.2++rest) p=clTk c.1 c.2 p++toks rest (p+(clT c.1 c.2).length):=by
 obtain ⟨a,b⟩:=c
 obtain ⟨h1,h2,h3⟩:=hc
 simp only at h1 h2 h3 ⊢
 cases b with
 | nil =>
  simp only [clT,clTk,Qi,List.cons_append,List.nil_append]
  rw [Zje a _ _ (GT.fine_iff h1).2.1 (Zbe _ _ (by decide +kernel)),Zec (Or.inr (Or.inr (Or.inr rfl)))]
  have e:p+a.text.length+1=p+(a.text++[46]).length:=by simp; omega
  rw [e]
  rfl
 | cons t r =>
  simp only [clT,clTk,Qi,List.cons_append,List.nil_append]
  rw [Zje a _ _ (GT.fine_iff h1).2.1 (Zbe _ _ (by decide +kernel)),Zxa,Zqv r t _ _ (h2 t (by simp)) (fun x hx=>h2 x (by simp [hx])) (Zbe _ _ (by decide +kernel)),Zec (Or.inr (Or.inr (Or.inr rfl)))]
  have e:p+a.text.length+2+(Zdd t r).length+1=p+(a.text++58::45::(Zdd t r++[46])).length:=by simp; omega
  rw [e]
  rfl
def clOf (c:GT × List GT):Cls:=⟨(c.1.syms []).1,(Zck c.2 (c.1.syms []).2).1,(Zck c.2 (c.1.syms []).2).2⟩
theorem Zqw (c:GT × List GT) (hc:ClFine c) (p:Nat) (rest:List Tok):Zeb (clTk c.1 c.2 p++rest)=some (clOf c,rest):=by
 obtain ⟨a,b⟩:=c
 obtain ⟨h1,h2,h3⟩:=hc
 simp only at h1 h2 h3 ⊢
 cases b with
 | nil =>
  simp only [clTk,Qi,List.cons_append,List.nil_append,Zeb]
  rw [Zhv a 1000 p ⟨46,[46],_⟩ rest [] (by have:=(GT.fine_iff h1).2.2; omega) (by simp)]
  simp [clOf,Zck]
 | cons t r =>
  simp only [Qf] at h3
  simp only [clTk,Qi,List.cons_append,List.nil_append,Zeb]
  rw [Zhv a 1000 p ⟨3,[58,45],_⟩ _ [] (by have:=(GT.fine_iff h1).2.2; omega) (by simp)]
  simp only
  rw [if_pos trivial,Zmg r t 1000 _ _ rest _ [] (h2 t (by simp)) (fun x hx=>h2 x (by simp [hx])) (by omega)]
  simp [clOf]
def Znn:List (GT × List GT)→Nat→List Tok
 | [],_=>[]
 | c::P,p=>clTk c.1 c.2 p++Znn P (p+(clT c.1 c.2).length)
theorem Yak:∀ (P:List (GT × List GT)) (p:Nat),(∀ c ∈ P,ClFine c)→toks (Zde P) p=Znn P p:=by
 intro P
 induction P with
 | nil=>intro p _; rfl
 | cons c P ih =>
  intro p hc
  rw [show Zde (c::P)=clT c.1 c.2++Zde P by simp [Zde],Ztb c (hc c (by simp)),ih _ (fun x hx=>hc x (by simp [hx]))]
  rfl
theorem Yhb (t:GT) (h:t.atom=true) (p:Nat):∃ x r,t.tk p=x::r∧x.kind=1:=by
 cases t with
 | v s=>simp [GT.atom] at h
 | n s=>exact ⟨_,_,rfl,rfl⟩
 | f s t=>exact ⟨_,_,rfl,rfl⟩
 | g s t u=>exact ⟨_,_,rfl,rfl⟩
theorem Zxb:∀ (P:List (GT × List GT)) (g p d:Nat) (acc:List Cls),(∀ c ∈ P,ClFine c)→P.length<g→Zgr g (Znn P p++[⟨4,[],d⟩]) acc=some (acc++P.map clOf):=by
 intro P
 induction P with
 | nil =>
  intro g p d acc _ hg
  obtain ⟨k,rfl⟩:∃ k,g=k+1:=⟨g - 1,by omega⟩
  simp [Znn,Zgr]
 | cons c P ih =>
  intro g p d acc hc hg
  simp only [Qf] at hg
  obtain ⟨k,rfl⟩:∃ k,g=k+1:=⟨g - 1,by omega⟩
  have hcc:=hc c (by simp)
  obtain ⟨x,r,hx,hx1⟩:=Yhb c.1 (GT.fine_iff hcc.head).1 p
  obtain ⟨r',hr'⟩:∃ r',clTk c.1 c.2 p=x::r':=by
   cases hb:c.2 with
   | nil=>exact ⟨_,by simp only [clTk]; rw [hx]; rfl⟩
   | cons t q=>exact ⟨_,by simp only [clTk]; rw [hx]; rfl⟩
  have hpc:=Zqw c hcc p (Znn P (p+(clT c.1 c.2).length)++[⟨4,[],d⟩])
  simp only [Znn,Qi]
  rw [hr'] at hpc ⊢
  simp only [List.cons_append] at hpc ⊢
  rw [Zgr,if_neg (by omega),hpc]
  simp only
  rw [ih k _ d _ (fun y hy=>hc y (by simp [hy])) (by omega)]
  simp
theorem Zmh (P:List (GT × List GT)) (hc:∀ c ∈ P,ClFine c) (hl:P.length≤24) (hs:(Zde P).length≤800):Zdb ⟨(Zde P).toArray⟩=some (P.map clOf):=by
 obtain ⟨cs,h⟩:=Yed P hc hl hs
 rw [h]
 unfold Zdb at h
 split at h
 ·simp at h
 ·split at h
  ·simp at h
  ·unfold Zaz at h
   rw [show (⟨(Zde P).toArray⟩:ByteArray).data.toList=Zde P from rfl,Yak P 0 hc,Zxb P 1000 0 _ [] hc (by omega)] at h
   simpa using h.symm
theorem Zno (t:GT) (r:List GT) (ht:t.fine=true) (hr:∀ u ∈ r,u.fine=true) (hl:r.length<6) (hs:(Zdd t r++[46]).length≤120):Zex ⟨(Zdd t r++[46]).toArray⟩=some (Zck (t::r) []):=by
 obtain ⟨a,h⟩:=Yha t r ht hr hl hs
 rw [h]
 unfold Zex at h
 split at h
 ·simp at h
 ·split at h
  ·simp at h
  ·unfold Zaz at h
   have e:toks (⟨(Zdd t r++[46]).toArray⟩:ByteArray).data.toList 0=Zkm t r 0++[⟨46,[46],0+(Zdd t r).length⟩]:=by
    show toks (Zdd t r++[46]) 0=_
    rw [Zqv r t _ _ ht hr (Zbe _ _ (by decide +kernel)),Zec (Or.inr (Or.inr (Or.inr rfl)))]
    rfl
   rw [e,Qi,List.singleton_append,Zmg r t 1000 0 _ _ [] [] ht hr (by omega)] at h
   simpa using h.symm
def Zxc (w:World) (size:Nat) (xv:Value) (m:Nat) (news:List Value):Prop :=
 news.length=m * size∧(∀ u ∈ news,u.oneCell'=true)∧((m=0∧xv = .slice none 0 0)∨∃ a c,xv = .slice (some a) m c∧∀ j u,news[j]?=some u→w.cell? (a.add j)=some u)
theorem Ztc {P:Program} (w:World) (t ty:TypeId) (base:Nat) (e:TypeId) {z:Value} {size bytes:Nat}
  (hinfo:(P.info? e).map (fun i=>(i.zero,i.size,i.bytes))=some (some z,size,bytes)) (ht:P.underlying t=some (.slice e)) (hzs:z.cells.size=size) (hsz:0<size)
  (v:Value) (n:Nat) (xs:List Value) (hown:w.ownsRow base e size v n xs) (xv:Value) (m:Nat) (news:List Value) (hx:Zxc w size xv m news)
  (hbig:(n+m) * (bytes+1)≤140737488355328) (hbase:base≤w.heap.size) :
  ∃ v' w',(Builtin.append_ #[t,t] ty #[v,xv]).run P w = .ok v' w'∧Appended w base e size v (n+m) (xs++news) v' w':=by
 obtain ⟨i,hi,hz,hsi,hby⟩:=info_parts hinfo
 have hb1:n+m≤140737488355328:=Qq (Nat.le_mul_of_pos_right (n+m) (Nat.succ_pos bytes)) hbig
 have hb2:(n+m) * bytes≤140737488355328:=Qq (Nat.mul_le_mul_left _ (Nat.le_succ _)) hbig
 have h63:n+m≤maxLen:=by simp only [maxLen]; omega
 obtain ⟨hl,h1,⟨rfl,rfl⟩ | ⟨a,c,rfl,hnews⟩⟩:=hx
 ·have hn:news=[]:=List.eq_nil_of_length_eq_zero (by simpa using hl)
  subst hn
  exact ⟨v,w,run_append_owned_none w base t ty e i size ht hi v n xs hown,by simpa using hown,Qx _ _,Or.inl rfl⟩
 ·obtain ⟨v',w',hr,hA,hB,hC⟩:=run_append_own (P:=P) w base t ty e i z size bytes ht hi hz hsi hby hzs hsz v n xs hown a m c news hl hnews h1 h63 hb2 hbase
  refine ⟨v',w',hr,hA,Kept.of_grown hB |>.mono (fun k _ h=>h),?_⟩
  rcases Nat.eq_zero_or_pos m with rfl | hm
  ·rcases hown.2 with ⟨rfl,rfl⟩ | ⟨g,cap,cur,rfl,hbg,hg,hnc,hcm,hcs,htake⟩
   ·have:=hC.2 ⟨rfl,rfl⟩
    rw [this]; exact Or.inl rfl
   ·have hfit:n * i.size+news.length≤cur.size:=by rw [hl,hcs,hsi]; simp; exact Nat.mul_le_mul_right _ hnc
    have hr':=run_append_room (P:=P) w t ty e i ht hi g n cap cur hg a 0 c news (by rw [hsi]; exact hl) hnews h1 (by omega) hfit
    rw [hr'] at hr
    injection hr with h2 h3
    subst h2
    exact Or.inl rfl
  ·subst hsi hby
   rcases Zhc (P:=P) w base t ty e i z ht hi hz v n xs hown a m c news hl hm hnews h1 h63 hb2 v' w' hr with h | h
   ·exact .inl h
   ·exact .inr ⟨_,h,Qe _⟩
theorem Zxd {P:Program} {o:Oper} {a:Act} {K:Act→World→Prop} {Q:Exit→Act→World→Prop} (w:World) (s x:Operand) (t:TypeId)
  (ho:o.op = .call { callee := .builtin .append,args:=#[s,x],argTypes:=#[t,t] })
  (base:Nat) (e:TypeId) {z:Value} {size bytes:Nat}
  (hinfo:(P.info? e).map (fun i=>(i.zero,i.size,i.bytes))=some (some z,size,bytes)) (ht:P.underlying t=some (.slice e)) (hzs:z.cells.size=size) (hsz:0<size)
  (v:Value) (n:Nat) (xs:List Value) (hs:a.eval s=v) (hown:w.ownsRow base e size v n xs) (xv:Value) (m:Nat) (news:List Value) (hx:a.eval x=xv) (hr:Zxc w size xv m news)
  (hbig:(n+m) * (bytes+1)≤140737488355328) (hbase:base≤w.heap.size)
  (h:∀ v' w',Appended w base e size v (n+m) (xs++news) v' w'→K (a.put o.dst v') w'):o.wp P a w K Q:=by
 obtain ⟨v',w',hrun,hA⟩:=Ztc (P:=P) w t o.type base e hinfo ht hzs hsz v n xs hown xv m news hr hbig hbase
 unfold Oper.wp
 simp [execOp,ho,resolve,invoke,builtin,hs,hx,hrun,Result.andThen]
 exact h v' w' hA
theorem Zif {P:Program} {ops:Array Oper} {rest:List Oper} {o:Oper} {a:Act} {Q:Exit→Act→World→Prop} (w:World) (hgd:o.guard=none) (s x:Operand) (t:TypeId)
  (ho:o.op = .call { callee := .builtin .append,args:=#[s,x],argTypes:=#[t,t] })
  (base:Nat) (e:TypeId) {z:Value} {size bytes:Nat}
  (hinfo:(P.info? e).map (fun i=>(i.zero,i.size,i.bytes))=some (some z,size,bytes)) (ht:P.underlying t=some (.slice e)) (hzs:z.cells.size=size) (hsz:0<size)
  (v:Value) (n:Nat) (xs:List Value) (hs:a.eval s=v) (hown:w.ownsRow base e size v n xs) (xv:Value) (m:Nat) (news:List Value) (hx:a.eval x=xv) (hr:Zxc w size xv m news)
  (hbig:(n+m) * (bytes+1)≤140737488355328) (hbase:base≤w.heap.size)
  (h:∀ v' w',Appended w base e size v (n+m) (xs++news) v' w'→wpList P ops Q rest (a.put o.dst v') w'):wpList P ops Q (o::rest) a w :=
 wpList_plain hgd fun _ hK=>Zxd w s x t ho base e hinfo ht hzs hsz v n xs hs hown xv m news hx hr hbig hbase fun v' w' h2=>hK _ _ (h v' w' h2)
theorem Zqx {w:World} {B:Nat} {e:TypeId} {size n:Nat} {v:Value} {xs:List Value} (h:w.ownsRow B e size v n xs) (h1:∀ u ∈ xs,u.oneCell'=true):Zxc w size v n xs:=by
 refine ⟨h.1,h1,?_⟩
 rcases h.2 with ⟨rfl,rfl⟩ | ⟨g,cap,cur,rfl,_⟩
 ·exact Or.inl ⟨rfl,rfl⟩
 ·exact Or.inr ⟨⟨g,0,none⟩,cap,rfl,fun j u hu=>h.cells (g:=g) rfl j u hu⟩
abbrev Ext (w w':World):Prop:=Below w.heap.size w w'
section inv
variable {P:Program} {ops:Array Oper} {Q:Exit→Act→World→Prop} {md:Region.Mode}
def unl (ops:Array Oper) (L:Array Bool):Nat:=((List.range ops.size).filter (fun i => !L.getD i true)).length
theorem Zqy {α:Type} {p q:α→Bool} {l:List α} (h:∀ x ∈ l,q x=true→p x=true) {x:α} (hx:x ∈ l) (hp:p x=true) (hq:q x=false):(l.filter q).length<(l.filter p).length:=by
 induction l with
 | nil=>simp at hx
 | cons y l ih =>
  have hle:(l.filter q).length≤(l.filter p).length:=by
   clear ih hx
   induction l with
   | nil=>simp
   | cons z l ih =>
    have h1:=h z (by simp)
    have h2:=ih (fun u hu=>h u (by
     rcases Qp.1 hu with rfl | hu
     ·simp
     ·simp [hu]))
    simp only [List.filter_cons]
    split
    ·rename_i hz
     rw [if_pos (h1 hz)]; simp; omega
    ·split <;> simp <;> omega
  simp only [List.filter_cons]
  rcases Qp.1 hx with rfl | hx
  ·rw [hp,hq]; simp; omega
  ·have:=ih (fun u hu=>h u (by simp [hu])) hx
   split
   ·rename_i hy
    rw [if_pos (h y (by simp) hy)]; simp; omega
   ·split <;> simp <;> omega
theorem Yal {L:Array Bool} {i:Nat} (hi:i<ops.size) (hl:L.getD i true=false):unl ops (L.setIfInBounds i true)<unl ops L:=by
 have hil:i<L.size:=by
  rcases Nat.lt_or_ge i L.size with h | h
  ·exact h
  ·simp [Array.getElem?_eq_none h] at hl
 refine Zqy (x:=i) (fun j _ hj => ?_) (List.mem_range.2 hi) (by simp at hl ⊢; exact hl) (by simp [hil])
 by_cases e:i=j
 ·subst e; simp [hil] at hj
 ·rw [getD_set_ne true e] at hj; exact hj
theorem Zjf {J:Array Bool→Act→World→Prop} (hs:∀ L a w i,i ∈ Region.ready md ops L→J L a w→wpOp P ops Q i (J (L.setIfInBounds i true)) a w)
  (hf:∀ L a w,Region.ready md ops L=[]→J L a w→Q .normal a w):∀ (fuel:Nat) (L:Array Bool) (a:Act) (w:World),unl ops L≤fuel→J L a w→wpAny P md ops Q fuel L a w:=by
 intro fuel
 induction fuel with
 | zero =>
  intro L a w hu hJ
  have hr:Region.ready md ops L=[]:=by
   cases h:Region.ready md ops L with
   | nil=>rfl
   | cons i r =>
    have hi:i ∈ Region.ready md ops L:=by rw [h]; simp
    obtain ⟨h0,o,ho,_⟩:=mem_ready.1 hi
    have:=Yal (ops:=ops) (Array.getElem?_eq_some_iff.1 ho).1 h0
    omega
  exact ⟨hr,hf L a w hr hJ⟩
 | succ fuel ih =>
  intro L a w hu hJ
  refine ⟨fun hr=>hf L a w hr hJ,fun i hi=>wpOp_mono (fun a' w' h=>ih _ a' w' ?_ h) (hs L a w i hi hJ)⟩
  obtain ⟨h0,o,ho,_⟩:=mem_ready.1 hi
  have:=Yal (ops:=ops) (Array.getElem?_eq_some_iff.1 ho).1 h0
  omega
end inv
inductive Kd where
 | pur (c:Value)
 | post (g:Value→Value)
 | cal
 | alo (t:TypeId) (z:Array Value) (s:Nat) (cs:Value→Array Value)
 | sto (i:Nat)
def Kd.val (vc:Value) (β:Nat→Nat) (i:Nat):Kd→Value
 | .pur c=>c
 | .post g=>g vc
 | .cal=>vc
 | .alo .. => .pointer (some ⟨β i,0,none⟩)
 | .sto _=>undef
def pa (a0:Act) (vc:Value) (β:Nat→Nat) (lst:Nat→Bool):Nat→List Oper→List Kd→Act
 | _,[],_=>a0
 | _,_,[]=>a0
 | k,o::os,q::qs=>if lst k then (pa a0 vc β lst (k+1) os qs).put o.dst (q.val vc β k) else pa a0 vc β lst (k+1) os qs
abbrev paAll (a0:Act) (ops:List Oper) (kd:List Kd) (vc:Value) (β:Nat→Nat):Act:=pa a0 vc β (fun _=>true) 0 ops kd
def Zch:Kd→Bool
 | .post _=>true
 | .sto _=>true
 | _=>false
def Zco:Kd→Bool
 | .post _=>true
 | .cal=>true
 | _=>false
def Zcm (o:Oper) (j:Nat):Bool:=o.after.any fun e=>Region.binds .any e && e.on == j
def Zhw (ops:List Oper) (kd:List Kd) (ic:Nat):Bool :=
 ops.length == kd.length &&
 (List.range ops.length).all fun i=>match ops[i]?,kd[i]? with
  | some o,some q =>
   o.guard.isNone && (match o.op with | .select .. => false | _=>true) &&
   (o.after.all fun e => !Region.binds .any e || e.on<i) &&
   ((List.range ops.length).all fun j=>match ops[j]? with
    | some p=>match p.dst with
     | some d=>((j == i) || (o.dst != some d)) && (!(o.looksAt ops.toArray).contains d || Zcm o j)
     | none=>true
    | none=>true) &&
   (match q with
    | .pur _=>true
    | .cal=>i == ic
    | .post _=>(List.range i).any fun j=>Zcm o j && (match kd[j]? with | some r=>Zco r | none=>false)
    | .alo _ _ s _=>match kd[s]? with | some (.sto k)=>k == i | _=>false
    | .sto k=>o.dst.isNone && Zcm o k && ((List.range i).any fun j=>Zcm o j && (match kd[j]? with | some r=>Zco r | none=>false)) && (match kd[k]? with | some (.alo _ _ s _)=>s == i | _=>false))
  | _,_=>false
theorem Zdq {a0:Act} {vc vc':Value} {β β':Nat→Nat} {lst lst':Nat→Bool}:∀ {ops:List Oper} {kd:List Kd} {k:Nat},(∀ j q,kd[j]?=some q→lst (k+j)=lst' (k+j)∧(lst (k+j)=true→q.val vc β (k+j)=q.val vc' β' (k+j))) →
  pa a0 vc β lst k ops kd=pa a0 vc' β' lst' k ops kd:=by
 intro ops
 induction ops with
 | nil=>intro kd k _; simp [pa]
 | cons o os ih =>
  intro kd k h
  cases kd with
  | nil=>simp [pa]
  | cons q qs =>
   have h0:=h 0 q rfl
   simp only [Nat.add_zero] at h0
   have ih':=ih (kd:=qs) (k:=k+1) (fun j r hr=>by
    have:=h (j+1) r (by simpa using hr)
    have e:k+1+j=k+(j+1):=by omega
    rw [e]; exact this)
   rw [pa,pa,ih',← h0.1]
   split
   ·rename_i hk; rw [h0.2 hk]
   ·rfl
theorem Zpe {a0:Act} {vc:Value} {β:Nat→Nat} {lst:Nat→Bool} {x:Operand}:∀ {ops:List Oper} {kd:List Kd} {k:Nat},(∀ j o,ops[j]?=some o→lst (k+j)=false→∀ d,o.dst=some d→x ≠ .tmp d) →
  (pa a0 vc β lst k ops kd).eval x=(pa a0 vc β (fun _=>true) k ops kd).eval x:=by
 intro ops
 induction ops with
 | nil=>intro kd k _; simp [pa]
 | cons o os ih =>
  intro kd k h
  cases kd with
  | nil=>simp [pa]
  | cons q qs =>
   have ih':=ih (kd:=qs) (k:=k+1) (fun j r hr hl=>by
    have e:k+1+j=k+(j+1):=by omega
    rw [e] at hl
    exact h (j+1) r (by simpa using hr) hl)
   rw [pa,pa]
   simp only [if_true]
   by_cases hx:∃ d,o.dst=some d∧x = .tmp d
   ·obtain ⟨d,hd,rfl⟩:=hx
    cases hk:lst k
    ·exact absurd rfl (h 0 o rfl hk d hd)
    ·simp only [if_true]
     rw [hd]
     have hsz:∀ (lst':Nat→Bool) (k':Nat) (os':List Oper) (qs':List Kd),(pa a0 vc β lst' k' os' qs').tmps.size=a0.tmps.size:=by
      intro lst' k' os'
      induction os' generalizing k' with
      | nil=>intro qs'; simp [pa]
      | cons o' os' ih2 =>
       intro qs'
       cases qs' with
       | nil=>simp [pa]
       | cons q' qs' =>
        rw [pa]
        split
        ·cases o'.dst <;> simp [Act.put,ih2]
        ·exact ih2 _ _
     simp only [Act.eval,Act.put,Array.getD_eq_getD_getElem?]
     rcases Nat.lt_or_ge d a0.tmps.size with hd' | hd'
     ·rw [Array.getElem?_setIfInBounds_self_of_lt (by rw [hsz]; exact hd'),Array.getElem?_setIfInBounds_self_of_lt (by rw [hsz]; exact hd')]
     ·rw [Array.getElem?_eq_none (by simp [hsz]; omega),Array.getElem?_eq_none (by simp [hsz]; omega)]
   ·have hne:∀ d,o.dst=some d→x ≠ .tmp d:=fun d hd e=>hx ⟨d,hd,e⟩
    rw [Act.eval_put hne]
    split
    ·rw [Act.eval_put hne]; exact ih'
    ·exact ih'
theorem Zuy {a0:Act} {vc:Value} {β:Nat→Nat} {lst:Nat→Bool}:∀ {ops:List Oper} {kd:List Kd} {k i:Nat} {o:Oper} {q:Kd},ops[i]?=some o→kd[i]?=some q→lst (k+i)=false →
  (∀ j p d,ops[j]?=some p→p.dst=some d→j=i∨o.dst≠some d)→pa a0 vc β (fun j=>lst j || j == k+i) k ops kd=(pa a0 vc β lst k ops kd).put o.dst (q.val vc β (k+i)):=by
 intro ops
 induction ops with
 | nil=>intro kd k i o q h; simp at h
 | cons p os ih =>
  intro kd k i o q ho hq hl hd
  cases kd with
  | nil=>simp at hq
  | cons r qs =>
   cases i with
   | zero =>
    simp at ho hq
    subst ho hq
    simp only [Nat.add_zero] at hl ⊢
    rw [pa,pa]
    simp only [hl,Bool.false_or,BEq.rfl,if_true,Bool.false_eq_true,if_false]
    congr 1
    refine Zdq (fun j s hs=>⟨?_,fun _=>rfl⟩)
    have:(k+1+j == k)=false:=by rw [Qu]; omega
    simp [this]
   | succ i =>
    have e:k+(i+1)=k+1+i:=by omega
    have ih':=ih (kd:=qs) (k:=k+1) (i:=i) (o:=o) (q:=q) (by simpa using ho) (by simpa using hq) (by rw [← e]; exact hl) (fun j p' d hp hd'=>by
     rcases hd (j+1) p' d (by simpa using hp) hd' with h | h
     ·exact Or.inl (by omega)
     ·exact Or.inr h)
    rw [e]
    rw [pa,pa,ih']
    have hk:(k == k+1+i)=false:=by rw [Qu]; omega
    simp only [hk,Bool.or_false]
    split
    ·refine Act.put_comm _ _ _ (fun d hd' e' => ?_)
     rcases hd 0 p d rfl e' with h | h
     ·omega
     ·exact h hd'
    ·rfl
def Ob (P:Program) (kd:List Kd) (w0:World) (FA:Value→(Nat→Nat)→Act) (R:(Nat→Prop)→Value→World→Prop) (f:FuncId) (args:Array Value) (o:Oper):Kd→Prop
 | .pur c=>∀ vc β w,Ext w0 w→(execOp (FA vc β).eval o).run P w = .ok (.value c) w
 | .post g=>∀ vc β X w,R X vc w→(execOp (FA vc β).eval o).run P w = .ok (.value (g vc)) w
 | .cal=>∀ vc β w,(execOp (FA vc β).eval o).run P w = .ok (.enter f args) w
 | .alo t z _ _=>∀ vc β w,(execOp (FA vc β).eval o).run P w = .ok (.value (.pointer (some ⟨w.heap.size,0,none⟩))) (w.alloc (.cells z t))
 | .sto i=>∀ vc β X w t z s cs,kd[i]?=some (.alo t z s cs)→R X vc w→w.heap[β i]?=some (.cells z t (0,0)) →
   ∃ w',(execOp (FA vc β).eval o).run P w = .ok .skip w'∧w'.heap[β i]?=some (.cells (cs vc) t (0,0))∧Kept (fun k=>k=β i) w w'
def AllOb (P:Program) (kd:List Kd) (w0:World) (FA:Value→(Nat→Nat)→Act) (R:(Nat→Prop)→Value→World→Prop) (f:FuncId) (args:Array Value):List Oper→List Kd→Prop
 | o::os,q::qs=>Ob P kd w0 FA R f args o q∧AllOb P kd w0 FA R f args os qs
 | _,_=>True
theorem AllOb.at {P:Program} {kd:List Kd} {w0:World} {FA:Value→(Nat→Nat)→Act} {R:(Nat→Prop)→Value→World→Prop} {f:FuncId} {args:Array Value}:∀ {ops:List Oper} {ks:List Kd},AllOb P kd w0 FA R f args ops ks →
  ∀ {i:Nat} {o:Oper} {q:Kd},ops[i]?=some o→ks[i]?=some q→Ob P kd w0 FA R f args o q:=by
 intro ops
 induction ops with
 | nil=>intro ks _ i o q h; simp at h
 | cons p os ih =>
  intro ks h i o q ho hq
  cases ks with
  | nil=>simp at hq
  | cons r qs =>
   cases i with
   | zero=>simp at ho hq; subst ho hq; exact h.1
   | succ i=>exact ih h.2 (by simpa using ho) (by simpa using hq)
def Zhx (kd:List Kd) (β:Nat→Nat) (lst:Nat→Bool):Nat→Prop:=fun k=>∃ i t z s cs,kd[i]?=some (.alo t z s cs)∧lst i=true∧k=β i
structure Plan (P:Program) (ops:List Oper) (kd:List Kd) (ic:Nat) (a0:Act) (w0:World) (R:(Nat→Prop)→Value→World→Prop) (L:Array Bool) (a:Act) (w:World):Prop where
 size:L.size=ops.length
 ext:Ext w0 w
 st:∃ vc β,a=pa a0 vc β (fun j=>L.getD j false) 0 ops kd∧(L.getD ic false=true→R (Zhx kd β (fun j=>L.getD j false)) vc w) ∧
  (∀ (i:Nat) q,kd[i]?=some q→L.getD i false=true→Zch q=true→L.getD ic false=true) ∧
  (∀ (i:Nat) t z s cs,kd[i]?=some (.alo t z s cs)→L.getD i false=true→w0.heap.size≤β i∧w.heap[β i]?=some (.cells (if L.getD s false then cs vc else z) t (0,0))) ∧
  (∀ (i j:Nat) t z s cs t' z' s' cs',kd[i]?=some (.alo t z s cs)→kd[j]?=some (.alo t' z' s' cs')→L.getD i false=true→L.getD j false=true→i≠j→β i≠β j) ∧
  (∀ (i k:Nat),kd[i]?=some (.sto k)→L.getD i false=true→L.getD k false=true)
theorem Zgv {L:Array Bool} {i:Nat} (hi:i<L.size) (j:Nat):(L.setIfInBounds i true).getD j false=(L.getD j false || j == i):=by
 by_cases e:i=j
 ·subst e; simp [hi]
 ·rw [getD_set_ne false e]
  have:(j == i)=false:=by rw [Qu]; omega
  simp [this]
structure FitsAt (ops:List Oper) (kd:List Kd) (ic i:Nat) (o:Oper) (q:Kd):Prop where
 gd:o.guard=none
 sel:∀ cs b,o.op ≠ .select cs b
 low:∀ e ∈ o.after,Region.binds .any e=true→e.on<i
 dst:∀ j p d,ops[j]?=some p→p.dst=some d→j=i∨o.dst≠some d
 look:∀ j p d,ops[j]?=some p→p.dst=some d→d ∈ o.looksAt ops.toArray→Zcm o j=true
 cal:q = .cal→i=ic
 post:Zch q=true→∃ j r,Zcm o j=true∧kd[j]?=some r∧Zco r=true
 alo:∀ t z s cs,q = .alo t z s cs→kd[s]?=some (.sto i)
 sto:∀ k,q = .sto k→o.dst=none∧Zcm o k=true∧∃ t z cs,kd[k]?=some (.alo t z i cs)
theorem Zpf {ops:List Oper} {kd:List Kd} {ic:Nat} (h:Zhw ops kd ic=true) {i:Nat} {o:Oper} (ho:ops[i]?=some o):∃ q,kd[i]?=some q∧FitsAt ops kd ic i o q:=by
 unfold Zhw at h
 simp only [Bool.and_eq_true,List.all_eq_true,List.mem_range,beq_iff_eq] at h
 obtain ⟨hl,h⟩:=h
 have hi:=(Qa.1 ho).1
 have h:=h i hi
 rw [ho] at h
 cases hq:kd[i]? with
 | none=>rw [hq] at h; simp at h
 | some q =>
  rw [hq] at h
  simp only [Bool.and_eq_true,List.all_eq_true,List.mem_range] at h
  obtain ⟨⟨⟨⟨h1,h2⟩,h3⟩,h4⟩,h5⟩:=h
  refine ⟨q,rfl,?_,?_,?_,?_,?_,?_,?_,?_,?_⟩
  ·simpa using h1
  ·intro cs b e; rw [e] at h2; simp at h2
  ·intro e he hb
   have:=Array.all_eq_true_iff_forall_mem.1 h3 e he
   simpa [hb] using this
  ·intro j p d hp hd
   have:=h4 j (Qa.1 hp).1
   rw [hp] at this
   simp only [hd,Bool.and_eq_true,Bool.or_eq_true,beq_iff_eq,bne_iff_ne] at this
   exact this.1
  ·intro j p d hp hd hm
   have:=h4 j (Qa.1 hp).1
   rw [hp] at this
   simp only [hd,Bool.and_eq_true,Bool.or_eq_true,beq_iff_eq,bne_iff_ne] at this
   rcases this.2 with h | h
   ·simp [hm] at h
   ·exact h
  ·intro e; subst e; simpa using h5
  ·intro hp
   cases q with
   | post g =>
    simp only [List.any_eq_true,List.mem_range,Bool.and_eq_true] at h5
    obtain ⟨j,_,h6,h7⟩:=h5
    cases hr:kd[j]? with
    | none=>rw [hr] at h7; simp at h7
    | some r=>rw [hr] at h7; exact ⟨j,r,h6,hr,h7⟩
   | sto k =>
    simp only [List.any_eq_true,List.mem_range,Bool.and_eq_true] at h5
    obtain ⟨⟨_,j,_,h6,h7⟩,_⟩:=h5
    cases hr:kd[j]? with
    | none=>rw [hr] at h7; simp at h7
    | some r=>rw [hr] at h7; exact ⟨j,r,h6,hr,h7⟩
   | _=>simp [Zch] at hp
  ·intro t z s cs e
   subst e
   simp only at h5
   split at h5
   ·rename_i k hk; simp at h5; subst h5; exact hk
   ·simp at h5
  ·intro k e
   subst e
   simp only [List.any_eq_true,List.mem_range,Bool.and_eq_true] at h5
   obtain ⟨⟨⟨h6,h7⟩,_⟩,h8⟩:=h5
   refine ⟨by simpa using h6,h7,?_⟩
   split at h8
   ·rename_i t z s cs hk; simp at h8; subst h8; exact ⟨t,z,cs,hk⟩
   ·simp at h8
theorem Zbp {ops:List Oper} {L:Array Bool} {i j:Nat} {o:Oper} (hr:i ∈ Region.ready .any ops.toArray L) (ho:ops[i]?=some o) (hw:Zcm o j=true):L.getD j false=true:=by
 obtain ⟨_,o',ho',h⟩:=mem_ready.1 hr
 have:o'=o:=by simpa [ho] using ho'.symm
 subst this
 obtain ⟨e,he,hb⟩:=Array.any_eq_true'.1 hw
 simp only [Bool.and_eq_true,beq_iff_eq] at hb
 rw [← hb.2]
 exact h e he hb.1
theorem Zxe {ops:List Oper} {kd:List Kd} {ic:Nat} (hfit:Zhw ops kd ic=true) {L:Array Bool} (hs:L.size=ops.length) (hr:Region.ready .any ops.toArray L=[]):∀ i,i<ops.length→L.getD i false=true:=by
 intro i
 induction i using Nat.strongRecOn with
 | _ i ih =>
  intro hi
  cases hl:L.getD i false with
  | true=>rfl
  | false =>
   exfalso
   have ho:ops[i]?=some ops[i]:=Qb hi
   obtain ⟨q,hq,hF⟩:=Zpf hfit ho
   have:i ∈ Region.ready .any ops.toArray L:=by
    refine mem_ready.2 ⟨?_,ops[i],by simp,fun e he hb=>ih e.on (hF.low e he hb) (by have:=hF.low e he hb; omega)⟩
    have hi':i<L.size:=by omega
    simp [hi'] at hl ⊢
    exact hl
   rw [hr] at this
   simp at this
theorem Zqz {P:Program} {ops:List Oper} {id:Nat} {Q:Exit→Act→World→Prop} {a0:Act} {w:World} (hm:P.follows .mixedOrders=true) (kd:List Kd) (ic:Nat) (hfit:Zhw ops kd ic=true)
  (R:(Nat→Prop)→Value→World→Prop) (f:FuncId) (args:Array Value)
  (hR:∀ X X' v u u',R X v u→(∀ k,k<u.heap.size→¬ X k→u'.heap[k]?=u.heap[k]?)→u.heap.size≤u'.heap.size→(∀ k,k<u.heap.size→X' k→X k)→R X' v u')
  (hC:∀ X u,Ext w.drew u→(∀ k,X k→w.heap.size≤k∧k<u.heap.size∧∃ (i:Nat) (t:TypeId) (z:Array Value) (s:Nat) (cs:Value→Array Value) (cl:Array Value),kd[i]?=some (.alo t z s cs)∧u.heap[k]?=some (.cells cl t (0,0)))→Calls P f args u (fun e u'=>∃ v,e = .returned v∧Ext u u'∧R X v u'))
  (hob:AllOb P kd w.drew (paAll a0 ops kd) R f args ops kd)
  (hcal:kd[ic]?=some .cal) (hil:ic<ops.length)
  (hQ:∀ vc β u,Ext w.drew u→R (Zhx kd β (fun _=>true)) vc u→(∀ (i:Nat) t z s cs,kd[i]?=some (.alo t z s cs)→w.heap.size≤β i∧u.heap[β i]?=some (.cells (cs vc) t (0,0))) →
   (∀ (i j:Nat) t z s cs t' z' s' cs',kd[i]?=some (.alo t z s cs)→kd[j]?=some (.alo t' z' s' cs')→i≠j→β i≠β j)→Q .normal (paAll a0 ops kd vc β) u) :
  (Code.region id ops.toArray true).wp P Q a0 w:=by
 have hlen:ops.length=kd.length:=by
  unfold Zhw at hfit
  simp only [Bool.and_eq_true,beq_iff_eq] at hfit
  exact hfit.1
 refine wp_region_any hm (Zjf (J:=Plan P ops kd ic a0 w.drew R) ?_ ?_ _ _ _ _ ?_ ?_)
 ·intro L a u i hr hJ
  obtain ⟨hsz,hext,vc,β,rfl,hcR,hpost,hbox,hdist,hsto⟩:=hJ
  obtain ⟨h0,o,ho',_⟩:=mem_ready.1 hr
  have ho:ops[i]?=some o:=by simpa using ho'
  have hi:i<ops.length:=(Qa.1 ho).1
  have hil:i<L.size:=by omega
  have hun:L.getD i false=false:=by simp [hil] at h0 ⊢; exact h0
  obtain ⟨q,hq,hF⟩:=Zpf hfit ho
  have hOb:=hob.at ho hq
  have hexec:execOp (pa a0 vc β (fun j=>L.getD j false) 0 ops kd).eval o=execOp (paAll a0 ops kd vc β).eval o:=by
   refine execOp_congr o hF.sel (fun x hx=>Zpe (fun j p hp hl d hd e => ?_))
   subst e
   have hw:=hF.look j p d hp hd (List.mem_append_left _ (List.mem_filterMap.2 ⟨.tmp d,by simpa using hx,rfl⟩))
   have:=Zbp hr ho hw
   simp only [Nat.zero_add] at hl
   rw [hl] at this
   simp at this
  have hwant:Region.wanted o (yielded ops.toArray (pa a0 vc β (fun j=>L.getD j false) 0 ops kd).tmps)=true:=by simp [Region.wanted,hF.gd]
  have hL:=Zgv hil
  have hput:∀ vc' β',(∀ j r,kd[j]?=some r→L.getD j false=true→r.val vc β j=r.val vc' β' j) →
    (pa a0 vc β (fun j=>L.getD j false) 0 ops kd).put o.dst (q.val vc' β' i)=pa a0 vc' β' (fun j=>(L.setIfInBounds i true).getD j false) 0 ops kd:=by
   intro vc' β' hv
   have e1:pa a0 vc β (fun j=>L.getD j false) 0 ops kd=pa a0 vc' β' (fun j=>L.getD j false) 0 ops kd:=Zdq (fun j r hr'=>by
    simp only [Nat.zero_add]
    exact ⟨trivial,fun hl=>hv j r hr' hl⟩)
   rw [e1]
   have e2:=Zuy (a0:=a0) (vc:=vc') (β:=β') (lst:=fun j=>L.getD j false) (k:=0) ho hq (by simpa using hun) hF.dst
   simp only [Nat.zero_add] at e2
   rw [← e2]
   exact Zdq (fun j r hr'=>⟨by simp only [Nat.zero_add,hL],fun _=>rfl⟩)
  have hicn:∀ r,kd[ic]?=some r→r = .cal:=fun r h=>by rw [hcal] at h; exact (Option.some.inj h).symm
  have hold:∀ j,L.getD j false=true→(L.setIfInBounds i true).getD j false=true:=fun j h=>by rw [hL,h]; rfl
  have hnew:∀ j,j≠i→(L.setIfInBounds i true).getD j false=L.getD j false:=fun j h=>by
   rw [hL]
   have:(j == i)=false:=by rw [Qu]; exact h
   simp [this]
  unfold wpOp
  simp only [ho']
  rw [if_pos hwant]
  refine Or.inl ?_
  unfold Oper.wp
  rw [hexec]
  have hpl:∀ (i':Nat) q',kd[i']?=some q'→(L.setIfInBounds i true).getD i' false=true→Zch q'=true→i'≠i→(L.setIfInBounds i true).getD ic false=true:=fun i' q' h1 h2 h3 hne =>
   hold _ (hpost i' q' h1 (by rw [hnew i' hne] at h2; exact h2) h3)
  have hkat:∀ {i':Nat} {q':Kd},kd[i']?=some q'→∃ o',FitsAt ops kd ic i' o' q':=fun {i' q'} h1=>by
   obtain ⟨q2,hq2,hF2⟩:=Zpf hfit (Qb (l:=ops) (i:=i') (by have:=(Qa.1 h1).1; omega))
   rw [h1] at hq2; simp at hq2; subst hq2
   exact ⟨_,hF2⟩
  have hne:∀ {i':Nat} {q':Kd},kd[i']?=some q'→q'≠q→i'≠i:=fun {i' q'} h1 h2 e=>by
   subst e; rw [hq] at h1; exact h2 (Option.some.inj h1).symm
  have hvars:(∀ t z s cs,q ≠ .alo t z s cs)→∀ k,Zhx kd β (fun j=>(L.setIfInBounds i true).getD j false) k→Zhx kd β (fun j=>L.getD j false) k:=by
   rintro hna k ⟨i',t,z,s,cs,h1,h2,rfl⟩
   have:i'≠i:=hne h1 (fun e=>hna t z s cs e.symm)
   exact ⟨i',t,z,s,cs,h1,(hnew i' this).symm.trans h2,rfl⟩
  have hdist':(∀ t z s cs,q ≠ .alo t z s cs)→∀ (i' j':Nat) t z s cs t' z' s' cs',kd[i']?=some (.alo t z s cs)→kd[j']?=some (.alo t' z' s' cs')→(L.setIfInBounds i true).getD i' false=true→(L.setIfInBounds i true).getD j' false=true→i'≠j'→β i'≠β j':=by
   intro hna i' j' t z s cs t' z' s' cs' h1 h2 h3 h4
   rw [hnew i' (hne h1 (fun e=>hna _ _ _ _ e.symm))] at h3
   rw [hnew j' (hne h2 (fun e=>hna _ _ _ _ e.symm))] at h4
   exact hdist i' j' t z s cs t' z' s' cs' h1 h2 h3 h4
  have hbox':(∀ t z s cs,q ≠ .alo t z s cs)→(∀ k,q ≠ .sto k)→∀ (i':Nat) t z s cs,kd[i']?=some (.alo t z s cs)→(L.setIfInBounds i true).getD i' false=true→w.drew.heap.size≤β i'∧u.heap[β i']?=some (.cells (if (L.setIfInBounds i true).getD s false then cs vc else z) t (0,0)):=by
   intro hna hns i' t z s cs h1 h2
   obtain ⟨o',hF'⟩:=hkat h1
   have hs:s≠i:=hne (hF'.alo t z s cs rfl) (fun e=>hns _ e.symm)
   rw [hnew s hs]
   exact hbox i' t z s cs h1 ((hnew i' (hne h1 (fun e=>hna _ _ _ _ e.symm))).symm.trans h2)
  have hsto':(∀ k,q ≠ .sto k)→∀ (i' k:Nat),kd[i']?=some (.sto k)→(L.setIfInBounds i true).getD i' false=true→(L.setIfInBounds i true).getD k false=true:=fun hns i' k h1 h2 =>
   hold _ (hsto i' k h1 ((hnew i' (hne h1 (fun e=>hns _ e.symm))).symm.trans h2))
  have hpost':Zch q=false→∀ (i':Nat) q',kd[i']?=some q'→(L.setIfInBounds i true).getD i' false=true→Zch q'=true→(L.setIfInBounds i true).getD ic false=true:=fun hp i' q' h1 h2 h3 =>
   hpl i' q' h1 h2 h3 (hne h1 (fun e=>by rw [e,hp] at h3; simp at h3))
  have hcl:Zch q=true→L.getD ic false=true:=fun hp=>by
   obtain ⟨j,r,h1,h2,h3⟩:=hF.post hp
   have hj:=Zbp hr ho h1
   cases r with
   | post g=>exact hpost j _ h2 hj rfl
   | cal =>
    obtain ⟨o',hF'⟩:=hkat h2
    have:=hF'.cal rfl
    rw [← this]; exact hj
   | _=>simp [Zco] at h3
  cases q with
  | pur c =>
   rw [hOb vc β u hext]
   have hic:ic≠i:=hne hcal (by simp)
   refine ⟨by simpa using hsz,hext,vc,β,hput vc β (fun _ _ _ _=>rfl),?_,hpost' rfl,hbox' (by simp) (by simp),hdist' (by simp),hsto' (by simp)⟩
   intro h
   rw [hnew ic hic] at h
   exact hR _ _ vc u u (hcR h) (fun _ _ _=>rfl) (Qe _) (fun k _=>hvars (by simp) k)
  | post g =>
   have hic:=hcl rfl
   rw [hOb vc β _ u (hcR hic)]
   refine ⟨by simpa using hsz,hext,vc,β,hput vc β (fun _ _ _ _=>rfl),?_,fun i' q' _ _ _=>hold _ hic,hbox' (by simp) (by simp),hdist' (by simp),hsto' (by simp)⟩
   intro h
   exact hR _ _ vc u u (hcR hic) (fun _ _ _=>rfl) (Qe _) (fun k _=>hvars (by simp) k)
  | cal =>
   have hie:=hF.cal rfl
   rw [hOb vc β u]
   refine (hC (Zhx kd β (fun j=>L.getD j false)) u hext ?_).mono ?_
   ·rintro k ⟨i',t,z,s,cs,h1,h2,rfl⟩
    have:=hbox i' t z s cs h1 h2
    exact ⟨this.1,(Array.getElem?_eq_some_iff.1 this.2).1,i',t,z,s,cs,_,h1,this.2⟩
   ·rintro e u' ⟨v,rfl,he,hr'⟩
    refine ⟨by simpa using hsz,hext.trans (he.mono hext.size),v,β,hput v β ?_,?_,?_,?_,hdist' (by simp),hsto' (by simp)⟩
    ·intro j r h1 h2
     cases r with
     | post g =>
      have:=hpost j _ h1 h2 rfl
      rw [← hie,hun] at this; simp at this
     | cal =>
      obtain ⟨o',hF'⟩:=hkat h1
      have:=hF'.cal rfl
      rw [this,← hie,hun] at h2; simp at h2
     | _=>rfl
    ·intro _
     exact hR _ _ v u' u' hr' (fun _ _ _=>rfl) (Qe _) (fun k _=>hvars (by simp) k)
    ·intro i' q' _ _ _
     rw [← hie,hL]; simp
    ·intro i' t z s cs h1 h2
     have hi':=hne h1 (by simp)
     have hb:=hbox i' t z s cs h1 ((hnew i' hi').symm.trans h2)
     refine ⟨hb.1,(he.block _ (Array.getElem?_eq_some_iff.1 hb.2).1).trans ?_⟩
     obtain ⟨o',hF'⟩:=hkat h1
     have hks:=hF'.alo t z s cs rfl
     have hs:s≠i:=hne hks (by simp)
     have hsl:L.getD s false=false:=by
      cases hsl:L.getD s false with
      | false=>rfl
      | true =>
       have:=hpost s _ hks hsl rfl
       rw [← hie,hun] at this; simp at this
     rw [hnew s hs,hsl]
     rw [hsl] at hb
     exact hb.2
  | alo t z s cs =>
   have hic:ic≠i:=hne hcal (by simp)
   rw [hOb vc β u]
   have hkat':=hF.alo t z s cs rfl
   have hs:s≠i:=hne hkat' (by simp)
   have hsl:L.getD s false=false:=by
    cases hsl:L.getD s false with
    | false=>rfl
    | true =>
     have:=hsto s i hkat' hsl
     rw [hun] at this; simp at this
   have hβ:∀ j,j≠i→(fun j=>if j=i then u.heap.size else β j) j=β j:=fun j h=>by simp [h]
   have hβi:(fun j=>if j=i then u.heap.size else β j) i=u.heap.size:=by simp
   have hp:=hput vc (fun j=>if j=i then u.heap.size else β j) (fun j r h1 h2=>by
    have hj:j≠i:=fun e=>by rw [e,hun] at h2; simp at h2
    cases r with
    | alo=>simp only [Kd.val]; rw [if_neg hj]
    | _=>rfl)
   simp only [Kd.val,if_true] at hp
   have hlt:∀ (i':Nat) t z s cs,kd[i']?=some (.alo t z s cs)→L.getD i' false=true→β i'<u.heap.size:=fun i' t z s cs h1 h2=>(Array.getElem?_eq_some_iff.1 (hbox i' t z s cs h1 h2).2).1
   refine ⟨by simpa using hsz,hext.alloc hext.size _,vc,(fun j=>if j=i then u.heap.size else β j),hp,?_,?_,?_,?_,hsto' (by simp)⟩
   ·intro h
    rw [hnew ic hic] at h
    refine hR _ _ vc u _ (hcR h) (fun k hk _=>Below.heap_alloc _ _ _ hk) (by simp) ?_
    rintro k hk ⟨i',t,z,s,cs,h1,h2,rfl⟩
    by_cases e:i'=i
    ·subst e; simp at hk
    ·rw [hβ i' e]
     exact ⟨i',t,z,s,cs,h1,(hnew i' e).symm.trans h2,rfl⟩
   ·exact hpost' rfl
   ·intro i' t' z' s' cs' h1 h2
    by_cases e:i'=i
    ·subst e
     rw [hq] at h1
     simp only [Qo,Kd.alo.injEq] at h1
     obtain ⟨rfl,rfl,rfl,rfl⟩:=h1
     rw [hβi,hnew s hs,hsl]
     exact ⟨hext.size,heap_alloc_new u _⟩
    ·rw [hβ i' e]
     have hl':=(hnew i' e).symm.trans h2
     have hb:=hbox i' t' z' s' cs' h1 hl'
     have hs':s'≠i:=by
      obtain ⟨o',hF'⟩:=hkat h1
      exact hne (hF'.alo t' z' s' cs' rfl) (by simp)
     rw [hnew s' hs']
     exact ⟨hb.1,(Below.heap_alloc _ _ _ (hlt i' t' z' s' cs' h1 hl')).trans hb.2⟩
   ·intro i' j' t' z' s' cs' t'' z'' s'' cs'' h1 h2 h3 h4 hij
    by_cases e:i'=i
    ·have e':j'≠i:=fun h=>hij (e.trans h.symm)
     rw [e,hβi,hβ j' e']
     have:=hlt j' _ _ _ _ h2 ((hnew j' e').symm.trans h4)
     omega
    ·rw [hβ i' e]
     by_cases e':j'=i
     ·rw [e',hβi]
      have:=hlt i' _ _ _ _ h1 ((hnew i' e).symm.trans h3)
      omega
     ·rw [hβ j' e']
      exact hdist i' j' _ _ _ _ _ _ _ _ h1 h2 ((hnew i' e).symm.trans h3) ((hnew j' e').symm.trans h4) hij
  | sto k =>
   have hic:=hcl rfl
   obtain ⟨hdn,hwk,t,z,cs,hkk⟩:=hF.sto k rfl
   have hkl:=Zbp hr ho hwk
   have hbk:=hbox k t z i cs hkk hkl
   rw [hun] at hbk
   obtain ⟨w',hrun,hnewb,hkept⟩:=hOb vc β _ u t z i cs hkk (hcR hic) hbk.2
   rw [hrun]
   have hki:k≠i:=hne hkk (by simp)
   refine ⟨by simpa using hsz,hext.trans (hkept.below hext.size (fun j e=>by rw [e]; exact hbk.1)),vc,β,hput vc β (fun _ _ _ _=>rfl),?_,fun i' q' _ _ _=>hold _ hic,?_,hdist' (by simp),?_⟩
   ·intro _
    refine hR _ _ vc u w' (hcR hic) (fun j hj hn=>hkept.block j hj (fun e=>hn ⟨k,t,z,i,cs,hkk,hkl,e⟩)) hkept.size (fun j _=>hvars (by simp) j)
   ·intro i' t' z' s' cs' h1 h2
    have e:i'≠i:=hne h1 (by simp)
    have hl':=(hnew i' e).symm.trans h2
    by_cases ek:i'=k
    ·subst ek
     rw [hkk] at h1
     simp only [Qo,Kd.alo.injEq] at h1
     obtain ⟨rfl,rfl,rfl,rfl⟩:=h1
     rw [hL]
     simp only [BEq.rfl,Bool.or_true,if_true]
     exact ⟨hbk.1,hnewb⟩
    ·have hb:=hbox i' t' z' s' cs' h1 hl'
     have hs':s'≠i:=fun e'=>by
      obtain ⟨o',hF'⟩:=hkat h1
      have:=hF'.alo t' z' s' cs' rfl
      rw [e',hq] at this
      simp at this
      exact ek this.symm
     rw [hnew s' hs']
     exact ⟨hb.1,(hkept.block _ (Array.getElem?_eq_some_iff.1 hb.2).1 (hdist i' k _ _ _ _ _ _ _ _ h1 hkk hl' hkl ek)).trans hb.2⟩
   ·intro i' k' h1 h2
    by_cases e:i'=i
    ·subst e
     rw [hq] at h1
     simp at h1
     subst h1
     exact hold _ hkl
    ·exact hold _ (hsto i' k' h1 ((hnew i' e).symm.trans h2))
 ·intro L a u hr hJ
  obtain ⟨hsz,hext,vc,β,rfl,hcR,hpost,hbox,hdist,hsto⟩:=hJ
  have hall:=Zxe hfit hsz hr
  have e:pa a0 vc β (fun j=>L.getD j false) 0 ops kd=paAll a0 ops kd vc β:=Zdq (fun j r hr'=>⟨by
   simp only [Nat.zero_add]
   exact hall j (by have:=(Qa.1 hr').1; omega),fun _=>rfl⟩)
  rw [e]
  have hk:∀ (i:Nat) t z s cs,kd[i]?=some (.alo t z s cs)→L.getD i false=true∧L.getD s false=true:=fun i t z s cs h=>by
   have hi:=(Qa.1 h).1
   obtain ⟨q2,hq2,hF2⟩:=Zpf hfit (Qb (l:=ops) (i:=i) (by omega))
   rw [h] at hq2; simp at hq2; subst hq2
   have:=(Qa.1 (hF2.alo t z s cs rfl)).1
   exact ⟨hall i (by omega),hall s (by omega)⟩
  refine hQ vc β u hext ?_ ?_ ?_
  ·refine hR _ _ vc u u (hcR (hall ic hil)) (fun _ _ _=>rfl) (Qe _) ?_
   rintro k _ ⟨i',t,z,s,cs,h1,h2,rfl⟩
   exact ⟨i',t,z,s,cs,h1,(hk i' t z s cs h1).1,rfl⟩
  ·intro i t z s cs h
   have:=hbox i t z s cs h (hk i t z s cs h).1
   rw [(hk i t z s cs h).2] at this
   exact this
  ·intro i j t z s cs t' z' s' cs' h1 h2
   exact hdist i j t z s cs t' z' s' cs' h1 h2 (hk i t z s cs h1).1 (hk j t' z' s' cs' h2).1
 ·have:(ops.toArray).size=ops.length:=by simp
  unfold unl
  exact Qq (List.length_filter_le _ _) (by simp)
 ·have hz:∀ j,(Array.replicate ops.toArray.size false).getD j false=false:=fun j=>by
   simp only [Array.getD_eq_getD_getElem?,Array.getElem?_replicate]
   split <;> rfl
  refine ⟨by simp,Below.refl _ _,undef,fun _=>0,?_,?_,?_,?_,?_,?_⟩
  ·have:∀ (k:Nat) (os:List Oper) (qs:List Kd),pa a0 undef (fun _=>0) (fun j=>(Array.replicate ops.toArray.size false).getD j false) k os qs=a0:=by
    intro k os
    induction os generalizing k with
    | nil=>intro qs; simp [pa]
    | cons o os ih =>
     intro qs
     cases qs with
     | nil=>simp [pa]
     | cons q qs=>rw [pa,hz]; simp only [Bool.false_eq_true,if_false]; exact ih _ _
   exact (this _ _ _).symm
  ·intro h; rw [hz] at h; simp at h
  ·intro i q _ h; rw [hz] at h; simp at h
  ·intro i t z s cs _ h; rw [hz] at h; simp at h
  ·intro i j t z s cs t' z' s' cs' _ _ h; rw [hz] at h; simp at h
  ·intro i k _ h; rw [hz] at h; simp at h
theorem Ztd {P:Program} {ops:List Oper} {id:Nat} {Q:Exit→Act→World→Prop} {a0:Act} {w:World} (hm:P.follows .mixedOrders=true) (kd:List Kd) (ic:Nat) (hfit:Zhw ops kd ic=true)
  (R:(Nat→Prop)→Value→World→Prop) (f:FuncId) (args:Array Value)
  (hR:∀ X X' v u u',R X v u→(∀ k,k<u.heap.size→¬ X k→u'.heap[k]?=u.heap[k]?)→u.heap.size≤u'.heap.size→(∀ k,k<u.heap.size→X' k→X k)→R X' v u')
  (hC:∀ X u,Ext w.drew u→(∀ k,X k→w.heap.size≤k∧k<u.heap.size)→Calls P f args u (fun e u'=>∃ v,e = .returned v∧Ext u u'∧R X v u'))
  (hob:AllOb P kd w.drew (paAll a0 ops kd) R f args ops kd)
  (hcal:kd[ic]?=some .cal) (hil:ic<ops.length)
  (hQ:∀ vc β u,Ext w.drew u→R (Zhx kd β (fun _=>true)) vc u→(∀ (i:Nat) t z s cs,kd[i]?=some (.alo t z s cs)→w.heap.size≤β i∧u.heap[β i]?=some (.cells (cs vc) t (0,0))) →
   (∀ (i j:Nat) t z s cs t' z' s' cs',kd[i]?=some (.alo t z s cs)→kd[j]?=some (.alo t' z' s' cs')→i≠j→β i≠β j)→Q .normal (paAll a0 ops kd vc β) u) :
  (Code.region id ops.toArray true).wp P Q a0 w :=
 Zqz hm kd ic hfit R f args hR (fun X u hu hX=>hC X u hu (fun k hk=>⟨(hX k hk).1,(hX k hk).2.1⟩)) hob hcal hil hQ
theorem Ext.of {w w':World} (h:Kept Zcu w w'):Ext w w':=h.below (Qe _) (fun _ e=>e.elim)
theorem Ext.undrew {w u:World} (h:Ext w.drew u):Ext w u:=⟨h.os,h.tape,h.output,h.size,h.block⟩
theorem Ext.up {w u:World} (h:Ext w.drew u) {p:Addr} {v:Value} (hc:w.cell? p=some v):u.cell? p=some v:=(h.cell (World.block_lt_of_cell? w p hc)).trans hc
def cellsOf:Value→Array Value
 | .agg cs=>cs
 | _=>#[]
theorem box3 {w:World} {b:Nat} {u0 u1 u2:Value} {t:TypeId} (h:w.heap[b]?=some (.cells #[u0,u1,u2] t (0,0))) :
  w.cell? ⟨b,0,none⟩=some u0∧w.cell? ⟨b,1,none⟩=some u1∧w.cell? ⟨b,2,none⟩=some u2∧∀ i,w.frozen? ⟨b,i,none⟩=false :=
 ⟨Zaa h 0 _ rfl,Zaa h 1 _ rfl,Zaa h 2 _ rfl,fun i=>Zae h i⟩
def Zte (i:Nat):Value→Value
 | .tuple xs=>xs.getD i undef
 | _=>undef
def Zxf:Kd→Bool
 | .pur _=>true
 | .cal=>true
 | _=>false
def Zlc (ops:List Oper) (kd:List Kd) (ic fi:Nat):Bool :=
 ops.length == kd.length &&
 (List.range ops.length).all fun i=>match ops[i]?,kd[i]? with
  | some o,some q =>
   o.guard.isNone && (match o.op with | .select .. => false | _=>true) &&
   (o.after.all fun e => !Region.binds .any e || e.on<i) &&
   ((List.range ops.length).all fun j=>match ops[j]? with
    | some p=>match p.dst with
     | some d=>((j == i) || (o.dst != some d)) && (!(o.looksAt ops.toArray).contains d || Zcm o j)
     | none=>true
    | none=>true) &&
   (match q with
    | .pur _=>(List.range ops.length).any fun j=>i<j && (match ops[j]?,kd[j]? with | some p,some r=>Zcm p i && Zxf r | _,_=>false)
    | .cal=>i == ic
    | .post _=>(List.range i).any fun j=>Zcm o j && (match kd[j]? with | some r=>Zco r | none=>false)
    | .alo .. => false
    | .sto _=>i == fi && o.dst.isNone && ((List.range i).any fun j=>Zcm o j && (match kd[j]? with | some r=>Zco r | none=>false)))
  | _,_=>false
structure LastAt (ops:List Oper) (kd:List Kd) (ic fi i:Nat) (o:Oper) (q:Kd):Prop where
 gd:o.guard=none
 sel:∀ cs b,o.op ≠ .select cs b
 low:∀ e ∈ o.after,Region.binds .any e=true→e.on<i
 dst:∀ j p d,ops[j]?=some p→p.dst=some d→j=i∨o.dst≠some d
 look:∀ j p d,ops[j]?=some p→p.dst=some d→d ∈ o.looksAt ops.toArray→Zcm o j=true
 pur:∀ c,q = .pur c→∃ j p r,i<j∧ops[j]?=some p∧kd[j]?=some r∧Zcm p i=true∧Zxf r=true
 cal:q = .cal→i=ic
 post:Zch q=true→∃ j r,Zcm o j=true∧kd[j]?=some r∧Zco r=true
 alo:∀ t z s cs,q ≠ .alo t z s cs
 sto:∀ k,q = .sto k→i=fi∧o.dst=none
theorem Ztf {ops:List Oper} {kd:List Kd} {ic fi:Nat} (h:Zlc ops kd ic fi=true) {i:Nat} {o:Oper} (ho:ops[i]?=some o):∃ q,kd[i]?=some q∧LastAt ops kd ic fi i o q:=by
 unfold Zlc at h
 simp only [Bool.and_eq_true,List.all_eq_true,List.mem_range,beq_iff_eq] at h
 obtain ⟨hl,h⟩:=h
 have hi:=(Qa.1 ho).1
 have h:=h i hi
 rw [ho] at h
 cases hq:kd[i]? with
 | none=>rw [hq] at h; simp at h
 | some q =>
  rw [hq] at h
  simp only [Bool.and_eq_true,List.all_eq_true,List.mem_range] at h
  obtain ⟨⟨⟨⟨h1,h2⟩,h3⟩,h4⟩,h5⟩:=h
  have hpost:∀ (b:Bool),((List.range i).any fun j=>Zcm o j && (match kd[j]? with | some r=>Zco r | none=>false))=true→∃ j r,Zcm o j=true∧kd[j]?=some r∧Zco r=true:=by
   intro _ h
   simp only [List.any_eq_true,List.mem_range,Bool.and_eq_true] at h
   obtain ⟨j,_,h6,h7⟩:=h
   cases hr:kd[j]? with
   | none=>rw [hr] at h7; simp at h7
   | some r=>rw [hr] at h7; exact ⟨j,r,h6,hr,h7⟩
  refine ⟨q,rfl,?_,?_,?_,?_,?_,?_,?_,?_,?_,?_⟩
  ·simpa using h1
  ·intro cs b e; rw [e] at h2; simp at h2
  ·intro e he hb
   have:=Array.all_eq_true_iff_forall_mem.1 h3 e he
   simpa [hb] using this
  ·intro j p d hp hd
   have:=h4 j (Qa.1 hp).1
   rw [hp] at this
   simp only [hd,Bool.and_eq_true,Bool.or_eq_true,beq_iff_eq,bne_iff_ne] at this
   exact this.1
  ·intro j p d hp hd hm
   have:=h4 j (Qa.1 hp).1
   rw [hp] at this
   simp only [hd,Bool.and_eq_true,Bool.or_eq_true,beq_iff_eq,bne_iff_ne] at this
   rcases this.2 with h | h
   ·simp [hm] at h
   ·exact h
  ·intro c e
   subst e
   simp only [List.any_eq_true,List.mem_range,Bool.and_eq_true] at h5
   obtain ⟨j,hj,h6,h7⟩:=h5
   have hp:ops[j]?=some ops[j]:=Qb hj
   cases hr:kd[j]? with
   | none=>rw [hp,hr] at h7; simp at h7
   | some r =>
    rw [hp,hr] at h7
    simp only [Bool.and_eq_true] at h7
    exact ⟨j,_,r,by simpa using h6,hp,hr,h7.1,h7.2⟩
  ·intro e; subst e; simpa using h5
  ·intro hp
   cases q with
   | post g=>exact hpost true h5
   | sto k =>
    simp only [Bool.and_eq_true] at h5
    exact hpost true h5.2
   | _=>simp [Zch] at hp
  ·intro t z s cs e; subst e; simp at h5
  ·intro k e
   subst e
   simp only [Bool.and_eq_true,beq_iff_eq] at h5
   exact ⟨h5.1.1,by simpa using h5.1.2⟩
def ObL (P:Program) (w0:World) (FA:Value→Act) (R R':Value→World→Prop) (f:FuncId) (args:Array Value) (o:Oper):Kd→Prop
 | .pur c=>∀ vc,(execOp (FA vc).eval o).run P w0 = .ok (.value c) w0
 | .post g=>∀ vc w,R vc w∨R' vc w→(execOp (FA vc).eval o).run P w = .ok (.value (g vc)) w
 | .cal=>∀ vc,(execOp (FA vc).eval o).run P w0 = .ok (.enter f args) w0
 | .alo .. => True
 | .sto _=>∀ vc w,R vc w→∃ w',(execOp (FA vc).eval o).run P w = .ok .skip w'∧R' vc w'
def AllObL (P:Program) (w0:World) (FA:Value→Act) (R R':Value→World→Prop) (f:FuncId) (args:Array Value):List Oper→List Kd→Prop
 | o::os,q::qs=>ObL P w0 FA R R' f args o q∧AllObL P w0 FA R R' f args os qs
 | _,_=>True
theorem AllObL.at {P:Program} {w0:World} {FA:Value→Act} {R R':Value→World→Prop} {f:FuncId} {args:Array Value}:∀ {ops:List Oper} {ks:List Kd},AllObL P w0 FA R R' f args ops ks →
  ∀ {i:Nat} {o:Oper} {q:Kd},ops[i]?=some o→ks[i]?=some q→ObL P w0 FA R R' f args o q:=by
 intro ops
 induction ops with
 | nil=>intro ks _ i o q h; simp at h
 | cons p os ih =>
  intro ks h i o q ho hq
  cases ks with
  | nil=>simp at hq
  | cons r qs =>
   cases i with
   | zero=>simp at ho hq; subst ho hq; exact h.1
   | succ i=>exact ih h.2 (by simpa using ho) (by simpa using hq)
abbrev noB:Nat→Nat:=fun _=>0
structure LastPlan (ops:List Oper) (kd:List Kd) (ic fi:Nat) (a0:Act) (w0:World) (R R':Value→World→Prop) (L:Array Bool) (a:Act) (w:World):Prop where
 size:L.size=ops.length
 closed:∀ (i:Nat) o,ops[i]?=some o→L.getD i false=true→∀ j,Zcm o j=true→L.getD j false=true
 st:∃ vc,a=pa a0 vc noB (fun j=>L.getD j false) 0 ops kd∧(L.getD ic false=false→w=w0)∧(L.getD ic false=true→(L.getD fi false=false→R vc w)∧(L.getD fi false=true→R vc w∨R' vc w)∧(L.getD fi false=true→(∃ k,kd[fi]?=some (.sto k))→R' vc w)) ∧
  (∀ (i:Nat) q,kd[i]?=some q→L.getD i false=true→Zch q=true→L.getD ic false=true)
theorem Zds {P:Program} {ops:List Oper} {id:Nat} {Q:Exit→Act→World→Prop} {a0:Act} {w:World} (hm:P.follows .mixedOrders=true) (kd:List Kd) (ic fi:Nat) (hfit:Zlc ops kd ic fi=true)
  (R R':Value→World→Prop) (f:FuncId) (args:Array Value)
  (hC:Calls P f args w.drew (fun e u'=>∃ v,e = .returned v∧R v u'))
  (hob:AllObL P w.drew (fun vc=>paAll a0 ops kd vc noB) R R' f args ops kd)
  (hcal:kd[ic]?=some .cal) (hil:ic<ops.length) (hfi:(∃ k,kd[fi]?=some (.sto k))∨(ops.length≤fi∧∀ v u,R v u→R' v u))
  (hQ:∀ vc u,R' vc u→Q .normal (paAll a0 ops kd vc noB) u) :
  (Code.region id ops.toArray true).wp P Q a0 w:=by
 have hlen:ops.length=kd.length:=by
  unfold Zlc at hfit
  simp only [Bool.and_eq_true,beq_iff_eq] at hfit
  exact hfit.1
 have hkat:∀ {i':Nat} {q':Kd},kd[i']?=some q'→∃ o',ops[i']?=some o'∧LastAt ops kd ic fi i' o' q':=fun {i' q'} h1=>by
  have ho:=Qb (l:=ops) (i:=i') (by have:=(Qa.1 h1).1; omega)
  obtain ⟨q2,hq2,hF2⟩:=Ztf hfit ho
  rw [h1] at hq2; simp at hq2; subst hq2
  exact ⟨_,ho,hF2⟩
 refine wp_region_any hm (Zjf (J:=LastPlan ops kd ic fi a0 w.drew R R') ?_ ?_ _ _ _ _ ?_ ?_)
 ·intro L a u i hr hJ
  obtain ⟨hsz,hcl,vc,rfl,hw0,hcR,hpost⟩:=hJ
  obtain ⟨h0,o,ho',_⟩:=mem_ready.1 hr
  have ho:ops[i]?=some o:=by simpa using ho'
  have hi:i<ops.length:=(Qa.1 ho).1
  have hil:i<L.size:=by omega
  have hun:L.getD i false=false:=by simp [hil] at h0 ⊢; exact h0
  obtain ⟨q,hq,hF⟩:=Ztf hfit ho
  have hOb:=hob.at ho hq
  have hexec:execOp (pa a0 vc noB (fun j=>L.getD j false) 0 ops kd).eval o=execOp (paAll a0 ops kd vc noB).eval o:=by
   refine execOp_congr o hF.sel (fun x hx=>Zpe (fun j p hp hl d hd e => ?_))
   subst e
   have hw:=hF.look j p d hp hd (List.mem_append_left _ (List.mem_filterMap.2 ⟨.tmp d,by simpa using hx,rfl⟩))
   have:=Zbp hr ho hw
   simp only [Nat.zero_add] at hl
   rw [hl] at this
   simp at this
  have hwant:Region.wanted o (yielded ops.toArray (pa a0 vc noB (fun j=>L.getD j false) 0 ops kd).tmps)=true:=by simp [Region.wanted,hF.gd]
  have hL:=Zgv hil
  have hput:∀ vc',(∀ j r,kd[j]?=some r→L.getD j false=true→r.val vc noB j=r.val vc' noB j) →
    (pa a0 vc noB (fun j=>L.getD j false) 0 ops kd).put o.dst (q.val vc' noB i)=pa a0 vc' noB (fun j=>(L.setIfInBounds i true).getD j false) 0 ops kd:=by
   intro vc' hv
   have e1:pa a0 vc noB (fun j=>L.getD j false) 0 ops kd=pa a0 vc' noB (fun j=>L.getD j false) 0 ops kd:=Zdq (fun j r hr'=>by
    simp only [Nat.zero_add]
    exact ⟨trivial,fun hl=>hv j r hr' hl⟩)
   rw [e1]
   have e2:=Zuy (a0:=a0) (vc:=vc') (β:=noB) (lst:=fun j=>L.getD j false) (k:=0) ho hq (by simpa using hun) hF.dst
   simp only [Nat.zero_add] at e2
   rw [← e2]
   exact Zdq (fun j r hr'=>⟨by simp only [Nat.zero_add,hL],fun _=>rfl⟩)
  have hold:∀ j,L.getD j false=true→(L.setIfInBounds i true).getD j false=true:=fun j h=>by rw [hL,h]; rfl
  have hnew:∀ j,j≠i→(L.setIfInBounds i true).getD j false=L.getD j false:=fun j h=>by
   rw [hL]
   have:(j == i)=false:=by rw [Qu]; exact h
   simp [this]
  have hne:∀ {i':Nat} {q':Kd},kd[i']?=some q'→q'≠q→i'≠i:=fun {i' q'} h1 h2 e=>by
   subst e; rw [hq] at h1; exact h2 (Option.some.inj h1).symm
  have hcl':∀ (i':Nat) o',ops[i']?=some o'→(L.setIfInBounds i true).getD i' false=true→∀ j,Zcm o' j=true→(L.setIfInBounds i true).getD j false=true:=by
   intro i' o' h1 h2 j hj
   by_cases e:i'=i
   ·subst e
    rw [ho] at h1; simp at h1; subst h1
    exact hold _ (Zbp hr ho hj)
   ·exact hold _ (hcl i' o' h1 ((hnew i' e).symm.trans h2) j hj)
  have hpost':Zch q=false→∀ (i':Nat) q',kd[i']?=some q'→(L.setIfInBounds i true).getD i' false=true→Zch q'=true→(L.setIfInBounds i true).getD ic false=true:=fun hp i' q' h1 h2 h3 =>
   hold _ (hpost i' q' h1 ((hnew i' (hne h1 (fun e=>by rw [e,hp] at h3; simp at h3))).symm.trans h2) h3)
  have hcall:Zch q=true→L.getD ic false=true:=fun hp=>by
   obtain ⟨j,r,h1,h2,h3⟩:=hF.post hp
   have hj:=Zbp hr ho h1
   cases r with
   | post g=>exact hpost j _ h2 hj rfl
   | cal =>
    obtain ⟨o',_,hF'⟩:=hkat h2
    have:=hF'.cal rfl
    rw [← this]; exact hj
   | _=>simp [Zco] at h3
  -- the reads stand ahead of the call
  have hahead:∀ (n:Nat) (i':Nat) c,ops.length - i'≤n→kd[i']?=some (.pur c)→L.getD ic false=true→L.getD i' false=true:=by
   intro n
   induction n with
   | zero =>
    intro i' c hn h1 _
    have:=(Qa.1 h1).1
    omega
   | succ n ih =>
    intro i' c hn h1 h2
    obtain ⟨o',_,hF'⟩:=hkat h1
    obtain ⟨j,p,r,h3,h4,h5,h6,h7⟩:=hF'.pur c rfl
    have hjl:L.getD j false=true:=by
     cases r with
     | pur c'=>exact ih j c' (by omega) h5 h2
     | cal =>
      obtain ⟨o2,_,hF2⟩:=hkat h5
      rw [hF2.cal rfl]; exact h2
     | _=>simp [Zxf] at h7
    exact hcl j p h4 hjl i' h6
  unfold wpOp
  simp only [ho']
  rw [if_pos hwant]
  refine Or.inl ?_
  unfold Oper.wp
  rw [hexec]
  cases q with
  | pur c =>
   have hnc:L.getD ic false=false:=by
    cases h:L.getD ic false with
    | false=>rfl
    | true =>
     have:=hahead _ i c (Qe _) hq h
     rw [hun] at this; simp at this
   have hic:ic≠i:=hne hcal (by simp)
   have hu:=hw0 hnc
   subst hu
   rw [hOb vc]
   refine ⟨by simpa using hsz,hcl',vc,hput vc (fun _ _ _ _=>rfl),fun _=>rfl,?_,hpost' rfl⟩
   intro h
   rw [hnew ic hic,hnc] at h
   simp at h
  | post g =>
   have hic:=hcall rfl
   have hfn:fi≠i:=by
    rcases hfi with ⟨k,hk⟩ | ⟨hk,_⟩
    ·exact hne hk (by simp)
    ·omega
   have hS:R vc u∨R' vc u:=by
    cases h:L.getD fi false with
    | false=>exact Or.inl ((hcR hic).1 h)
    | true=>exact (hcR hic).2.1 h
   rw [hOb vc u hS]
   refine ⟨by simpa using hsz,hcl',vc,hput vc (fun _ _ _ _=>rfl),?_,?_,fun i' q' _ _ _=>hold _ hic⟩
   ·intro h
    have:=hold _ hic
    rw [h] at this; simp at this
   ·intro _
    rw [hnew fi hfn]
    exact hcR hic
  | cal =>
   have hie:=hF.cal rfl
   have hnc:L.getD ic false=false:=by rw [← hie]; exact hun
   have hu:=hw0 hnc
   subst hu
   rw [hOb vc]
   refine hC.mono ?_
   rintro e u' ⟨v,rfl,hr'⟩
   have hff:L.getD fi false=false:=by
    rcases hfi with ⟨k,hk⟩ | ⟨hk,_⟩
    ·cases h:L.getD fi false with
     | false=>rfl
     | true =>
      have:=hpost fi _ hk h rfl
      rw [hnc] at this; simp at this
    ·have:¬ fi<L.size:=by omega
     simp [this]
   have hfn:fi≠i:=by
    rcases hfi with ⟨k,hk⟩ | ⟨hk,_⟩
    ·exact hne hk (by simp)
    ·omega
   refine ⟨by simpa using hsz,hcl',v,hput v ?_,?_,?_,?_⟩
   ·intro j r h1 h2
    cases r with
    | post g =>
     have:=hpost j _ h1 h2 rfl
     rw [hnc] at this; simp at this
    | cal =>
     obtain ⟨o',_,hF'⟩:=hkat h1
     have:=hF'.cal rfl
     rw [this,hnc] at h2; simp at h2
    | _=>rfl
   ·intro h
    rw [← hie,hL] at h
    simp at h
   ·intro _
    rw [hnew fi hfn,hff]
    exact ⟨fun _=>hr',fun h=>by simp at h,fun h=>by simp at h⟩
   ·intro i' q' _ _ _
    rw [← hie,hL]; simp
  | alo t z s cs=>exact absurd rfl (hF.alo t z s cs)
  | sto k =>
   have hic:=hcall rfl
   obtain ⟨hif,hdn⟩:=hF.sto k rfl
   obtain ⟨w',hrun,hR'⟩:=hOb vc u ((hcR hic).1 (by rw [← hif]; exact hun))
   rw [hrun]
   refine ⟨by simpa using hsz,hcl',vc,hput vc (fun _ _ _ _=>rfl),?_,?_,fun i' q' _ _ _=>hold _ hic⟩
   ·intro h
    have:=hold _ hic
    rw [h] at this; simp at this
   ·intro _
    refine ⟨fun h => ?_,fun _=>Or.inr hR',fun _ _=>hR'⟩
    rw [← hif,hL] at h
    simp at h
 ·intro L a u hr hJ
  obtain ⟨hsz,hcl,vc,rfl,hw0,hcR,hpost⟩:=hJ
  have hall:∀ i,i<ops.length→L.getD i false=true:=by
   intro i
   induction i using Nat.strongRecOn with
   | _ i ih =>
    intro hi
    cases hl:L.getD i false with
    | true=>rfl
    | false =>
     exfalso
     have ho:ops[i]?=some ops[i]:=Qb hi
     obtain ⟨q,hq,hF⟩:=Ztf hfit ho
     have:i ∈ Region.ready .any ops.toArray L:=by
      refine mem_ready.2 ⟨?_,ops[i],by simp,fun e he hb=>ih e.on (hF.low e he hb) (by have:=hF.low e he hb; omega)⟩
      have hi':i<L.size:=by omega
      simp [hi'] at hl ⊢
      exact hl
     rw [hr] at this
     simp at this
  have e:pa a0 vc noB (fun j=>L.getD j false) 0 ops kd=paAll a0 ops kd vc noB:=Zdq (fun j r hr'=>⟨by
   simp only [Nat.zero_add]
   exact hall j (by have:=(Qa.1 hr').1; omega),fun _=>rfl⟩)
  rw [e]
  have hR:=hcR (hall ic hil)
  refine hQ vc u ?_
  rcases hfi with ⟨k,hk⟩ | ⟨hk,hRR⟩
  ·exact hR.2.2 (hall fi (by have:=(Qa.1 hk).1; omega)) ⟨k,hk⟩
  ·refine hRR _ _ (hR.1 ?_)
   have:¬ fi<L.size:=by omega
   simp [this]
 ·have:(ops.toArray).size=ops.length:=by simp
  unfold unl
  exact Qq (List.length_filter_le _ _) (by simp)
 ·have hz:∀ j,(Array.replicate ops.toArray.size false).getD j false=false:=fun j=>by
   simp only [Array.getD_eq_getD_getElem?,Array.getElem?_replicate]
   split <;> rfl
  refine ⟨by simp,?_,undef,?_,fun _=>rfl,?_,?_⟩
  ·intro i o _ h; rw [hz] at h; simp at h
  ·have:∀ (k:Nat) (os:List Oper) (qs:List Kd),pa a0 undef noB (fun j=>(Array.replicate ops.toArray.size false).getD j false) k os qs=a0:=by
    intro k os
    induction os generalizing k with
    | nil=>intro qs; simp [pa]
    | cons o os ih =>
     intro qs
     cases qs with
     | nil=>simp [pa]
     | cons q qs=>rw [pa,hz]; simp only [Bool.false_eq_true,if_false]; exact ih _ _
   exact (this _ _ _).symm
  ·intro h; rw [hz] at h; simp at h
  ·intro i q _ h; rw [hz] at h; simp at h
structure CellS where
 sym:Sym
 kids:List Nat
 up:Nat
def turn (cs:List CellS) (x y:Nat):List CellS:=cs.modify x (fun c => { c with up:=y })
theorem Zuz (cs:List CellS) (x y:Nat):(turn cs x y).length=cs.length:=by simp [turn]
theorem Zpg (cs:List CellS) (x y i:Nat):(turn cs x y)[i]?=(cs[i]?).map (fun c=>if x=i then { c with up:=y } else c):=by
 simp only [turn,List.getElem?_modify]
 cases cs[i]? with
 | none=>rfl
 | some c=>simp
def UpOk (cs:List CellS) (ρ rk:Nat→Nat):Prop:=∀ (i:Nat) c,cs[i]?=some c→c.up<cs.length∧ρ c.up=ρ i∧(c.up=i→ρ i=i)∧(c.up≠i→rk c.up<rk i)
theorem UpOk.root {cs:List CellS} {ρ rk:Nat→Nat} (h:UpOk cs ρ rk):∀ (n i:Nat) c,rk i≤n→cs[i]?=some c→∃ c',cs[ρ i]?=some c'∧c'.up=ρ i∧ρ (ρ i)=ρ i:=by
 intro n
 induction n with
 | zero =>
  intro i c hn hc
  obtain ⟨h1,h2,h3,h4⟩:=h i c hc
  by_cases e:c.up=i
  ·rw [h3 e]; exact ⟨c,hc,e,h3 e⟩
  ·have:=h4 e; omega
 | succ n ih =>
  intro i c hn hc
  obtain ⟨h1,h2,h3,h4⟩:=h i c hc
  by_cases e:c.up=i
  ·rw [h3 e]; exact ⟨c,hc,e,h3 e⟩
  ·have:=h4 e
   rw [← h2]
   exact ih c.up _ (by omega) (Qb h1)
theorem UpOk.rt {cs:List CellS} {ρ rk:Nat→Nat} (h:UpOk cs ρ rk):Rt cs.length ρ:=by
 refine ⟨fun i hi => ?_,fun i hi => ?_⟩
 ·obtain ⟨c',h1,_,_⟩:=h.root _ i _ (Qe _) (Qb hi)
  exact (Qa.1 h1).1
 ·obtain ⟨c',_,_,h3⟩:=h.root _ i _ (Qe _) (Qb hi)
  exact h3
def Zgd (cs:List CellS):Nat:=((List.range cs.length).filter (fun i=>((cs[i]?).map (fun c=>c.up == i)).getD false)).length
theorem Zra {cs:List CellS} {x y:Nat} {c:CellS} (hx:cs[x]?=some c) (hr:c.up=x) (hne:x≠y):Zgd (turn cs x y)<Zgd cs:=by
 unfold Zgd
 rw [Zuz]
 refine Zqy (x:=x) (fun i _ hi => ?_) (List.mem_range.2 (Qa.1 hx).1) (by simp [hx,hr]) ?_
 ·rw [Zpg] at hi
  cases hc:cs[i]? with
  | none=>rw [hc] at hi; simp at hi
  | some d =>
   rw [hc] at hi
   simp only [Option.map_some,Option.getD_some,beq_iff_eq] at hi ⊢
   split at hi
   ·rename_i e; subst e; simp at hi; exact absurd hi.symm hne
   ·exact hi
 ·rw [Zpg,hx]
  simp
  exact fun e=>hne e.symm
theorem UpOk.turn {cs:List CellS} {ρ rk:Nat→Nat} (h:UpOk cs ρ rk) {x y:Nat} (hx:x<cs.length) (hy:y<cs.length) (rx:ρ x=x) (ry:ρ y=y) (hne:x≠y) :
  UpOk (YtlmjilpjmgjjcaaGreatDoor.turn cs x y) (mg ρ x y) (fun i=>if ρ i=x then rk i+rk y+1 else rk i):=by
 intro i c hc
 rw [Zpg] at hc
 cases hd:cs[i]? with
 | none=>rw [hd] at hc; simp at hc
 | some d =>
  rw [hd] at hc
  simp only [Option.map_some,Qo] at hc
  obtain ⟨h1,h2,h3,h4⟩:=h i d hd
  rw [Zuz]
  by_cases e:x=i
  ·subst e
   rw [if_pos rfl] at hc
   subst hc
   refine ⟨hy,?_,fun e=>absurd e.symm hne,fun _ => ?_⟩
   ·unfold mg
    rw [rx,ry,if_pos rfl,if_neg (fun e=>hne e.symm)]
   ·simp only [rx,ry,if_true]
    rw [if_neg (fun e=>hne e.symm)]; omega
  ·rw [if_neg e] at hc
   subst hc
   refine ⟨h1,?_,fun e' => ?_,fun e' => ?_⟩
   ·unfold mg; rw [h2]
   ·have:=h3 e'
    unfold mg
    rw [this,if_neg (fun e''=>e e''.symm)]
   ·have:=h4 e'
    simp only [h2]
    split <;> omega
theorem Zkn (w:World) (g n cap i:Nat) (u:Value):Kept (Zbl (.slice (some ⟨g,0,none⟩) n cap)) w (w.setCell ⟨g,i,none⟩ u):=(Qx _ w).setCell (p:=⟨g,i,none⟩) (fun _=>(rfl:some g=some g)) u
theorem Zrb {l:List Nat} {k n:Nat} (h:l[k]?=some n):l.take (k+1)=l.take k++[n]:=by rw [List.take_add_one,h]; rfl
theorem Zva {w:World} {B e size n:Nat} {v:Value} {xs:List Value} (h:w.ownsRow B e size v n xs):∀ k,Zbl v k→∃ cl fr,w.heap[k]?=some (.cells cl e fr):=fun k hk=>by
 rcases h.2 with ⟨rfl,_⟩ | ⟨g,cap,cur,rfl,_,hg,_⟩
 ·simp [Zbl,Value.ownBlock] at hk
 ·simp [Zbl,Value.ownBlock] at hk
  subst hk
  exact ⟨_,_,hg⟩
def OfTy (S:Nat→Prop) (w:World) (t:TypeId):Prop:=∀ k,S k→∃ cl fr,w.heap[k]?=some (.cells cl t fr)
theorem OfTy.block {S:Nat→Prop} {w w':World} {t t':TypeId} {k:Nat} {cl:Array Value} {fr:Nat × Nat} (hS:OfTy S w t) (hk:Kept S w w') (h:w.heap[k]?=some (.cells cl t' fr)) (ht:t'≠t):w'.heap[k]?=some (.cells cl t' fr) :=
 (hk.block k (Zab h) (fun hs=>by
  obtain ⟨cl',fr',h1⟩:=hS k hs
  rw [h] at h1
  simp at h1
  exact ht h1.2.1)).trans h
theorem OfTy.row {S:Nat→Prop} {w w':World} {t B e size n:Nat} {v:Value} {xs:List Value} (hS:OfTy S w t) (hk:Kept S w w') (h:w.ownsRow B e size v n xs) (ht:e≠t):w'.ownsRow B e size v n xs :=
 Zal h (fun k hj=>by
  obtain ⟨cl,fr,h1⟩:=Zva h k hj
  rw [hS.block hk h1 ht,h1])
def symA (i:Nat):UInt8:=[97,98,99,88,89,90].getD i 0
def symP (i:Nat):UInt8:=[112,113,114].getD i 0
def argT (i:Nat):GT:=if i<3 then .n [symA i] else .v [symA i]
def atT (P A B:Nat):GT := .g [symP P] (argT A) (argT B)
theorem Zrc (i:Nat):(argT i).text=[symA i]:=by unfold argT; split <;> rfl
theorem Yam (i:Nat):(argT i).size=1:=by unfold argT; split <;> rfl
theorem Yan (i:Nat) (h:i<6):(argT i).ok=true:=by
 rcases (by omega:i=0∨i=1∨i=2∨i=3∨i=4∨i=5) with rfl | rfl | rfl | rfl | rfl | rfl <;> decide +kernel
theorem Zhy (P A B:Nat) (hP:P<3) (hA:A<6) (hB:B<6):(atT P A B).fine=true:=by
 have hw:Zjb Zdx [symP P]=true:=by rcases (by omega:P=0∨P=1∨P=2) with rfl | rfl | rfl <;> decide +kernel
 unfold GT.fine
 rw [Bool.and_eq_true,Bool.and_eq_true]
 exact ⟨rfl,by simp only [atT,GT.ok]; rw [hw,Yan A hA,Yan B hB]; rfl,by rw [decide_eq_true_eq]; simp only [atT,GT.size,Yam]; omega⟩
theorem Zhl (P A B:Nat):(atT P A B).text.length=6:=by simp [atT,GT.text,Zrc]
theorem cut_p (P:Nat) (h:P<3):(⟨#[112,113,114]⟩:ByteArray).extract P (P+1)=⟨[symP P].toArray⟩:=by
 rcases (by omega:P=0∨P=1∨P=2) with rfl | rfl | rfl <;> rw [Lib.extract_eq] <;> rfl
theorem Yiy (A:Nat) (h:A<6):(⟨#[97,98,99,88,89,90]⟩:ByteArray).extract A (A+1)=⟨[symA A].toArray⟩:=by
 rcases (by omega:A=0∨A=1∨A=2∨A=3∨A=4∨A=5) with rfl | rfl | rfl | rfl | rfl | rfl <;> rw [Lib.extract_eq] <;> rfl
theorem Yao (P A B:Nat):(⟨(atT P A B).text.toArray⟩:ByteArray)=⟨[symP P].toArray⟩++⟨#[40]⟩++⟨[symA A].toArray⟩++⟨#[44]⟩++⟨[symA B].toArray⟩++⟨#[41]⟩:=by
 show _=⟨[symP P].toArray⟩++(⟨[40].toArray⟩:ByteArray)++⟨[symA A].toArray⟩++(⟨[44].toArray⟩:ByteArray)++⟨[symA B].toArray⟩++(⟨[41].toArray⟩:ByteArray)
 rw [Zbk,Zbk,Zbk,Zbk,Zbk]
 simp [atT,GT.text,Zrc]
theorem Znp (P A B:Nat) (hP:P<3) (hA:A<6) (hB:B<6) (w:World):Calls Tryz.prog 40 #[.agg #[.int .i64 P,.int .i64 A,.int .i64 B]] w fun e w'=>e = .returned (.string ⟨(atT P A B).text.toArray⟩)∧Ext w w':=by
 have e1:=cut_p P hP
 have e2:=Yiy A hA
 have e3:=Yiy B hB
 have He:=Zac (Yao P A B)
 go_enter Tryz.func40,Tryz.ntmps40
 go_wp2_with fail
 go_quiet (fail)
 go_wp2
 go_ret
 exact ⟨by rw [He.out,← e1,← e2,← e3]; rfl,(Ext.of (by repeat' (first | with_reducible(first|exact Qx _ _|apply Kept.drew|apply Kept.drewN|apply Qz|refine Qy ?_ ?_ _)|exact fun h=>absurd h (by simp <;> omega))))⟩
def Zfo:List GT→List UInt8
 | []=>[]
 | t::r=>Zdd t r
theorem Yap:∀ (r:List GT) (t u:GT),Zdd t (r++[u])=Zdd t r++(44::u.text):=by
 intro r
 induction r with
 | nil=>intro t u; rfl
 | cons x r ih=>intro t u; simp [Zdd,ih]
theorem Zxg {l:List GT} (h:l≠[]) (u:GT):Zfo (l++[u])=Zfo l++(44::u.text):=by
 cases l with
 | nil=>exact absurd rfl h
 | cons t r=>exact Yap r t u
def atC (x:Nat × Nat × Nat):List Value:=[.int .i64 x.1,.int .i64 x.2.1,.int .i64 x.2.2]
def atG (x:Nat × Nat × Nat):GT:=atT x.1 x.2.1 x.2.2
def AtOk (x:Nat × Nat × Nat):Prop:=x.1<3∧x.2.1<6∧x.2.2<6
structure AtomsIn (w:World) (v:Value) (l:List (Nat × Nat × Nat)):Prop where
 owns:w.ownsRow 0 45 3 v l.length (l.flatMap atC)
 ok:∀ x ∈ l,AtOk x
theorem AtomsIn.ext {w w':World} {v:Value} {l:List (Nat × Nat × Nat)} (h:AtomsIn w v l) (e:Ext w w'):AtomsIn w' v l:=⟨Zal h.owns (fun k hk=>e.block k (h.owns.lt k hk).2),h.ok⟩
theorem Yee:∀ (l:List (Nat × Nat × Nat)) (k:Nat) (x:Nat × Nat × Nat),l[k]?=some x→(l.flatMap atC)[k * 3]?=some (.int .i64 x.1)∧(l.flatMap atC)[k * 3+1]?=some (.int .i64 x.2.1)∧(l.flatMap atC)[k * 3+2]?=some (.int .i64 x.2.2):=by
 intro l
 induction l with
 | nil=>intro k x h; simp at h
 | cons y l ih =>
  intro k x h
  cases k with
  | zero=>simp at h; subst h; simp [atC]
  | succ k =>
   simp at h
   have:=ih k x h
   simp only [List.flatMap_cons]
   rw [Qd (by simp [atC]; omega),Qd (by simp [atC]; omega),Qd (by simp [atC]; omega)]
   simpa [atC,show (k+1) * 3 - 3=k * 3 by omega,show (k+1) * 3+1 - 3=k * 3+1 by omega,show (k+1) * 3+2 - 3=k * 3+2 by omega] using this
theorem AtomsIn.cells {w:World} {a:Option Addr} {c:Nat} {l:List (Nat × Nat × Nat)} (h:AtomsIn w (.slice a l.length c) l) {k:Nat} {x:Nat × Nat × Nat} (hx:l[k]?=some x):∃ g,a=some ⟨g,0,none⟩∧g<w.heap.size∧w.cell? ⟨g,k * 3,none⟩=some (.int .i64 x.1)∧w.cell? ⟨g,k * 3+1,none⟩=some (.int .i64 x.2.1)∧w.cell? ⟨g,k * 3+2,none⟩=some (.int .i64 x.2.2):=by
 have hk:=(Qa.1 hx).1
 rcases h.owns.2 with ⟨h1,h2⟩ | ⟨g,cap,cur,h1,_⟩
 ·omega
 ·simp only [Value.slice.injEq] at h1
  obtain ⟨rfl,_,rfl⟩:=h1
  obtain ⟨y0,y1,y2⟩:=Yee l k x hx
  exact ⟨g,rfl,(h.owns.lt g rfl).2,Zag h.owns _ _ y0,Zag h.owns _ _ y1,Zag h.owns _ _ y2⟩
theorem Zko (w:World) (a:Option Addr) (c:Nat) (l:List (Nat × Nat × Nat)) (h:AtomsIn w (.slice a l.length c) l) (hl:l.length≤100):Calls Tryz.prog 17 #[.slice a l.length c] w fun e w'=>e = .returned (.string ⟨(Zfo (l.map atG)++[46]).toArray⟩)∧Ext w w':=by
 have H:Hid (∀ u,Ext w u→AtomsIn u (.slice a l.length c) l):=fun u hu=>h.ext hu
 have HO:=Zac h.ok
 have HT:=Zac (fun P A B (hP:P<3) (hA:A<6) (hB:B<6) u=>Znp P A B hP hA hB u)
 clear h
 go_enter Tryz.func17,Tryz.ntmps17
 go_wp2
 go_loopw [3,4] (fun sv i u=>∃ (k:Nat) (J:List UInt8),k≤l.length∧i = .int .i64 k∧sv = .string ⟨J.toArray⟩∧J=Zfo ((l.take k).map atG)∧J.length≤7 * k∧Ext w u) (fun _ i _=>l.length - (intOf i).toNat)
 case atStart=>exact ⟨0,[],Qm _,rfl,rfl,rfl,by simp,Below.refl _ _⟩
 case round =>
  obtain ⟨k,J,hk,rfl,rfl,hJ,hjl,hEu⟩:=hrel
  have HJ:=Zac hJ
  clear hJ
  have HEu:=Zac hEu
  by_cases hlt:k<l.length
  ·obtain ⟨x,hx⟩:∃ x,l[k]?=some x:=⟨_,Qb hlt⟩
   obtain ⟨g,rfl,hg,d0,d1,d2⟩:=(H.out wr hEu).cells hx
   obtain ⟨o1,o2,o3⟩:=HO.out x (Qh hx)
   have htk:(l.take (k+1)).map atG=(l.take k).map atG++[atG x]:=by rw [List.take_add_one,hx]; simp
   have HTx:=Zac (HT.out x.1 x.2.1 x.2.2 o1 o2 o3)
   have hal:(atT x.1 x.2.1 x.2.2).text.length=6:=Zhl _ _ _
   have hx6:(atG x).text.length=6:=hal
   by_cases h0:k=0
   ·subst h0
    have Hs:Hid (∃ J',J'=Zfo ((l.take (0+1)).map atG)∧(⟨J.toArray⟩:ByteArray)++⟨(atT x.1 x.2.1 x.2.2).text.toArray⟩=⟨J'.toArray⟩∧J'.length≤7):=by
     refine ⟨(atG x).text,?_,?_,by omega⟩
     ·rw [htk]
      simp [Zfo,Zdd]
     ·rw [HJ.out,Zbk]
      simp [Zfo,atG]
    clear hEu hx htk
    go_wp2_with fail
    refine (HTx.out _).mono ?_
    rintro e w3 ⟨rfl,hE3⟩
    have HE3:=Zac (HEu.out.trans (hE3.mono HEu.out.size))
    clear hE3
    go_wp2
    go_roundw
    case rel =>
     obtain ⟨J',j1,j2,j3⟩:=Hs.out
     exact ⟨0+1,J',by omega,by go_num,by rw [j2],j1,by omega,HE3.out⟩
    case measure=>simp [intOf]; omega
   ·have hne:(l.take k).map atG≠[]:=by
     intro e
     have:=congrArg List.length e
     simp only [Ql,List.length_take,Jt] at this
     omega
    have Hs:Hid (∃ J',J'=Zfo ((l.take (k+1)).map atG)∧(⟨J.toArray⟩:ByteArray)++⟨#[44]⟩++⟨(atT x.1 x.2.1 x.2.2).text.toArray⟩=⟨J'.toArray⟩∧J'.length≤7 * (k+1)):=by
     refine ⟨J++(44::(atG x).text),?_,?_,by simp only [Qg,Qf]; omega⟩
     ·rw [htk,Zxg hne,HJ.out]
     ·show (⟨J.toArray⟩:ByteArray)++⟨[44].toArray⟩++⟨(atT x.1 x.2.1 x.2.2).text.toArray⟩=_
      rw [Zbk,Zbk]
      simp [atG]
    have hpos:(0:Int)<(k:Int):=by omega
    clear hEu hx htk hne
    go_wp2_with fail
    refine (HTx.out _).mono ?_
    rintro e w3 ⟨rfl,hE3⟩
    have HE3:=Zac (HEu.out.trans (hE3.mono HEu.out.size))
    clear hE3
    go_wp2
    go_roundw
    case rel =>
     obtain ⟨J',j1,j2,j3⟩:=Hs.out
     exact ⟨k+1,J',by omega,by go_num,by rw [j2],j1,j3,HE3.out⟩
    case measure=>simp [intOf]; omega
  ·obtain rfl:k=l.length:=by omega
   have Hs:Hid ((⟨(Zfo (l.map atG)++[46]).toArray⟩:ByteArray)=⟨J.toArray⟩++⟨#[46]⟩):=by
    show _=⟨J.toArray⟩++(⟨[46].toArray⟩:ByteArray)
    rw [Zbk,HJ.out,List.take_length]
   clear hEu
   go_wp2
   go_ret
   exact ⟨by rw [Hs.out]; rfl,HEu.out⟩
def Zph (c:Int) (n:Nat):Nat:=((if c<0 then -(c+1) else c) % (n:Int)).toNat
theorem Yef (c:Int) (n:Nat) (hn:0<n):Zph c n<n:=by
 have h1:=Int.emod_nonneg (if c<0 then -(c+1) else c) (show (n:Int)≠0 by omega)
 have h2:=Int.emod_lt_of_pos (if c<0 then -(c+1) else c) (show (0:Int)<n by omega)
 unfold Zph
 omega
theorem Yeg (c:Int) (n:Nat) (w:World) (hc : -9223372036854775808≤c∧c<9223372036854775808) (hn:0<n∧n<1000000) :
  Calls Tryz.prog 45 #[.int .i64 c,.int .i64 n] w fun e w'=>e = .returned (.int .i64 (Zph c n))∧w'=w:=by
 have hn0:¬ (n:Int)=0:=by omega
 obtain ⟨hc1,hc2⟩:=hc
 obtain ⟨hn1,hn2⟩:=hn
 by_cases h0:c<0
 ·have e : -((c+1).tmod n)=(Zph c n:Int):=by
   unfold Zph
   rw [if_pos h0,← Int.neg_tmod,Int.tmod_eq_emod_of_nonneg (by omega),Int.toNat_of_nonneg (Int.emod_nonneg _ hn0)]
  go_enter Tryz.func45,Tryz.ntmps45
  go_wp2
  go_ret
  exact ⟨by first | rfl | (rw [← e]; rfl) | simp [e],rfl⟩
 ·have e:c.tmod n=(Zph c n:Int):=by
   unfold Zph
   rw [if_neg h0,Int.tmod_eq_emod_of_nonneg (by omega),Int.toNat_of_nonneg (Int.emod_nonneg _ hn0)]
  have e':c % n=(Zph c n:Int):=by rw [← e,Int.tmod_eq_emod_of_nonneg (by omega)]
  go_enter Tryz.func45,Tryz.ntmps45
  go_wp2
  go_ret
  exact ⟨by first | rfl | (rw [← e]; rfl) | (rw [← e']; rfl) | simp [e,e'],rfl⟩
structure RawAt (w:World) (B b:Nat) (ra:Option Addr) (rl rc:Nat) (at':Nat):Prop where
 le:B≤b
 box:w.heap[b]?=some (.cells #[.slice ra rl rc,.int .i64 at'] 28 (0,0))
 far:at'≤rl
 len:rl≤9223372036854775807
 cells:∀ i,i<rl→∃ (k off:Nat) (c:Int),ra=some ⟨k,off,none⟩∧k<B∧w.cell? ⟨k,off+i,none⟩=some (.int .i64 c) ∧ -9223372036854775808≤c∧c<9223372036854775808
def RawIn (w:World) (B b:Nat) (ra:Option Addr) (rl rc:Nat):Prop:=∃ at',RawAt w B b ra rl rc at'
theorem RawAt.put {w w':World} {B b:Nat} {ra:Option Addr} {rl rc at' at2:Nat} (h:RawAt w B b ra rl rc at') (hK:Kept (only b) w w') (hb:w'.heap[b]?=some (.cells #[.slice ra rl rc,.int .i64 at2] 28 (0,0))) (h2:at2≤rl):RawAt w' B b ra rl rc at2:=by
 refine ⟨h.le,hb,h2,h.len,fun i hi => ?_⟩
 obtain ⟨k,off,c,h1,h3,h4,h5⟩:=h.cells i hi
 exact ⟨k,off,c,h1,h3,hK.cell h4 (fun e=>by have e:k=b:=e; have:=h.le; omega),h5⟩
theorem Zdt (w:World) (B b:Nat) (ra:Option Addr) (rl rc:Nat) (h:RawIn w B b ra rl rc) (n:Nat) (hn:0<n∧n≤100) :
  Calls Tryz.prog 23 #[.pointer (some ⟨b,0,none⟩),.int .i64 n] w fun e w'=>∃ v:Nat,v<n∧e = .returned (.int .i64 v)∧Kept (only b) w w'∧RawIn w' B b ra rl rc:=by
 obtain ⟨p,h⟩:=h
 have c0:=Zaa h.box 0 _ rfl
 have c1:=Zaa h.box 1 _ rfl
 have hb:=Zab h.box
 have hf:=fun i=>Zae h.box i
 have hfar:=h.far
 have hlen:=h.len
 have HR:=Zac h
 by_cases hlt:p<rl
 ·obtain ⟨k,off,c,rfl,hk,hc,hc1,hc2⟩:=h.cells p hlt
  have hkb:k<w.heap.size:=by have:=h.le; omega
  have HP:=Zac (fun u=>Yeg c n u ⟨hc1,hc2⟩ ⟨hn.1,by omega⟩)
  have hpl:=Yef c n hn.1
  obtain ⟨v,hv⟩:∃ v,v=Zph c n:=⟨_,rfl⟩
  rw [← hv] at HP hpl
  have hI:¬ (rl:Int)≤(p:Int):=by omega
  have hI2:decide ((rl:Int)≤(p:Int))=false:=by simpa using hI
  clear h hv
  go_enter Tryz.func23,Tryz.ntmps23
  go_wp2_with fail
  go_quiet (fail)
  go_wp2_with fail
  have d0:(w.drewN nq).cell? ⟨b,0,none⟩=some (.slice (some ⟨k,off,none⟩) rl rc):=c0
  have d1:(w.drewN nq).cell? ⟨b,1,none⟩=some (.int .i64 p):=c1
  have dc:(w.drewN nq).cell? ⟨k,off+p,none⟩=some (.int .i64 c):=hc
  have df:∀ i,(w.drewN nq).frozen? ⟨b,i,none⟩=false:=hf
  have db:b<(w.drewN nq).heap.size:=hb
  have HK:Hid (Kept (only b) w (w.drewN nq)):=(Qx _ _).drewN nq
  have HB:Hid ((w.drewN nq).heap[b]?=some (.cells #[.slice (some ⟨k,off,none⟩) rl rc,.int .i64 p] 28 (0,0))):=HR.out.box
  clear c0 c1 hc hf hb hkb
  generalize w.drewN nq=W at d0 d1 dc df db HK HB ⊢
  go_quiet ((go_at_call 45; exact Calls.quiet_of_same (HP.out _)))
  go_wp2
  go_ret
  have hKe:∀ u:Value,Kept (only b) W (W.setCell ⟨b,1,none⟩ u):=fun u=>(Qx _ _).put 1 u
  refine ⟨v,hpl,rfl,?_,p+1,?_⟩
  ·exact HK.out.trans (by repeat (first | with_reducible exact Qx _ _ | with_reducible apply Kept.drewN | with_reducible apply Kept.put))
  ·refine HR.out.put (HK.out.trans (by repeat (first | with_reducible exact Qx _ _ | with_reducible apply Kept.drewN | with_reducible apply Kept.put))) ?_ (by omega)
   exact Zai HB.out 1 _
 ·have hI:(rl:Int)≤(p:Int):=by omega
  have hI2:decide ((rl:Int)≤(p:Int))=true:=by simpa using hI
  clear h
  go_enter Tryz.func23,Tryz.ntmps23
  go_wp2_with fail
  go_quiet (fail)
  go_wp2
  go_ret
  exact ⟨0,hn.1,rfl,(Qx _ _).drewN _,p,HR.out.put ((Qx _ _).drewN _) HR.out.box hfar⟩
theorem Zft {S:Nat→Prop} {w w':World} (h:Ext w w'):Kept S w w':=⟨h.os,h.tape,h.output,h.size,fun k hk _=>h.block k hk⟩
theorem RawIn.keep {S:Nat→Prop} {w w':World} {B b:Nat} {ra:Option Addr} {rl rc:Nat} (h:RawIn w B b ra rl rc) (hk:Kept S w w') (hb:¬ S b) (hB:∀ k,S k→B≤k):RawIn w' B b ra rl rc:=by
 obtain ⟨p,h⟩:=h
 refine ⟨p,h.le,(hk.block b (Zab h.box) hb).trans h.box,h.far,h.len,fun i hi => ?_⟩
 obtain ⟨k,off,c,h1,h2,h3,h4⟩:=h.cells i hi
 exact ⟨k,off,c,h1,h2,hk.cell h3 (fun e=>by have:=hB k e; omega),h4⟩
theorem RawIn.ext {w w':World} {B b:Nat} {ra:Option Addr} {rl rc:Nat} (h:RawIn w B b ra rl rc) (e:Ext w w'):RawIn w' B b ra rl rc :=
 h.keep (S:=fun _=>False) ⟨e.os,e.tape,e.output,e.size,fun k hk _=>e.block k hk⟩ (fun h=>h) (fun _ h=>h.elim)
theorem Zfk (w:World) (B b:Nat) (ra:Option Addr) (rl rc:Nat) (h:RawIn w B b ra rl rc) (p:Nat) (hp:p<3):Calls Tryz.prog 24 #[.pointer (some ⟨b,0,none⟩),.int .i64 p] w fun e w'=>∃ x:Nat × Nat × Nat,AtOk x∧x.1=p∧e = .returned (.agg #[.int .i64 x.1,.int .i64 x.2.1,.int .i64 x.2.2])∧Kept (only b) w w'∧RawIn w' B b ra rl rc:=by
 have hbl:b<w.heap.size:=by obtain ⟨q,h⟩:=h; exact Zab h.box
 have HT:=Zac (Zdt (w.alloc (.cells #[.int .i64 0,.int .i64 0,.int .i64 0] 45)) B b ra rl rc (h.ext (Ext.of (by repeat' (first | with_reducible(first|exact Qx _ _|apply Kept.drew|apply Kept.drewN|apply Qz|refine Qy ?_ ?_ _)|exact fun h=>absurd h (by simp <;> omega))))) 6 ⟨by omega,by omega⟩)
 clear h
 go_enter Tryz.func24,Tryz.ntmps24
 go_wp2_with fail
 refine HT.out.mono ?_
 rintro e w1 ⟨A,hA,rfl,hK,hR⟩
 have HT2:=Zac (Zdt w1 B b ra rl rc hR 6 ⟨by omega,by omega⟩)
 have HK:=Zac hK
 clear hK hR HT
 go_wp2_with fail
 refine HT2.out.mono ?_
 rintro e w2 ⟨C,hC,rfl,hK2,hR2⟩
 have hbx:w2.heap[w.heap.size]?=some (.cells #[.int .i64 0,.int .i64 0,.int .i64 0] 45 (0,0)):=((HK.out.trans hK2).block _ (by simp) (fun e=>by have e:w.heap.size=b:=e; omega)).trans (heap_alloc_new w _)
 have c0:=Zaa hbx 0 _ rfl
 have c1:=Zaa hbx 1 _ rfl
 have c2:=Zaa hbx 2 _ rfl
 have cf:=fun i=>Zae hbx i
 have cl:=Zab hbx
 have HK2:=Zac (HK.out.trans hK2)
 have Hfin:Hid (∀ Z,Kept (fun k=>k=w.heap.size) w2 Z→Kept (only b) w Z∧RawIn Z B b ra rl rc):=fun Z hZ=>by
  have hB:B≤w.heap.size:=by obtain ⟨q,h⟩:=hR2; have:=h.le; omega
  refine ⟨?_,hR2.keep hZ (fun e=>by omega) (fun k e=>by omega)⟩
  have k1:Kept (only b) w w2:=((Qx (only b) w).alloc _).trans HK2.out
  exact k1.then hZ (fun i hi e=>by omega)
 clear hK2 hR2 hbx HT2
 go_wp2
 refine bodyPost_ret (v := .agg #[.int .i64 p,.int .i64 A,.int .i64 C]) (by simp [results,Tryz.results24,go_sem,c0,c1,c2,cf,cl]) rfl ?_
 refine ⟨(p,A,C),⟨hp,hA,hC⟩,rfl,rfl,?_⟩
 refine Hfin.out _ ?_
 repeat (first | with_reducible exact Qx _ _ | with_reducible apply Kept.drew | with_reducible refine Qy ?_ (fun _=>by simp) _)
abbrev At3:=Nat × Nat × Nat
def RlOk (x:At3 × List At3):Prop:=AtOk x.1∧(∀ y ∈ x.2,AtOk y)∧x.2.length≤2
def rlG (x:At3 × List At3):GT × List GT:=(atG x.1,x.2.map atG)
structure RulesIn (w:World) (v:Value) (R:List (At3 × List At3)) (xs:List Value):Prop where
 owns:w.ownsRow 0 82 4 v R.length xs
 all:∀ (k:Nat) (x:At3 × List At3),R[k]?=some x→∃ (a:Option Addr) (c:Nat),xs[k * 4]?=some (.int .i64 x.1.1)∧xs[k * 4+1]?=some (.int .i64 x.1.2.1)∧xs[k * 4+2]?=some (.int .i64 x.1.2.2)∧xs[k * 4+3]?=some (.slice a x.2.length c)∧AtomsIn w (.slice a x.2.length c) x.2∧AtOk x.1∧x.2.length≤6
theorem RulesIn.ext {w w':World} {v:Value} {R:List (At3 × List At3)} {xs:List Value} (h:RulesIn w v R xs) (e:Ext w w'):RulesIn w' v R xs :=
 ⟨Zal h.owns (fun k hk=>e.block k (h.owns.lt k hk).2),fun k x hx=>by
  obtain ⟨a,c,y0,y1,y2,y3,y4,y5⟩:=h.all k x hx
  exact ⟨a,c,y0,y1,y2,y3,y4.ext e,y5⟩⟩
theorem Zrd (P:List (GT × List GT)) (c:GT × List GT):Zde (P++[c])=Zde P++clT c.1 c.2:=by simp [Zde]
theorem Zpi (a:GT) (b:List GT) (h:b≠[]):clT a b=a.text++([58,45]++(Zfo b++[46])):=by
 cases b with
 | nil=>exact absurd rfl h
 | cons t r=>rfl
theorem Zjg:∀ (l:List At3),(Zfo (l.map atG)).length≤7 * l.length:=by
 have key:∀ (r:List At3) (x:At3),(Zdd (atG x) (r.map atG)).length≤7 * (r.length+1):=by
  intro r
  induction r with
  | nil=>intro x; have:(atG x).text.length=6:=Zhl _ _ _; simp [Zdd,this]
  | cons y r ih =>
   intro x
   have h6:(atG x).text.length=6:=Zhl _ _ _
   have:=ih y
   simp only [List.map_cons,Zdd,Qg,Qf] at this ⊢
   omega
 intro l
 cases l with
 | nil=>simp [Zfo]
 | cons x r=>simpa [Zfo] using key r x
theorem Zpj (w:World) (a:Option Addr) (c:Nat) (R:List (At3 × List At3)) (xs:List Value) (h:RulesIn w (.slice a R.length c) R xs) (hl:R.length≤100):Calls Tryz.prog 16 #[.slice a R.length c] w fun e w'=>e = .returned (.string ⟨(Zde (R.map rlG)).toArray⟩)∧Ext w w':=by
 have H:Hid (∀ u,Ext w u→RulesIn u (.slice a R.length c) R xs):=fun u hu=>h.ext hu
 have HT:=Zac (fun P A B (hP:P<3) (hA:A<6) (hB:B<6) u=>Znp P A B hP hA hB u)
 have HL:=Zac (fun (u:World) (a:Option Addr) (c:Nat) (l:List At3) (h:AtomsIn u (.slice a l.length c) l) (hl:l.length≤100)=>Zko u a c l h hl)
 clear h
 go_enter Tryz.func16,Tryz.ntmps16
 go_wp2
 go_loopw [3,4] (fun sv i u=>∃ (k:Nat) (J:List UInt8),k≤R.length∧i = .int .i64 k∧sv = .string ⟨J.toArray⟩∧J=Zde ((R.take k).map rlG)∧J.length≤60 * k∧Ext w u) (fun _ i _=>R.length - (intOf i).toNat)
 case atStart=>exact ⟨0,[],Qm _,rfl,rfl,rfl,by simp,Below.refl _ _⟩
 case round =>
  obtain ⟨k,J,hk,rfl,rfl,hJ,hjl,hEu⟩:=hrel
  have HJ:=Zac hJ
  have HEu:=Zac hEu
  clear hJ
  by_cases hlt:k<R.length
  ·obtain ⟨x,hx⟩:∃ x,R[k]?=some x:=⟨_,Qb hlt⟩
   obtain ⟨xh,xb⟩:=x
   have hRu:=H.out wr hEu
   obtain ⟨ba,bc,y0,y1,y2,y3,hAt,⟨o1,o2,o3⟩,hb6⟩:=hRu.all k _ hx
   simp only at y0 y1 y2 y3 hAt o1 o2 o3 hb6
   obtain ⟨g,hgs,hg⟩:∃ g,a=some ⟨g,0,none⟩∧g<wr.heap.size:=by
    rcases hRu.owns.2 with ⟨h1,h2⟩ | ⟨g,cap,cur,h1,_⟩
    ·omega
    ·simp only [Value.slice.injEq] at h1
     obtain ⟨e,_,rfl⟩:=h1
     subst e
     exact ⟨g,rfl,(hRu.owns.lt g rfl).2⟩
   subst hgs
   have d0:=Zag hRu.owns _ _ y0
   have d1:=Zag hRu.owns _ _ y1
   have d2:=Zag hRu.owns _ _ y2
   have htk:(R.take (k+1)).map rlG=(R.take k).map rlG++[rlG (xh,xb)]:=by rw [List.take_add_one,hx]; simp
   have HTx:=Zac (HT.out xh.1 xh.2.1 xh.2.2 o1 o2 o3)
   have hal:(atT xh.1 xh.2.1 xh.2.2).text.length=6:=Zhl _ _ _
   have hx6:(atG xh).text.length=6:=hal
   have hjb:=Zjg xb
   have HRu:=Zac hRu
   have Hy3:=Zac y3
   have HAt:=Zac hAt
   clear hEu hx hRu y0 y1 y2 y3 hAt
   go_wp2_with fail
   refine (HTx.out _).mono ?_
   rintro e w3 ⟨rfl,hE3⟩
   have HE3:Hid (Ext w w3):=HEu.out.trans (hE3.mono HEu.out.size)
   have f3:w3.cell? ⟨g,k * 4+3,none⟩=some (.slice ba xb.length bc):=Zag (HRu.out.ext hE3).owns _ _ Hy3.out
   have hg3:g<w3.heap.size:=by have:=hE3.size; omega
   have HAt3:=Zac (HAt.out.ext hE3)
   clear hE3 d0 d1 d2
   by_cases hb0:xb.length=0
   ·obtain rfl:xb=[]:=List.eq_nil_of_length_eq_zero hb0
    have Hs:Hid (∃ J',J'=Zde ((R.take (k+1)).map rlG)∧(⟨J.toArray⟩:ByteArray)++⟨(atT xh.1 xh.2.1 xh.2.2).text.toArray⟩++⟨#[46]⟩=⟨J'.toArray⟩∧J'.length≤60 * (k+1)):=by
     refine ⟨J++((atG xh).text++[46]),?_,?_,by simp only [Qg,Qn]; omega⟩
     ·rw [htk,Zrd,HJ.out]
      rfl
     ·show (⟨J.toArray⟩:ByteArray)++⟨(atT xh.1 xh.2.1 xh.2.2).text.toArray⟩++⟨[46].toArray⟩=_
      rw [Zbk,Zbk]
      simp [atG]
    clear htk hb0
    go_wp2
    go_roundw
    case rel =>
     obtain ⟨J',j1,j2,j3⟩:=Hs.out
     exact ⟨k+1,J',by omega,by go_num,by rw [j2],j1,j3,HE3.out⟩
    case measure=>simp [intOf]; omega
   ·have hne:xb.map atG≠[]:=fun e=>hb0 (by simpa using congrArg List.length e)
    have hb0':((xb.length:Int) == 0)=false:=by rw [Qu]; omega
    have Hs:Hid (∃ J',J'=Zde ((R.take (k+1)).map rlG)∧(⟨J.toArray⟩:ByteArray)++⟨(atT xh.1 xh.2.1 xh.2.2).text.toArray⟩++⟨#[58,45]⟩++⟨(Zfo (xb.map atG)++[46]).toArray⟩=⟨J'.toArray⟩∧J'.length≤60 * (k+1)):=by
     refine ⟨J++((atG xh).text++([58,45]++(Zfo (xb.map atG)++[46]))),?_,?_,by simp only [Qg,Qn,Qf,Jt]; omega⟩
     ·rw [htk,Zrd,HJ.out]
      simp only [rlG]
      rw [Zpi _ _ hne]
     ·show (⟨J.toArray⟩:ByteArray)++⟨(atT xh.1 xh.2.1 xh.2.2).text.toArray⟩++⟨[58,45].toArray⟩++⟨(Zfo (xb.map atG)++[46]).toArray⟩=_
      rw [Zbk,Zbk,Zbk]
      simp [atG]
    have HLx:=Zac (HL.out w3 ba bc xb HAt3.out (by omega))
    have hjl6:(Zfo (xb.map atG)++[46]).length≤60:=by simp only [Qg,Qn]; omega
    obtain ⟨V,hV⟩:∃ V,V=Zfo (xb.map atG)++[46]:=⟨_,rfl⟩
    rw [← hV] at Hs HLx hjl6
    clear htk hb0 hne hV hjb
    go_wp2_with fail
    refine HLx.out.mono ?_
    rintro e w4 ⟨rfl,hE4⟩
    have HE4:=Zac (HE3.out.trans (hE4.mono HE3.out.size))
    clear hE4
    go_wp2
    go_roundw
    case rel =>
     obtain ⟨J',j1,j2,j3⟩:=Hs.out
     exact ⟨k+1,J',by omega,by go_num,by rw [j2],j1,j3,HE4.out⟩
    case measure=>simp [intOf]; omega
  ·obtain rfl:k=R.length:=by omega
   have Hs:Hid (J=Zde (R.map rlG)):=by rw [show (R.map rlG)=((R.take R.length).map rlG) by rw [List.take_length]]; exact HJ.out
   clear hEu
   go_wp2
   go_ret
   exact ⟨by rw [← Hs.out]; rfl,HEu.out⟩
end Go.Proofs.YtlmjilpjmgjjcaaGreatDoor
