/-
  PROVED HERE: plain facts: the program's own reading and writing of a whole text is the reference's (the conditions stand in each statement).
-/
import Derived.Test.YtlmjilpjmgjjcaaDoorT3
import Derived.Orders
import Derived.BigQuiet
import Derived.Deep.QuietTactic
import Derived.Deep.RegionWith
import Derived.Laws.OwnMore
set_option linter.unusedSimpArgs false
set_option linter.unusedVariables false
set_option maxRecDepth 10000
set_option maxHeartbeats 4000000
namespace Go.Proofs.YtlmjilpjmgjjcaaDoor
open Go.RowKit
inductive GT where
 | v (s:List UInt8):GT
 | n (s:List UInt8):GT
 | f (s:List UInt8) (t:GT):GT
 | g (s:List UInt8) (t u:GT):GT
def GT.text:GT→List UInt8
 | .v s=>s
 | .n s=>s
 | .f s t=>s++(40::(t.text++[41]))
 | .g s t u=>s++(40::(t.text++(44::(u.text++[41]))))
def GT.size:GT→Nat
 | .v _=>1
 | .n _=>1
 | .f _ t=>1+t.size
 | .g _ t u=>1+t.size+u.size
def Zfr (b:ByteArray) (s:List UInt8):Bool:=match s with
 | []=>false
 | c::r=>inB c b && (Zbe r == r.length) && decide (s.length≤8)
def GT.ok:GT→Bool
 | .v s=>Zfr Zeu s
 | .n s=>Zfr Zdi s
 | .f s t=>Zfr Zdi s && t.ok
 | .g s t u=>Zfr Zdi s && (t.ok && u.ok)
def GT.kd:GT→List (Nat × Nat)
 | .v s=>[(2,s.length)]
 | .n s=>[(1,s.length)]
 | .f s t=>(1,s.length)::(40,1)::(t.kd++[(41,1)])
 | .g s t u=>(1,s.length)::(40,1)::(t.kd++((44,1)::(u.kd++[(41,1)])))
def ksOf (l:List UInt8) (p:Nat):List (Nat × Nat):=(toks l p).map (fun t=>(t.kind,t.text.length))
theorem Zmb {c:UInt8} (h:inB c Zhh=true):Zgb c=false:=by
 have:=Zdc (p:=fun c => !inB c Zhh || !Zgb c) (by decide +kernel) c
 simpa [h] using this
theorem Zgw {r rest:List UInt8} (h:Zbe r=r.length) (h2:Zbe rest=0):Zbe (r++rest)=r.length:=by
 induction r with
 | nil=>simpa using h2
 | cons c r ih =>
  rw [Zbe] at h
  split at h
  ·rename_i hc
   rw [List.cons_append,Zgs _ _ hc,ih (by simpa using h)]
   rfl
  ·simp at h
theorem Zkn {c:UInt8} (h:inB c Zeu=true):inB c Zdi=false:=by
 have:=Zdc (p:=fun c => !inB c Zeu || !inB c Zdi) (by decide +kernel) c
 simpa [h] using this
theorem Zoz {b:ByteArray} {k:Nat} {s rest:List UInt8} (hs:Zfr b s=true) (hb:(b=Zdi∧k=1)∨(b=Zeu∧k=2)) (hr:Zbe rest=0) (p:Nat):ksOf (s++rest) p=(k,s.length)::ksOf rest (p+s.length):=by
 cases s with
 | nil=>simp [Zfr] at hs
 | cons c r =>
  simp only [Zfr,Bool.and_eq_true,beq_iff_eq] at hs
  obtain ⟨⟨h1,h2⟩,_⟩:=hs
  have hc:inB c Zhh=true:=by
   rcases hb with ⟨rfl,_⟩ | ⟨rfl,_⟩
   ·exact Zfl h1
   ·exact Zga h1
  have hh:Zbk c (r++rest)=(k,r.length):=by
   unfold Zbk
   rcases hb with ⟨rfl,rfl⟩ | ⟨rfl,rfl⟩
   ·rw [if_pos h1,Zgw h2 hr]
   ·rw [if_neg (by simp [Zkn h1]),if_pos h1,Zgw h2 hr]
  unfold ksOf
  rw [List.cons_append,Zdx _ _ _ (Zmb hc),hh]
  simp only [List.map_cons]
  rw [List.drop_left]
  have e1:((c::(r++rest)).take (r.length+1)).length=(c::r).length:=by simp
  rw [e1,show p+r.length+1=p+(c::r).length by simp; omega]
theorem Zgx {c:UInt8} {rest:List UInt8} (h:c=40∨c=41∨c=44∨c=46) (p:Nat):ksOf (c::rest) p=(c.toNat,1)::ksOf rest (p+1):=by
 have hb:Zgb c=false∧Zbk c rest=(c.toNat,0):=by
  rcases h with rfl | rfl | rfl | rfl
  all_goals
   refine ⟨by decide,?_⟩
   unfold Zbk
   rw [if_neg (by decide +kernel),if_neg (by decide +kernel),if_pos (by decide +kernel)]
 unfold ksOf
 rw [Zdx _ _ _ hb.1,hb.2]
 simp
theorem Ydj {rest:List UInt8} (p:Nat):ksOf (58::45::rest) p=(3,2)::ksOf rest (p+2):=by
 have hh:Zbk 58 (45::rest)=(3,1):=by
  unfold Zbk
  rw [if_neg (by decide +kernel),if_neg (by decide +kernel),if_neg (by decide +kernel),if_pos ⟨rfl,rfl⟩]
 unfold ksOf
 rw [Zdx _ _ _ (by decide),hh]
 simp
theorem Zpa (t:GT):∀ (rest:List UInt8) (p:Nat),t.ok=true→Zbe rest=0→ksOf (t.text++rest) p=t.kd++ksOf rest (p+t.text.length):=by
 induction t with
 | v s=>intro rest p h hr; exact Zoz h (Or.inr ⟨rfl,rfl⟩) hr p
 | n s=>intro rest p h hr; exact Zoz h (Or.inl ⟨rfl,rfl⟩) hr p
 | f s t ih =>
  intro rest p h hr
  simp only [GT.ok,Bool.and_eq_true] at h
  simp only [GT.text,GT.kd,Qi,List.cons_append,List.nil_append]
  rw [Zoz h.1 (Or.inl ⟨rfl,rfl⟩) (Zao _ _ (by decide +kernel)),Zgx (Or.inl rfl),ih _ _ h.2 (Zao _ _ (by decide +kernel)),Zgx (Or.inr (Or.inl rfl))]
  have e:p+s.length+1+t.text.length+1=p+(s++40::(t.text++[41])).length:=by simp; omega
  rw [e]
  rfl
 | g s t u iht ihu =>
  intro rest p h hr
  simp only [GT.ok,Bool.and_eq_true] at h
  simp only [GT.text,GT.kd,Qi,List.cons_append,List.nil_append]
  rw [Zoz h.1 (Or.inl ⟨rfl,rfl⟩) (Zao _ _ (by decide +kernel)),Zgx (Or.inl rfl),iht _ _ h.2.1 (Zao _ _ (by decide +kernel)),Zgx (Or.inr (Or.inr (Or.inl rfl))),ihu _ _ h.2.2 (Zao _ _ (by decide +kernel)),Zgx (Or.inr (Or.inl rfl))]
  have e:p+s.length+1+t.text.length+1+u.text.length+1=p+(s++40::(t.text++44::(u.text++[41]))).length:=by simp; omega
  rw [e]
  rfl
def Runs:List (Nat × Nat)→LookS→LookS→Prop
 | [],L,L'=>L'=L
 | (k,n)::ks,L,L'=>k≠4∧(Zbw L k n).err=0∧Runs ks (Zbw L k n) L'
theorem Runs.append:∀ {a b:List (Nat × Nat)} {L M N:LookS},Runs a L M→Runs b M N→Runs (a++b) L N:=by
 intro a
 induction a with
 | nil=>intro b L M N h1 h2; have h1:M=L:=h1; subst h1; exact h2
 | cons x a ih =>
  intro b L M N h1 h2
  obtain ⟨k,n⟩:=x
  exact ⟨h1.1,h1.2.1,ih h1.2.2 h2⟩
theorem Znl:∀ {ts rest:List Tok} {L M:LookS},Runs (ts.map (fun t=>(t.kind,t.text.length))) L M→Zdz (ts++rest) L=Zdz rest M:=by
 intro ts
 induction ts with
 | nil=>intro rest L M h; have h:M=L:=h; subst h; rfl
 | cons t ts ih =>
  intro rest L M h
  obtain ⟨h1,h2,h3⟩:=h
  simp only [List.cons_append,Zdz]
  rw [if_neg (fun e=>h1 e.1),if_neg (fun e=>e h2)]
  exact ih h3
theorem Ztb {b:ByteArray} {s:List UInt8} (h:Zfr b s=true):s.length≤8:=by
 cases s with
 | nil=>simp [Zfr] at h
 | cons c r=>simp only [Zfr,Bool.and_eq_true,decide_eq_true_eq] at h; exact h.2
theorem Zlb (w':Nat) (hw:w'=3∨w'=4) (q b:Bool) (n:Nat) (r:List Nat) (s g h:Nat):Runs [(41,1)] ⟨w',q,b,n::r,s,g,h,0⟩ ⟨4,q,b,r,s,g,h,0⟩:=by
 rcases hw with rfl | rfl <;> simp [Runs,Zbw,Zaj]
theorem Zqt (w':Nat) (hw:w'=3∨w'=4) (q b:Bool) (n:Nat) (r:List Nat) (s g h:Nat):Runs [(44,1)] ⟨w',q,b,n::r,s,g,h,0⟩ ⟨2,q,b,n::r,s,g,h,0⟩:=by
 rcases hw with rfl | rfl <;> simp [Runs,Zbw,Zaj]
theorem Zlc (q b:Bool) (r:List Nat) (s g h:Nat):Runs [(40,1)] ⟨3,q,b,r,s,g,h,0⟩ ⟨2,q,b,0::r,s,g,h,0⟩:=by
 simp [Runs,Zbw,Zaj]
theorem Zjj (k l w':Nat) (hk:(k=1∧w'=3)∨(k=2∧w'=4)) (hl:l≤8) (q b:Bool) (n:Nat) (r:List Nat) (s g h:Nat) (hn:n<4) (hs:s+1≤30):Runs [(k,l)] ⟨2,q,b,n::r,s,g,h,0⟩ ⟨w',q,b,(n+1)::r,s+1,g,h,0⟩:=by
 have h1:¬ 4<n+1:=by omega
 have h2:¬ (8<l∨30<s+1):=by omega
 rcases hk with ⟨rfl,rfl⟩ | ⟨rfl,rfl⟩
 ·simp only [Runs,Zbw,Zbi,Zki,Zcr]
  simp [h2,h1]
 ·simp only [Runs,Zbw,Zbi,Zki,Zcr]
  simp [h2,h1]
theorem Zpb (t:GT):t.ok=true→∀ (q b:Bool) (n:Nat) (r:List Nat) (s g h:Nat),n<4→s+t.size≤30→∃ w',(w'=3∨w'=4)∧Runs t.kd ⟨2,q,b,n::r,s,g,h,0⟩ ⟨w',q,b,(n+1)::r,s+t.size,g,h,0⟩:=by
 induction t with
 | v x=>intro ho q b n r s g h hn hs; exact ⟨4,Or.inr rfl,Zjj 2 _ 4 (Or.inr ⟨rfl,rfl⟩) (Ztb ho) q b n r s g h hn hs⟩
 | n x=>intro ho q b n r s g h hn hs; exact ⟨3,Or.inl rfl,Zjj 1 _ 3 (Or.inl ⟨rfl,rfl⟩) (Ztb ho) q b n r s g h hn hs⟩
 | f x t ih =>
  intro ho q b n r s g h hn hs
  simp only [GT.ok,Bool.and_eq_true] at ho
  simp only [GT.size] at hs ⊢
  obtain ⟨w1,hw1,h1⟩:=ih ho.2 q b 0 ((n+1)::r) (s+1) g h (by omega) (by omega)
  refine ⟨4,Or.inr rfl,?_⟩
  have:=((((Zjj 1 _ 3 (Or.inl ⟨rfl,rfl⟩) (Ztb ho.1) q b n r s g h hn (by omega)).append (Zlc q b ((n+1)::r) (s+1) g h)).append h1).append (Zlb w1 hw1 q b _ _ _ g h))
  simpa [GT.kd,Nat.add_assoc] using this
 | g x t u iht ihu =>
  intro ho q b n r s g h hn hs
  simp only [GT.ok,Bool.and_eq_true] at ho
  simp only [GT.size] at hs ⊢
  obtain ⟨w1,hw1,h1⟩:=iht ho.2.1 q b 0 ((n+1)::r) (s+1) g h (by omega) (by omega)
  obtain ⟨w2,hw2,h2⟩:=ihu ho.2.2 q b 1 ((n+1)::r) (s+1+t.size) g h (by omega) (by omega)
  refine ⟨4,Or.inr rfl,?_⟩
  have:=((((((Zjj 1 _ 3 (Or.inl ⟨rfl,rfl⟩) (Ztb ho.1) q b n r s g h hn (by omega)).append (Zlc q b ((n+1)::r) (s+1) g h)).append h1).append (Zqt w1 hw1 q b _ _ _ g h)).append h2).append (Zlb w2 hw2 q b _ _ _ g h))
  simpa [GT.kd,Nat.add_assoc] using this
def GT.atom:GT→Bool
 | .v _=>false
 | _=>true
theorem Ydk (l:Nat) (hl:l≤8) (q b:Bool) (s g h:Nat) (hh:h<24):Runs [(1,l)] ⟨0,q,b,[],s,g,h,0⟩ ⟨3,q,false,[],1,g,h+1,0⟩:=by
 have h1:¬ 24<h+1:=by omega
 have h2:¬ (8<l∨30<0+1):=by omega
 simp only [Runs,Zbw,Zbi,Zki,Zcr]
 simp [h1]
 omega
theorem Zux (l:Nat) (hl:l≤8) (q b:Bool) (s g h:Nat) (hg:g<6):Runs [(1,l)] ⟨1,q,b,[],s,g,h,0⟩ ⟨3,q,b,[],1,g+1,h,0⟩:=by
 have h1:¬ 6<g+1:=by omega
 have h2:¬ (8<l∨30<0+1):=by omega
 simp only [Runs,Zbw,Zbi,Zki,Zcr]
 simp [h1]
 omega
theorem Zpc (t:GT) (ha:t.atom=true) (ho:t.ok=true) (L:LookS) (q b:Bool) (g h:Nat) (hs:t.size≤30) (h1:∀ l,l≤8→Runs [(1,l)] L ⟨3,q,b,[],1,g,h,0⟩):∃ w',(w'=3∨w'=4)∧Runs t.kd L ⟨w',q,b,[],t.size,g,h,0⟩:=by
 cases t with
 | v x=>simp [GT.atom] at ha
 | n x=>exact ⟨3,Or.inl rfl,h1 _ (Ztb ho)⟩
 | f x t =>
  simp only [GT.ok,Bool.and_eq_true] at ho
  simp only [GT.size] at hs ⊢
  obtain ⟨w1,hw1,h2⟩:=Zpb t ho.2 q b 0 [] 1 g h (by omega) (by omega)
  refine ⟨4,Or.inr rfl,?_⟩
  have:=(((h1 _ (Ztb ho.1)).append (Zlc q b [] 1 g h)).append h2).append (Zlb w1 hw1 q b _ _ _ g h)
  simpa [GT.kd] using this
 | g x t u =>
  simp only [GT.ok,Bool.and_eq_true] at ho
  simp only [GT.size] at hs ⊢
  obtain ⟨w1,hw1,h2⟩:=Zpb t ho.2.1 q b 0 [] 1 g h (by omega) (by omega)
  obtain ⟨w2,hw2,h3⟩:=Zpb u ho.2.2 q b 1 [] (1+t.size) g h (by omega) (by omega)
  refine ⟨4,Or.inr rfl,?_⟩
  have:=(((((h1 _ (Ztb ho.1)).append (Zlc q b [] 1 g h)).append h2).append (Zqt w1 hw1 q b _ _ _ g h)).append h3).append (Zlb w2 hw2 q b _ _ _ g h)
  simpa [GT.kd,Nat.add_assoc] using this
def Zcb:GT→List GT→List UInt8
 | t,[]=>t.text
 | t,u::r=>t.text++(44::Zcb u r)
def Ztc:GT→List GT→List (Nat × Nat)
 | t,[]=>t.kd
 | t,u::r=>t.kd++((44,1)::Ztc u r)
def GT.fine (t:GT):Bool:=t.atom && (t.ok && decide (t.size≤30))
theorem GT.fine_iff {t:GT} (h:t.fine=true):t.atom=true∧t.ok=true∧t.size≤30:=by
 simp only [GT.fine,Bool.and_eq_true,decide_eq_true_eq] at h
 exact h
theorem Yaj:∀ (r:List GT) (t:GT) (rest:List UInt8) (p:Nat),t.fine=true→(∀ u ∈ r,u.fine=true)→Zbe rest=0→ksOf (Zcb t r++rest) p=Ztc t r++ksOf rest (p+(Zcb t r).length):=by
 intro r
 induction r with
 | nil=>intro t rest p ht _ hr; exact Zpa t rest p (GT.fine_iff ht).2.1 hr
 | cons u r ih =>
  intro t rest p ht hu hr
  simp only [Zcb,Ztc,Qi,List.cons_append]
  rw [Zpa t _ _ (GT.fine_iff ht).2.1 (Zao _ _ (by decide +kernel)),Zgx (Or.inr (Or.inr (Or.inl rfl))),ih u rest _ (hu u (by simp)) (fun x hx=>hu x (by simp [hx])) hr]
  have e:p+t.text.length+1+(Zcb u r).length=p+(t.text++44::Zcb u r).length:=by simp; omega
  rw [e]
  rfl
theorem Yfv (w':Nat) (hw:w'=3∨w'=4) (q:Bool) (s g h:Nat):Runs [(44,1)] ⟨w',q,true,[],s,g,h,0⟩ ⟨1,q,true,[],s,g,h,0⟩:=by
 rcases hw with rfl | rfl <;> simp [Runs,Zbw,Zaj]
theorem Zuy:∀ (r:List GT) (t:GT) (q:Bool) (s g h:Nat),t.fine=true→(∀ u ∈ r,u.fine=true)→g+r.length<6→∃ w' s',(w'=3∨w'=4)∧Runs (Ztc t r) ⟨1,q,true,[],s,g,h,0⟩ ⟨w',q,true,[],s',g+r.length+1,h,0⟩:=by
 intro r
 induction r with
 | nil =>
  intro t q s g h ht _ hg
  obtain ⟨h1,h2,h3⟩:=GT.fine_iff ht
  obtain ⟨w',hw,hr⟩:=Zpc t h1 h2 ⟨1,q,true,[],s,g,h,0⟩ q true (g+1) h h3 (fun l hl=>Zux l hl q true s g h (by simp at hg; omega))
  exact ⟨w',_,hw,hr⟩
 | cons u r ih =>
  intro t q s g h ht hu hg
  simp only [Qf] at hg
  obtain ⟨h1,h2,h3⟩:=GT.fine_iff ht
  obtain ⟨w1,hw1,hr1⟩:=Zpc t h1 h2 ⟨1,q,true,[],s,g,h,0⟩ q true (g+1) h h3 (fun l hl=>Zux l hl q true s g h (by omega))
  obtain ⟨w2,s2,hw2,hr2⟩:=ih u q t.size (g+1) h (hu u (by simp)) (fun x hx=>hu x (by simp [hx])) (by omega)
  refine ⟨w2,s2,hw2,?_⟩
  have:=(hr1.append (Yfv w1 hw1 q _ _ h)).append hr2
  rw [show g+(u::r).length+1=g+1+r.length+1 by simp; omega]
  simpa [Ztc] using this
def clT (a:GT):List GT→List UInt8
 | []=>a.text++[46]
 | t::r=>a.text++(58::45::(Zcb t r++[46]))
def clK (a:GT):List GT→List (Nat × Nat)
 | []=>a.kd++[(46,1)]
 | t::r=>a.kd++((3,2)::(Ztc t r++[(46,1)]))
structure ClFine (c:GT × List GT):Prop where
 head:c.1.fine=true
 body:∀ t ∈ c.2,t.fine=true
 len:c.2.length≤6
theorem Yak (c:GT × List GT) (hc:ClFine c) (rest:List UInt8) (p:Nat):ksOf (clT c.1 c.2++rest) p=clK c.1 c.2++ksOf rest (p+(clT c.1 c.2).length):=by
 obtain ⟨a,b⟩:=c
 obtain ⟨h1,h2,h3⟩:=hc
 simp only at h1 h2 h3 ⊢
 cases b with
 | nil =>
  simp only [clT,clK,Qi,List.cons_append,List.nil_append]
  rw [Zpa a _ _ (GT.fine_iff h1).2.1 (Zao _ _ (by decide +kernel)),Zgx (Or.inr (Or.inr (Or.inr rfl)))]
  have e:p+a.text.length+1=p+(a.text++[46]).length:=by simp; omega
  rw [e]
  rfl
 | cons t r =>
  simp only [clT,clK,Qi,List.cons_append,List.nil_append]
  rw [Zpa a _ _ (GT.fine_iff h1).2.1 (Zao _ _ (by decide +kernel)),Ydj,Yaj r t _ _ (h2 t (by simp)) (fun x hx=>h2 x (by simp [hx])) (Zao _ _ (by decide +kernel)),Zgx (Or.inr (Or.inr (Or.inr rfl)))]
  have e:p+a.text.length+2+(Zcb t r).length+1=p+(a.text++58::45::(Zcb t r++[46])).length:=by simp; omega
  rw [e]
  rfl
theorem Yal (w':Nat) (hw:w'=3∨w'=4) (b:Bool) (s g h:Nat):Runs [(46,1)] ⟨w',false,b,[],s,g,h,0⟩ ⟨0,false,b,[],s,g,h,0⟩:=by
 rcases hw with rfl | rfl <;> simp [Runs,Zbw,Zaj]
theorem Yfw (w':Nat) (hw:w'=3∨w'=4) (b:Bool) (s g h:Nat):Runs [(46,1)] ⟨w',true,b,[],s,g,h,0⟩ ⟨5,true,b,[],s,g,h,0⟩:=by
 rcases hw with rfl | rfl <;> simp [Runs,Zbw,Zaj]
theorem Yam (w':Nat) (hw:w'=3∨w'=4) (q:Bool) (s g h:Nat):Runs [(3,2)] ⟨w',q,false,[],s,g,h,0⟩ ⟨1,q,true,[],s,0,h,0⟩:=by
 rcases hw with rfl | rfl <;> simp [Runs,Zbw,Zaj]
theorem Zxa (c:GT × List GT) (hc:ClFine c) (b0:Bool) (s g h:Nat) (hh:h<24):∃ b' s' g',Runs (clK c.1 c.2) ⟨0,false,b0,[],s,g,h,0⟩ ⟨0,false,b',[],s',g',h+1,0⟩:=by
 obtain ⟨a,b⟩:=c
 obtain ⟨h1,h2,h3⟩:=hc
 simp only at h1 h2 h3 ⊢
 obtain ⟨k1,k2,k3⟩:=GT.fine_iff h1
 obtain ⟨w1,hw1,hr1⟩:=Zpc a k1 k2 ⟨0,false,b0,[],s,g,h,0⟩ false false g (h+1) k3 (fun l hl=>Ydk l hl false b0 s g h hh)
 cases b with
 | nil=>exact ⟨_,_,_,hr1.append (Yal w1 hw1 _ _ _ _)⟩
 | cons t r =>
  simp only [Qf] at h3
  obtain ⟨w2,s2,hw2,hr2⟩:=Zuy r t false a.size 0 (h+1) (h2 t (by simp)) (fun x hx=>h2 x (by simp [hx])) (by omega)
  have:=((hr1.append (Yam w1 hw1 false _ _ _)).append hr2).append (Yal w2 hw2 true _ _ _)
  exact ⟨_,_,_,by simpa [clK] using this⟩
def Zcl (P:List (GT × List GT)):List UInt8:=P.flatMap (fun c=>clT c.1 c.2)
theorem Yan:∀ (P:List (GT × List GT)) (p:Nat) (b0:Bool) (s g h:Nat),(∀ c ∈ P,ClFine c)→h+P.length≤24→∃ b' s' g',Runs (ksOf (Zcl P) p) ⟨0,false,b0,[],s,g,h,0⟩ ⟨0,false,b',[],s',g',h+P.length,0⟩:=by
 intro P
 induction P with
 | nil=>intro p b0 s g h _ _; exact ⟨b0,s,g,rfl⟩
 | cons c P ih =>
  intro p b0 s g h hc hh
  simp only [Qf] at hh
  obtain ⟨b1,s1,g1,h1⟩:=Zxa c (hc c (by simp)) b0 s g h (by omega)
  obtain ⟨b2,s2,g2,h2⟩:=ih (p+(clT c.1 c.2).length) b1 s1 g1 (h+1) (fun x hx=>hc x (by simp [hx])) (by omega)
  refine ⟨b2,s2,g2,?_⟩
  rw [show Zcl (c::P)=clT c.1 c.2++Zcl P by simp [Zcl],Yak c (hc c (by simp)),show h+(c::P).length=h+1+P.length by simp; omega]
  exact h1.append h2
theorem Ydl (P:List (GT × List GT)) (hc:∀ c ∈ P,ClFine c) (hl:P.length≤24) (hs:(Zcl P).length≤800):∃ cs,Zcp ⟨(Zcl P).toArray⟩=some cs:=by
 obtain ⟨b',s',g',h1⟩:=Yan P 0 false 0 0 0 hc (by omega)
 have hz:(⟨(Zcl P).toArray⟩:ByteArray).size≤800:=by simpa [ByteArray.size] using hs
 have h2:(Zdz (Zal ⟨(Zcl P).toArray⟩) (Zbu false)).1=0:=by
  unfold Zal
  rw [Znl (L:=Zbu false) h1]
  simp [Zdz]
 obtain ⟨cs,h3⟩:=Zou _ hz h2
 refine ⟨cs,?_⟩
 unfold Zcp
 rw [if_neg (by omega),if_neg (fun e=>e h2)]
 exact h3
theorem Yfx (t:GT) (r:List GT) (ht:t.fine=true) (hr:∀ u ∈ r,u.fine=true) (hl:r.length<6) (hs:(Zcb t r++[46]).length≤120):∃ a,Zeb ⟨(Zcb t r++[46]).toArray⟩=some a:=by
 obtain ⟨w',s',hw,h1⟩:=Zuy r t true 0 0 0 ht hr (by omega)
 have h0:=h1.append (Yfw w' hw true _ _ _)
 have hz:(⟨(Zcb t r++[46]).toArray⟩:ByteArray).size≤120:=by simpa [ByteArray.size] using hs
 have hk:ksOf (Zcb t r++[46]) 0=Ztc t r++[(46,1)]:=by
  rw [Yaj r t _ _ ht hr (Zao _ _ (by decide +kernel)),Zgx (Or.inr (Or.inr (Or.inr rfl)))]
  rfl
 rw [← hk] at h0
 have h2:(Zdz (Zal ⟨(Zcb t r++[46]).toArray⟩) (Zbu true)).1=0:=by
  unfold Zal
  rw [Znl (L:=Zbu true) h0]
  simp [Zdz]
 obtain ⟨qq,h3⟩:=Zsr _ hz h2
 refine ⟨(qq.1,qq.2.2),?_⟩
 unfold Zeb
 rw [if_neg (by omega),if_neg (fun e=>e h2),h3]
 rfl
def GT.tk:GT→Nat→List Tok
 | .v s,p=>[⟨2,s,p⟩]
 | .n s,p=>[⟨1,s,p⟩]
 | .f s t,p=>⟨1,s,p⟩::⟨40,[40],p+s.length⟩::(t.tk (p+s.length+1)++[⟨41,[41],p+s.length+1+t.text.length⟩])
 | .g s t u,p=>⟨1,s,p⟩::⟨40,[40],p+s.length⟩::(t.tk (p+s.length+1)++(⟨44,[44],p+s.length+1+t.text.length⟩::(u.tk (p+s.length+1+t.text.length+1)++[⟨41,[41],p+s.length+1+t.text.length+1+u.text.length⟩])))
theorem Zho {b:ByteArray} {k:Nat} {s rest:List UInt8} (hs:Zfr b s=true) (hb:(b=Zdi∧k=1)∨(b=Zeu∧k=2)) (hr:Zbe rest=0) (p:Nat):toks (s++rest) p=⟨k,s,p⟩::toks rest (p+s.length):=by
 cases s with
 | nil=>simp [Zfr] at hs
 | cons c r =>
  simp only [Zfr,Bool.and_eq_true,beq_iff_eq] at hs
  obtain ⟨⟨h1,h2⟩,_⟩:=hs
  have hc:inB c Zhh=true:=by
   rcases hb with ⟨rfl,_⟩ | ⟨rfl,_⟩
   ·exact Zfl h1
   ·exact Zga h1
  have hh:Zbk c (r++rest)=(k,r.length):=by
   unfold Zbk
   rcases hb with ⟨rfl,rfl⟩ | ⟨rfl,rfl⟩
   ·rw [if_pos h1,Zgw h2 hr]
   ·rw [if_neg (by simp [Zkn h1]),if_pos h1,Zgw h2 hr]
  rw [List.cons_append,Zdx _ _ _ (Zmb hc),hh]
  simp only
  rw [List.drop_left]
  have e1:(c::(r++rest)).take (r.length+1)=c::r:=by simp
  rw [e1,show p+r.length+1=p+(c::r).length by simp; omega]
theorem Zdq {c:UInt8} {rest:List UInt8} (h:c=40∨c=41∨c=44∨c=46) (p:Nat):toks (c::rest) p=⟨c.toNat,[c],p⟩::toks rest (p+1):=by
 have hb:Zgb c=false∧Zbk c rest=(c.toNat,0):=by
  rcases h with rfl | rfl | rfl | rfl
  all_goals
   refine ⟨by decide,?_⟩
   unfold Zbk
   rw [if_neg (by decide +kernel),if_neg (by decide +kernel),if_pos (by decide +kernel)]
 rw [Zdx _ _ _ hb.1,hb.2]
 simp
theorem Znm {rest:List UInt8} (p:Nat):toks (58::45::rest) p=⟨3,[58,45],p⟩::toks rest (p+2):=by
 have hh:Zbk 58 (45::rest)=(3,1):=by
  unfold Zbk
  rw [if_neg (by decide +kernel),if_neg (by decide +kernel),if_neg (by decide +kernel),if_pos ⟨rfl,rfl⟩]
 rw [Zdx _ _ _ (by decide),hh]
 simp
theorem Zhp (t:GT):∀ (rest:List UInt8) (p:Nat),t.ok=true→Zbe rest=0→toks (t.text++rest) p=t.tk p++toks rest (p+t.text.length):=by
 induction t with
 | v s=>intro rest p h hr; exact Zho h (Or.inr ⟨rfl,rfl⟩) hr p
 | n s=>intro rest p h hr; exact Zho h (Or.inl ⟨rfl,rfl⟩) hr p
 | f s t ih =>
  intro rest p h hr
  simp only [GT.ok,Bool.and_eq_true] at h
  simp only [GT.text,GT.tk,Qi,List.cons_append,List.nil_append]
  rw [Zho h.1 (Or.inl ⟨rfl,rfl⟩) (Zao _ _ (by decide +kernel)),Zdq (Or.inl rfl),ih _ _ h.2 (Zao _ _ (by decide +kernel)),Zdq (Or.inr (Or.inl rfl))]
  have e:p+s.length+1+t.text.length+1=p+(s++40::(t.text++[41])).length:=by simp; omega
  rw [e]
  rfl
 | g s t u iht ihu =>
  intro rest p h hr
  simp only [GT.ok,Bool.and_eq_true] at h
  simp only [GT.text,GT.tk,Qi,List.cons_append,List.nil_append]
  rw [Zho h.1 (Or.inl ⟨rfl,rfl⟩) (Zao _ _ (by decide +kernel)),Zdq (Or.inl rfl),iht _ _ h.2.1 (Zao _ _ (by decide +kernel)),Zdq (Or.inr (Or.inr (Or.inl rfl))),ihu _ _ h.2.2 (Zao _ _ (by decide +kernel)),Zdq (Or.inr (Or.inl rfl))]
  have e:p+s.length+1+t.text.length+1+u.text.length+1=p+(s++40::(t.text++44::(u.text++[41]))).length:=by simp; omega
  rw [e]
  rfl
def GT.syms:GT→Names→List Sym × Names
 | .v s,N=>([⟨[],(Zba N s).2,0⟩],(Zba N s).1)
 | .n s,N=>([⟨s,0,0⟩],N)
 | .f s t,N=>(⟨s,0,1⟩::(t.syms N).1,(t.syms N).2)
 | .g s t u,N=>(⟨s,0,2⟩::((t.syms N).1++(u.syms (t.syms N).2).1),(u.syms (t.syms N).2).2)
theorem Zib (t:GT):∀ (f p:Nat) (x:Tok) (rest:List Tok) (N:Names),t.size≤f→x.kind≠40→Zce f (t.tk p++x::rest) N=some ((t.syms N).1,x::rest,(t.syms N).2):=by
 induction t with
 | v s =>
  intro f p x rest N hf hx
  obtain ⟨g,rfl⟩:∃ g,f=g+1:=⟨f - 1,by simp [GT.size] at hf; omega⟩
  simp [GT.tk,GT.syms,Zce]
 | n s =>
  intro f p x rest N hf hx
  obtain ⟨g,rfl⟩:∃ g,f=g+1:=⟨f - 1,by simp [GT.size] at hf; omega⟩
  simp [GT.tk,GT.syms,Zce,Zhk,hx]
 | f s t ih =>
  intro f p x rest N hf hx
  simp only [GT.size] at hf
  obtain ⟨g,rfl⟩:∃ g,f=g+1:=⟨f - 1,by omega⟩
  simp only [GT.tk,List.cons_append,Qi,List.nil_append,Zce]
  rw [if_neg (by simp)]
  simp only [Zhk]
  rw [if_neg (by simp)]
  simp only [Qg,Qf]
  rw [Zdl,if_neg (by simp),ih g _ ⟨41,[41],_⟩ (x::rest) N (by omega) (by simp)]
  simp only
  rw [show (t.tk (p+s.length+1)).length+(rest.length+1+1)=((t.tk (p+s.length+1)).length+(rest.length+1))+1 by omega,Zdl]
  simp [GT.syms]
 | g s t u iht ihu =>
  intro f p x rest N hf hx
  simp only [GT.size] at hf
  obtain ⟨g,rfl⟩:∃ g,f=g+1:=⟨f - 1,by omega⟩
  simp only [GT.tk,List.cons_append,Qi,List.nil_append,Zce]
  rw [if_neg (by simp)]
  simp only [Zhk]
  rw [if_neg (by simp)]
  simp only [Qg,Qf]
  rw [Zdl,if_neg (by simp),iht g _ ⟨44,[44],_⟩ _ N (by omega) (by simp)]
  simp only
  rw [show (t.tk (p+s.length+1)).length+((u.tk (p+s.length+1+t.text.length+1)).length+(rest.length+1+1)+1)=((t.tk (p+s.length+1)).length+((u.tk (p+s.length+1+t.text.length+1)).length+(rest.length+1))+1)+1 by omega,Zdl,if_neg (by simp),ihu g _ ⟨41,[41],_⟩ (x::rest) _ (by omega) (by simp)]
  simp only
  rw [Zdl]
  simp [GT.syms]
def Zko:GT→List GT→Nat→List Tok
 | t,[],p=>t.tk p
 | t,u::r,p=>t.tk p++(⟨44,[44],p+t.text.length⟩::Zko u r (p+t.text.length+1))
theorem Zqu:∀ (r:List GT) (t:GT) (rest:List UInt8) (p:Nat),t.fine=true→(∀ u ∈ r,u.fine=true)→Zbe rest=0→toks (Zcb t r++rest) p=Zko t r p++toks rest (p+(Zcb t r).length):=by
 intro r
 induction r with
 | nil=>intro t rest p ht _ hr; exact Zhp t rest p (GT.fine_iff ht).2.1 hr
 | cons u r ih =>
  intro t rest p ht hu hr
  simp only [Zcb,Zko,Qi,List.cons_append]
  rw [Zhp t _ _ (GT.fine_iff ht).2.1 (Zao _ _ (by decide +kernel)),Zdq (Or.inr (Or.inr (Or.inl rfl))),ih u rest _ (hu u (by simp)) (fun x hx=>hu x (by simp [hx])) hr]
  have e:p+t.text.length+1+(Zcb u r).length=p+(t.text++44::Zcb u r).length:=by simp; omega
  rw [e]
  rfl
def Zcx:List GT→Names→List (List Sym) × Names
 | [],N=>([],N)
 | t::r,N=>((t.syms N).1::(Zcx r (t.syms N).2).1,(Zcx r (t.syms N).2).2)
theorem Zmc:∀ (r:List GT) (t:GT) (g p d:Nat) (rest:List Tok) (N:Names) (acc:List (List Sym)),t.fine=true→(∀ u ∈ r,u.fine=true)→r.length<g→Zci 1000 g (Zko t r p++⟨46,[46],d⟩::rest) N acc=some (acc++(Zcx (t::r) N).1,rest,(Zcx (t::r) N).2):=by
 intro r
 induction r with
 | nil =>
  intro t g p d rest N acc ht _ hg
  obtain ⟨k,rfl⟩:∃ k,g=k+1:=⟨g - 1,by omega⟩
  simp only [Zko,Zci]
  rw [Zib t 1000 p ⟨46,[46],d⟩ rest N (by have:=(GT.fine_iff ht).2.2; omega) (by simp)]
  simp [Zcx]
 | cons u r ih =>
  intro t g p d rest N acc ht hu hg
  simp only [Qf] at hg
  obtain ⟨k,rfl⟩:∃ k,g=k+1:=⟨g - 1,by omega⟩
  simp only [Zko,Qi,List.cons_append,Zci]
  rw [Zib t 1000 p ⟨44,[44],_⟩ _ N (by have:=(GT.fine_iff ht).2.2; omega) (by simp)]
  simp only
  rw [if_neg (by simp),ih u k _ d rest _ _ (hu u (by simp)) (fun x hx=>hu x (by simp [hx])) (by omega)]
  simp [Zcx]
def clTk (a:GT):List GT→Nat→List Tok
 | [],p=>a.tk p++[⟨46,[46],p+a.text.length⟩]
 | t::r,p=>a.tk p++(⟨3,[58,45],p+a.text.length⟩::(Zko t r (p+a.text.length+2)++[⟨46,[46],p+a.text.length+2+(Zcb t r).length⟩]))
theorem Ztd (c:GT × List GT) (hc:ClFine c) (rest:List UInt8) (p:Nat):toks (clT c.1 c.2++rest) p=clTk c.1 c.2 p++toks rest (p+(clT c.1 c.2).length):=by
 obtain ⟨a,b⟩:=c
 obtain ⟨h1,h2,h3⟩:=hc
 simp only at h1 h2 h3 ⊢
 cases b with
 | nil =>
  simp only [clT,clTk,Qi,List.cons_append,List.nil_append]
  rw [Zhp a _ _ (GT.fine_iff h1).2.1 (Zao _ _ (by decide +kernel)),Zdq (Or.inr (Or.inr (Or.inr rfl)))]
  have e:p+a.text.length+1=p+(a.text++[46]).length:=by simp; omega
  rw [e]
  rfl
 | cons t r =>
  simp only [clT,clTk,Qi,List.cons_append,List.nil_append]
  rw [Zhp a _ _ (GT.fine_iff h1).2.1 (Zao _ _ (by decide +kernel)),Znm,Zqu r t _ _ (h2 t (by simp)) (fun x hx=>h2 x (by simp [hx])) (Zao _ _ (by decide +kernel)),Zdq (Or.inr (Or.inr (Or.inr rfl)))]
  have e:p+a.text.length+2+(Zcb t r).length+1=p+(a.text++58::45::(Zcb t r++[46])).length:=by simp; omega
  rw [e]
  rfl
def clOf (c:GT × List GT):Cls:=⟨(c.1.syms []).1,(Zcx c.2 (c.1.syms []).2).1,(Zcx c.2 (c.1.syms []).2).2⟩
theorem Zqv (c:GT × List GT) (hc:ClFine c) (p:Nat) (rest:List Tok):Zcs (clTk c.1 c.2 p++rest)=some (clOf c,rest):=by
 obtain ⟨a,b⟩:=c
 obtain ⟨h1,h2,h3⟩:=hc
 simp only at h1 h2 h3 ⊢
 cases b with
 | nil =>
  simp only [clTk,Qi,List.cons_append,List.nil_append,Zcs]
  rw [Zib a 1000 p ⟨46,[46],_⟩ rest [] (by have:=(GT.fine_iff h1).2.2; omega) (by simp)]
  simp [clOf,Zcx]
 | cons t r =>
  simp only [Qf] at h3
  simp only [clTk,Qi,List.cons_append,List.nil_append,Zcs]
  rw [Zib a 1000 p ⟨3,[58,45],_⟩ _ [] (by have:=(GT.fine_iff h1).2.2; omega) (by simp)]
  simp only
  rw [if_pos trivial,Zmc r t 1000 _ _ rest _ [] (h2 t (by simp)) (fun x hx=>h2 x (by simp [hx])) (by omega)]
  simp [clOf]
def Znn:List (GT × List GT)→Nat→List Tok
 | [],_=>[]
 | c::P,p=>clTk c.1 c.2 p++Znn P (p+(clT c.1 c.2).length)
theorem Yao:∀ (P:List (GT × List GT)) (p:Nat),(∀ c ∈ P,ClFine c)→toks (Zcl P) p=Znn P p:=by
 intro P
 induction P with
 | nil=>intro p _; rfl
 | cons c P ih =>
  intro p hc
  rw [show Zcl (c::P)=clT c.1 c.2++Zcl P by simp [Zcl],Ztd c (hc c (by simp)),ih _ (fun x hx=>hc x (by simp [hx]))]
  rfl
theorem Yfy (t:GT) (h:t.atom=true) (p:Nat):∃ x r,t.tk p=x::r∧x.kind=1:=by
 cases t with
 | v s=>simp [GT.atom] at h
 | n s=>exact ⟨_,_,rfl,rfl⟩
 | f s t=>exact ⟨_,_,rfl,rfl⟩
 | g s t u=>exact ⟨_,_,rfl,rfl⟩
theorem Zxb:∀ (P:List (GT × List GT)) (g p d:Nat) (acc:List Cls),(∀ c ∈ P,ClFine c)→P.length<g→Zee g (Znn P p++[⟨4,[],d⟩]) acc=some (acc++P.map clOf):=by
 intro P
 induction P with
 | nil =>
  intro g p d acc _ hg
  obtain ⟨k,rfl⟩:∃ k,g=k+1:=⟨g - 1,by omega⟩
  simp [Znn,Zee]
 | cons c P ih =>
  intro g p d acc hc hg
  simp only [Qf] at hg
  obtain ⟨k,rfl⟩:∃ k,g=k+1:=⟨g - 1,by omega⟩
  have hcc:=hc c (by simp)
  obtain ⟨x,r,hx,hx1⟩:=Yfy c.1 (GT.fine_iff hcc.head).1 p
  obtain ⟨r',hr'⟩:∃ r',clTk c.1 c.2 p=x::r':=by
   cases hb:c.2 with
   | nil=>exact ⟨_,by simp only [clTk]; rw [hx]; rfl⟩
   | cons t q=>exact ⟨_,by simp only [clTk]; rw [hx]; rfl⟩
  have hpc:=Zqv c hcc p (Znn P (p+(clT c.1 c.2).length)++[⟨4,[],d⟩])
  simp only [Znn,Qi]
  rw [hr'] at hpc ⊢
  simp only [List.cons_append] at hpc ⊢
  rw [Zee,if_neg (by omega),hpc]
  simp only
  rw [ih k _ d _ (fun y hy=>hc y (by simp [hy])) (by omega)]
  simp
theorem Ziv (P:List (GT × List GT)) (hc:∀ c ∈ P,ClFine c) (hl:P.length≤24) (hs:(Zcl P).length≤800):Zcp ⟨(Zcl P).toArray⟩=some (P.map clOf):=by
 obtain ⟨cs,h⟩:=Ydl P hc hl hs
 rw [h]
 unfold Zcp at h
 split at h
 ·simp at h
 ·split at h
  ·simp at h
  ·unfold Zal at h
   rw [show (⟨(Zcl P).toArray⟩:ByteArray).data.toList=Zcl P from rfl,Yao P 0 hc,Zxb P 1000 0 _ [] hc (by omega)] at h
   simpa using h.symm
theorem Zno (t:GT) (r:List GT) (ht:t.fine=true) (hr:∀ u ∈ r,u.fine=true) (hl:r.length<6) (hs:(Zcb t r++[46]).length≤120):Zeb ⟨(Zcb t r++[46]).toArray⟩=some (Zcx (t::r) []):=by
 obtain ⟨a,h⟩:=Yfx t r ht hr hl hs
 rw [h]
 unfold Zeb at h
 split at h
 ·simp at h
 ·split at h
  ·simp at h
  ·unfold Zal at h
   have e:toks (⟨(Zcb t r++[46]).toArray⟩:ByteArray).data.toList 0=Zko t r 0++[⟨46,[46],0+(Zcb t r).length⟩]:=by
    show toks (Zcb t r++[46]) 0=_
    rw [Zqu r t _ _ ht hr (Zao _ _ (by decide +kernel)),Zdq (Or.inr (Or.inr (Or.inr rfl)))]
    rfl
   rw [e,Qi,List.singleton_append,Zmc r t 1000 0 _ _ [] [] ht hr (by omega)] at h
   simpa using h.symm
theorem Zff {α β:Type} {f g:α→List β} {l:List α} (h:∀ x ∈ l,f x=g x):l.flatMap f=l.flatMap g:=by
 induction l with
 | nil=>rfl
 | cons a l ih=>rw [List.flatMap_cons,List.flatMap_cons,h a (by simp),ih (fun x hx=>h x (by simp [hx]))]
def tok0 (t:Tok):Tok:=⟨t.kind,t.text,0⟩
theorem Yap:∀ (n:Nat) (l:List UInt8) (p q:Nat),l.length≤n→(toks l p).map tok0=(toks l q).map tok0:=by
 intro n
 induction n with
 | zero =>
  intro l p q h
  obtain rfl:l=[]:=List.eq_nil_of_length_eq_zero (by omega)
  rfl
 | succ n ih =>
  intro l p q h
  cases l with
  | nil=>rfl
  | cons c r =>
   simp only [Qf] at h
   cases hb:Zgb c with
   | true=>rw [Zhw c r p hb,Zhw c r q hb]; exact ih r _ _ (by omega)
   | false =>
    rw [Zdx c r p hb,Zdx c r q hb]
    simp only [List.map_cons,tok0]
    rw [ih _ (p+(Zbk c r).2+1) (q+(Zbk c r).2+1) (by simp; omega)]
def kt (l:List UInt8):List Tok:=(toks l 0).map tok0
theorem Yaq (l:List UInt8) (p:Nat):(toks l p).map tok0=kt l:=Yap _ l p 0 (Qe _)
theorem Zcn {c:UInt8} {l:List UInt8} (h:Zgb c=true):kt (c::l)=kt l:=by
 unfold kt
 rw [Zhw c l 0 h]
 exact Yaq l 1
theorem Zex {c:UInt8} {l:List UInt8} (h:c=40∨c=41∨c=44∨c=46):kt (c::l)=⟨c.toNat,[c],0⟩::kt l:=by
 unfold kt
 rw [Zdq h,List.map_cons,Yaq]
 rfl
theorem Zpd {l:List UInt8}:kt (58::45::l)=⟨3,[58,45],0⟩::kt l:=by
 unfold kt
 rw [Znm,List.map_cons,Yaq]
 rfl
theorem Yar {b:ByteArray} {k:Nat} {s rest:List UInt8} (hs:Zfr b s=true) (hb:(b=Zdi∧k=1)∨(b=Zeu∧k=2)) (hr:Zbe rest=0):kt (s++rest)=⟨k,s,0⟩::kt rest:=by
 unfold kt
 rw [Zho hs hb hr,List.map_cons,Yaq]
 rfl
def ktG (t:GT):List Tok:=(t.tk 0).map tok0
theorem Zte {t:GT} {rest:List UInt8} (h:t.ok=true) (hr:Zbe rest=0):kt (t.text++rest)=ktG t++kt rest:=by
 unfold kt ktG
 rw [Zhp t rest 0 h hr,Qr,Yaq]
 rfl
abbrev RdO:=Option (List Sym × List Tok × Names)
def rd0 (r:List Sym × List Tok × Names):List Sym × List Tok × Names:=(r.1,r.2.1.map tok0,r.2.2)
def rds0 (r:List (List Sym) × List Tok × Names):List (List Sym) × List Tok × Names:=(r.1,r.2.1.map tok0,r.2.2)
theorem Yfz {p:List Tok→Names→RdO} (hp:∀ ts N,p (ts.map tok0) N=(p ts N).map rd0):∀ (g:Nat) (ts:List Tok) (N:Names) (acc:List (List Sym)),Zdl p g (ts.map tok0) N acc=(Zdl p g ts N acc).map rds0:=by
 intro g
 induction g with
 | zero=>intro ts N acc; rfl
 | succ g ih =>
  intro ts N acc
  cases ts with
  | nil=>rfl
  | cons t ts =>
   simp only [List.map_cons,Zdl]
   by_cases h:t.kind=41
   ·rw [if_pos h,if_pos (show (tok0 t).kind=41 from h)]
    rfl
   ·rw [if_neg h,if_neg (show ¬ (tok0 t).kind=41 from h),hp ts N]
    cases p ts N with
    | none=>rfl
    | some r=>simp only [Option.map_some]; exact ih _ _ _
theorem Yas:∀ (f:Nat) (ts:List Tok) (N:Names),Zce f (ts.map tok0) N=(Zce f ts N).map rd0:=by
 intro f
 induction f with
 | zero=>intro ts N; rfl
 | succ f ih =>
  intro ts N
  cases ts with
  | nil=>rfl
  | cons t ts =>
   simp only [List.map_cons,Zce]
   by_cases h:t.kind=2
   ·rw [if_pos h,if_pos (show (tok0 t).kind=2 from h)]
    rfl
   ·rw [if_neg h,if_neg (show ¬ (tok0 t).kind=2 from h)]
    cases ts with
    | nil=>rfl
    | cons u us =>
     simp only [List.map_cons,Zhk]
     by_cases h2:u.kind≠40
     ·rw [if_pos h2,if_pos (show (tok0 u).kind≠40 from h2)]
      rfl
     ·have e:=Yfz ih (us.length+1) (u::us) N []
      simp only [List.map_cons] at e
      rw [if_neg h2,if_neg (show ¬ (tok0 u).kind≠40 from h2),Ql,e,Option.map_map,Option.map_map]
      rfl
theorem Zuz:∀ (g:Nat) (ts:List Tok) (N:Names) (acc:List (List Sym)),Zci 1000 g (ts.map tok0) N acc=(Zci 1000 g ts N acc).map rds0:=by
 intro g
 induction g with
 | zero=>intro ts N acc; rfl
 | succ g ih =>
  intro ts N acc
  simp only [Zci]
  rw [Yas]
  cases Zce 1000 ts N with
  | none=>rfl
  | some r =>
   simp only [Option.map_some,rd0]
   cases r.2.1 with
   | nil=>rfl
   | cons x rest =>
    simp only [List.map_cons]
    by_cases h:x.kind=46
    ·rw [if_pos h,if_pos (show (tok0 x).kind=46 from h)]
     rfl
    ·rw [if_neg h,if_neg (show ¬ (tok0 x).kind=46 from h)]
     exact ih _ _ _
theorem Yat (ts:List Tok):Zcs (ts.map tok0)=(Zcs ts).map (fun r=>(r.1,r.2.map tok0)):=by
 unfold Zcs
 rw [Yas]
 cases Zce 1000 ts [] with
 | none=>rfl
 | some r =>
  simp only [Option.map_some,rd0]
  cases r.2.1 with
  | nil=>rfl
  | cons x rest =>
   simp only [List.map_cons]
   by_cases h:x.kind=3
   ·rw [if_pos h,if_pos (show (tok0 x).kind=3 from h),Zuz,Option.map_map,Option.map_map]
    rfl
   ·rw [if_neg h,if_neg (show ¬ (tok0 x).kind=3 from h)]
    rfl
theorem Yau:∀ (g:Nat) (ts:List Tok) (acc:List Cls),Zee g (ts.map tok0) acc=Zee g ts acc:=by
 intro g
 induction g with
 | zero=>intro ts acc; rfl
 | succ g ih =>
  intro ts acc
  cases ts with
  | nil=>rfl
  | cons t ts =>
   have e:=Yat (t::ts)
   simp only [List.map_cons] at e
   simp only [List.map_cons,Zee]
   by_cases h:t.kind=4
   ·rw [if_pos h,if_pos (show (tok0 t).kind=4 from h)]
   ·rw [if_neg h,if_neg (show ¬ (tok0 t).kind=4 from h),e]
    cases Zcs (t::ts) with
    | none=>rfl
    | some r=>simp only [Option.map_some]; exact ih _ _
theorem Zpe:∀ (ts:List Tok) (L:LookS),(Zdz (ts.map tok0) L).1=(Zdz ts L).1:=by
 intro ts
 induction ts with
 | nil=>intro L; rfl
 | cons t ts ih =>
  intro L
  simp only [List.map_cons,Zdz]
  by_cases h:t.kind=4∧(L.want=5∨L.want=0)
  ·rw [if_pos h,if_pos (show (tok0 t).kind=4∧_ from h)]
  ·rw [if_neg h,if_neg (show ¬ ((tok0 t).kind=4∧_) from h)]
   by_cases h2:(Zbw L t.kind t.text.length).err≠0
   ·rw [if_pos h2,if_pos (show (Zbw L (tok0 t).kind (tok0 t).text.length).err≠0 from h2)]
    rfl
   ·rw [if_neg h2,if_neg (show ¬ (Zbw L (tok0 t).kind (tok0 t).text.length).err≠0 from h2)]
    exact ih _
theorem Zjk (s:List UInt8):(Zal ⟨s.toArray⟩).map tok0=kt s++[⟨4,[],0⟩]:=by
 unfold Zal
 rw [Qr]
 rfl
theorem Zqw {s s':List UInt8} (h:kt s=kt s') (h1:s.length≤800) (h2:s'.length≤800):Zcp ⟨s.toArray⟩=Zcp ⟨s'.toArray⟩:=by
 have e:(Zal ⟨s.toArray⟩).map tok0=(Zal ⟨s'.toArray⟩).map tok0:=by rw [Zjk,Zjk,h]
 have z1:¬ 800<(⟨s.toArray⟩:ByteArray).size:=by simp [ByteArray.size]; omega
 have z2:¬ 800<(⟨s'.toArray⟩:ByteArray).size:=by simp [ByteArray.size]; omega
 unfold Zcp
 rw [if_neg z1,if_neg z2,← Zpe (Zal ⟨s.toArray⟩),← Zpe (Zal ⟨s'.toArray⟩),← Yau _ (Zal ⟨s.toArray⟩),← Yau _ (Zal ⟨s'.toArray⟩),e]
theorem Ydm {s s':List UInt8} (h:kt s=kt s') (h1:s.length≤120) (h2:s'.length≤120):Zeb ⟨s.toArray⟩=Zeb ⟨s'.toArray⟩:=by
 have e:(Zal ⟨s.toArray⟩).map tok0=(Zal ⟨s'.toArray⟩).map tok0:=by rw [Zjk,Zjk,h]
 have z1:¬ 120<(⟨s.toArray⟩:ByteArray).size:=by simp [ByteArray.size]; omega
 have z2:¬ 120<(⟨s'.toArray⟩:ByteArray).size:=by simp [ByteArray.size]; omega
 have key:∀ ts:List Tok,(Zci 1000 1000 ts [] []).map (fun q=>(q.1,q.2.2))=(Zci 1000 1000 (ts.map tok0) [] []).map (fun q=>(q.1,q.2.2)):=fun ts=>by
  rw [Zuz,Option.map_map]
  rfl
 unfold Zeb
 rw [if_neg z1,if_neg z2,← Zpe (Zal ⟨s.toArray⟩),← Zpe (Zal ⟨s'.toArray⟩),key (Zal ⟨s.toArray⟩),key (Zal ⟨s'.toArray⟩),e]
structure Sty (cm ar dt:List UInt8):Prop where
 c:∀ r,kt (cm++r)=⟨44,[44],0⟩::kt r
 cw:∀ r,Zbe (cm++r)=0
 a:∀ r,kt (ar++r)=⟨3,[58,45],0⟩::kt r
 aw:∀ r,Zbe (ar++r)=0
 d:∀ r,kt (dt++r)=⟨46,[46],0⟩::kt r
 dw:∀ r,Zbe (dt++r)=0
def styB (at':GT→List UInt8) (cm:List UInt8):GT→List GT→List UInt8
 | t,[]=>at' t
 | t,u::r=>at' t++(cm++styB at' cm u r)
def styT (at':GT→List UInt8) (cm ar dt:List UInt8) (a:GT):List GT→List UInt8
 | []=>at' a++dt
 | t::r=>at' a++(ar++(styB at' cm t r++dt))
def Ztf (K:GT→List Tok):GT→List GT→List Tok
 | t,[]=>K t
 | t,u::r=>K t++(⟨44,[44],0⟩::Ztf K u r)
def styK (K:GT→List Tok) (a:GT):List GT→List Tok
 | []=>K a++[⟨46,[46],0⟩]
 | t::r=>K a++(⟨3,[58,45],0⟩::(Ztf K t r++[⟨46,[46],0⟩]))
def Zqx (at':GT→List UInt8) (K:GT→List Tok) (t:GT):Prop:=∀ r,Zbe r=0→kt (at' t++r)=K t++kt r
theorem Ztg {at':GT→List UInt8} {K:GT→List Tok} {cm ar dt:List UInt8} (h:Sty cm ar dt):∀ (r:List GT) (t:GT) (rest:List UInt8),Zqx at' K t→(∀ u ∈ r,Zqx at' K u)→Zbe rest=0→kt (styB at' cm t r++rest)=Ztf K t r++kt rest:=by
 intro r
 induction r with
 | nil=>intro t rest ht _ hr; exact ht rest hr
 | cons u r ih =>
  intro t rest ht hu hr
  simp only [styB,Ztf,Qi,List.cons_append]
  rw [ht _ (h.cw _),h.c,ih u rest (hu u (by simp)) (fun x hx=>hu x (by simp [hx])) hr]
theorem Yga {at':GT→List UInt8} {K:GT→List Tok} {cm ar dt:List UInt8} (h:Sty cm ar dt) (a:GT) (b:List GT) (rest:List UInt8) (ha:Zqx at' K a) (hb:∀ u ∈ b,Zqx at' K u):kt (styT at' cm ar dt a b++rest)=styK K a b++kt rest:=by
 cases b with
 | nil =>
  simp only [styT,styK,Qi,List.cons_append,List.nil_append]
  rw [ha _ (h.dw _),h.d]
 | cons t r =>
  simp only [styT,styK,Qi,List.cons_append,List.nil_append]
  rw [ha _ (h.aw _),h.a,Ztg h r t _ (hb t (by simp)) (fun x hx=>hb x (by simp [hx])) (h.dw _),h.d]
theorem Zth {at':GT→List UInt8} {K:GT→List Tok} {cm ar dt:List UInt8} (h:Sty cm ar dt):∀ (P:List (GT × List GT)),(∀ c ∈ P,Zqx at' K c.1∧∀ u ∈ c.2,Zqx at' K u)→kt (P.flatMap (fun c=>styT at' cm ar dt c.1 c.2))=P.flatMap (fun c=>styK K c.1 c.2):=by
 intro P
 induction P with
 | nil=>intro _; rfl
 | cons c P ih =>
  intro hc
  rw [List.flatMap_cons,List.flatMap_cons,Yga h c.1 c.2 _ (hc c (by simp)).1 (hc c (by simp)).2,ih (fun x hx=>hc x (by simp [hx]))]
theorem sty0:Sty [44] [58,45] [46] :=
 ⟨fun r=>Zex (by simp),fun r=>Zao _ _ (by decide +kernel),fun r=>Zpd,fun r=>Zao _ _ (by decide +kernel),fun r=>Zex (by simp),fun r=>Zao _ _ (by decide +kernel)⟩
theorem sty1:Sty [10,44,32] [10,58,45,32] [10,46,32]:=by
 refine ⟨fun r => ?_,fun r=>Zao _ _ (by decide +kernel),fun r => ?_,fun r=>Zao _ _ (by decide +kernel),fun r => ?_,fun r=>Zao _ _ (by decide +kernel)⟩
 ·simp only [List.cons_append,List.nil_append]
  rw [Zcn (by decide),Zex (by simp),Zcn (by decide)]
  rfl
 ·simp only [List.cons_append,List.nil_append]
  rw [Zcn (by decide),Zpd,Zcn (by decide)]
 ·simp only [List.cons_append,List.nil_append]
  rw [Zcn (by decide),Zex (by simp),Zcn (by decide)]
  rfl
theorem sty2:Sty [44,32] [32,58,45,32] [46,10]:=by
 refine ⟨fun r => ?_,fun r=>Zao _ _ (by decide +kernel),fun r => ?_,fun r=>Zao _ _ (by decide +kernel),fun r => ?_,fun r=>Zao _ _ (by decide +kernel)⟩
 ·simp only [List.cons_append,List.nil_append]
  rw [Zex (by simp),Zcn (by decide)]
  rfl
 ·simp only [List.cons_append,List.nil_append]
  rw [Zcn (by decide),Zpd,Zcn (by decide)]
 ·simp only [List.cons_append,List.nil_append]
  rw [Zex (by simp),Zcn (by decide)]
  rfl
theorem Zqy:∀ (r:List GT) (t:GT),styB GT.text [44] t r=Zcb t r:=by
 intro r
 induction r with
 | nil=>intro t; rfl
 | cons u r ih=>intro t; simp only [styB,Zcb,ih u]; rfl
theorem Zpf (a:GT) (b:List GT):styT GT.text [44] [58,45] [46] a b=clT a b:=by
 cases b with
 | nil=>rfl
 | cons t r=>simp only [styT,clT,Zqy]; rfl
theorem Zfg {t:GT} (h:t.ok=true):Zqx GT.text ktG t:=fun r hr=>Zte h hr
theorem Yav (P:List (GT × List GT)) (hc:∀ c ∈ P,ClFine c):kt (Zcl P)=P.flatMap (fun c=>styK ktG c.1 c.2):=by
 have:=Zth sty0 (at':=GT.text) (K:=ktG) P (fun c h=>⟨Zfg (GT.fine_iff (hc c h).head).2.1,fun u hu=>Zfg (GT.fine_iff ((hc c h).body u hu)).2.1⟩)
 rw [← this]
 unfold Zcl
 congr 1
 exact Zff (fun c _=>(Zpf c.1 c.2).symm)
def GT.ren (ρ:List UInt8→List UInt8):GT→GT
 | .v s => .v (ρ s)
 | .n s => .n s
 | .f s t => .f s (t.ren ρ)
 | .g s t u => .g s (t.ren ρ) (u.ren ρ)
def GT.vars:GT→List (List UInt8)
 | .v s=>[s]
 | .n _=>[]
 | .f _ t=>t.vars
 | .g _ t u=>t.vars++u.vars
def Zxc (ρ:List UInt8→List UInt8) (S:List (List UInt8)):Prop:=∀ a ∈ S,∀ b ∈ S,ρ a=ρ b→a=b
theorem Ygb {ρ:List UInt8→List UInt8} {S:List (List UInt8)} (hi:Zxc ρ S) {s:List UInt8} (hs:s ∈ S):∀ (N:Names),(∀ x ∈ N,x ∈ S)→(N.map ρ).idxOf (ρ s)=N.idxOf s:=by
 intro N
 induction N with
 | nil=>intro _; rfl
 | cons a N ih =>
  intro hN
  rw [List.map_cons,List.idxOf_cons,List.idxOf_cons,ih (fun x hx=>hN x (by simp [hx]))]
  by_cases h:a=s
  ·subst h
   simp
  ·have h2:ρ a≠ρ s:=fun e=>h (hi a (hN a (by simp)) s hs e)
   have e1:(a == s)=false:=by simpa using h
   have e2:(ρ a == ρ s)=false:=by simpa using h2
   rw [e1,e2]
theorem Zqz {ρ:List UInt8→List UInt8} {S:List (List UInt8)} (hi:Zxc ρ S) {s:List UInt8} (hs:s ∈ S) {N:Names} (hN:∀ x ∈ N,x ∈ S):Zba (N.map ρ) (ρ s)=((Zba N s).1.map ρ,(Zba N s).2):=by
 unfold Zba
 by_cases h:s ∈ N
 ·rw [if_pos h,if_pos (List.mem_map_of_mem h),Ygb hi hs N hN]
 ·have h2:ρ s ∉ N.map ρ:=fun e=>by
   obtain ⟨x,hx,e⟩:=List.mem_map.1 e
   rw [hi x (hN x hx) s hs e] at hx
   exact h hx
  rw [if_neg h,if_neg h2]
  simp
theorem Zra {S:List (List UInt8)} {s:List UInt8} (hs:s ∈ S) {N:Names} (hN:∀ x ∈ N,x ∈ S):∀ x ∈ (Zba N s).1,x ∈ S:=by
 unfold Zba
 split
 ·exact hN
 ·intro x hx
  rcases Qk.1 hx with h | h
  ·exact hN x h
  ·simp at h
   subst h
   exact hs
theorem Zva {ρ:List UInt8→List UInt8} {S:List (List UInt8)} (hi:Zxc ρ S):∀ (t:GT) (N:Names),(∀ x ∈ t.vars,x ∈ S)→(∀ x ∈ N,x ∈ S)→(t.ren ρ).syms (N.map ρ)=((t.syms N).1,(t.syms N).2.map ρ)∧∀ x ∈ (t.syms N).2,x ∈ S:=by
 intro t
 induction t with
 | v s =>
  intro N hv hN
  have hs:=hv s (by simp [GT.vars])
  simp only [GT.ren,GT.syms]
  rw [Zqz hi hs hN]
  exact ⟨rfl,Zra hs hN⟩
 | n s=>intro N hv hN; exact ⟨rfl,hN⟩
 | f s t ih =>
  intro N hv hN
  obtain ⟨h1,h2⟩:=ih N hv hN
  simp only [GT.ren,GT.syms]
  rw [h1]
  exact ⟨rfl,h2⟩
 | g s t u iht ihu =>
  intro N hv hN
  obtain ⟨h1,h2⟩:=iht N (fun x hx=>hv x (by simp [GT.vars,hx])) hN
  obtain ⟨h3,h4⟩:=ihu _ (fun x hx=>hv x (by simp [GT.vars,hx])) h2
  simp only [GT.ren,GT.syms]
  rw [h1]
  simp only
  rw [h3]
  exact ⟨rfl,h4⟩
theorem Zrb {ρ:List UInt8→List UInt8} {S:List (List UInt8)} (hi:Zxc ρ S):∀ (l:List GT) (N:Names),(∀ t ∈ l,∀ x ∈ t.vars,x ∈ S)→(∀ x ∈ N,x ∈ S)→Zcx (l.map (GT.ren ρ)) (N.map ρ)=((Zcx l N).1,(Zcx l N).2.map ρ)∧∀ x ∈ (Zcx l N).2,x ∈ S:=by
 intro l
 induction l with
 | nil=>intro N _ hN; exact ⟨rfl,hN⟩
 | cons t l ih =>
  intro N hv hN
  obtain ⟨h1,h2⟩:=Zva hi t N (hv t (by simp)) hN
  obtain ⟨h3,h4⟩:=ih _ (fun u hu=>hv u (by simp [hu])) h2
  simp only [List.map_cons,Zcx]
  rw [h1]
  simp only
  rw [h3]
  exact ⟨rfl,h4⟩
def Zgm (ρ:List UInt8→List UInt8) (c:GT × List GT):GT × List GT:=(c.1.ren ρ,c.2.map (GT.ren ρ))
theorem Zpg {ρ:List UInt8→List UInt8} {S:List (List UInt8)} (hi:Zxc ρ S) (c:GT × List GT) (h1:∀ x ∈ c.1.vars,x ∈ S) (h2:∀ t ∈ c.2,∀ x ∈ t.vars,x ∈ S):clOf (Zgm ρ c)=⟨(clOf c).head,(clOf c).body,(clOf c).names.map ρ⟩:=by
 obtain ⟨e1,e2⟩:=Zva hi c.1 [] h1 (by simp)
 obtain ⟨e3,e4⟩:=Zrb hi c.2 _ h2 e2
 simp only [List.map_nil] at e1
 unfold clOf Zgm
 simp only
 rw [e1]
 simp only
 rw [e3]
theorem Ydn (ρ:List UInt8→List UInt8) (t:GT):(t.ren ρ).size=t.size:=by
 induction t with
 | v s=>rfl
 | n s=>rfl
 | f s t ih=>simp only [GT.ren,GT.size,ih]
 | g s t u iht ihu=>simp only [GT.ren,GT.size,iht,ihu]
theorem Yaw {ρ:List UInt8→List UInt8} {t:GT} (h:t.ok=true) (hv:∀ x ∈ t.vars,Zfr Zeu (ρ x)=true):(t.ren ρ).ok=true:=by
 induction t with
 | v s=>exact hv s (by simp [GT.vars])
 | n s=>exact h
 | f s t ih =>
  simp only [GT.ok,Bool.and_eq_true] at h
  simp only [GT.ren,GT.ok,Bool.and_eq_true]
  exact ⟨h.1,ih h.2 hv⟩
 | g s t u iht ihu =>
  simp only [GT.ok,Bool.and_eq_true] at h
  simp only [GT.ren,GT.ok,Bool.and_eq_true]
  exact ⟨h.1,iht h.2.1 (fun x hx=>hv x (by simp [GT.vars,hx])),ihu h.2.2 (fun x hx=>hv x (by simp [GT.vars,hx]))⟩
theorem Zph {ρ:List UInt8→List UInt8} {t:GT} (h:t.fine=true) (hv:∀ x ∈ t.vars,Zfr Zeu (ρ x)=true):(t.ren ρ).fine=true:=by
 obtain ⟨h1,h2,h3⟩:=GT.fine_iff h
 have ha:(t.ren ρ).atom=true:=by cases t <;> first | exact h1 | rfl
 simp only [GT.fine,Bool.and_eq_true,decide_eq_true_eq]
 exact ⟨ha,Yaw h2 hv,by rw [Ydn]; exact h3⟩
theorem Znp {ρ:List UInt8→List UInt8} {c:GT × List GT} (h:ClFine c) (h1:∀ x ∈ c.1.vars,Zfr Zeu (ρ x)=true) (h2:∀ t ∈ c.2,∀ x ∈ t.vars,Zfr Zeu (ρ x)=true):ClFine (Zgm ρ c):=by
 refine ⟨Zph h.head h1,fun t ht => ?_,by simpa [Zgm] using h.len⟩
 obtain ⟨u,hu,rfl⟩:=List.mem_map.1 ht
 exact Zph (h.body u hu) (h2 u hu)
def Zvb (c d:Cls):Prop:=c.head=d.head∧c.body=d.body∧c.n=d.n
open Classical in
noncomputable def Yho (P:ND × Nat→Prop):ND × Nat:=if h:∃ r,P r then Classical.choose h else (⟨[],[],[],[],0⟩,0)
theorem Zxd {c d:Cls} (h:Zvb c d) (m:ND) (k:Nat):tryN m c k=tryN m d k:=by
 obtain ⟨h1,h2,h3⟩:=h
 have hO:∀ n,Out n c k=Out n d k:=fun n=>by
  funext q ch
  unfold Out Zax
  rw [h1,h2,h3]
 have e:∀ c,tryN m c k=Yho (fun r=>∃ n,NOk n∧Same n m∧Out n c k r.2 r.1):=fun c=>rfl
 rw [e c,e d]
 simp only [hO]
abbrev Ext (w w':World):Prop:=Below w.heap.size w w'
section inv
variable {P:Program} {ops:Array Oper} {Q:Exit→Act→World→Prop} {md:Region.Mode}
def unl (ops:Array Oper) (L:Array Bool):Nat:=((List.range ops.size).filter (fun i => !L.getD i true)).length
theorem Zrc {α:Type} {p q:α→Bool} {l:List α} (h:∀ x ∈ l,q x=true→p x=true) {x:α} (hx:x ∈ l) (hp:p x=true) (hq:q x=false):(l.filter q).length<(l.filter p).length:=by
 induction l with
 | nil=>simp at hx
 | cons y l ih =>
  have hle:(l.filter q).length≤(l.filter p).length:=by
   clear ih hx
   induction l with
   | nil=>simp
   | cons z l ih =>
    have h1:=h z (by simp)
    have h2:=ih (fun u hu=>h u (by
     rcases Qp.1 hu with rfl | hu
     ·simp
     ·simp [hu]))
    simp only [List.filter_cons]
    split
    ·rename_i hz
     rw [if_pos (h1 hz)]; simp; omega
    ·split <;> simp <;> omega
  simp only [List.filter_cons]
  rcases Qp.1 hx with rfl | hx
  ·rw [hp,hq]; simp; omega
  ·have:=ih (fun u hu=>h u (by simp [hu])) hx
   split
   ·rename_i hy
    rw [if_pos (h y (by simp) hy)]; simp; omega
   ·split <;> simp <;> omega
theorem Yax {L:Array Bool} {i:Nat} (hi:i<ops.size) (hl:L.getD i true=false):unl ops (L.setIfInBounds i true)<unl ops L:=by
 have hil:i<L.size:=by
  rcases Nat.lt_or_ge i L.size with h | h
  ·exact h
  ·simp [Array.getElem?_eq_none h] at hl
 refine Zrc (x:=i) (fun j _ hj => ?_) (List.mem_range.2 hi) (by simp at hl ⊢; exact hl) (by simp [hil])
 by_cases e:i=j
 ·subst e; simp [hil] at hj
 ·rw [getD_set_ne true e] at hj; exact hj
theorem Zmd {J:Array Bool→Act→World→Prop} (hs:∀ L a w i,i ∈ Region.ready md ops L→J L a w→wpOp P ops Q i (J (L.setIfInBounds i true)) a w)
  (hf:∀ L a w,Region.ready md ops L=[]→J L a w→Q .normal a w):∀ (fuel:Nat) (L:Array Bool) (a:Act) (w:World),unl ops L≤fuel→J L a w→wpAny P md ops Q fuel L a w:=by
 intro fuel
 induction fuel with
 | zero =>
  intro L a w hu hJ
  have hr:Region.ready md ops L=[]:=by
   cases h:Region.ready md ops L with
   | nil=>rfl
   | cons i r =>
    have hi:i ∈ Region.ready md ops L:=by rw [h]; simp
    obtain ⟨h0,o,ho,_⟩:=mem_ready.1 hi
    have:=Yax (ops:=ops) (Array.getElem?_eq_some_iff.1 ho).1 h0
    omega
  exact ⟨hr,hf L a w hr hJ⟩
 | succ fuel ih =>
  intro L a w hu hJ
  refine ⟨fun hr=>hf L a w hr hJ,fun i hi=>wpOp_mono (fun a' w' h=>ih _ a' w' ?_ h) (hs L a w i hi hJ)⟩
  obtain ⟨h0,o,ho,_⟩:=mem_ready.1 hi
  have:=Yax (ops:=ops) (Array.getElem?_eq_some_iff.1 ho).1 h0
  omega
end inv
inductive Kd where
 | pur (c:Value)
 | post (g:Value→Value)
 | cal
 | alo (t:TypeId) (z:Array Value) (s:Nat) (cs:Value→Array Value)
 | sto (i:Nat)
def Kd.val (vc:Value) (β:Nat→Nat) (i:Nat):Kd→Value
 | .pur c=>c
 | .post g=>g vc
 | .cal=>vc
 | .alo .. => .pointer (some ⟨β i,0,none⟩)
 | .sto _=>undef
def pa (a0:Act) (vc:Value) (β:Nat→Nat) (lst:Nat→Bool):Nat→List Oper→List Kd→Act
 | _,[],_=>a0
 | _,_,[]=>a0
 | k,o::os,q::qs=>if lst k then (pa a0 vc β lst (k+1) os qs).put o.dst (q.val vc β k) else pa a0 vc β lst (k+1) os qs
abbrev paAll (a0:Act) (ops:List Oper) (kd:List Kd) (vc:Value) (β:Nat→Nat):Act:=pa a0 vc β (fun _=>true) 0 ops kd
def Zdg:Kd→Bool
 | .post _=>true
 | .sto _=>true
 | _=>false
def Zep:Kd→Bool
 | .post _=>true
 | .cal=>true
 | _=>false
def Zdn (o:Oper) (j:Nat):Bool:=o.after.any fun e=>Region.binds .any e && e.on == j
def Zic (ops:List Oper) (kd:List Kd) (ic:Nat):Bool :=
 ops.length == kd.length &&
 (List.range ops.length).all fun i=>match ops[i]?,kd[i]? with
  | some o,some q =>
   o.guard.isNone && (match o.op with | .select .. => false | _=>true) &&
   (o.after.all fun e => !Region.binds .any e || e.on<i) &&
   ((List.range ops.length).all fun j=>match ops[j]? with
    | some p=>match p.dst with
     | some d=>((j == i) || (o.dst != some d)) && (!(o.looksAt ops.toArray).contains d || Zdn o j)
     | none=>true
    | none=>true) &&
   (match q with
    | .pur _=>true
    | .cal=>i == ic
    | .post _=>(List.range i).any fun j=>Zdn o j && (match kd[j]? with | some r=>Zep r | none=>false)
    | .alo _ _ s _=>match kd[s]? with | some (.sto k)=>k == i | _=>false
    | .sto k=>o.dst.isNone && Zdn o k && ((List.range i).any fun j=>Zdn o j && (match kd[j]? with | some r=>Zep r | none=>false)) && (match kd[k]? with | some (.alo _ _ s _)=>s == i | _=>false))
  | _,_=>false
theorem Zfd {a0:Act} {vc vc':Value} {β β':Nat→Nat} {lst lst':Nat→Bool}:∀ {ops:List Oper} {kd:List Kd} {k:Nat},(∀ j q,kd[j]?=some q→lst (k+j)=lst' (k+j)∧(lst (k+j)=true→q.val vc β (k+j)=q.val vc' β' (k+j))) →
  pa a0 vc β lst k ops kd=pa a0 vc' β' lst' k ops kd:=by
 intro ops
 induction ops with
 | nil=>intro kd k _; simp [pa]
 | cons o os ih =>
  intro kd k h
  cases kd with
  | nil=>simp [pa]
  | cons q qs =>
   have h0:=h 0 q rfl
   simp only [Nat.add_zero] at h0
   have ih':=ih (kd:=qs) (k:=k+1) (fun j r hr=>by
    have:=h (j+1) r (by simpa using hr)
    have e:k+1+j=k+(j+1):=by omega
    rw [e]; exact this)
   rw [pa,pa,ih',← h0.1]
   split
   ·rename_i hk; rw [h0.2 hk]
   ·rfl
theorem Zti {a0:Act} {vc:Value} {β:Nat→Nat} {lst:Nat→Bool} {x:Operand}:∀ {ops:List Oper} {kd:List Kd} {k:Nat},(∀ j o,ops[j]?=some o→lst (k+j)=false→∀ d,o.dst=some d→x ≠ .tmp d) →
  (pa a0 vc β lst k ops kd).eval x=(pa a0 vc β (fun _=>true) k ops kd).eval x:=by
 intro ops
 induction ops with
 | nil=>intro kd k _; simp [pa]
 | cons o os ih =>
  intro kd k h
  cases kd with
  | nil=>simp [pa]
  | cons q qs =>
   have ih':=ih (kd:=qs) (k:=k+1) (fun j r hr hl=>by
    have e:k+1+j=k+(j+1):=by omega
    rw [e] at hl
    exact h (j+1) r (by simpa using hr) hl)
   rw [pa,pa]
   simp only [if_true]
   by_cases hx:∃ d,o.dst=some d∧x = .tmp d
   ·obtain ⟨d,hd,rfl⟩:=hx
    cases hk:lst k
    ·exact absurd rfl (h 0 o rfl hk d hd)
    ·simp only [if_true]
     rw [hd]
     have hsz:∀ (lst':Nat→Bool) (k':Nat) (os':List Oper) (qs':List Kd),(pa a0 vc β lst' k' os' qs').tmps.size=a0.tmps.size:=by
      intro lst' k' os'
      induction os' generalizing k' with
      | nil=>intro qs'; simp [pa]
      | cons o' os' ih2 =>
       intro qs'
       cases qs' with
       | nil=>simp [pa]
       | cons q' qs' =>
        rw [pa]
        split
        ·cases o'.dst <;> simp [Act.put,ih2]
        ·exact ih2 _ _
     simp only [Act.eval,Act.put,Array.getD_eq_getD_getElem?]
     rcases Nat.lt_or_ge d a0.tmps.size with hd' | hd'
     ·rw [Array.getElem?_setIfInBounds_self_of_lt (by rw [hsz]; exact hd'),Array.getElem?_setIfInBounds_self_of_lt (by rw [hsz]; exact hd')]
     ·rw [Array.getElem?_eq_none (by simp [hsz]; omega),Array.getElem?_eq_none (by simp [hsz]; omega)]
   ·have hne:∀ d,o.dst=some d→x ≠ .tmp d:=fun d hd e=>hx ⟨d,hd,e⟩
    rw [Act.eval_put hne]
    split
    ·rw [Act.eval_put hne]; exact ih'
    ·exact ih'
theorem Yay {a0:Act} {vc:Value} {β:Nat→Nat} {lst:Nat→Bool}:∀ {ops:List Oper} {kd:List Kd} {k i:Nat} {o:Oper} {q:Kd},ops[i]?=some o→kd[i]?=some q→lst (k+i)=false →
  (∀ j p d,ops[j]?=some p→p.dst=some d→j=i∨o.dst≠some d)→pa a0 vc β (fun j=>lst j || j == k+i) k ops kd=(pa a0 vc β lst k ops kd).put o.dst (q.val vc β (k+i)):=by
 intro ops
 induction ops with
 | nil=>intro kd k i o q h; simp at h
 | cons p os ih =>
  intro kd k i o q ho hq hl hd
  cases kd with
  | nil=>simp at hq
  | cons r qs =>
   cases i with
   | zero =>
    simp at ho hq
    subst ho hq
    simp only [Nat.add_zero] at hl ⊢
    rw [pa,pa]
    simp only [hl,Bool.false_or,BEq.rfl,if_true,Bool.false_eq_true,if_false]
    congr 1
    refine Zfd (fun j s hs=>⟨?_,fun _=>rfl⟩)
    have:(k+1+j == k)=false:=by rw [Qu]; omega
    simp [this]
   | succ i =>
    have e:k+(i+1)=k+1+i:=by omega
    have ih':=ih (kd:=qs) (k:=k+1) (i:=i) (o:=o) (q:=q) (by simpa using ho) (by simpa using hq) (by rw [← e]; exact hl) (fun j p' d hp hd'=>by
     rcases hd (j+1) p' d (by simpa using hp) hd' with h | h
     ·exact Or.inl (by omega)
     ·exact Or.inr h)
    rw [e]
    rw [pa,pa,ih']
    have hk:(k == k+1+i)=false:=by rw [Qu]; omega
    simp only [hk,Bool.or_false]
    split
    ·refine Act.put_comm _ _ _ (fun d hd' e' => ?_)
     rcases hd 0 p d rfl e' with h | h
     ·omega
     ·exact h hd'
    ·rfl
def Ob (P:Program) (kd:List Kd) (w0:World) (FA:Value→(Nat→Nat)→Act) (R:(Nat→Prop)→Value→World→Prop) (f:FuncId) (args:Array Value) (o:Oper):Kd→Prop
 | .pur c=>∀ vc β w,Ext w0 w→(execOp (FA vc β).eval o).run P w = .ok (.value c) w
 | .post g=>∀ vc β X w,R X vc w→(execOp (FA vc β).eval o).run P w = .ok (.value (g vc)) w
 | .cal=>∀ vc β w,(execOp (FA vc β).eval o).run P w = .ok (.enter f args) w
 | .alo t z _ _=>∀ vc β w,(execOp (FA vc β).eval o).run P w = .ok (.value (.pointer (some ⟨w.heap.size,0,none⟩))) (w.alloc (.cells z t))
 | .sto i=>∀ vc β X w t z s cs,kd[i]?=some (.alo t z s cs)→R X vc w→w.heap[β i]?=some (.cells z t (0,0)) →
   ∃ w',(execOp (FA vc β).eval o).run P w = .ok .skip w'∧w'.heap[β i]?=some (.cells (cs vc) t (0,0))∧Kept (fun k=>k=β i) w w'
def AllOb (P:Program) (kd:List Kd) (w0:World) (FA:Value→(Nat→Nat)→Act) (R:(Nat→Prop)→Value→World→Prop) (f:FuncId) (args:Array Value):List Oper→List Kd→Prop
 | o::os,q::qs=>Ob P kd w0 FA R f args o q∧AllOb P kd w0 FA R f args os qs
 | _,_=>True
theorem AllOb.at {P:Program} {kd:List Kd} {w0:World} {FA:Value→(Nat→Nat)→Act} {R:(Nat→Prop)→Value→World→Prop} {f:FuncId} {args:Array Value}:∀ {ops:List Oper} {ks:List Kd},AllOb P kd w0 FA R f args ops ks →
  ∀ {i:Nat} {o:Oper} {q:Kd},ops[i]?=some o→ks[i]?=some q→Ob P kd w0 FA R f args o q:=by
 intro ops
 induction ops with
 | nil=>intro ks _ i o q h; simp at h
 | cons p os ih =>
  intro ks h i o q ho hq
  cases ks with
  | nil=>simp at hq
  | cons r qs =>
   cases i with
   | zero=>simp at ho hq; subst ho hq; exact h.1
   | succ i=>exact ih h.2 (by simpa using ho) (by simpa using hq)
def Zid (kd:List Kd) (β:Nat→Nat) (lst:Nat→Bool):Nat→Prop:=fun k=>∃ i t z s cs,kd[i]?=some (.alo t z s cs)∧lst i=true∧k=β i
structure Plan (P:Program) (ops:List Oper) (kd:List Kd) (ic:Nat) (a0:Act) (w0:World) (R:(Nat→Prop)→Value→World→Prop) (L:Array Bool) (a:Act) (w:World):Prop where
 size:L.size=ops.length
 ext:Ext w0 w
 st:∃ vc β,a=pa a0 vc β (fun j=>L.getD j false) 0 ops kd∧(L.getD ic false=true→R (Zid kd β (fun j=>L.getD j false)) vc w) ∧
  (∀ (i:Nat) q,kd[i]?=some q→L.getD i false=true→Zdg q=true→L.getD ic false=true) ∧
  (∀ (i:Nat) t z s cs,kd[i]?=some (.alo t z s cs)→L.getD i false=true→w0.heap.size≤β i∧w.heap[β i]?=some (.cells (if L.getD s false then cs vc else z) t (0,0))) ∧
  (∀ (i j:Nat) t z s cs t' z' s' cs',kd[i]?=some (.alo t z s cs)→kd[j]?=some (.alo t' z' s' cs')→L.getD i false=true→L.getD j false=true→i≠j→β i≠β j) ∧
  (∀ (i k:Nat),kd[i]?=some (.sto k)→L.getD i false=true→L.getD k false=true)
theorem Ziw {L:Array Bool} {i:Nat} (hi:i<L.size) (j:Nat):(L.setIfInBounds i true).getD j false=(L.getD j false || j == i):=by
 by_cases e:i=j
 ·subst e; simp [hi]
 ·rw [getD_set_ne false e]
  have:(j == i)=false:=by rw [Qu]; omega
  simp [this]
structure FitsAt (ops:List Oper) (kd:List Kd) (ic i:Nat) (o:Oper) (q:Kd):Prop where
 gd:o.guard=none
 sel:∀ cs b,o.op ≠ .select cs b
 low:∀ e ∈ o.after,Region.binds .any e=true→e.on<i
 dst:∀ j p d,ops[j]?=some p→p.dst=some d→j=i∨o.dst≠some d
 look:∀ j p d,ops[j]?=some p→p.dst=some d→d ∈ o.looksAt ops.toArray→Zdn o j=true
 cal:q = .cal→i=ic
 post:Zdg q=true→∃ j r,Zdn o j=true∧kd[j]?=some r∧Zep r=true
 alo:∀ t z s cs,q = .alo t z s cs→kd[s]?=some (.sto i)
 sto:∀ k,q = .sto k→o.dst=none∧Zdn o k=true∧∃ t z cs,kd[k]?=some (.alo t z i cs)
theorem Zpi {ops:List Oper} {kd:List Kd} {ic:Nat} (h:Zic ops kd ic=true) {i:Nat} {o:Oper} (ho:ops[i]?=some o):∃ q,kd[i]?=some q∧FitsAt ops kd ic i o q:=by
 unfold Zic at h
 simp only [Bool.and_eq_true,List.all_eq_true,List.mem_range,beq_iff_eq] at h
 obtain ⟨hl,h⟩:=h
 have hi:=(Qa.1 ho).1
 have h:=h i hi
 rw [ho] at h
 cases hq:kd[i]? with
 | none=>rw [hq] at h; simp at h
 | some q =>
  rw [hq] at h
  simp only [Bool.and_eq_true,List.all_eq_true,List.mem_range] at h
  obtain ⟨⟨⟨⟨h1,h2⟩,h3⟩,h4⟩,h5⟩:=h
  refine ⟨q,rfl,?_,?_,?_,?_,?_,?_,?_,?_,?_⟩
  ·simpa using h1
  ·intro cs b e; rw [e] at h2; simp at h2
  ·intro e he hb
   have:=Array.all_eq_true_iff_forall_mem.1 h3 e he
   simpa [hb] using this
  ·intro j p d hp hd
   have:=h4 j (Qa.1 hp).1
   rw [hp] at this
   simp only [hd,Bool.and_eq_true,Bool.or_eq_true,beq_iff_eq,bne_iff_ne] at this
   exact this.1
  ·intro j p d hp hd hm
   have:=h4 j (Qa.1 hp).1
   rw [hp] at this
   simp only [hd,Bool.and_eq_true,Bool.or_eq_true,beq_iff_eq,bne_iff_ne] at this
   rcases this.2 with h | h
   ·simp [hm] at h
   ·exact h
  ·intro e; subst e; simpa using h5
  ·intro hp
   cases q with
   | post g =>
    simp only [List.any_eq_true,List.mem_range,Bool.and_eq_true] at h5
    obtain ⟨j,_,h6,h7⟩:=h5
    cases hr:kd[j]? with
    | none=>rw [hr] at h7; simp at h7
    | some r=>rw [hr] at h7; exact ⟨j,r,h6,hr,h7⟩
   | sto k =>
    simp only [List.any_eq_true,List.mem_range,Bool.and_eq_true] at h5
    obtain ⟨⟨_,j,_,h6,h7⟩,_⟩:=h5
    cases hr:kd[j]? with
    | none=>rw [hr] at h7; simp at h7
    | some r=>rw [hr] at h7; exact ⟨j,r,h6,hr,h7⟩
   | _=>simp [Zdg] at hp
  ·intro t z s cs e
   subst e
   simp only at h5
   split at h5
   ·rename_i k hk; simp at h5; subst h5; exact hk
   ·simp at h5
  ·intro k e
   subst e
   simp only [List.any_eq_true,List.mem_range,Bool.and_eq_true] at h5
   obtain ⟨⟨⟨h6,h7⟩,_⟩,h8⟩:=h5
   refine ⟨by simpa using h6,h7,?_⟩
   split at h8
   ·rename_i t z s cs hk; simp at h8; subst h8; exact ⟨t,z,cs,hk⟩
   ·simp at h8
theorem Zcc {ops:List Oper} {L:Array Bool} {i j:Nat} {o:Oper} (hr:i ∈ Region.ready .any ops.toArray L) (ho:ops[i]?=some o) (hw:Zdn o j=true):L.getD j false=true:=by
 obtain ⟨_,o',ho',h⟩:=mem_ready.1 hr
 have:o'=o:=by simpa [ho] using ho'.symm
 subst this
 obtain ⟨e,he,hb⟩:=Array.any_eq_true'.1 hw
 simp only [Bool.and_eq_true,beq_iff_eq] at hb
 rw [← hb.2]
 exact h e he hb.1
theorem Zxe {ops:List Oper} {kd:List Kd} {ic:Nat} (hfit:Zic ops kd ic=true) {L:Array Bool} (hs:L.size=ops.length) (hr:Region.ready .any ops.toArray L=[]):∀ i,i<ops.length→L.getD i false=true:=by
 intro i
 induction i using Nat.strongRecOn with
 | _ i ih =>
  intro hi
  cases hl:L.getD i false with
  | true=>rfl
  | false =>
   exfalso
   have ho:ops[i]?=some ops[i]:=Qb hi
   obtain ⟨q,hq,hF⟩:=Zpi hfit ho
   have:i ∈ Region.ready .any ops.toArray L:=by
    refine mem_ready.2 ⟨?_,ops[i],by simp,fun e he hb=>ih e.on (hF.low e he hb) (by have:=hF.low e he hb; omega)⟩
    have hi':i<L.size:=by omega
    simp [hi'] at hl ⊢
    exact hl
   rw [hr] at this
   simp at this
theorem Zrd {P:Program} {ops:List Oper} {id:Nat} {Q:Exit→Act→World→Prop} {a0:Act} {w:World} (hm:P.follows .mixedOrders=true) (kd:List Kd) (ic:Nat) (hfit:Zic ops kd ic=true)
  (R:(Nat→Prop)→Value→World→Prop) (f:FuncId) (args:Array Value)
  (hR:∀ X X' v u u',R X v u→(∀ k,k<u.heap.size→¬ X k→u'.heap[k]?=u.heap[k]?)→u.heap.size≤u'.heap.size→(∀ k,k<u.heap.size→X' k→X k)→R X' v u')
  (hC:∀ X u,Ext w.drew u→(∀ k,X k→w.heap.size≤k∧k<u.heap.size∧∃ (i:Nat) (t:TypeId) (z:Array Value) (s:Nat) (cs:Value→Array Value) (cl:Array Value),kd[i]?=some (.alo t z s cs)∧u.heap[k]?=some (.cells cl t (0,0)))→Calls P f args u (fun e u'=>∃ v,e = .returned v∧Ext u u'∧R X v u'))
  (hob:AllOb P kd w.drew (paAll a0 ops kd) R f args ops kd)
  (hcal:kd[ic]?=some .cal) (hil:ic<ops.length)
  (hQ:∀ vc β u,Ext w.drew u→R (Zid kd β (fun _=>true)) vc u→(∀ (i:Nat) t z s cs,kd[i]?=some (.alo t z s cs)→w.heap.size≤β i∧u.heap[β i]?=some (.cells (cs vc) t (0,0))) →
   (∀ (i j:Nat) t z s cs t' z' s' cs',kd[i]?=some (.alo t z s cs)→kd[j]?=some (.alo t' z' s' cs')→i≠j→β i≠β j)→Q .normal (paAll a0 ops kd vc β) u) :
  (Code.region id ops.toArray true).wp P Q a0 w:=by
 have hlen:ops.length=kd.length:=by
  unfold Zic at hfit
  simp only [Bool.and_eq_true,beq_iff_eq] at hfit
  exact hfit.1
 refine wp_region_any hm (Zmd (J:=Plan P ops kd ic a0 w.drew R) ?_ ?_ _ _ _ _ ?_ ?_)
 ·intro L a u i hr hJ
  obtain ⟨hsz,hext,vc,β,rfl,hcR,hpost,hbox,hdist,hsto⟩:=hJ
  obtain ⟨h0,o,ho',_⟩:=mem_ready.1 hr
  have ho:ops[i]?=some o:=by simpa using ho'
  have hi:i<ops.length:=(Qa.1 ho).1
  have hil:i<L.size:=by omega
  have hun:L.getD i false=false:=by simp [hil] at h0 ⊢; exact h0
  obtain ⟨q,hq,hF⟩:=Zpi hfit ho
  have hOb:=hob.at ho hq
  have hexec:execOp (pa a0 vc β (fun j=>L.getD j false) 0 ops kd).eval o=execOp (paAll a0 ops kd vc β).eval o:=by
   refine execOp_congr o hF.sel (fun x hx=>Zti (fun j p hp hl d hd e => ?_))
   subst e
   have hw:=hF.look j p d hp hd (List.mem_append_left _ (List.mem_filterMap.2 ⟨.tmp d,by simpa using hx,rfl⟩))
   have:=Zcc hr ho hw
   simp only [Nat.zero_add] at hl
   rw [hl] at this
   simp at this
  have hwant:Region.wanted o (yielded ops.toArray (pa a0 vc β (fun j=>L.getD j false) 0 ops kd).tmps)=true:=by simp [Region.wanted,hF.gd]
  have hL:=Ziw hil
  have hput:∀ vc' β',(∀ j r,kd[j]?=some r→L.getD j false=true→r.val vc β j=r.val vc' β' j) →
    (pa a0 vc β (fun j=>L.getD j false) 0 ops kd).put o.dst (q.val vc' β' i)=pa a0 vc' β' (fun j=>(L.setIfInBounds i true).getD j false) 0 ops kd:=by
   intro vc' β' hv
   have e1:pa a0 vc β (fun j=>L.getD j false) 0 ops kd=pa a0 vc' β' (fun j=>L.getD j false) 0 ops kd:=Zfd (fun j r hr'=>by
    simp only [Nat.zero_add]
    exact ⟨trivial,fun hl=>hv j r hr' hl⟩)
   rw [e1]
   have e2:=Yay (a0:=a0) (vc:=vc') (β:=β') (lst:=fun j=>L.getD j false) (k:=0) ho hq (by simpa using hun) hF.dst
   simp only [Nat.zero_add] at e2
   rw [← e2]
   exact Zfd (fun j r hr'=>⟨by simp only [Nat.zero_add,hL],fun _=>rfl⟩)
  have hicn:∀ r,kd[ic]?=some r→r = .cal:=fun r h=>by rw [hcal] at h; exact (Option.some.inj h).symm
  have hold:∀ j,L.getD j false=true→(L.setIfInBounds i true).getD j false=true:=fun j h=>by rw [hL,h]; rfl
  have hnew:∀ j,j≠i→(L.setIfInBounds i true).getD j false=L.getD j false:=fun j h=>by
   rw [hL]
   have:(j == i)=false:=by rw [Qu]; exact h
   simp [this]
  unfold wpOp
  simp only [ho']
  rw [if_pos hwant]
  refine Or.inl ?_
  unfold Oper.wp
  rw [hexec]
  have hpl:∀ (i':Nat) q',kd[i']?=some q'→(L.setIfInBounds i true).getD i' false=true→Zdg q'=true→i'≠i→(L.setIfInBounds i true).getD ic false=true:=fun i' q' h1 h2 h3 hne =>
   hold _ (hpost i' q' h1 (by rw [hnew i' hne] at h2; exact h2) h3)
  have hkat:∀ {i':Nat} {q':Kd},kd[i']?=some q'→∃ o',FitsAt ops kd ic i' o' q':=fun {i' q'} h1=>by
   obtain ⟨q2,hq2,hF2⟩:=Zpi hfit (Qb (l:=ops) (i:=i') (by have:=(Qa.1 h1).1; omega))
   rw [h1] at hq2; simp at hq2; subst hq2
   exact ⟨_,hF2⟩
  have hne:∀ {i':Nat} {q':Kd},kd[i']?=some q'→q'≠q→i'≠i:=fun {i' q'} h1 h2 e=>by
   subst e; rw [hq] at h1; exact h2 (Option.some.inj h1).symm
  have hvars:(∀ t z s cs,q ≠ .alo t z s cs)→∀ k,Zid kd β (fun j=>(L.setIfInBounds i true).getD j false) k→Zid kd β (fun j=>L.getD j false) k:=by
   rintro hna k ⟨i',t,z,s,cs,h1,h2,rfl⟩
   have:i'≠i:=hne h1 (fun e=>hna t z s cs e.symm)
   exact ⟨i',t,z,s,cs,h1,(hnew i' this).symm.trans h2,rfl⟩
  have hdist':(∀ t z s cs,q ≠ .alo t z s cs)→∀ (i' j':Nat) t z s cs t' z' s' cs',kd[i']?=some (.alo t z s cs)→kd[j']?=some (.alo t' z' s' cs')→(L.setIfInBounds i true).getD i' false=true→(L.setIfInBounds i true).getD j' false=true→i'≠j'→β i'≠β j':=by
   intro hna i' j' t z s cs t' z' s' cs' h1 h2 h3 h4
   rw [hnew i' (hne h1 (fun e=>hna _ _ _ _ e.symm))] at h3
   rw [hnew j' (hne h2 (fun e=>hna _ _ _ _ e.symm))] at h4
   exact hdist i' j' t z s cs t' z' s' cs' h1 h2 h3 h4
  have hbox':(∀ t z s cs,q ≠ .alo t z s cs)→(∀ k,q ≠ .sto k)→∀ (i':Nat) t z s cs,kd[i']?=some (.alo t z s cs)→(L.setIfInBounds i true).getD i' false=true→w.drew.heap.size≤β i'∧u.heap[β i']?=some (.cells (if (L.setIfInBounds i true).getD s false then cs vc else z) t (0,0)):=by
   intro hna hns i' t z s cs h1 h2
   obtain ⟨o',hF'⟩:=hkat h1
   have hs:s≠i:=hne (hF'.alo t z s cs rfl) (fun e=>hns _ e.symm)
   rw [hnew s hs]
   exact hbox i' t z s cs h1 ((hnew i' (hne h1 (fun e=>hna _ _ _ _ e.symm))).symm.trans h2)
  have hsto':(∀ k,q ≠ .sto k)→∀ (i' k:Nat),kd[i']?=some (.sto k)→(L.setIfInBounds i true).getD i' false=true→(L.setIfInBounds i true).getD k false=true:=fun hns i' k h1 h2 =>
   hold _ (hsto i' k h1 ((hnew i' (hne h1 (fun e=>hns _ e.symm))).symm.trans h2))
  have hpost':Zdg q=false→∀ (i':Nat) q',kd[i']?=some q'→(L.setIfInBounds i true).getD i' false=true→Zdg q'=true→(L.setIfInBounds i true).getD ic false=true:=fun hp i' q' h1 h2 h3 =>
   hpl i' q' h1 h2 h3 (hne h1 (fun e=>by rw [e,hp] at h3; simp at h3))
  have hcl:Zdg q=true→L.getD ic false=true:=fun hp=>by
   obtain ⟨j,r,h1,h2,h3⟩:=hF.post hp
   have hj:=Zcc hr ho h1
   cases r with
   | post g=>exact hpost j _ h2 hj rfl
   | cal =>
    obtain ⟨o',hF'⟩:=hkat h2
    have:=hF'.cal rfl
    rw [← this]; exact hj
   | _=>simp [Zep] at h3
  cases q with
  | pur c =>
   rw [hOb vc β u hext]
   have hic:ic≠i:=hne hcal (by simp)
   refine ⟨by simpa using hsz,hext,vc,β,hput vc β (fun _ _ _ _=>rfl),?_,hpost' rfl,hbox' (by simp) (by simp),hdist' (by simp),hsto' (by simp)⟩
   intro h
   rw [hnew ic hic] at h
   exact hR _ _ vc u u (hcR h) (fun _ _ _=>rfl) (Qe _) (fun k _=>hvars (by simp) k)
  | post g =>
   have hic:=hcl rfl
   rw [hOb vc β _ u (hcR hic)]
   refine ⟨by simpa using hsz,hext,vc,β,hput vc β (fun _ _ _ _=>rfl),?_,fun i' q' _ _ _=>hold _ hic,hbox' (by simp) (by simp),hdist' (by simp),hsto' (by simp)⟩
   intro h
   exact hR _ _ vc u u (hcR hic) (fun _ _ _=>rfl) (Qe _) (fun k _=>hvars (by simp) k)
  | cal =>
   have hie:=hF.cal rfl
   rw [hOb vc β u]
   refine (hC (Zid kd β (fun j=>L.getD j false)) u hext ?_).mono ?_
   ·rintro k ⟨i',t,z,s,cs,h1,h2,rfl⟩
    have:=hbox i' t z s cs h1 h2
    exact ⟨this.1,(Array.getElem?_eq_some_iff.1 this.2).1,i',t,z,s,cs,_,h1,this.2⟩
   ·rintro e u' ⟨v,rfl,he,hr'⟩
    refine ⟨by simpa using hsz,hext.trans (he.mono hext.size),v,β,hput v β ?_,?_,?_,?_,hdist' (by simp),hsto' (by simp)⟩
    ·intro j r h1 h2
     cases r with
     | post g =>
      have:=hpost j _ h1 h2 rfl
      rw [← hie,hun] at this; simp at this
     | cal =>
      obtain ⟨o',hF'⟩:=hkat h1
      have:=hF'.cal rfl
      rw [this,← hie,hun] at h2; simp at h2
     | _=>rfl
    ·intro _
     exact hR _ _ v u' u' hr' (fun _ _ _=>rfl) (Qe _) (fun k _=>hvars (by simp) k)
    ·intro i' q' _ _ _
     rw [← hie,hL]; simp
    ·intro i' t z s cs h1 h2
     have hi':=hne h1 (by simp)
     have hb:=hbox i' t z s cs h1 ((hnew i' hi').symm.trans h2)
     refine ⟨hb.1,(he.block _ (Array.getElem?_eq_some_iff.1 hb.2).1).trans ?_⟩
     obtain ⟨o',hF'⟩:=hkat h1
     have hks:=hF'.alo t z s cs rfl
     have hs:s≠i:=hne hks (by simp)
     have hsl:L.getD s false=false:=by
      cases hsl:L.getD s false with
      | false=>rfl
      | true =>
       have:=hpost s _ hks hsl rfl
       rw [← hie,hun] at this; simp at this
     rw [hnew s hs,hsl]
     rw [hsl] at hb
     exact hb.2
  | alo t z s cs =>
   have hic:ic≠i:=hne hcal (by simp)
   rw [hOb vc β u]
   have hkat':=hF.alo t z s cs rfl
   have hs:s≠i:=hne hkat' (by simp)
   have hsl:L.getD s false=false:=by
    cases hsl:L.getD s false with
    | false=>rfl
    | true =>
     have:=hsto s i hkat' hsl
     rw [hun] at this; simp at this
   have hβ:∀ j,j≠i→(fun j=>if j=i then u.heap.size else β j) j=β j:=fun j h=>by simp [h]
   have hβi:(fun j=>if j=i then u.heap.size else β j) i=u.heap.size:=by simp
   have hp:=hput vc (fun j=>if j=i then u.heap.size else β j) (fun j r h1 h2=>by
    have hj:j≠i:=fun e=>by rw [e,hun] at h2; simp at h2
    cases r with
    | alo=>simp only [Kd.val]; rw [if_neg hj]
    | _=>rfl)
   simp only [Kd.val,if_true] at hp
   have hlt:∀ (i':Nat) t z s cs,kd[i']?=some (.alo t z s cs)→L.getD i' false=true→β i'<u.heap.size:=fun i' t z s cs h1 h2=>(Array.getElem?_eq_some_iff.1 (hbox i' t z s cs h1 h2).2).1
   refine ⟨by simpa using hsz,hext.alloc hext.size _,vc,(fun j=>if j=i then u.heap.size else β j),hp,?_,?_,?_,?_,hsto' (by simp)⟩
   ·intro h
    rw [hnew ic hic] at h
    refine hR _ _ vc u _ (hcR h) (fun k hk _=>Below.heap_alloc _ _ _ hk) (by simp) ?_
    rintro k hk ⟨i',t,z,s,cs,h1,h2,rfl⟩
    by_cases e:i'=i
    ·subst e; simp at hk
    ·rw [hβ i' e]
     exact ⟨i',t,z,s,cs,h1,(hnew i' e).symm.trans h2,rfl⟩
   ·exact hpost' rfl
   ·intro i' t' z' s' cs' h1 h2
    by_cases e:i'=i
    ·subst e
     rw [hq] at h1
     simp only [Qo,Kd.alo.injEq] at h1
     obtain ⟨rfl,rfl,rfl,rfl⟩:=h1
     rw [hβi,hnew s hs,hsl]
     exact ⟨hext.size,heap_alloc_new u _⟩
    ·rw [hβ i' e]
     have hl':=(hnew i' e).symm.trans h2
     have hb:=hbox i' t' z' s' cs' h1 hl'
     have hs':s'≠i:=by
      obtain ⟨o',hF'⟩:=hkat h1
      exact hne (hF'.alo t' z' s' cs' rfl) (by simp)
     rw [hnew s' hs']
     exact ⟨hb.1,(Below.heap_alloc _ _ _ (hlt i' t' z' s' cs' h1 hl')).trans hb.2⟩
   ·intro i' j' t' z' s' cs' t'' z'' s'' cs'' h1 h2 h3 h4 hij
    by_cases e:i'=i
    ·have e':j'≠i:=fun h=>hij (e.trans h.symm)
     rw [e,hβi,hβ j' e']
     have:=hlt j' _ _ _ _ h2 ((hnew j' e').symm.trans h4)
     omega
    ·rw [hβ i' e]
     by_cases e':j'=i
     ·rw [e',hβi]
      have:=hlt i' _ _ _ _ h1 ((hnew i' e).symm.trans h3)
      omega
     ·rw [hβ j' e']
      exact hdist i' j' _ _ _ _ _ _ _ _ h1 h2 ((hnew i' e).symm.trans h3) ((hnew j' e').symm.trans h4) hij
  | sto k =>
   have hic:=hcl rfl
   obtain ⟨hdn,hwk,t,z,cs,hkk⟩:=hF.sto k rfl
   have hkl:=Zcc hr ho hwk
   have hbk:=hbox k t z i cs hkk hkl
   rw [hun] at hbk
   obtain ⟨w',hrun,hnewb,hkept⟩:=hOb vc β _ u t z i cs hkk (hcR hic) hbk.2
   rw [hrun]
   have hki:k≠i:=hne hkk (by simp)
   refine ⟨by simpa using hsz,hext.trans (hkept.below hext.size (fun j e=>by rw [e]; exact hbk.1)),vc,β,hput vc β (fun _ _ _ _=>rfl),?_,fun i' q' _ _ _=>hold _ hic,?_,hdist' (by simp),?_⟩
   ·intro _
    refine hR _ _ vc u w' (hcR hic) (fun j hj hn=>hkept.block j hj (fun e=>hn ⟨k,t,z,i,cs,hkk,hkl,e⟩)) hkept.size (fun j _=>hvars (by simp) j)
   ·intro i' t' z' s' cs' h1 h2
    have e:i'≠i:=hne h1 (by simp)
    have hl':=(hnew i' e).symm.trans h2
    by_cases ek:i'=k
    ·subst ek
     rw [hkk] at h1
     simp only [Qo,Kd.alo.injEq] at h1
     obtain ⟨rfl,rfl,rfl,rfl⟩:=h1
     rw [hL]
     simp only [BEq.rfl,Bool.or_true,if_true]
     exact ⟨hbk.1,hnewb⟩
    ·have hb:=hbox i' t' z' s' cs' h1 hl'
     have hs':s'≠i:=fun e'=>by
      obtain ⟨o',hF'⟩:=hkat h1
      have:=hF'.alo t' z' s' cs' rfl
      rw [e',hq] at this
      simp at this
      exact ek this.symm
     rw [hnew s' hs']
     exact ⟨hb.1,(hkept.block _ (Array.getElem?_eq_some_iff.1 hb.2).1 (hdist i' k _ _ _ _ _ _ _ _ h1 hkk hl' hkl ek)).trans hb.2⟩
   ·intro i' k' h1 h2
    by_cases e:i'=i
    ·subst e
     rw [hq] at h1
     simp at h1
     subst h1
     exact hold _ hkl
    ·exact hold _ (hsto i' k' h1 ((hnew i' e).symm.trans h2))
 ·intro L a u hr hJ
  obtain ⟨hsz,hext,vc,β,rfl,hcR,hpost,hbox,hdist,hsto⟩:=hJ
  have hall:=Zxe hfit hsz hr
  have e:pa a0 vc β (fun j=>L.getD j false) 0 ops kd=paAll a0 ops kd vc β:=Zfd (fun j r hr'=>⟨by
   simp only [Nat.zero_add]
   exact hall j (by have:=(Qa.1 hr').1; omega),fun _=>rfl⟩)
  rw [e]
  have hk:∀ (i:Nat) t z s cs,kd[i]?=some (.alo t z s cs)→L.getD i false=true∧L.getD s false=true:=fun i t z s cs h=>by
   have hi:=(Qa.1 h).1
   obtain ⟨q2,hq2,hF2⟩:=Zpi hfit (Qb (l:=ops) (i:=i) (by omega))
   rw [h] at hq2; simp at hq2; subst hq2
   have:=(Qa.1 (hF2.alo t z s cs rfl)).1
   exact ⟨hall i (by omega),hall s (by omega)⟩
  refine hQ vc β u hext ?_ ?_ ?_
  ·refine hR _ _ vc u u (hcR (hall ic hil)) (fun _ _ _=>rfl) (Qe _) ?_
   rintro k _ ⟨i',t,z,s,cs,h1,h2,rfl⟩
   exact ⟨i',t,z,s,cs,h1,(hk i' t z s cs h1).1,rfl⟩
  ·intro i t z s cs h
   have:=hbox i t z s cs h (hk i t z s cs h).1
   rw [(hk i t z s cs h).2] at this
   exact this
  ·intro i j t z s cs t' z' s' cs' h1 h2
   exact hdist i j t z s cs t' z' s' cs' h1 h2 (hk i t z s cs h1).1 (hk j t' z' s' cs' h2).1
 ·have:(ops.toArray).size=ops.length:=by simp
  unfold unl
  exact Qq (List.length_filter_le _ _) (by simp)
 ·have hz:∀ j,(Array.replicate ops.toArray.size false).getD j false=false:=fun j=>by
   simp only [Array.getD_eq_getD_getElem?,Array.getElem?_replicate]
   split <;> rfl
  refine ⟨by simp,Below.refl _ _,undef,fun _=>0,?_,?_,?_,?_,?_,?_⟩
  ·have:∀ (k:Nat) (os:List Oper) (qs:List Kd),pa a0 undef (fun _=>0) (fun j=>(Array.replicate ops.toArray.size false).getD j false) k os qs=a0:=by
    intro k os
    induction os generalizing k with
    | nil=>intro qs; simp [pa]
    | cons o os ih =>
     intro qs
     cases qs with
     | nil=>simp [pa]
     | cons q qs=>rw [pa,hz]; simp only [Bool.false_eq_true,if_false]; exact ih _ _
   exact (this _ _ _).symm
  ·intro h; rw [hz] at h; simp at h
  ·intro i q _ h; rw [hz] at h; simp at h
  ·intro i t z s cs _ h; rw [hz] at h; simp at h
  ·intro i j t z s cs t' z' s' cs' _ _ h; rw [hz] at h; simp at h
  ·intro i k _ h; rw [hz] at h; simp at h
theorem Ztj {P:Program} {ops:List Oper} {id:Nat} {Q:Exit→Act→World→Prop} {a0:Act} {w:World} (hm:P.follows .mixedOrders=true) (kd:List Kd) (ic:Nat) (hfit:Zic ops kd ic=true)
  (R:(Nat→Prop)→Value→World→Prop) (f:FuncId) (args:Array Value)
  (hR:∀ X X' v u u',R X v u→(∀ k,k<u.heap.size→¬ X k→u'.heap[k]?=u.heap[k]?)→u.heap.size≤u'.heap.size→(∀ k,k<u.heap.size→X' k→X k)→R X' v u')
  (hC:∀ X u,Ext w.drew u→(∀ k,X k→w.heap.size≤k∧k<u.heap.size)→Calls P f args u (fun e u'=>∃ v,e = .returned v∧Ext u u'∧R X v u'))
  (hob:AllOb P kd w.drew (paAll a0 ops kd) R f args ops kd)
  (hcal:kd[ic]?=some .cal) (hil:ic<ops.length)
  (hQ:∀ vc β u,Ext w.drew u→R (Zid kd β (fun _=>true)) vc u→(∀ (i:Nat) t z s cs,kd[i]?=some (.alo t z s cs)→w.heap.size≤β i∧u.heap[β i]?=some (.cells (cs vc) t (0,0))) →
   (∀ (i j:Nat) t z s cs t' z' s' cs',kd[i]?=some (.alo t z s cs)→kd[j]?=some (.alo t' z' s' cs')→i≠j→β i≠β j)→Q .normal (paAll a0 ops kd vc β) u) :
  (Code.region id ops.toArray true).wp P Q a0 w :=
 Zrd hm kd ic hfit R f args hR (fun X u hu hX=>hC X u hu (fun k hk=>⟨(hX k hk).1,(hX k hk).2.1⟩)) hob hcal hil hQ
theorem Ext.of {w w':World} (h:Kept Zch w w'):Ext w w':=h.below (Qe _) (fun _ e=>e.elim)
theorem Ext.undrew {w u:World} (h:Ext w.drew u):Ext w u:=⟨h.os,h.tape,h.output,h.size,h.block⟩
theorem Ext.up {w u:World} (h:Ext w.drew u) {p:Addr} {v:Value} (hc:w.cell? p=some v):u.cell? p=some v:=(h.cell (World.block_lt_of_cell? w p hc)).trans hc
def cellsOf:Value→Array Value
 | .agg cs=>cs
 | _=>#[]
theorem box3 {w:World} {b:Nat} {u0 u1 u2:Value} {t:TypeId} (h:w.heap[b]?=some (.cells #[u0,u1,u2] t (0,0))) :
  w.cell? ⟨b,0,none⟩=some u0∧w.cell? ⟨b,1,none⟩=some u1∧w.cell? ⟨b,2,none⟩=some u2∧∀ i,w.frozen? ⟨b,i,none⟩=false :=
 ⟨Zaa h 0 _ rfl,Zaa h 1 _ rfl,Zaa h 2 _ rfl,fun i=>Zae h i⟩
def Ztk (i:Nat):Value→Value
 | .tuple xs=>xs.getD i undef
 | _=>undef
def Ygc:Kd→Bool
 | .pur _=>true
 | .cal=>true
 | _=>false
def ObL (P:Program) (w0:World) (FA:Value→Act) (R R':Value→World→Prop) (f:FuncId) (args:Array Value) (o:Oper):Kd→Prop
 | .pur c=>∀ vc,(execOp (FA vc).eval o).run P w0 = .ok (.value c) w0
 | .post g=>∀ vc w,R vc w∨R' vc w→(execOp (FA vc).eval o).run P w = .ok (.value (g vc)) w
 | .cal=>∀ vc,(execOp (FA vc).eval o).run P w0 = .ok (.enter f args) w0
 | .alo .. => True
 | .sto _=>∀ vc w,R vc w→∃ w',(execOp (FA vc).eval o).run P w = .ok .skip w'∧R' vc w'
def AllObL (P:Program) (w0:World) (FA:Value→Act) (R R':Value→World→Prop) (f:FuncId) (args:Array Value):List Oper→List Kd→Prop
 | o::os,q::qs=>ObL P w0 FA R R' f args o q∧AllObL P w0 FA R R' f args os qs
 | _,_=>True
theorem AllObL.at {P:Program} {w0:World} {FA:Value→Act} {R R':Value→World→Prop} {f:FuncId} {args:Array Value}:∀ {ops:List Oper} {ks:List Kd},AllObL P w0 FA R R' f args ops ks →
  ∀ {i:Nat} {o:Oper} {q:Kd},ops[i]?=some o→ks[i]?=some q→ObL P w0 FA R R' f args o q:=by
 intro ops
 induction ops with
 | nil=>intro ks _ i o q h; simp at h
 | cons p os ih =>
  intro ks h i o q ho hq
  cases ks with
  | nil=>simp at hq
  | cons r qs =>
   cases i with
   | zero=>simp at ho hq; subst ho hq; exact h.1
   | succ i=>exact ih h.2 (by simpa using ho) (by simpa using hq)
abbrev noB:Nat→Nat:=fun _=>0
structure LastPlan (ops:List Oper) (kd:List Kd) (ic fi:Nat) (a0:Act) (w0:World) (R R':Value→World→Prop) (L:Array Bool) (a:Act) (w:World):Prop where
 size:L.size=ops.length
 closed:∀ (i:Nat) o,ops[i]?=some o→L.getD i false=true→∀ j,Zdn o j=true→L.getD j false=true
 st:∃ vc,a=pa a0 vc noB (fun j=>L.getD j false) 0 ops kd∧(L.getD ic false=false→w=w0)∧(L.getD ic false=true→(L.getD fi false=false→R vc w)∧(L.getD fi false=true→R vc w∨R' vc w)∧(L.getD fi false=true→(∃ k,kd[fi]?=some (.sto k))→R' vc w)) ∧
  (∀ (i:Nat) q,kd[i]?=some q→L.getD i false=true→Zdg q=true→L.getD ic false=true)
structure CellS where
 sym:Sym
 kids:List Nat
 up:Nat
def turn (cs:List CellS) (x y:Nat):List CellS:=cs.modify x (fun c => { c with up:=y })
theorem Zvc (cs:List CellS) (x y:Nat):(turn cs x y).length=cs.length:=by simp [turn]
theorem Zpj (cs:List CellS) (x y i:Nat):(turn cs x y)[i]?=(cs[i]?).map (fun c=>if x=i then { c with up:=y } else c):=by
 simp only [turn,List.getElem?_modify]
 cases cs[i]? with
 | none=>rfl
 | some c=>simp
def UpOk (cs:List CellS) (ρ rk:Nat→Nat):Prop:=∀ (i:Nat) c,cs[i]?=some c→c.up<cs.length∧ρ c.up=ρ i∧(c.up=i→ρ i=i)∧(c.up≠i→rk c.up<rk i)
theorem UpOk.root {cs:List CellS} {ρ rk:Nat→Nat} (h:UpOk cs ρ rk):∀ (n i:Nat) c,rk i≤n→cs[i]?=some c→∃ c',cs[ρ i]?=some c'∧c'.up=ρ i∧ρ (ρ i)=ρ i:=by
 intro n
 induction n with
 | zero =>
  intro i c hn hc
  obtain ⟨h1,h2,h3,h4⟩:=h i c hc
  by_cases e:c.up=i
  ·rw [h3 e]; exact ⟨c,hc,e,h3 e⟩
  ·have:=h4 e; omega
 | succ n ih =>
  intro i c hn hc
  obtain ⟨h1,h2,h3,h4⟩:=h i c hc
  by_cases e:c.up=i
  ·rw [h3 e]; exact ⟨c,hc,e,h3 e⟩
  ·have:=h4 e
   rw [← h2]
   exact ih c.up _ (by omega) (Qb h1)
theorem UpOk.rt {cs:List CellS} {ρ rk:Nat→Nat} (h:UpOk cs ρ rk):Rt cs.length ρ:=by
 refine ⟨fun i hi => ?_,fun i hi => ?_⟩
 ·obtain ⟨c',h1,_,_⟩:=h.root _ i _ (Qe _) (Qb hi)
  exact (Qa.1 h1).1
 ·obtain ⟨c',_,_,h3⟩:=h.root _ i _ (Qe _) (Qb hi)
  exact h3
def Zge (cs:List CellS):Nat:=((List.range cs.length).filter (fun i=>((cs[i]?).map (fun c=>c.up == i)).getD false)).length
theorem Zre {cs:List CellS} {x y:Nat} {c:CellS} (hx:cs[x]?=some c) (hr:c.up=x) (hne:x≠y):Zge (turn cs x y)<Zge cs:=by
 unfold Zge
 rw [Zvc]
 refine Zrc (x:=x) (fun i _ hi => ?_) (List.mem_range.2 (Qa.1 hx).1) (by simp [hx,hr]) ?_
 ·rw [Zpj] at hi
  cases hc:cs[i]? with
  | none=>rw [hc] at hi; simp at hi
  | some d =>
   rw [hc] at hi
   simp only [Option.map_some,Option.getD_some,beq_iff_eq] at hi ⊢
   split at hi
   ·rename_i e; subst e; simp at hi; exact absurd hi.symm hne
   ·exact hi
 ·rw [Zpj,hx]
  simp
  exact fun e=>hne e.symm
theorem UpOk.turn {cs:List CellS} {ρ rk:Nat→Nat} (h:UpOk cs ρ rk) {x y:Nat} (hx:x<cs.length) (hy:y<cs.length) (rx:ρ x=x) (ry:ρ y=y) (hne:x≠y) :
  UpOk (YtlmjilpjmgjjcaaDoor.turn cs x y) (mg ρ x y) (fun i=>if ρ i=x then rk i+rk y+1 else rk i):=by
 intro i c hc
 rw [Zpj] at hc
 cases hd:cs[i]? with
 | none=>rw [hd] at hc; simp at hc
 | some d =>
  rw [hd] at hc
  simp only [Option.map_some,Qo] at hc
  obtain ⟨h1,h2,h3,h4⟩:=h i d hd
  rw [Zvc]
  by_cases e:x=i
  ·subst e
   rw [if_pos rfl] at hc
   subst hc
   refine ⟨hy,?_,fun e=>absurd e.symm hne,fun _ => ?_⟩
   ·unfold mg
    rw [rx,ry,if_pos rfl,if_neg (fun e=>hne e.symm)]
   ·simp only [rx,ry,if_true]
    rw [if_neg (fun e=>hne e.symm)]; omega
  ·rw [if_neg e] at hc
   subst hc
   refine ⟨h1,?_,fun e' => ?_,fun e' => ?_⟩
   ·unfold mg; rw [h2]
   ·have:=h3 e'
    unfold mg
    rw [this,if_neg (fun e''=>e e''.symm)]
   ·have:=h4 e'
    simp only [h2]
    split <;> omega
theorem Zkp (w:World) (g n cap i:Nat) (u:Value):Kept (Zbt (.slice (some ⟨g,0,none⟩) n cap)) w (w.setCell ⟨g,i,none⟩ u):=(Qx _ w).setCell (p:=⟨g,i,none⟩) (fun _=>(rfl:some g=some g)) u
theorem Zrf {l:List Nat} {k n:Nat} (h:l[k]?=some n):l.take (k+1)=l.take k++[n]:=by rw [List.take_add_one,h]; rfl
def fresh (st:List Nat):Nat:=(st.filter (fun n=>n == 0)).length
def on (st:List Nat):Nat→Prop:=fun i=>st[i]?=some 1
theorem Known.congr {G:Gr} {ρ:Nat→Nat} {D D':Nat→Prop} {T T':Nat→List Sym} (h:Known G ρ D T) (hd:∀ i,D' i↔D i) (ht:∀ i,D i→T' i=T i):Known G ρ D' T':=by
 refine ⟨fun r hr=>h.lt r ((hd r).1 hr),fun r hr => ?_,fun r hr k hk=>(hd _).2 (h.kid r ((hd r).1 hr) k hk)⟩
 have hr':=(hd r).1 hr
 rw [ht r hr',h.tm r hr']
 congr 2
 exact List.map_congr_left (fun k hk=>(ht _ (h.kid r hr' k hk)).symm)
theorem Zeq {w w':World} {M:Nat} {cs:Array Value} {t:TypeId} {fr:Nat × Nat} {B:Nat} {e:TypeId} {size n:Nat} {v:Value} {xs:List Value} (h:w.ownsRow B e size v n xs) (hM:w.heap[M]?=some (.cells cs t fr)) (ht:e≠t) (hk:Kept (fun k=>k=M) w w'):w'.ownsRow B e size v n xs :=
 hk.owns h (fun k hk' e'=>by subst e'; exact Zaf h ht hM hk')
def Zxf (w:World) (size:Nat) (xv:Value) (m:Nat) (news:List Value):Prop :=
 news.length=m * size∧(∀ u ∈ news,u.oneCell'=true)∧((m=0∧xv = .slice none 0 0)∨∃ a c,xv = .slice (some a) m c∧∀ j u,news[j]?=some u→w.cell? (a.add j)=some u)
theorem Ztl {P:Program} (w:World) (t ty:TypeId) (base:Nat) (e:TypeId) {z:Value} {size bytes:Nat}
  (hinfo:(P.info? e).map (fun i=>(i.zero,i.size,i.bytes))=some (some z,size,bytes)) (ht:P.underlying t=some (.slice e)) (hzs:z.cells.size=size) (hsz:0<size)
  (v:Value) (n:Nat) (xs:List Value) (hown:w.ownsRow base e size v n xs) (xv:Value) (m:Nat) (news:List Value) (hx:Zxf w size xv m news)
  (hbig:(n+m) * (bytes+1)≤140737488355328) (hbase:base≤w.heap.size) :
  ∃ v' w',(Builtin.append_ #[t,t] ty #[v,xv]).run P w = .ok v' w'∧Appended w base e size v (n+m) (xs++news) v' w':=by
 obtain ⟨i,hi,hz,hsi,hby⟩:=info_parts hinfo
 have hb1:n+m≤140737488355328:=Qq (Nat.le_mul_of_pos_right (n+m) (Nat.succ_pos bytes)) hbig
 have hb2:(n+m) * bytes≤140737488355328:=Qq (Nat.mul_le_mul_left _ (Nat.le_succ _)) hbig
 have h63:n+m≤maxLen:=by simp only [maxLen]; omega
 obtain ⟨hl,h1,⟨rfl,rfl⟩ | ⟨a,c,rfl,hnews⟩⟩:=hx
 ·have hn:news=[]:=List.eq_nil_of_length_eq_zero (by simpa using hl)
  subst hn
  exact ⟨v,w,run_append_owned_none w base t ty e i size ht hi v n xs hown,by simpa using hown,Qx _ _,Or.inl rfl⟩
 ·obtain ⟨v',w',hr,hA,hB,hC⟩:=run_append_own (P:=P) w base t ty e i z size bytes ht hi hz hsi hby hzs hsz v n xs hown a m c news hl hnews h1 h63 hb2 hbase
  refine ⟨v',w',hr,hA,Kept.of_grown hB |>.mono (fun k _ h=>h),?_⟩
  rcases Nat.eq_zero_or_pos m with rfl | hm
  ·rcases hown.2 with ⟨rfl,rfl⟩ | ⟨g,cap,cur,rfl,hbg,hg,hnc,hcm,hcs,htake⟩
   ·have:=hC.2 ⟨rfl,rfl⟩
    rw [this]; exact Or.inl rfl
   ·have hfit:n * i.size+news.length≤cur.size:=by rw [hl,hcs,hsi]; simp; exact Nat.mul_le_mul_right _ hnc
    have hr':=run_append_room (P:=P) w t ty e i ht hi g n cap cur hg a 0 c news (by rw [hsi]; exact hl) hnews h1 (by omega) hfit
    rw [hr'] at hr
    injection hr with h2 h3
    subst h2
    exact Or.inl rfl
  ·subst hsi hby
   rcases Zhf (P:=P) w base t ty e i z ht hi hz v n xs hown a m c news hl hm hnews h1 h63 hb2 v' w' hr with h | h
   ·exact .inl h
   ·exact .inr ⟨_,h,Qe _⟩
theorem Zxg {P:Program} {o:Oper} {a:Act} {K:Act→World→Prop} {Q:Exit→Act→World→Prop} (w:World) (s x:Operand) (t:TypeId)
  (ho:o.op = .call { callee := .builtin .append,args:=#[s,x],argTypes:=#[t,t] })
  (base:Nat) (e:TypeId) {z:Value} {size bytes:Nat}
  (hinfo:(P.info? e).map (fun i=>(i.zero,i.size,i.bytes))=some (some z,size,bytes)) (ht:P.underlying t=some (.slice e)) (hzs:z.cells.size=size) (hsz:0<size)
  (v:Value) (n:Nat) (xs:List Value) (hs:a.eval s=v) (hown:w.ownsRow base e size v n xs) (xv:Value) (m:Nat) (news:List Value) (hx:a.eval x=xv) (hr:Zxf w size xv m news)
  (hbig:(n+m) * (bytes+1)≤140737488355328) (hbase:base≤w.heap.size)
  (h:∀ v' w',Appended w base e size v (n+m) (xs++news) v' w'→K (a.put o.dst v') w'):o.wp P a w K Q:=by
 obtain ⟨v',w',hrun,hA⟩:=Ztl (P:=P) w t o.type base e hinfo ht hzs hsz v n xs hown xv m news hr hbig hbase
 unfold Oper.wp
 simp [execOp,ho,resolve,invoke,builtin,hs,hx,hrun,Result.andThen]
 exact h v' w' hA
theorem Zil {P:Program} {ops:Array Oper} {rest:List Oper} {o:Oper} {a:Act} {Q:Exit→Act→World→Prop} (w:World) (hgd:o.guard=none) (s x:Operand) (t:TypeId)
  (ho:o.op = .call { callee := .builtin .append,args:=#[s,x],argTypes:=#[t,t] })
  (base:Nat) (e:TypeId) {z:Value} {size bytes:Nat}
  (hinfo:(P.info? e).map (fun i=>(i.zero,i.size,i.bytes))=some (some z,size,bytes)) (ht:P.underlying t=some (.slice e)) (hzs:z.cells.size=size) (hsz:0<size)
  (v:Value) (n:Nat) (xs:List Value) (hs:a.eval s=v) (hown:w.ownsRow base e size v n xs) (xv:Value) (m:Nat) (news:List Value) (hx:a.eval x=xv) (hr:Zxf w size xv m news)
  (hbig:(n+m) * (bytes+1)≤140737488355328) (hbase:base≤w.heap.size)
  (h:∀ v' w',Appended w base e size v (n+m) (xs++news) v' w'→wpList P ops Q rest (a.put o.dst v') w'):wpList P ops Q (o::rest) a w :=
 wpList_plain hgd fun _ hK=>Zxg w s x t ho base e hinfo ht hzs hsz v n xs hs hown xv m news hx hr hbig hbase fun v' w' h2=>hK _ _ (h v' w' h2)
theorem Zrg {w:World} {B:Nat} {e:TypeId} {size n:Nat} {v:Value} {xs:List Value} (h:w.ownsRow B e size v n xs) (h1:∀ u ∈ xs,u.oneCell'=true):Zxf w size v n xs:=by
 refine ⟨h.1,h1,?_⟩
 rcases h.2 with ⟨rfl,rfl⟩ | ⟨g,cap,cur,rfl,_⟩
 ·exact Or.inl ⟨rfl,rfl⟩
 ·exact Or.inr ⟨⟨g,0,none⟩,cap,rfl,fun j u hu=>h.cells (g:=g) rfl j u hu⟩
end Go.Proofs.YtlmjilpjmgjjcaaDoor
namespace Go.Proofs.YtlmjilpjmgjjcaaDoor
theorem Znq {τ:Nat→List Sym} (hτ:Ts τ) {φ:Sym→Sym}:∀ {l:List Sym},ap τ l=l.map φ→∀ s ∈ l,s.name≠[]→φ s=s:=by
 intro l
 induction l with
 | nil=>intro _ s hs; simp at hs
 | cons t l ih =>
  intro e s hs hn
  rw [Zcj,List.map_cons] at e
  have l1:1≤(ap1 τ t).length:=by
   unfold ap1; split
   ·exact Zeg (hτ _)
   ·simp
  have l2:=Zjd hτ l
  have l3:=congrArg List.length e
  simp only [Qg,Qf,Ql] at l3
  have hh:=List.append_inj (s₁:=ap1 τ t) (s₂:=[φ t]) (t₁:=ap τ l) (t₂:=l.map φ) (by simpa using e) (by simp; omega)
  rcases Qp.1 hs with rfl | hs
  ·have:=hh.1
   unfold ap1 at this
   rw [if_neg hn] at this
   simpa using this.symm
  ·exact ih hh.2 s hs hn
def offN (N:List (List UInt8)) (s:Sym):Sym:=if s.name=[]∨s.name ∈ N then s else ⟨s.name++[0],s.num,s.args⟩
theorem Yhp {N:List (List UInt8)}:∀ {l:List Sym} {k:Nat},Wf k l→Wf k (l.map (offN N)):=by
 intro l
 induction l with
 | nil=>intro k h; exact h
 | cons s l ih =>
  intro k h
  obtain ⟨h1,h2,h3,h4⟩:=h
  have e1:(offN N s).args=s.args:=by unfold offN; split <;> rfl
  have e2:(offN N s).name=[]↔s.name=[]:=by
   unfold offN; split
   ·exact Iff.rfl
   ·rename_i h; simp at h ⊢; exact h.1
  have e3:(offN N s).num=s.num:=by unfold offN; split <;> rfl
  refine ⟨h1,fun h=>by rw [e1]; exact h2 (e2.1 h),fun h=>by rw [e3]; exact h3 (fun h'=>h (e2.2 h')),?_⟩
  rw [e1]; exact ih h4
theorem Mgu.nm {σ:Nat→List Sym} {a b:List Sym} (h:Mgu σ a b) (n:Nat):∀ s ∈ σ n,s.name≠[]→∃ t ∈ a++b,t.name=s.name:=by
 intro s hs hn
 refine Classical.byContradiction (fun hno => ?_)
 have hno:∀ t ∈ a++b,t.name≠s.name:=fun t ht e=>hno ⟨t,ht,e⟩
 obtain ⟨N,hN⟩:∃ N,N=(a++b).map (·.name):=⟨_,rfl⟩
 have hθ:Ts (fun n=>(σ n).map (offN N)):=fun n=>Yhp (h.ts n)
 have key:∀ l:List Sym,(∀ t ∈ l,t.name ∈ N)→ap (fun n=>(σ n).map (offN N)) l=(ap σ l).map (offN N):=by
  intro l
  induction l with
  | nil=>intro _; rfl
  | cons t l ih =>
   intro ht
   rw [Zcj,Zcj,Qr,ih (fun u hu=>ht u (by simp [hu]))]
   congr 1
   unfold ap1
   split
   ·rfl
   ·have:offN N t=t:=by unfold offN; rw [if_pos (Or.inr (ht t (by simp)))]
    simp [this]
 have ha:=key a (fun t ht=>by rw [hN]; exact List.mem_map.2 ⟨t,by simp [ht],rfl⟩)
 have hb:=key b (fun t ht=>by rw [hN]; exact List.mem_map.2 ⟨t,by simp [ht],rfl⟩)
 have hw:=h.wide _ hθ (by rw [ha,hb,h.unif]) n
 have hf:=Znq hθ hw s hs hn
 have hnN:¬ (s.name=[]∨s.name ∈ N):=by
  rintro (h | h)
  ·exact hn h
  ·rw [hN] at h
   obtain ⟨t,ht,e⟩:=List.mem_map.1 h
   exact hno t ht e
 unfold offN at hf
 rw [if_neg hnN] at hf
 have:=congrArg (fun s=>s.name.length) hf
 simp at this
def Shorts (l:List Sym):Prop:=∀ s ∈ l,s.name.length≤800
def NNm (n:ND):Prop:=∀ t ∈ n.terms,Shorts t
def CNm (c:Cls):Prop:=Shorts c.head∧∀ t ∈ c.body,Shorts t
theorem Zrh (n:Nat):Shorts (vr n):=fun s hs=>by simp [vr] at hs; subst hs; simp
theorem Shorts.ap {σ:Nat→List Sym} {l:List Sym} (h:Shorts l) (hσ:∀ n,Shorts (σ n)):Shorts (ap σ l):=by
 intro s hs
 simp only [YtlmjilpjmgjjcaaDoor.ap,List.mem_flatMap] at hs
 obtain ⟨t,ht,hs⟩:=hs
 unfold ap1 at hs
 split at hs
 ·exact hσ _ s hs
 ·simp at hs; subst hs; exact h s ht
theorem Zkq (v n:Nat):Shorts (Zdm v n):=Zrh _
theorem Mgu.shorts {σ:Nat→List Sym} {a b:List Sym} (h:Mgu σ a b) (ha:Shorts a) (hb:Shorts b) (n:Nat):Shorts (σ n):=by
 intro s hs
 by_cases hn:s.name=[]
 ·rw [hn]; simp
 ·obtain ⟨t,ht,e⟩:=h.nm n s hs hn
  rw [← e]
  rcases Qk.1 ht with ht | ht
  ·exact ha t ht
  ·exact hb t ht
theorem Yhq {n:ND} {c:Cls} {k q:Nat} {ch:ND} (h:Out n c k q ch) (hq:q=1∨q=2) (hn:NNm n) (hc:CNm c):NNm ch:=by
 obtain ⟨g,gs,hg,h⟩:=h
 rcases h with ⟨rfl,_⟩ | ⟨rfl,_⟩ | ⟨σ,h1,_,_,rfl⟩
 ·omega
 ·omega
 ·have hgt:Shorts g.1:=hn g.1 (by simp [ND.terms,hg])
  have hhd:Shorts (ap (Zdm n.vars) c.head):=hc.1.ap (Zkq _)
  have hσ:=h1.shorts hgt hhd
  intro t ht
  rw [Zfo] at ht
  simp only [Qk,List.mem_map] at ht
  rcases ht with ⟨u,hu,rfl⟩ | ⟨u,hu,rfl⟩ | ⟨u,hu,rfl⟩
  ·rcases hu with ⟨b,hb,rfl⟩ | ⟨x,hx,rfl⟩
   ·exact ((hc.2 b hb).ap (Zkq _)).ap hσ
   ·exact (hn x.1 (by simp only [ND.terms,hg,List.map_cons,List.cons_append,Qp,Qk,List.mem_map]; exact Or.inr (Or.inl ⟨x,hx,rfl⟩))).ap hσ
  ·exact (hn u (by simp [ND.terms,hu])).ap hσ
  ·rcases hu with ⟨x,hx,rfl⟩ | hu
   ·exact (hn x.1 (by simp only [ND.terms,Qk,List.mem_map]; exact Or.inr (Or.inr ⟨x,hx,rfl⟩))).ap hσ
   ·simp at hu; subst hu; exact hgt.ap hσ
structure SB (st:RS):Prop where
 next:st.next≤5
 atom:st.atom.length≤30
 empty:st.next≠2→st.next≠3→st.next≠4→st.atom=[]
 head:st.head.length≤30
 body:∀ l ∈ st.body,l.length≤30
 bodyn:st.body.length≤6
 inb:st.next=2∨st.next=3∨st.next=4→st.body.length≤5
 cls:∀ c ∈ st.clauses,c.head.length≤30∧(∀ l ∈ c.body,l.length≤30)∧c.body.length≤6
 clsn:st.clauses.length≤24
 clsb:st.next≠0→st.next≠5→st.clauses.length≤23
 fresh:st.next=0→st.body=[]
 an:∀ s ∈ st.atom,s.name.length≤8
 hn:∀ s ∈ st.head,s.name.length≤8
 bn:∀ l ∈ st.body,∀ s ∈ l,s.name.length≤8
 vn:∀ x ∈ st.vars,x.length≤8
 cn:∀ c ∈ st.clauses,(∀ s ∈ c.head,s.name.length≤8)∧(∀ l ∈ c.body,∀ s ∈ l,s.name.length≤8)∧∀ x ∈ c.names,x.length≤8
theorem SB.endAtom {st:RS} (h:SB st) (h5:st.body.length≤5):(Zap st).atom=[]∧(Zap st).head.length≤30∧(∀ l ∈ (Zap st).body,l.length≤30)∧(Zap st).body.length≤6∧(Zap st).clauses=st.clauses∧(∀ s ∈ (Zap st).head,s.name.length≤8)∧(∀ l ∈ (Zap st).body,∀ s ∈ l,s.name.length≤8)∧(Zap st).vars=st.vars:=by
 unfold Zap
 split
 ·refine ⟨rfl,h.head,?_,by simp; omega,rfl,h.hn,?_,rfl⟩
  ·intro l hl
   simp at hl
   rcases hl with hl | rfl
   ·exact h.body l hl
   ·exact h.atom
  ·intro l hl
   simp at hl
   rcases hl with hl | rfl
   ·exact h.bn l hl
   ·exact h.an
 ·exact ⟨rfl,h.atom,h.body,by simpa using h.bodyn,rfl,h.an,h.bn,rfl⟩
theorem Znr (st:RS) (h:∀ s ∈ st.atom,s.name.length≤8):∀ s ∈ Zcg st,s.name.length≤8:=by
 unfold Zcg
 split
 ·exact h
 ·intro s hs
  rw [List.mem_iff_getElem?] at hs
  obtain ⟨i,hi⟩:=hs
  rw [List.getElem?_modify] at hi
  simp only [Option.map_eq_map,Option.map_eq_some_iff] at hi
  obtain ⟨t,ht,e⟩:=hi
  have:=h t (Qh ht)
  split at e
  ·rw [← e]; exact this
  ·rw [← e]; exact this
theorem SB.take {st:RS} {kd len:Nat} {t:List UInt8} (h:SB st) (hc:Zbp st kd len=0) (hlen:len=t.length):SB (Zbj st kd t):=by
 have hs:=Zir hc
 obtain ⟨k1,k7,_,_⟩:=Zis hs h.next
 have hfull:kd=1∨kd=2→Zer st=false:=by
  intro hk
  unfold Zbp at hc
  rw [if_neg (by simp [hs])] at hc
  split at hc
  ·omega
  ·rename_i h'
   cases hf:Zer st with
   | false=>rfl
   | true=>exact absurd ⟨hk,Or.inr hf⟩ h'
 have h8:kd=1∨kd=2→t.length≤8:=by
  intro hk
  unfold Zbp at hc
  rw [if_neg (by simp [hs])] at hc
  split at hc
  ·omega
  ·rename_i h'
   rcases Nat.lt_or_ge 8 len with h9 | h9
   ·exact absurd ⟨hk,Or.inl h9⟩ h'
   ·omega
 have hnext:kd=1∨kd=2→st.next=0∨st.next=1∨st.next=2:=by
  intro hk
  unfold Zbh at hs
  split at hs
  ·omega
  ·split at hs
   ·omega
   ·split at hs
    ·rcases hk with rfl | rfl
     ·simp [Zbo] at hs
     ·simp [Zbo] at hs
    ·split at hs
     ·rcases hk with rfl | rfl
      ·simp [Zbo] at hs
      ·simp [Zbo] at hs
     ·simp at hs
 have hother:¬ (kd=1∨kd=2)→st.next=3∨st.next=4:=by
  intro hk
  unfold Zbh at hs
  split at hs
  ·simp at hs; omega
  ·split at hs
   ·simp at hs; omega
   ·split at hs
    ·omega
    ·split at hs
     ·omega
     ·simp at hs
 have add:(kd=1∨kd=2)→st.atom.length+1≤30∧st.body.length≤5∧st.clauses.length≤23:=by
  intro hk
  have hf:=hfull hk
  unfold Zer at hf
  rcases hnext hk with h0 | h0 | h0
  ·rw [if_pos h0] at hf
   simp at hf
   have:=h.empty (by omega) (by omega) (by omega)
   have hb:=h.fresh h0
   exact ⟨by simp [this],by simp [hb],by omega⟩
  ·rw [if_neg (by omega),if_pos h0] at hf
   simp at hf
   have:=h.empty (by omega) (by omega) (by omega)
   exact ⟨by simp [this],by omega,h.clsb (by omega) (by omega)⟩
  ·rw [if_neg (by omega),if_neg (by omega),if_pos h0] at hf
   simp at hf
   exact ⟨by omega,h.inb (Or.inl h0),h.clsb (by omega) (by omega)⟩
 have h34:¬ (kd=1∨kd=2)→st.body.length≤5∧st.clauses.length≤23:=fun hk=>by
  have:=hother hk
  exact ⟨h.inb (by omega),h.clsb (by omega) (by omega)⟩
 unfold Zbj
 split
 ·rename_i hk
  obtain ⟨a1,a2,a3⟩:=add (Or.inl hk)
  exact ⟨by simp,by simp [addS,Zkz]; omega,fun _ h3=>absurd rfl h3,h.head,h.body,h.bodyn,fun _=>a2,h.cls,h.clsn,fun _ _=>a3,fun e=>by simp at e,fun s hs=>by
   simp only [addS,Qk,List.mem_singleton] at hs
   rcases hs with hs | rfl
   ·exact Znr st h.an s hs
   ·exact h8 (Or.inl hk),h.hn,h.bn,h.vn,h.cn⟩
 ·split
  ·rename_i hk
   obtain ⟨a1,a2,a3⟩:=add (Or.inr hk)
   have hb:(Zcg (varS st t)).length=st.atom.length:=Zkz _
   exact ⟨by simp,by simp [addS,hb]; omega,fun _ _ h4=>absurd rfl h4,h.head,h.body,h.bodyn,fun _=>a2,h.cls,h.clsn,fun _ _=>a3,fun e=>by simp at e,fun s hs=>by
    simp only [addS,Qk,List.mem_singleton] at hs
    rcases hs with hs | rfl
    ·exact Znr (varS st t) h.an s hs
    ·simp,h.hn,h.bn,fun x hx=>by
    simp only [addS,varS,Zba] at hx
    split at hx
    ·exact h.vn x hx
    ·rcases Qk.1 hx with hx | hx
     ·exact h.vn x hx
     ·simp at hx; subst hx; exact h8 (Or.inr hk),h.cn⟩
  ·rename_i n1 n2
   obtain ⟨b1,b2⟩:=h34 (by omega)
   obtain ⟨e1,e2,e3,e4,e5,e6,e7,e8⟩:=h.endAtom b1
   split
   ·exact ⟨by simp,h.atom,fun h2=>absurd rfl h2,h.head,h.body,h.bodyn,fun _=>b1,h.cls,h.clsn,fun _ _=>b2,fun e=>by simp at e,h.an,h.hn,h.bn,h.vn,h.cn⟩
   ·split
    ·exact ⟨by simp,h.atom,fun _ _ h4=>absurd rfl h4,h.head,h.body,h.bodyn,fun _=>b1,h.cls,h.clsn,fun _ _=>b2,fun e=>by simp at e,h.an,h.hn,h.bn,h.vn,h.cn⟩
    ·split
     ·unfold Zfv
      split
      ·exact ⟨by simp,by simp [e1],fun _ _ _=>e1,e2,e3,e4,fun h=>by simp at h,by rw [e5]; exact h.cls,by rw [e5]; exact h.clsn,fun _ _=>by rw [e5]; exact b2,fun e=>by simp at e,by simp [e1],e6,e7,by rw [e8]; exact h.vn,by rw [e5]; exact h.cn⟩
      ·exact ⟨by simp,h.atom,fun h2=>absurd rfl h2,h.head,h.body,h.bodyn,fun _=>b1,h.cls,h.clsn,fun _ _=>b2,fun e=>by simp at e,h.an,h.hn,h.bn,h.vn,h.cn⟩
     ·split
      ·exact ⟨by simp,by simp [e1],fun _ _ _=>e1,e2,e3,e4,fun h=>by simp at h,by rw [e5]; exact h.cls,by rw [e5]; exact h.clsn,fun _ _=>by rw [e5]; exact b2,fun e=>by simp at e,by simp [e1],e6,e7,by rw [e8]; exact h.vn,by rw [e5]; exact h.cn⟩
      ·split
       ·have hn:(Zam (Zap st)).next=0∨(Zam (Zap st)).next=5:=by unfold Zam; simp only; split <;> simp
        refine ⟨by omega,by simp [Zam,e1],fun _ _ _=>by simp [Zam,e1],by simp [Zam],by simp [Zam],by simp [Zam],fun _=>by simp [Zam],?_,?_,fun h0 h5=>by omega,fun _=>by simp [Zam],by simp [Zam,e1],by simp [Zam],by simp [Zam],by simp [Zam],?_⟩
        ·intro c hc'
         simp only [Zam,e5,Qk,List.mem_singleton] at hc'
         rcases hc' with hc' | rfl
         ·exact h.cls c hc'
         ·exact ⟨e2,e3,e4⟩
        ·simp [Zam,e5]; omega
        ·intro c hc'
         simp only [Zam,e5,Qk,List.mem_singleton] at hc'
         rcases hc' with hc' | rfl
         ·exact h.cn c hc'
         ·exact ⟨e6,e7,by rw [e8]; exact h.vn⟩
       ·exact h
theorem SB.run {e:Nat}:∀ {ts:List Tok} {st:RS},SB st→(runT e ts st).1=0→SB (runT e ts st).2.2:=by
 intro ts
 induction ts with
 | nil=>intro st h _; unfold runT; split <;> exact h
 | cons t ts ih =>
  intro st h h0
  unfold runT at h0 ⊢
  split at h0
  ·rename_i hc; exact absurd h0 hc
  ·rename_i hc
   rw [if_neg hc]
   exact ih (h.take (len:=t.text.length) (by omega) rfl) h0
theorem SB.start (q:Bool):SB ⟨q,if q then 1 else 0,q,[],[],[],[],[],[]⟩:=by
 cases q <;> exact ⟨by simp,by simp,fun _ _ _=>rfl,by simp,by simp,by simp,fun _=>by simp,by simp,by simp,fun _ _=>by simp,fun _=>rfl,by simp,by simp,by simp,by simp,by simp⟩
theorem Zda (s:ByteArray):Worded (Zal s):=Zqc s
theorem Zcq (s:ByteArray) (q:Bool):(runs s q).1=(Zdz (Zal s) (Zbu q)).1∧((runs s q).1≠0→(runs s q).2.1=(Zdz (Zal s) (Zbu q)).2)∧((runs s q).1=0→(runs s q).2.2=takes (toks s.data.toList 0) (st0 q)) :=
 Yab s.size _ _ _ (sim0 q) (Zia _ _)
theorem Ydo {ts:List Tok} {L:LookS} (hok:okk ts L) (hf:fin ts) (hw:L.want=5):∃ t r,ts=t::r∧t.kind=4:=by
 cases ts with
 | nil=>exact hf.elim
 | cons t r =>
  refine ⟨t,r,rfl,?_⟩
  apply Classical.byContradiction
  intro hk
  have h:=(Zeo hok (fun hc=>hk hc.1)).1
  unfold Zbw at h
  rw [if_neg (by omega),if_pos hw] at h
  simp at h
theorem Zej (s:ByteArray) (hs:s.size≤120) (h0:(runs s true).1=0) :
  ∃ q,Zci 1000 1000 (Zal s) [] []=some q∧(runs s true).2.2.clauses=[⟨[],q.1,q.2.2⟩]∧Zeh [] q.1=Zgt 1000 [] q.1 []∧q.1.length≤4000∧(∀ l ∈ q.1,Zkv l)∧(Zeh [] q.1).length≤100000000:=by
 obtain ⟨r1,_,r3⟩:=Zcq s true
 have hl:=Zds s
 have hok:okk (Zal s) (Zbu true):=r1.symm.trans h0
 obtain ⟨q,L',i,ex,h1,h2,h3,h4,_,_,_,_,h9,h10,h11⟩:=Zqn 1000 (Zal s) (Zbu true) [] (st0 true) (by omega) (by omega) hok (Zls _ _) rfl rfl rfl rfl rfl rfl rfl
 have hend:(Zal s).take i=toks s.data.toList 0:=Yae (Zia _ _) (by
  obtain ⟨t,r,e1,e2⟩:=Ydo h2 h3 (by rw [h4]; rfl)
  exact ⟨t,r,by rw [← e1,h9]; rfl,e2⟩)
 rw [hend] at h11
 have h1':Zci 1000 1000 (Zal s) [] []=some q:=h1
 have hM:=Zip (M:=120) 1000 (Zal s) [] [] q (fun t ht=>Qq (Zhl s t ht) hs) (by simp) h1'
 obtain ⟨g1,g2,_⟩:=Zgl 1000 0 1000 (Zal s) [] [] q (Zda s) (by simp) rfl h1'
 have hfl:=Zkx 1000 q.1 g1
 have hlen:q.1.flatten.length≤121:=by have:=hM.1; simp only [List.flatten_nil,Qt] at this; omega
 obtain ⟨_,b2,_⟩:=Zdf _ _ _ g2
 have hw:=Zly 1000 q.1 g1 0 _ [] g2
 simp only [List.range_zero] at hw
 have hwl:=Zli 1000 q.1 g1 (fun x hx=>Qq (hM.2.1 x hx) (by omega)) [] [] (by simp) (by simp only [Qt]; omega)
 refine ⟨q,h1',?_,hw,by omega,Yai 1000 q.1 0 _ g1 g2 (by omega) (by omega),?_⟩
 ·rw [r3 h0,h11,h10]
  rfl
 ·rw [hw]; omega
theorem Ydp (cs:List Cls) (h:∀ c ∈ cs,(Zdt c).length≤4110 * Zhi c):(cs.flatMap Zdt).length≤4110 * (cs.map Zhi).sum:=by
 induction cs with
 | nil=>simp
 | cons c cs ih =>
  have h1:=ih (fun x hx=>h x (by simp [hx]))
  have h2:=h c (by simp)
  simp only [List.flatMap_cons,Qg,List.map_cons,List.sum_cons]
  omega
theorem Zvd (cs:List Cls) (c:Cls) (h:c ∈ cs):Zhi c≤(cs.map Zhi).sum:=by
 induction cs with
 | nil=>simp at h
 | cons x cs ih =>
  simp only [Qp] at h
  simp only [List.map_cons,List.sum_cons]
  rcases h with rfl | h
  ·omega
  ·have:=ih h; omega
theorem Zkr (s:ByteArray) (hs:s.size≤800) (h0:(runs s false).1=0) :
  ∃ cs,Zee 1000 (Zal s) []=some cs∧(Zgk (runs s false).2.2.clauses)=cs.flatMap Zdt∧(runs s false).2.2.clauses.length≤4000∧(∀ c ∈ (runs s false).2.2.clauses,c.body.length≤4000∧Zkv c.head∧∀ l ∈ c.body,Zkv l)∧(cs.flatMap Zdt).length≤100000000:=by
 obtain ⟨r1,_,r3⟩:=Zcq s false
 have hl:=Zds s
 have hok:okk (Zal s) (Zbu false):=r1.symm.trans h0
 obtain ⟨cs,i,ex,h1,h2,h3,h4⟩:=Zuv 1000 (Zal s) (Zbu false) [] (st0 false) (by omega) (by omega) hok (Zls _ _) rfl rfl rfl rfl ⟨rfl,rfl,rfl,rfl,rfl,rfl,rfl,rfl⟩
 rw [show (Zal s).take i=toks s.data.toList 0 from Yae (Zia _ _) h2] at h4
 rw [List.nil_append] at h3
 subst h3
 have hcl:(runs s false).2.2.clauses=cs:=by
  rw [r3 h0,h4]
  rfl
 have hg:=Zqo 1000 (Zal s) [] cs (Zda s) (by simp) h1
 obtain ⟨m1,m2,m3⟩:=Zwo (M:=800) 1000 (Zal s) [] cs (fun t ht=>Qq (Zhl s t ht) hs) (by simp) h1
 simp only [List.map_nil,List.sum_nil,Qt] at m1 m2
 rw [hcl]
 refine ⟨cs,h1,Zsy cs hg,by omega,?_,?_⟩
 ·intro c hc
  obtain ⟨g1,g2,k1,k2,g3,g4⟩:=hg c hc
  have hm:=Qq (Zvd cs c hc) m1
  unfold Zhi at hm
  have hfl:=Zkx 1000 c.body g2
  obtain ⟨_,b1,_⟩:=Zdf _ _ _ g3
  obtain ⟨_,b2,_⟩:=Zdf _ _ _ g4
  exact ⟨by omega,Yfh 1000 c.head 0 k1 g1 g3 (by omega) (by omega),Yai 1000 c.body k1 k2 g2 g4 (by omega) (by omega)⟩
 ·have:=Ydp cs (fun c hc=>by
   obtain ⟨g1,g2,_⟩:=hg c hc
   have hm:=Zvd cs c hc
   exact Zsq c g1 g2 (fun x hx=>Qq ((m3 c hc).1 x hx) (by omega)) (fun x hx=>Qq ((m3 c hc).2 x hx) (by omega)) (by omega))
  omega
end Go.Proofs.YtlmjilpjmgjjcaaDoor
