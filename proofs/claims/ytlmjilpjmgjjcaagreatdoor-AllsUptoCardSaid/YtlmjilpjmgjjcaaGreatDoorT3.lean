/-
  PROVED HERE: plain laws on what a step of the program's reader leaves in memory (the conditions stand in each statement).
-/
import Derived.Test.YtlmjilpjmgjjcaaGreatDoorT2
set_option linter.unusedSimpArgs false
set_option linter.unusedVariables false
set_option maxRecDepth 10000
set_option maxHeartbeats 4000000
namespace Go.Proofs.YtlmjilpjmgjjcaaGreatDoor
open Go.RowKit
def Zdp (c d:UInt8):Nat :=
 if inB c Zeb then 1 else if inB c Zfi then 2 else if c=40 then 3 else if c=41 then 4 else if c=44 then 5 else if c=46 then 6 else if c=58∧d=45 then 7 else 8
theorem Zkl {c k:UInt8} (h:c=k):((c.toNat:Int) == (k.toNat:Int))=true:=by subst h; simp
theorem Zgo {c k:UInt8} (h:¬ c=k):((c.toNat:Int) == (k.toNat:Int))=false:=by
 rw [Qu]
 intro e
 exact h (UInt8.toNat_inj.1 (by omega))
theorem Zwx (c d:UInt8) (w:World):Calls Tryz.prog 164 #[.int .u8 c.toNat,.int .u8 d.toNat] w fun e w'=>e = .returned (.int .i64 (Zdp c d))∧w'=w:=by
 cases hA:inB c Zeb
 case true =>
  have Hk:Hid (Zdp c d=1):=by show _=_; simp [Zdp,hA]
  go_enter Tryz.func164,Tryz.ntmps164
  go_wp2_with (first | (go_at_call 195; refine (Zcj _ _).mono ?_; rintro e w' ⟨rfl,rfl⟩) | (go_at_call 196; refine (Zbt _ _).mono ?_; rintro e w' ⟨rfl,rfl⟩))
  go_ret
  rw [Hk.out]
  exact ⟨rfl,rfl⟩
 case false =>
  cases hB:inB c Zfi
  case true =>
   have Hk:Hid (Zdp c d=2):=by show _=_; simp [Zdp,hA,hB]
   go_enter Tryz.func164,Tryz.ntmps164
   go_wp2_with (first | (go_at_call 195; refine (Zcj _ _).mono ?_; rintro e w' ⟨rfl,rfl⟩) | (go_at_call 196; refine (Zbt _ _).mono ?_; rintro e w' ⟨rfl,rfl⟩))
   go_ret
   rw [Hk.out]
   exact ⟨rfl,rfl⟩
  case false =>
   by_cases h1:c=40
   ·have Hk:Hid (Zdp c d=3):=by show _=_; unfold Zdp; rw [if_neg (by rw [hA]; simp),if_neg (by rw [hB]; simp),if_pos h1]
    have t1:((c.toNat:Int) == 40)=true:=Zkl h1
    clear h1
    go_enter Tryz.func164,Tryz.ntmps164
    go_wp2_with (first | (go_at_call 195; refine (Zcj _ _).mono ?_; rintro e w' ⟨rfl,rfl⟩) | (go_at_call 196; refine (Zbt _ _).mono ?_; rintro e w' ⟨rfl,rfl⟩))
    go_ret
    rw [Hk.out]
    exact ⟨rfl,rfl⟩
   ·have t1:((c.toNat:Int) == 40)=false:=Zgo h1
    by_cases h2:c=41
    ·have Hk:Hid (Zdp c d=4):=by show _=_; unfold Zdp; rw [if_neg (by rw [hA]; simp),if_neg (by rw [hB]; simp),if_neg h1,if_pos h2]
     have t2:((c.toNat:Int) == 41)=true:=Zkl h2
     clear h1 h2
     go_enter Tryz.func164,Tryz.ntmps164
     go_wp2_with (first | (go_at_call 195; refine (Zcj _ _).mono ?_; rintro e w' ⟨rfl,rfl⟩) | (go_at_call 196; refine (Zbt _ _).mono ?_; rintro e w' ⟨rfl,rfl⟩))
     go_ret
     rw [Hk.out]
     exact ⟨rfl,rfl⟩
    ·have t2:((c.toNat:Int) == 41)=false:=Zgo h2
     by_cases h3:c=44
     ·have Hk:Hid (Zdp c d=5):=by show _=_; unfold Zdp; rw [if_neg (by rw [hA]; simp),if_neg (by rw [hB]; simp),if_neg h1,if_neg h2,if_pos h3]
      have t3:((c.toNat:Int) == 44)=true:=Zkl h3
      clear h1 h2 h3
      go_enter Tryz.func164,Tryz.ntmps164
      go_wp2_with (first | (go_at_call 195; refine (Zcj _ _).mono ?_; rintro e w' ⟨rfl,rfl⟩) | (go_at_call 196; refine (Zbt _ _).mono ?_; rintro e w' ⟨rfl,rfl⟩))
      go_ret
      rw [Hk.out]
      exact ⟨rfl,rfl⟩
     ·have t3:((c.toNat:Int) == 44)=false:=Zgo h3
      by_cases h4:c=46
      ·have Hk:Hid (Zdp c d=6):=by show _=_; unfold Zdp; rw [if_neg (by rw [hA]; simp),if_neg (by rw [hB]; simp),if_neg h1,if_neg h2,if_neg h3,if_pos h4]
       have t4:((c.toNat:Int) == 46)=true:=Zkl h4
       clear h1 h2 h3 h4
       go_enter Tryz.func164,Tryz.ntmps164
       go_wp2_with (first | (go_at_call 195; refine (Zcj _ _).mono ?_; rintro e w' ⟨rfl,rfl⟩) | (go_at_call 196; refine (Zbt _ _).mono ?_; rintro e w' ⟨rfl,rfl⟩))
       go_ret
       rw [Hk.out]
       exact ⟨rfl,rfl⟩
      ·have t4:((c.toNat:Int) == 46)=false:=Zgo h4
       by_cases h5:c=58
       ·have t5:((c.toNat:Int) == 58)=true:=Zkl h5
        by_cases h6:d=45
        ·have t6:((d.toNat:Int) == 45)=true:=Zkl h6
         have Hk:Hid (Zdp c d=7):=by show _=_; unfold Zdp; rw [if_neg (by rw [hA]; simp),if_neg (by rw [hB]; simp),if_neg h1,if_neg h2,if_neg h3,if_neg h4,if_pos ⟨h5,h6⟩]
         clear h1 h2 h3 h4 h5 h6
         go_enter Tryz.func164,Tryz.ntmps164
         go_wp2_with (first | (go_at_call 195; refine (Zcj _ _).mono ?_; rintro e w' ⟨rfl,rfl⟩) | (go_at_call 196; refine (Zbt _ _).mono ?_; rintro e w' ⟨rfl,rfl⟩))
         go_ret
         rw [Hk.out]
         exact ⟨rfl,rfl⟩
        ·have t6:((d.toNat:Int) == 45)=false:=Zgo h6
         have Hk:Hid (Zdp c d=8):=by show _=_; unfold Zdp; rw [if_neg (by rw [hA]; simp),if_neg (by rw [hB]; simp),if_neg h1,if_neg h2,if_neg h3,if_neg h4,if_neg (fun h=>h6 h.2)]
         clear h1 h2 h3 h4 h5 h6
         go_enter Tryz.func164,Tryz.ntmps164
         go_wp2_with (first | (go_at_call 195; refine (Zcj _ _).mono ?_; rintro e w' ⟨rfl,rfl⟩) | (go_at_call 196; refine (Zbt _ _).mono ?_; rintro e w' ⟨rfl,rfl⟩))
         go_ret
         rw [Hk.out]
         exact ⟨rfl,rfl⟩
       ·have t5:((c.toNat:Int) == 58)=false:=Zgo h5
        have Hk:Hid (Zdp c d=8):=by show _=_; unfold Zdp; rw [if_neg (by rw [hA]; simp),if_neg (by rw [hB]; simp),if_neg h1,if_neg h2,if_neg h3,if_neg h4,if_neg (fun h=>h5 h.1)]
        clear h1 h2 h3 h4 h5
        go_enter Tryz.func164,Tryz.ntmps164
        go_wp2_with (first | (go_at_call 195; refine (Zcj _ _).mono ?_; rintro e w' ⟨rfl,rfl⟩) | (go_at_call 196; refine (Zbt _ _).mono ?_; rintro e w' ⟨rfl,rfl⟩))
        go_ret
        rw [Hk.out]
        exact ⟨rfl,rfl⟩
def endC (s:ByteArray) (p kd:Nat):Nat:=if kd=1∨kd=2 then p+Zbi (s.data.toList.drop p) else if kd=7 then p+2 else p+1
theorem Zzs (s:ByteArray) (p kd:Nat) (w:World) (hs:s.size≤4096) (hp:p≤s.size):Calls Tryz.prog 165 #[.string s,.int .i64 p,.int .i64 kd] w fun e w'=>e = .returned (.int .i64 (endC s p kd))∧w'=w:=by
 by_cases h1:kd=1
 ·subst h1
  have Hk:Hid (endC s p 1=p+Zbi (s.data.toList.drop p)):=by show _=_; simp [endC]
  go_enter Tryz.func165,Tryz.ntmps165
  go_wp2_with (go_at_call 197; refine (Zjs _ _ _ hs hp).mono ?_; rintro e w' ⟨rfl,rfl⟩)
  go_ret
  rw [Hk.out]
  exact ⟨rfl,rfl⟩
 ·have t1:((kd:Int) == 1)=false:=by rw [Qu]; omega
  by_cases h2:kd=2
  ·subst h2
   have Hk:Hid (endC s p 2=p+Zbi (s.data.toList.drop p)):=by show _=_; simp [endC]
   clear h1
   go_enter Tryz.func165,Tryz.ntmps165
   go_wp2_with (go_at_call 197; refine (Zjs _ _ _ hs hp).mono ?_; rintro e w' ⟨rfl,rfl⟩)
   go_ret
   rw [Hk.out]
   exact ⟨rfl,rfl⟩
  ·have t2:((kd:Int) == 2)=false:=by rw [Qu]; omega
   by_cases h7:kd=7
   ·have t7:((kd:Int) == 7)=true:=by rw [beq_iff_eq]; omega
    have Hk:Hid (endC s p kd=p+2):=by show _=_; simp [endC,h7]
    clear h1 h2 h7
    go_enter Tryz.func165,Tryz.ntmps165
    go_wp2
    go_ret
    rw [Hk.out]
    exact ⟨Zhp (by omega),rfl⟩
   ·have t7:((kd:Int) == 7)=false:=by rw [Qu]; omega
    have Hk:Hid (endC s p kd=p+1):=by show _=_; simp [endC,h1,h2,h7]
    clear h1 h2 h7
    go_enter Tryz.func165,Tryz.ntmps165
    go_wp2
    go_ret
    rw [Hk.out]
    exact ⟨Zhp (by omega),rfl⟩
def Zmb (s:ByteArray) (n:Nat):Nat × Nat × Nat :=
 if n+Zcz (s.data.toList.drop n)<s.size then
  (Zdp (Zdw s (n+Zcz (s.data.toList.drop n))) (Zdw s (n+Zcz (s.data.toList.drop n)+1)),n+Zcz (s.data.toList.drop n),
   endC s (n+Zcz (s.data.toList.drop n)) (Zdp (Zdw s (n+Zcz (s.data.toList.drop n))) (Zdw s (n+Zcz (s.data.toList.drop n)+1))))
 else (0,s.size,s.size)
theorem Zve (s:ByteArray) (n:Nat) (w:World) (hs:s.size≤4096) (hn:n≤s.size):Calls Tryz.prog 130 #[.string s,.int .i64 n] w fun e w' =>
  e = .returned (.agg #[.int .i64 (Zmb s n).1,.int .i64 (Zmb s n).2.1,.int .i64 (Zmb s n).2.2])∧Below w.heap.size w w':=by
 have hbl:=Zzr (s.data.toList.drop n)
 simp only [List.length_drop,Array.length_toList] at hbl
 have hbl':n+Zcz (s.data.toList.drop n)≤s.size:=by
  have:s.data.size=s.size:=rfl
  omega
 obtain ⟨p,hp⟩:∃ p,p=n+Zcz (s.data.toList.drop n):=⟨_,rfl⟩
 have hps:p≤s.size:=by omega
 have Hp:=(show Hid _ from hp)
 by_cases h:p<s.size
 ·have Hr:Hid (Zmb s n=(Zdp (Zdw s p) (Zdw s (p+1)),p,endC s p (Zdp (Zdw s p) (Zdw s (p+1))))):=by
   show _=_
   unfold Zmb
   rw [← hp,if_pos h]
  clear hp hbl hbl'
  go_enter Tryz.func130,Tryz.ntmps130
  go_wp2_with fail
  refine (Ziq _ _ _ hs hn).mono ?_
  rintro e w' ⟨rfl,rfl⟩
  rw [← Hp.out]
  go_wp2_with fail
  refine (Zii _ _ _ hs (by omega)).mono ?_
  rintro e w' ⟨rfl,rfl⟩
  go_wp2_with fail
  refine (Zii s (p+1) _ hs (by omega)).mono ?_
  rintro e w' ⟨rfl,rfl⟩
  go_wp2_with fail
  refine (Zwx _ _ _).mono ?_
  rintro e w' ⟨rfl,rfl⟩
  go_wp2_with fail
  refine (Zzs _ _ _ _ hs hps).mono ?_
  rintro e w' ⟨rfl,rfl⟩
  go_wp2
  rw [Hr.out]
  exact bodyPost_ret (v := .agg #[.int .i64 (Zdp (Zdw s p) (Zdw s (p+1))),.int .i64 p,.int .i64 (endC s p (Zdp (Zdw s p) (Zdw s (p+1))))]) (by simp [results,Tryz.results130,go_sem]) rfl ⟨rfl,(Below.refl _ _).alloc (Qe _) _⟩
 ·have Hr:Hid (Zmb s n=(0,s.size,s.size)):=by
   show _=_
   unfold Zmb
   rw [← hp,if_neg h]
  clear hp hbl hbl'
  go_enter Tryz.func130,Tryz.ntmps130
  go_wp2_with fail
  refine (Ziq _ _ _ hs hn).mono ?_
  rintro e w' ⟨rfl,rfl⟩
  rw [← Hp.out]
  go_wp2
  rw [Hr.out]
  exact bodyPost_ret (v := .agg #[.int .i64 0,.int .i64 s.size,.int .i64 s.size]) (by simp [results,Tryz.results130,go_sem]) rfl ⟨rfl,(Below.refl _ _).alloc (Qe _) _⟩
end Go.Proofs.YtlmjilpjmgjjcaaGreatDoor
namespace Go.Proofs.YtlmjilpjmgjjcaaGreatDoor
def Wf:Nat→List Sym→Prop
 | k,[]=>k=0
 | k,s::r=>0<k∧(s.name=[]→s.args=0)∧(s.name≠[]→s.num=0)∧Wf (k - 1+s.args) r
def vr (n:Nat):List Sym:=[⟨[],n,0⟩]
def ap1 (σ:Nat→List Sym) (s:Sym):List Sym:=if s.name=[] then σ s.num else [s]
def ap (σ:Nat→List Sym) (l:List Sym):List Sym:=l.flatMap (ap1 σ)
theorem Zvf (σ:Nat→List Sym):ap σ []=[]:=rfl
theorem Zca (σ:Nat→List Sym) (s:Sym) (l:List Sym):ap σ (s::l)=ap1 σ s++ap σ l:=rfl
theorem Zfs (σ:Nat→List Sym) (l m:List Sym):ap σ (l++m)=ap σ l++ap σ m:=by simp [ap]
theorem Zfk (σ:Nat→List Sym) (ls:List (List Sym)):ap σ ls.flatten=(ls.map (ap σ)).flatten:=by
 induction ls with
 | nil=>rfl
 | cons l ls ih=>simp [Zfs,ih]
theorem Zpj (σ:Nat→List Sym) (n:Nat):ap σ (vr n)=σ n:=by simp [ap,vr,ap1]
theorem Zwy (θ σ:Nat→List Sym) (l:List Sym):ap θ (ap σ l)=ap (fun n=>ap θ (σ n)) l:=by
 induction l with
 | nil=>rfl
 | cons s l ih =>
  rw [Zca,Zfs,ih,Zca]
  congr 1
  unfold ap1
  split
  ·rfl
  ·rename_i h; simp [ap,ap1,h]
def Occ (v:Nat) (l:List Sym):Prop:=∃ s ∈ l,s.name=[]∧s.num=v
theorem Zpk {σ τ:Nat→List Sym} {l:List Sym} (h:∀ n,Occ n l→σ n=τ n):ap σ l=ap τ l:=by
 induction l with
 | nil=>rfl
 | cons s l ih =>
  rw [Zca,Zca,ih (fun n hn=>h n (by obtain ⟨t,h1,h2⟩:=hn; exact ⟨t,List.mem_cons_of_mem _ h1,h2⟩))]
  congr 1
  unfold ap1
  split
  ·rename_i hs; exact h _ ⟨s,List.mem_cons_self ..,hs,rfl⟩
  ·rfl
theorem Zcn {v:Nat} {l m:List Sym}:Occ v (l++m)↔Occ v l∨Occ v m:=by
 constructor
 ·rintro ⟨s,h,h1,h2⟩
  rcases Qk.1 h with h | h
  ·exact Or.inl ⟨s,h,h1,h2⟩
  ·exact Or.inr ⟨s,h,h1,h2⟩
 ·rintro (⟨s,h,h1,h2⟩ | ⟨s,h,h1,h2⟩)
  ·exact ⟨s,Qk.2 (Or.inl h),h1,h2⟩
  ·exact ⟨s,Qk.2 (Or.inr h),h1,h2⟩
theorem Zgb {v n:Nat}:Occ v (vr n)↔v=n:=by
 constructor
 ·rintro ⟨s,h,h1,h2⟩
  simp [vr] at h; subst h; exact h2.symm
 ·rintro rfl; exact ⟨_,by simp [vr]; rfl,rfl,rfl⟩
theorem Zob {v:Nat} {σ:Nat→List Sym} {l:List Sym}:Occ v (ap σ l)↔∃ n,Occ n l∧Occ v (σ n):=by
 constructor
 ·rintro ⟨s,h,h1,h2⟩
  obtain ⟨t,ht,hs⟩:=List.mem_flatMap.1 h
  unfold ap1 at hs
  split at hs
  ·rename_i hn; exact ⟨t.num,⟨t,ht,hn,rfl⟩,s,hs,h1,h2⟩
  ·simp at hs; subst hs; contradiction
 ·rintro ⟨n,⟨t,ht,h1,h2⟩,s,hs,h3,h4⟩
  refine ⟨s,List.mem_flatMap.2 ⟨t,ht,?_⟩,h3,h4⟩
  unfold ap1; rw [if_pos h1,h2]; exact hs
theorem Zft:∀ {l:List Sym} {j k:Nat} {m:List Sym},Wf j l→Wf k m→Wf (j+k) (l++m):=by
 intro l
 induction l with
 | nil=>intro j k m h1 h2; cases h1; simpa using h2
 | cons s l ih =>
  intro j k m h1 h2
  obtain ⟨h,ha,hb,hr⟩:=h1
  refine ⟨by omega,ha,hb,?_⟩
  have:=ih hr h2
  have e:j+k - 1+s.args=j - 1+s.args+k:=by omega
  rw [e]; exact this
theorem Zlp:∀ {l:List Sym} {j k:Nat},Wf (j+k) l→∃ a b,l=a++b∧Wf j a∧Wf k b:=by
 intro l
 induction l with
 | nil =>
  intro j k h
  have h:j+k=0:=h
  exact ⟨[],[],rfl,by show j=0; omega,by show k=0; omega⟩
 | cons s l ih =>
  intro j k h
  rcases Nat.eq_zero_or_pos j with rfl | hj
  ·exact ⟨[],s::l,rfl,rfl,by simpa using h⟩
  ·obtain ⟨h1,ha,hb,hr⟩:=h
   have e:j+k - 1+s.args=j - 1+s.args+k:=by omega
   rw [e] at hr
   obtain ⟨a,b,rfl,h2,h3⟩:=ih hr
   exact ⟨s::a,b,rfl,⟨hj,ha,hb,h2⟩,h3⟩
theorem Zrh:∀ {a:List Sym} {k:Nat} {b x y:List Sym},Wf k a→Wf k b→a++x=b++y→a=b∧x=y:=by
 intro a
 induction a with
 | nil =>
  intro k b x y h1 h2 h
  cases h1
  cases b with
  | nil=>exact ⟨rfl,h⟩
  | cons s b=>exact absurd h2.1 (by omega)
 | cons s a ih =>
  intro k b x y h1 h2 h
  cases b with
  | nil =>
   have h2:k=0:=h2
   exact absurd h1.1 (by omega)
  | cons t b =>
   simp only [List.cons_append,List.cons.injEq] at h
   obtain ⟨rfl,h⟩:=h
   obtain ⟨rfl,h3⟩:=ih h1.2.2.2 h2.2.2.2 h
   exact ⟨rfl,h3⟩
theorem Zcp:∀ {l:List Sym} {k:Nat},Wf k l→k≤l.length:=by
 intro l
 induction l with
 | nil=>intro k h; have h:k=0:=h; omega
 | cons s l ih=>intro k h; have:=ih h.2.2.2; simp; omega
theorem Ztf (n:Nat):Wf 1 (vr n):=⟨by omega,fun _=>rfl,fun h=>absurd rfl h,rfl⟩
theorem Zri {l:List Sym} (h:Wf 1 l):∃ s r,l=s::r∧Wf s.args r∧(s.name=[]→l=vr s.num):=by
 cases l with
 | nil=>exact absurd (show 1=0 from h) (by omega)
 | cons s r =>
  have hr:=h.2.2.2
  simp only [Nat.sub_self,Nat.zero_add] at hr
  refine ⟨s,r,rfl,hr,fun hn => ?_⟩
  have h0:=h.2.1 hn
  rw [h0] at hr
  cases r with
  | nil=>cases s; simp at hn h0; subst hn h0; rfl
  | cons t r=>exact absurd hr.1 (by omega)
theorem Zdd {ls:List (List Sym)} (h:∀ l ∈ ls,Wf 1 l):Wf ls.length ls.flatten:=by
 induction ls with
 | nil=>rfl
 | cons l ls ih =>
  have:=Zft (h l (by simp)) (ih (fun l' hl=>h l' (by simp [hl])))
  simpa [Nat.add_comm] using this
theorem Zrj:∀ (k:Nat) {l:List Sym},Wf k l→∃ ls:List (List Sym),ls.length=k∧l=ls.flatten∧∀ l' ∈ ls,Wf 1 l':=by
 intro k
 induction k with
 | zero =>
  intro l h
  cases l with
  | nil=>exact ⟨[],rfl,rfl,by simp⟩
  | cons s l=>exact absurd h.1 (by omega)
 | succ k ih =>
  intro l h
  rw [Nat.add_comm] at h
  obtain ⟨a,b,rfl,h1,h2⟩:=Zlp h
  obtain ⟨ls,h3,rfl,h4⟩:=ih h2
  refine ⟨a::ls,by simp [h3],by simp,?_⟩
  intro l' hl
  rcases Qp.1 hl with rfl | hl
  ·exact h1
  ·exact h4 _ hl
theorem Zir:∀ {ls ms:List (List Sym)},(∀ l ∈ ls,Wf 1 l)→(∀ l ∈ ms,Wf 1 l)→ls.length=ms.length→ls.flatten=ms.flatten→ls=ms:=by
 intro ls
 induction ls with
 | nil=>intro ms _ _ h _; cases ms with
  | nil=>rfl
  | cons m ms=>simp at h
 | cons l ls ih =>
  intro ms h1 h2 hl h
  cases ms with
  | nil=>simp at hl
  | cons m ms =>
   simp only [List.flatten_cons] at h
   obtain ⟨rfl,h'⟩:=Zrh (h1 l (by simp)) (h2 m (by simp)) h
   rw [ih (fun l' hl=>h1 l' (List.mem_cons_of_mem _ hl)) (fun l' hl=>h2 l' (List.mem_cons_of_mem _ hl)) (by simpa using hl) h']
def Ts (σ:Nat→List Sym):Prop:=∀ n,Wf 1 (σ n)
theorem Yii:Ts vr:=Ztf
theorem Znk {σ:Nat→List Sym} (hσ:Ts σ):∀ {l:List Sym} {k:Nat},Wf k l→Wf k (ap σ l):=by
 intro l
 induction l with
 | nil=>intro k h; exact h
 | cons s l ih =>
  intro k h
  obtain ⟨h1,h2,h3,h4⟩:=h
  rw [Zca]
  unfold ap1
  split
  ·rename_i hn
   rw [h2 hn] at h4
   have:=Zft (hσ s.num) (ih h4)
   have e:1+(k - 1+0)=k:=by omega
   rwa [e] at this
  ·exact ⟨h1,h2,h3,ih h4⟩
theorem Zzt {σ θ:Nat→List Sym} (hσ:Ts σ) (hθ:Ts θ):Ts (fun n=>ap θ (σ n)):=fun n=>Znk hθ (hσ n)
theorem Ydf:∀ {l:List Sym} {k:Nat},Wf k l→ap vr l=l:=by
 intro l
 induction l with
 | nil=>intro k h; rfl
 | cons s l ih =>
  intro k h
  rw [Zca,ih h.2.2.2]
  unfold ap1
  split
  ·rename_i hn
   have:=h.2.1 hn
   cases s; simp at hn this; subst hn this; rfl
  ·rfl
theorem Zhh {σ:Nat→List Sym} (hσ:Ts σ) (l:List Sym):l.length≤(ap σ l).length:=by
 induction l with
 | nil=>simp
 | cons s l ih =>
  rw [Zca]
  have:1≤(ap1 σ s).length:=by
   unfold ap1; split
   ·exact Zcp (hσ _)
   ·simp
  simp; omega
theorem Zgp {σ:Nat→List Sym} (hσ:Ts σ) {v:Nat} {l:List Sym} (h:Occ v l):(σ v).length+l.length≤(ap σ l).length+1:=by
 induction l with
 | nil=>obtain ⟨s,h,_⟩:=h; simp at h
 | cons s l ih =>
  rw [Zca]
  simp only [Qg,Qf]
  have hl:=Zhh hσ l
  have:1≤(ap1 σ s).length:=by
   unfold ap1; split
   ·exact Zcp (hσ _)
   ·simp
  obtain ⟨t,ht,h1,h2⟩:=h
  rcases Qp.1 ht with rfl | ht
  ·have:ap1 σ t=σ v:=by unfold ap1; rw [if_pos h1,h2]
   rw [this]; omega
  ·have:=ih ⟨t,ht,h1,h2⟩; omega
def sub1 (v:Nat) (t:List Sym):Nat→List Sym:=fun n=>if n=v then t else vr n
theorem Zzu {v:Nat} {t:List Sym} (h:Wf 1 t):Ts (sub1 v t):=fun n=>by
 unfold sub1; split
 ·exact h
 ·exact Ztf n
theorem Ztg {θ:Nat→List Sym} {v:Nat} {t:List Sym} (h:θ v=ap θ t) (n:Nat):ap θ (sub1 v t n)=θ n:=by
 unfold sub1; split
 ·rename_i e; subst e; exact h.symm
 ·exact Zpj θ n
theorem Zoc {θ σ:Nat→List Sym} (h:∀ n,ap θ (σ n)=θ n) (l:List Sym):ap θ (ap σ l)=ap θ l:=by
 rw [Zwy]; exact Zpk (fun n _=>h n)
structure Parts (a b x y:List Sym):Prop where
 ex:∃ p ra rb,a=p++x++ra∧b=p++y++rb
 wx:Wf 1 x
 wy:Wf 1 y
 ne:x.head?≠y.head?
theorem Parts.unif {a b x y:List Sym} (h:Parts a b x y) {θ:Nat→List Sym} (hθ:Ts θ) (hu:ap θ a=ap θ b):ap θ x=ap θ y:=by
 obtain ⟨p,ra,rb,rfl,rfl⟩:=h.ex
 simp only [Zfs,Qi] at hu
 exact (Zrh (Znk hθ h.wx) (Znk hθ h.wy) (List.append_cancel_left hu)).1
theorem Parts.occ {a b x y:List Sym} (h:Parts a b x y) {v:Nat}:(Occ v x→Occ v a)∧(Occ v y→Occ v b):=by
 obtain ⟨p,ra,rb,rfl,rfl⟩:=h.ex
 simp only [Zcn]
 exact ⟨fun h=>Or.inl (Or.inr h),fun h=>Or.inl (Or.inr h)⟩
theorem Parts.symm {a b x y:List Sym} (h:Parts a b x y):Parts b a y x:=by
 obtain ⟨p,ra,rb,h1,h2⟩:=h.ex
 exact ⟨⟨p,rb,ra,h2,h1⟩,h.wy,h.wx,h.ne.symm⟩
def NoFit (a b:List Sym):Prop:=∀ θ,Ts θ→ap θ a≠ap θ b
def Vast (a b:List Sym):Prop:=(∃ θ,Ts θ∧ap θ a=ap θ b)∧∀ θ,Ts θ→ap θ a=ap θ b→30<(ap θ a).length
structure Mgu (σ:Nat→List Sym) (a b:List Sym):Prop where
 ts:Ts σ
 unif:ap σ a=ap σ b
 wide:∀ θ,Ts θ→ap θ a=ap θ b→∀ n,ap θ (σ n)=θ n
 occ:∀ n v,Occ v (σ n)→v=n∨Occ v a∨Occ v b
 own:∀ n,¬ Occ n a→¬ Occ n b→σ n=vr n
theorem Zwz {a b x y:List Sym} (h:Parts a b x y) {s t:Sym} {r q:List Sym} (hx:x=s::r) (hy:y=t::q) (hs:s.name≠[]) (ht:t.name≠[]):NoFit a b:=by
 intro θ hθ hu
 have:=h.unif hθ hu
 rw [hx,hy,Zca,Zca] at this
 simp only [ap1,if_neg hs,if_neg ht,List.cons_append,List.nil_append,List.cons.injEq] at this
 have hne:=h.ne
 rw [hx,hy] at hne
 simp at hne
 exact hne this.1
theorem Zmc {a b x y:List Sym} (h:Parts a b x y) {v:Nat} (hx:x=vr v) (ho:Occ v y):NoFit a b:=by
 intro θ hθ hu
 have:=h.unif hθ hu
 rw [hx,Zpj] at this
 obtain ⟨t,q,rfl,hq,hv⟩:=Zri h.wy
 by_cases hn:t.name=[]
 ·have:=hv hn
  rw [this,Zgb] at ho
  have hne:=h.ne
  rw [hx,this,ho] at hne
  exact hne rfl
 ·have hl:=Zgp hθ ho
  rw [← this] at hl
  have hq0:q≠[]:=by
   rintro rfl
   obtain ⟨s,h1,h2,_⟩:=ho
   simp at h1; subst h1; exact hn h2
  have:0<q.length:=List.length_pos_iff.2 hq0
  simp only [Qf] at hl
  omega
theorem Zvg {a b x y:List Sym} (h:Parts a b x y) {v:Nat} (hx:x=vr v) {θ:Nat→List Sym} (hθ:Ts θ) (hu:ap θ a=ap θ b):∀ n,ap θ (sub1 v y n)=θ n:=by
 have:=h.unif hθ hu
 rw [hx,Zpj] at this
 exact Ztg this
structure Carr (a0 b0:List Sym) (σ:Nat→List Sym) (a b:List Sym):Prop where
 ts:Ts σ
 ha:a=ap σ a0
 hb:b=ap σ b0
 wide:∀ θ,Ts θ→ap θ a0=ap θ b0→∀ n,ap θ (σ n)=θ n
 occ:∀ n v,Occ v (σ n)→v=n∨Occ v a0∨Occ v b0
 own:∀ n,¬ Occ n a0→¬ Occ n b0→σ n=vr n
theorem Carr.start {a b:List Sym} {j k:Nat} (ha:Wf j a) (hb:Wf k b):Carr a b vr a b :=
 ⟨Yii,(Ydf ha).symm,(Ydf hb).symm,fun θ _ _ n=>Zpj θ n,fun n v h=>Or.inl (Zgb.1 h),fun _ _ _=>rfl⟩
theorem Carr.unif {a0 b0:List Sym} {σ:Nat→List Sym} {a b:List Sym} (h:Carr a0 b0 σ a b) {θ:Nat→List Sym} (hθ:Ts θ) (hu:ap θ a0=ap θ b0):ap θ a=ap θ a0∧ap θ b=ap θ b0∧ap θ a=ap θ b:=by
 have e1:ap θ a=ap θ a0:=by rw [h.ha,Zoc (h.wide θ hθ hu)]
 have e2:ap θ b=ap θ b0:=by rw [h.hb,Zoc (h.wide θ hθ hu)]
 exact ⟨e1,e2,by rw [e1,e2,hu]⟩
theorem Carr.occs {a0 b0:List Sym} {σ:Nat→List Sym} {a b:List Sym} (h:Carr a0 b0 σ a b) {v:Nat} (hv:Occ v a∨Occ v b):Occ v a0∨Occ v b0:=by
 rw [h.ha,h.hb,Zob,Zob] at hv
 rcases hv with ⟨n,h1,h2⟩ | ⟨n,h1,h2⟩
 ·rcases h.occ n v h2 with rfl | h3
  ·exact Or.inl h1
  ·exact h3
 ·rcases h.occ n v h2 with rfl | h3
  ·exact Or.inr h1
  ·exact h3
theorem Carr.step {a0 b0:List Sym} {σ:Nat→List Sym} {a b:List Sym} (h:Carr a0 b0 σ a b) {x y:List Sym} {v:Nat} (hp:Parts a b x y∨Parts b a x y) (hx:x=vr v) :
  Carr a0 b0 (fun n=>ap (sub1 v y) (σ n)) (ap (sub1 v y) a) (ap (sub1 v y) b):=by
 have wy:Wf 1 y:=by rcases hp with hp | hp <;> exact hp.wy
 have ov:Occ v a∨Occ v b:=by
  rcases hp with hp | hp
  ·exact Or.inl (hp.occ.1 (by rw [hx]; exact Zgb.2 rfl))
  ·exact Or.inr (hp.occ.1 (by rw [hx]; exact Zgb.2 rfl))
 have oy:∀ m,Occ m y→Occ m a∨Occ m b:=fun m hm=>by
  rcases hp with hp | hp
  ·exact Or.inr (hp.occ.2 hm)
  ·exact Or.inl (hp.occ.2 hm)
 refine ⟨Zzt h.ts (Zzu wy),?_,?_,?_,?_,?_⟩
 ·rw [h.ha,Zwy]
 ·rw [h.hb,Zwy]
 ·intro θ hθ hu n
  have hu':=(h.unif hθ hu).2.2
  rw [Zoc,h.wide θ hθ hu]
  rcases hp with hp | hp
  ·exact Zvg hp hx hθ hu'
  ·exact Zvg hp hx hθ hu'.symm
 ·intro n m hm
  rw [Zob] at hm
  obtain ⟨k,h1,h2⟩:=hm
  unfold sub1 at h2
  split at h2
  ·exact Or.inr (h.occs (oy m h2))
  ·rw [Zgb] at h2
   subst h2
   exact h.occ n m h1
 ·intro n hn1 hn2
  rw [h.own n hn1 hn2,Zpj]
  unfold sub1
  split
  ·rename_i e
   subst e
   rcases h.occs ov with h | h
   ·exact absurd h hn1
   ·exact absurd h hn2
  ·rfl
theorem Carr.done {a0 b0:List Sym} {σ:Nat→List Sym} {a b:List Sym} (h:Carr a0 b0 σ a b) (e:a=b):Mgu σ a0 b0 :=
 ⟨h.ts,by rw [← h.ha,← h.hb,e],h.wide,h.occ,h.own⟩
theorem Carr.none {a0 b0:List Sym} {σ:Nat→List Sym} {a b:List Sym} (h:Carr a0 b0 σ a b) (e:NoFit a b∨NoFit b a):NoFit a0 b0:=by
 intro θ hθ hu
 rcases e with e | e
 ·exact e θ hθ (h.unif hθ hu).2.2
 ·exact e θ hθ (h.unif hθ hu).2.2.symm
theorem Carr.vast {a0 b0:List Sym} {σ:Nat→List Sym} {a b:List Sym} (h:Carr a0 b0 σ a b) (hs:30<a.length∨30<b.length) (hu:∃ θ,Ts θ∧ap θ a0=ap θ b0):Vast a0 b0:=by
 refine ⟨hu,fun θ hθ hu => ?_⟩
 obtain ⟨h1,h2,h3⟩:=h.unif hθ hu
 rw [← h1]
 rcases hs with hs | hs
 ·have:=Zhh hθ a; omega
 ·have:=Zhh hθ b; rw [h3]; omega
theorem Mgu.small {σ:Nat→List Sym} {a b:List Sym} (h:Mgu σ a b) (hs:30<(ap σ a).length):Vast a b:=by
 refine ⟨⟨σ,h.ts,h.unif⟩,fun θ hθ hu => ?_⟩
 have:=Zhh hθ (ap σ a)
 rw [Zoc (h.wide θ hθ hu)] at this
 omega
structure Gr where
 n:Nat
 hd:Nat→Sym
 kids:Nat→List Nat
structure Gr.Ok (G:Gr):Prop where
 kl:∀ i,i<G.n→∀ k ∈ G.kids i,k<G.n
 ar:∀ i,i<G.n→(G.hd i).args=(G.kids i).length
 vn:∀ i,i<G.n→(G.hd i).name=[]→G.kids i=[]
 nv:∀ i,i<G.n→(G.hd i).name≠[]→(G.hd i).num=0
structure Rt (n:Nat) (ρ:Nat→Nat):Prop where
 lt:∀ i,i<n→ρ i<n
 idem:∀ i,i<n→ρ (ρ i)=ρ i
def mg (ρ:Nat→Nat) (x y:Nat):Nat→Nat:=fun i=>if ρ i=x then y else ρ i
theorem Rt.mg {n:Nat} {ρ:Nat→Nat} (h:Rt n ρ) {x y:Nat} (hx:x<n) (hy:y<n) (ry:ρ y=y) (hne:x≠y):Rt n (mg ρ x y):=by
 refine ⟨fun i hi => ?_,fun i hi => ?_⟩
 ·unfold YtlmjilpjmgjjcaaGreatDoor.mg; split
  ·exact hy
  ·exact h.lt i hi
 ·unfold YtlmjilpjmgjjcaaGreatDoor.mg
  by_cases h1:ρ i=x
  ·rw [if_pos h1,if_neg (by rw [ry]; exact fun e=>hne e.symm),ry]
  ·rw [if_neg h1,h.idem i hi,if_neg h1]
structure Vals (G:Gr) (val:Nat→List Sym):Prop where
 wf:∀ i,i<G.n→Wf 1 (val i)
 nm:∀ i,i<G.n→(G.hd i).name≠[]→val i=G.hd i::((G.kids i).map val).flatten
def Con (n:Nat) (ρ:Nat→Nat) (val:Nat→List Sym):Prop:=∀ i,i<n→val (ρ i)=val i
def Cg (G:Gr) (ρ:Nat→Nat) (i:Nat):Prop:=(G.hd i).name≠[]→(G.hd (ρ i)).name=(G.hd i).name∧(G.kids (ρ i)).map ρ=(G.kids i).map ρ
def Grow (n:Nat) (ρ ρ':Nat→Nat):Prop:=∀ i j,i<n→j<n→ρ i=ρ j→ρ' i=ρ' j
theorem Grow.refl (n:Nat) (ρ:Nat→Nat):Grow n ρ ρ:=fun _ _ _ _ h=>h
theorem Grow.trans {n:Nat} {ρ ρ' ρ'':Nat→Nat} (h:Grow n ρ ρ') (k:Grow n ρ' ρ''):Grow n ρ ρ'':=fun i j hi hj e=>k i j hi hj (h i j hi hj e)
theorem Grow.mg {n:Nat} (ρ:Nat→Nat) (x y:Nat):Grow n ρ (mg ρ x y):=fun i j _ _ e=>by unfold YtlmjilpjmgjjcaaGreatDoor.mg; rw [e]
theorem Grow.map {n:Nat} {ρ ρ':Nat→Nat} (h:Grow n ρ ρ'):∀ {l m:List Nat},(∀ k ∈ l,k<n)→(∀ k ∈ m,k<n)→l.map ρ=m.map ρ→l.map ρ'=m.map ρ':=by
 intro l
 induction l with
 | nil=>intro m _ _ e; cases m with
  | nil=>rfl
  | cons _ _=>simp at e
 | cons a l ih =>
  intro m hl hm e
  cases m with
  | nil=>simp at e
  | cons b m =>
   simp only [List.map_cons,List.cons.injEq] at e ⊢
   exact ⟨h a b (hl a (by simp)) (hm b (by simp)) e.1,ih (fun k hk=>hl k (by simp [hk])) (fun k hk=>hm k (by simp [hk])) e.2⟩
structure Joined (G:Gr) (ρ ρ':Nat→Nat) (ats bs:List Nat):Prop where
 rt:Rt G.n ρ'
 grow:Grow G.n ρ ρ'
 eq:ats.map ρ'=bs.map ρ'
 cg:∀ i,i<G.n→Cg G ρ i→Cg G ρ' i
 con:∀ val,Vals G val→Con G.n ρ val→ats.map val=bs.map val→Con G.n ρ' val
def Clash (G:Gr) (ρ:Nat→Nat) (ats bs:List Nat):Prop:=∀ val,Vals G val→Con G.n ρ val→ats.map val≠bs.map val
theorem Joined.nil {G:Gr} {ρ:Nat→Nat} (h:Rt G.n ρ):Joined G ρ ρ [] []:=⟨h,Grow.refl _ _,rfl,fun _ _ h=>h,fun _ _ h _=>h⟩
theorem Joined.same {G:Gr} {ρ:Nat→Nat} (h:Rt G.n ρ) {a b:Nat} (e:ρ a=ρ b):Joined G ρ ρ [a] [b]:=⟨h,Grow.refl _ _,by simp [e],fun _ _ h=>h,fun _ _ h _=>h⟩
theorem Joined.snoc {G:Gr} (hG:G.Ok) {ρ ρ' ρ'':Nat→Nat} {ats bs:List Nat} {a b:Nat} (h:Joined G ρ ρ' ats bs) (k:Joined G ρ' ρ'' [a] [b]) (ha:∀ k ∈ ats,k<G.n) (hb:∀ k ∈ bs,k<G.n) :
  Joined G ρ ρ'' (ats++[a]) (bs++[b]):=by
 refine ⟨k.rt,h.grow.trans k.grow,?_,fun i hi hc=>k.cg i hi (h.cg i hi hc),fun val hv hc e => ?_⟩
 ·rw [Qr,Qr,k.grow.map ha hb h.eq,k.eq]
 ·rw [Qr,Qr] at e
  have hl:ats.length=bs.length:=by simpa using congrArg List.length h.eq
  have:=List.append_inj e (by simp [hl])
  exact k.con val hv (h.con val hv hc this.1) this.2
theorem Clash.snoc {G:Gr} {ρ ρ':Nat→Nat} {ats bs:List Nat} {a b:Nat} (h:Joined G ρ ρ' ats bs) (k:Clash G ρ' [a] [b]) (ra rb:List Nat):Clash G ρ (ats++a::ra) (bs++b::rb):=by
 intro val hv hc e
 rw [Qr,Qr] at e
 have hl:ats.length=bs.length:=by simpa using congrArg List.length h.eq
 have:=List.append_inj e (by simp [hl])
 refine k val hv (h.con val hv hc this.1) ?_
 have h2:=this.2
 simp only [List.map_cons,List.cons.injEq] at h2
 simp [h2.1]
theorem Zzv {G:Gr} {ρ:Nat→Nat} (h:Rt G.n ρ) {a b x y:Nat} (ha:a<G.n) (hb:b<G.n) (hxy:(x=ρ a∧y=ρ b)∨(x=ρ b∧y=ρ a)) {val:Nat→List Sym} (hv:Vals G val) (hc:Con G.n ρ val) (e:val a=val b):Con G.n (mg ρ x y) val:=by
 have exy:val x=val y:=by
  rcases hxy with ⟨rfl,rfl⟩ | ⟨rfl,rfl⟩
  ·rw [hc a ha,hc b hb,e]
  ·rw [hc a ha,hc b hb,e]
 intro i hi
 unfold mg
 split
 ·rename_i h1
  rw [← exy,← h1,hc i hi]
 ·exact hc i hi
theorem Yij {ρ:Nat→Nat} {a b x y:Nat} (hxy:(x=ρ a∧y=ρ b)∨(x=ρ b∧y=ρ a)):mg ρ x y a=mg ρ x y b:=by
 unfold mg
 rcases hxy with ⟨rfl,rfl⟩ | ⟨rfl,rfl⟩
 ·simp
 ·simp
theorem Joined.var {G:Gr} {ρ:Nat→Nat} (h:Rt G.n ρ) {a b x y:Nat} (ha:a<G.n) (hb:b<G.n) (hxy:(x=ρ a∧y=ρ b)∨(x=ρ b∧y=ρ a)) (hne:x≠y) (hv:(G.hd x).name=[]) :
  Joined G ρ (mg ρ x y) [a] [b]:=by
 have hx:x<G.n:=by rcases hxy with ⟨rfl,rfl⟩ | ⟨rfl,rfl⟩ <;> exact h.lt _ (by assumption)
 have hy:y<G.n:=by rcases hxy with ⟨rfl,rfl⟩ | ⟨rfl,rfl⟩ <;> exact h.lt _ (by assumption)
 have ry:ρ y=y:=by rcases hxy with ⟨rfl,rfl⟩ | ⟨rfl,rfl⟩ <;> exact h.idem _ (by assumption)
 refine ⟨h.mg hx hy ry hne,Grow.mg _ _ _,by simp [Yij hxy],?_,fun val hval hc e=>Zzv h ha hb hxy hval hc (by simpa using e)⟩
 intro i hi hc hn
 obtain ⟨h1,h2⟩:=hc hn
 have hix:ρ i≠x:=by
  intro e
  rw [e,hv] at h1
  exact hn h1.symm
 have e:mg ρ x y i=ρ i:=by unfold mg; rw [if_neg hix]
 rw [e]
 refine ⟨h1,?_⟩
 have hkl:∀ (l m:List Nat),l.map ρ=m.map ρ→l.map (mg ρ x y)=m.map (mg ρ x y):=by
  intro l m e
  have:∀ l:List Nat,l.map (mg ρ x y)=(l.map ρ).map (fun j=>if j=x then y else j):=by
   intro l; simp [mg]
  rw [this,this,e]
 exact hkl _ _ h2
theorem Grow.of_map {ρ:Nat→Nat} {x y:Nat} {l m:List Nat} (e:l.map ρ=m.map ρ):l.map (YtlmjilpjmgjjcaaGreatDoor.mg ρ x y)=m.map (YtlmjilpjmgjjcaaGreatDoor.mg ρ x y):=by
 have:∀ l:List Nat,l.map (YtlmjilpjmgjjcaaGreatDoor.mg ρ x y)=(l.map ρ).map (fun j=>if j=x then y else j):=by
  intro l; simp [YtlmjilpjmgjjcaaGreatDoor.mg]
 rw [this,this,e]
theorem Joined.name {G:Gr} (hG:G.Ok) {ρ ρ':Nat→Nat} (h:Rt G.n ρ) {a b x y:Nat} (ha:a<G.n) (hb:b<G.n) (hxy:(x=ρ a∧y=ρ b)∨(x=ρ b∧y=ρ a)) (hne:x≠y)
  (hx0:(G.hd x).name≠[]) (hn:(G.hd x).name=(G.hd y).name) (k:Joined G (mg ρ x y) ρ' (G.kids x) (G.kids y)):Joined G ρ ρ' [a] [b]:=by
 have hx:x<G.n:=by rcases hxy with ⟨rfl,rfl⟩ | ⟨rfl,rfl⟩ <;> exact h.lt _ (by assumption)
 have hy:y<G.n:=by rcases hxy with ⟨rfl,rfl⟩ | ⟨rfl,rfl⟩ <;> exact h.lt _ (by assumption)
 have rx:ρ x=x:=by rcases hxy with ⟨rfl,rfl⟩ | ⟨rfl,rfl⟩ <;> exact h.idem _ (by assumption)
 have ry:ρ y=y:=by rcases hxy with ⟨rfl,rfl⟩ | ⟨rfl,rfl⟩ <;> exact h.idem _ (by assumption)
 have hr1:=h.mg hx hy ry hne
 have hg:Grow G.n ρ ρ':=(Grow.mg _ _ _).trans k.grow
 have mgy:mg ρ x y y=y:=by unfold mg; rw [ry,if_neg (fun e=>hne e.symm)]
 have mgx:mg ρ x y x=y:=by unfold mg; rw [rx,if_pos rfl]
 have cy:Cg G ρ' y:=k.cg y hy (fun _=>by rw [mgy]; exact ⟨rfl,rfl⟩)
 have exy:ρ' x=ρ' y:=k.grow x y hx hy (by rw [mgx,mgy])
 refine ⟨k.rt,hg,?_,?_,?_⟩
 ·have:=k.grow a b ha hb (Yij hxy)
  simp [this]
 ·intro i hi hc
  by_cases hix:ρ i=x
  ·intro hin
   obtain ⟨h1,h2⟩:=hc hin
   rw [hix] at h1 h2
   have hiy:ρ' i=ρ' y:=k.grow i y hi hy (by rw [mgy]; unfold mg; rw [if_pos hix])
   obtain ⟨h3,h4⟩:=cy (by rw [← hn]; exact hx0)
   rw [hiy]
   refine ⟨by rw [h3,← hn,h1],?_⟩
   rw [h4,← k.eq]
   exact hg.map (hG.kl x hx) (hG.kl i hi) h2
  ·refine k.cg i hi (fun hin => ?_)
   obtain ⟨h1,h2⟩:=hc hin
   have e:mg ρ x y i=ρ i:=by unfold mg; rw [if_neg hix]
   rw [e]
   exact ⟨h1,Grow.of_map h2⟩
 ·intro val hv hc e
  have e':val a=val b:=by simpa using e
  have c1:=Zzv h ha hb hxy hv hc e'
  refine k.con val hv c1 ?_
  have exy:val x=val y:=by
   rcases hxy with ⟨rfl,rfl⟩ | ⟨rfl,rfl⟩
   ·rw [hc a ha,hc b hb,e']
   ·rw [hc a ha,hc b hb,e']
  rw [hv.nm x hx hx0,hv.nm y hy (by rw [← hn]; exact hx0)] at exy
  simp only [List.cons.injEq] at exy
  have hl:(G.kids x).length=(G.kids y).length:=by rw [← hG.ar x hx,← hG.ar y hy,exy.1]
  refine Zir ?_ ?_ (by simp [hl]) exy.2
  ·intro l hl; obtain ⟨j,hj,rfl⟩:=List.mem_map.1 hl; exact hv.wf j (hG.kl x hx j hj)
  ·intro l hl; obtain ⟨j,hj,rfl⟩:=List.mem_map.1 hl; exact hv.wf j (hG.kl y hy j hj)
theorem Ziy {G:Gr} (hG:G.Ok) {ρ:Nat→Nat} (h:Rt G.n ρ) {a b x y:Nat} (ha:a<G.n) (hb:b<G.n) (hxy:(x=ρ a∧y=ρ b)∨(x=ρ b∧y=ρ a))
  (hx0:(G.hd x).name≠[]) (hy0:(G.hd y).name≠[]) (hn:(G.hd x).name≠(G.hd y).name∨(G.hd x).args≠(G.hd y).args):Clash G ρ [a] [b]:=by
 intro val hv hc e
 have e':val a=val b:=by simpa using e
 have hx:x<G.n:=by rcases hxy with ⟨rfl,rfl⟩ | ⟨rfl,rfl⟩ <;> exact h.lt _ (by assumption)
 have hy:y<G.n:=by rcases hxy with ⟨rfl,rfl⟩ | ⟨rfl,rfl⟩ <;> exact h.lt _ (by assumption)
 have exy:val x=val y:=by
  rcases hxy with ⟨rfl,rfl⟩ | ⟨rfl,rfl⟩
  ·rw [hc a ha,hc b hb,e']
  ·rw [hc a ha,hc b hb,e']
 rw [hv.nm x hx hx0,hv.nm y hy hy0] at exy
 simp only [List.cons.injEq] at exy
 rw [exy.1] at hn
 rcases hn with hn | hn <;> exact hn rfl
theorem Zod {G:Gr} (hG:G.Ok) {ρ:Nat→Nat} (h:Rt G.n ρ) {a b x y:Nat} (ha:a<G.n) (hb:b<G.n) (hxy:(x=ρ a∧y=ρ b)∨(x=ρ b∧y=ρ a))
  (hx0:(G.hd x).name≠[]) (hn:(G.hd x).name=(G.hd y).name) (k:Clash G (mg ρ x y) (G.kids x) (G.kids y)):Clash G ρ [a] [b]:=by
 intro val hv hc e
 have hx:x<G.n:=by rcases hxy with ⟨rfl,rfl⟩ | ⟨rfl,rfl⟩ <;> exact h.lt _ (by assumption)
 have hy:y<G.n:=by rcases hxy with ⟨rfl,rfl⟩ | ⟨rfl,rfl⟩ <;> exact h.lt _ (by assumption)
 have e':val a=val b:=by simpa using e
 have c1:=Zzv h ha hb hxy hv hc e'
 refine k val hv c1 ?_
 have exy:val x=val y:=by
  rcases hxy with ⟨rfl,rfl⟩ | ⟨rfl,rfl⟩
  ·rw [hc a ha,hc b hb,e']
  ·rw [hc a ha,hc b hb,e']
 rw [hv.nm x hx hx0,hv.nm y hy (by rw [← hn]; exact hx0)] at exy
 simp only [List.cons.injEq] at exy
 have hl:(G.kids x).length=(G.kids y).length:=by rw [← hG.ar x hx,← hG.ar y hy,exy.1]
 refine Zir ?_ ?_ (by simp [hl]) exy.2
 ·intro l hl; obtain ⟨j,hj,rfl⟩:=List.mem_map.1 hl; exact hv.wf j (hG.kl x hx j hj)
 ·intro l hl; obtain ⟨j,hj,rfl⟩:=List.mem_map.1 hl; exact hv.wf j (hG.kl y hy j hj)
structure Known (G:Gr) (ρ:Nat→Nat) (D:Nat→Prop) (T:Nat→List Sym):Prop where
 lt:∀ r,D r→r<G.n∧ρ r=r
 tm:∀ r,D r→T r=G.hd r::((G.kids r).map (fun k=>T (ρ k))).flatten
 kid:∀ r,D r→∀ k ∈ G.kids r,D (ρ k)
theorem Known.none (G:Gr) (ρ:Nat→Nat) (T:Nat→List Sym):Known G ρ (fun _=>False) T:=⟨fun _ h=>h.elim,fun _ h=>h.elim,fun _ h=>h.elim⟩
theorem Known.more {G:Gr} {ρ:Nat→Nat} {D:Nat→Prop} {T:Nat→List Sym} (h:Known G ρ D T) {r:Nat} (hr:r<G.n) (rr:ρ r=r) (hd:¬ D r) (hk:∀ k ∈ G.kids r,D (ρ k)) :
  Known G ρ (fun i=>D i∨i=r) (fun i=>if i=r then G.hd r::((G.kids r).map (fun k=>T (ρ k))).flatten else T i):=by
 have hT:∀ i,D i→(fun i=>if i=r then G.hd r::((G.kids r).map (fun k=>T (ρ k))).flatten else T i) i=T i:=fun i hi=>by
  have:i≠r:=fun e=>hd (e ▸ hi)
  simp [this]
 have hmap:∀ l:List Nat,(∀ k ∈ l,D (ρ k))→l.map (fun k=>(fun i=>if i=r then G.hd r::((G.kids r).map (fun k=>T (ρ k))).flatten else T i) (ρ k))=l.map (fun k=>T (ρ k)):=fun l hl =>
  List.map_congr_left (fun k hk=>hT _ (hl k hk))
 refine ⟨?_,?_,?_⟩
 ·rintro i (hi | rfl)
  ·exact h.lt i hi
  ·exact ⟨hr,rr⟩
 ·rintro i (hi | rfl)
  ·rw [hmap _ (h.kid i hi)]; exact (hT i hi).trans (h.tm i hi)
  ·rw [hmap _ hk]; simp
 ·rintro i (hi | rfl) k hk'
  ·exact Or.inl (h.kid i hi k hk')
  ·exact Or.inl (hk k hk')
theorem Zbk {l:List Sym} {ls:List (List Sym)} (h:l ∈ ls):l.length≤ls.flatten.length:=by
 induction ls with
 | nil=>simp at h
 | cons a ls ih =>
  simp only [List.flatten_cons,Qg]
  rcases Qp.1 h with rfl | h
  ·omega
  ·have:=ih h; omega
theorem Known.wf {G:Gr} (hG:G.Ok) {ρ:Nat→Nat} {D:Nat→Prop} {T:Nat→List Sym} (h:Known G ρ D T):∀ (m r:Nat),(T r).length≤m→D r→Wf 1 (T r):=by
 intro m
 induction m with
 | zero=>intro r hm hd; rw [h.tm r hd] at hm; simp at hm
 | succ m ih =>
  intro r hm hd
  have hr:=(h.lt r hd).1
  have e:=h.tm r hd
  rw [e] at hm ⊢
  refine ⟨by omega,fun hn=>by rw [hG.ar r hr,hG.vn r hr hn]; rfl,hG.nv r hr,?_⟩
  simp only [Nat.sub_self,Nat.zero_add]
  rw [hG.ar r hr]
  have:=Zdd (ls:=(G.kids r).map (fun k=>T (ρ k))) (fun l hl=>by
   obtain ⟨k,hk,rfl⟩:=List.mem_map.1 hl
   refine ih (ρ k) ?_ (h.kid r hd k hk)
   have:=Zbk hl
   simp only [Qf] at hm
   omega)
  simpa using this
theorem Known.val {G:Gr} (hG:G.Ok) {ρ:Nat→Nat} {D:Nat→Prop} {T:Nat→List Sym} (h:Known G ρ D T) {val:Nat→List Sym} (hv:Vals G val) (hc:Con G.n ρ val) {θ:Nat→List Sym} (hθ:∀ i,i<G.n→(G.hd i).name=[]→val i=θ (G.hd i).num) :
  ∀ (m r:Nat),(T r).length≤m→D r→ap θ (T r)=val r:=by
 intro m
 induction m with
 | zero=>intro r hm hd; rw [h.tm r hd] at hm; simp at hm
 | succ m ih =>
  intro r hm hd
  have hr:=(h.lt r hd).1
  have e:=h.tm r hd
  rw [e] at hm ⊢
  rw [Zca]
  by_cases hn:(G.hd r).name=[]
  ·rw [hG.vn r hr hn]
   simp only [List.map_nil,List.flatten_nil,Zvf,Qs,ap1,if_pos hn]
   exact (hθ r hr hn).symm
  ·rw [hv.nm r hr hn]
   simp only [ap1,if_neg hn,List.cons_append,List.nil_append,List.cons.injEq,true_and]
   rw [Zfk,List.map_map]
   congr 1
   refine List.map_congr_left (fun k hk => ?_)
   have hm2:T (ρ k) ∈ (G.kids r).map (fun k=>T (ρ k)):=List.mem_map.2 ⟨k,hk,rfl⟩
   have:=Zbk hm2
   simp only [Qf] at hm
   have:=ih (ρ k) (by omega) (h.kid r hd k hk)
   simp only [Function.comp]
   rw [this,hc k (hG.kl r hr k hk)]
structure Lay (G:Gr) (tm:Nat→List Sym) (a b:List Sym):Prop where
 ok:G.Ok
 tm:∀ i,i<G.n→tm i=G.hd i::((G.kids i).map tm).flatten
 occ:∀ i,i<G.n→(G.hd i).name=[]→Occ (G.hd i).num a∨Occ (G.hd i).num b
theorem Lay.val {G:Gr} {tm:Nat→List Sym} {a b:List Sym} (h:Lay G tm a b) {θ:Nat→List Sym} (hθ:Ts θ) (hw:∀ i,i<G.n→Wf 1 (tm i)):Vals G (fun i=>ap θ (tm i)):=by
 refine ⟨fun i hi=>Znk hθ (hw i hi),fun i hi hn => ?_⟩
 show ap θ (tm i)=_
 rw [h.tm i hi,Zca]
 simp only [ap1,if_neg hn,List.cons_append,List.nil_append,List.cons.injEq,true_and]
 rw [Zfk,List.map_map]
 rfl
theorem Lay.wf {G:Gr} {tm:Nat→List Sym} {a b:List Sym} (h:Lay G tm a b):∀ (m i:Nat),(tm i).length≤m→i<G.n→Wf 1 (tm i):=by
 intro m
 induction m with
 | zero=>intro i hm hi; rw [h.tm i hi] at hm; simp at hm
 | succ m ih =>
  intro i hm hi
  rw [h.tm i hi] at hm ⊢
  refine ⟨by omega,fun hn=>by rw [h.ok.ar i hi,h.ok.vn i hi hn]; rfl,h.ok.nv i hi,?_⟩
  simp only [Nat.sub_self,Nat.zero_add]
  rw [h.ok.ar i hi]
  have:=Zdd (ls:=(G.kids i).map tm) (fun l hl=>by
   have hll:=Zbk hl
   obtain ⟨k,hk,rfl⟩:=List.mem_map.1 hl
   refine ih k ?_ (h.ok.kl i hi k hk)
   simp only [Qf] at hm
   omega)
  simpa using this
open Classical in
noncomputable def Zep (G:Gr) (ρ:Nat→Nat) (D:Nat→Prop) (T:Nat→List Sym):Nat→List Sym:=fun v =>
 if h:∃ i,i<G.n∧(G.hd i).name=[]∧(G.hd i).num=v∧D (ρ i) then T (ρ h.choose) else vr v
def Vars (G:Gr) (ρ:Nat→Nat):Prop:=∀ i j,i<G.n→j<G.n→(G.hd i).name=[]→(G.hd j).name=[]→(G.hd i).num=(G.hd j).num→ρ i=ρ j
theorem Zpl {G:Gr} {ρ:Nat→Nat} {D:Nat→Prop} {T:Nat→List Sym} (hvs:Vars G ρ) {i:Nat} (hi:i<G.n) (hn:(G.hd i).name=[]) (hd:D (ρ i)):Zep G ρ D T (G.hd i).num=T (ρ i):=by
 have hex:∃ j,j<G.n∧(G.hd j).name=[]∧(G.hd j).num=(G.hd i).num∧D (ρ j):=⟨i,hi,hn,rfl,hd⟩
 unfold Zep
 rw [dif_pos hex]
 have hs:=hex.choose_spec
 rw [hvs _ i hs.1 hi hs.2.1 hn hs.2.2.1]
theorem Zmd {G:Gr} {ρ:Nat→Nat} {D:Nat→Prop} {T tm:Nat→List Sym} {a b:List Sym} (h:Lay G tm a b) (hf:Known G ρ D T) (hrt:Rt G.n ρ) (hcg:∀ i,i<G.n→Cg G ρ i) (hvs:Vars G ρ) :
  ∀ (m i:Nat),(tm i).length≤m→i<G.n→D (ρ i)→ap (Zep G ρ D T) (tm i)=T (ρ i):=by
 intro m
 induction m with
 | zero=>intro i hm hi; rw [h.tm i hi] at hm; simp at hm
 | succ m ih =>
  intro i hm hi hd
  have e:=h.tm i hi
  rw [e] at hm ⊢
  rw [Zca]
  by_cases hn:(G.hd i).name=[]
  ·rw [h.ok.vn i hi hn]
   simp only [List.map_nil,List.flatten_nil,Zvf,Qs,ap1,if_pos hn]
   exact Zpl hvs hi hn hd
  ·obtain ⟨h1,h2⟩:=hcg i hi hn
   rw [hf.tm _ hd]
   have hri:=hrt.lt i hi
   have hlen:(G.kids (ρ i)).length=(G.kids i).length:=by simpa using congrArg List.length h2
   have hhd:G.hd (ρ i)=G.hd i:=by
    have a1:=h.ok.ar _ hri
    have a2:=h.ok.ar i hi
    have n1:=h.ok.nv _ hri (by rw [h1]; exact hn)
    have n2:=h.ok.nv i hi hn
    have e1:(G.hd (ρ i)).args=(G.hd i).args:=by rw [a1,a2,hlen]
    have e2:(G.hd (ρ i)).num=(G.hd i).num:=by rw [n1,n2]
    revert h1 e1 e2
    cases G.hd (ρ i); cases G.hd i
    simp
    intro h1 h2 h3; exact ⟨h1,h3,h2⟩
   rw [hhd]
   simp only [ap1,if_neg hn,List.cons_append,List.nil_append,List.cons.injEq,true_and]
   rw [Zfk,List.map_map]
   congr 1
   have e3:(G.kids (ρ i)).map (fun k=>T (ρ k))=(G.kids i).map (fun k=>T (ρ k)):=by
    have:∀ l:List Nat,l.map (fun k=>T (ρ k))=(l.map ρ).map T:=fun l=>by simp
    rw [this,this,h2]
   rw [e3]
   refine List.map_congr_left (fun k hk => ?_)
   have hm2:tm k ∈ (G.kids i).map tm:=List.mem_map.2 ⟨k,hk,rfl⟩
   have:=Zbk hm2
   simp only [Qf] at hm
   have hdk:D (ρ k):=by
    have:ρ k ∈ (G.kids (ρ i)).map ρ:=by rw [h2]; exact List.mem_map.2 ⟨k,hk,rfl⟩
    obtain ⟨k',hk',e'⟩:=List.mem_map.1 this
    rw [← e']; exact hf.kid _ hd k' hk'
   exact ih k (by omega) (h.ok.kl i hi k hk) hdk
theorem Zzw {G:Gr} {ρ:Nat→Nat} {D:Nat→Prop} {T tm:Nat→List Sym} {a b:List Sym} (h:Lay G tm a b) (hf:Known G ρ D T) (hrt:Rt G.n ρ) (hcg:∀ i,i<G.n→Cg G ρ i) (hvs:Vars G ρ)
  {x y:Nat} (hx:x<G.n) (hy:y<G.n) (ha:tm x=a) (hb:tm y=b) (hxy:ρ x=ρ y) (hd:D (ρ x)) (hcon:∀ val,Vals G val→Con G.n (fun i=>i) val→(∀ i j,i<G.n→j<G.n→(G.hd i).name=[]→(G.hd j).name=[]→(G.hd i).num=(G.hd j).num→val i=val j)→val x=val y→Con G.n ρ val) :
  Mgu (Zep G ρ D T) a b:=by
 have hw:∀ i,i<G.n→Wf 1 (tm i):=fun i hi=>h.wf _ i (Qe _) hi
 have hval:∀ θ,Ts θ→ap θ a=ap θ b→Con G.n ρ (fun i=>ap θ (tm i))∧Vals G (fun i=>ap θ (tm i))∧∀ i,i<G.n→(G.hd i).name=[]→ap θ (tm i)=θ (G.hd i).num:=by
  intro θ hθ hu
  have hvar:∀ i,i<G.n→(G.hd i).name=[]→ap θ (tm i)=θ (G.hd i).num:=by
   intro i hi hn
   rw [h.tm i hi,h.ok.vn i hi hn,Zca]
   simp [ap1,hn,Zvf]
  refine ⟨hcon _ (h.val hθ hw) (fun _ _=>rfl) ?_ ?_,h.val hθ hw,hvar⟩
  ·intro i j hi hj hni hnj e
   rw [hvar i hi hni,hvar j hj hnj,e]
  ·show ap θ (tm x)=ap θ (tm y)
   rw [ha,hb,hu]
 refine ⟨?_,?_,?_,?_,?_⟩
 ·intro v
  unfold Zep
  split
  ·rename_i hex
   exact hf.wf h.ok _ _ (Qe _) hex.choose_spec.2.2.2
  ·exact Ztf v
 ·have e1:=Zmd h hf hrt hcg hvs _ x (Qe _) hx hd
  have e2:=Zmd h hf hrt hcg hvs _ y (Qe _) hy (by rw [← hxy]; exact hd)
  rw [ha] at e1
  rw [hb] at e2
  rw [e1,e2,hxy]
 ·intro θ hθ hu v
  obtain ⟨h1,h2,h3⟩:=hval θ hθ hu
  unfold Zep
  split
  ·rename_i hex
   have hs:=hex.choose_spec
   rw [hf.val h.ok h2 h1 (fun i hi hn=>h3 i hi hn) _ _ (Qe _) hs.2.2.2]
   have:ap θ (tm (ρ hex.choose))=ap θ (tm hex.choose):=h1 _ hs.1
   rw [this,h3 _ hs.1 hs.2.1,hs.2.2.1]
  ·exact Zpj θ v
 ·intro n v hv
  unfold Zep at hv
  split at hv
  ·rename_i hex
   have hs:=hex.choose_spec
   right
   have hocc:∀ (m r:Nat),(T r).length≤m→D r→Occ v (T r)→Occ v a∨Occ v b:=by
    intro m
    induction m with
    | zero=>intro r hm hd; rw [hf.tm r hd] at hm; simp at hm
    | succ m ih =>
     intro r hm hd ho
     rw [hf.tm r hd] at hm ho
     obtain ⟨s,hs1,hs2,hs3⟩:=ho
     rcases Qp.1 hs1 with rfl | hs1
     ·rw [← hs3]; exact h.occ r (hf.lt r hd).1 hs2
     ·obtain ⟨l,hl,hsl⟩:=List.mem_flatten.1 hs1
      have hll:=Zbk hl
      obtain ⟨k,hk,rfl⟩:=List.mem_map.1 hl
      simp only [Qf] at hm
      exact ih (ρ k) (by omega) (hf.kid r hd k hk) ⟨s,hsl,hs2,hs3⟩
   exact hocc _ _ (Qe _) hs.2.2.2 hv
  ·exact Or.inl (Zgb.1 hv)
 ·intro n h1 h2
  unfold Zep
  rw [dif_neg]
  rintro ⟨i,hi,hn,rfl,_⟩
  rcases h.occ i hi hn with h | h
  ·exact h1 h
  ·exact h2 h
theorem Ygn {G:Gr} (hG:G.Ok) {val:Nat→List Sym} (hv:Vals G val) {x k:Nat} (hx:x<G.n) (hk:k ∈ G.kids x):(val k).length<(val x).length:=by
 have hn:(G.hd x).name≠[]:=fun h=>by rw [hG.vn x hx h] at hk; simp at hk
 rw [hv.nm x hx hn]
 have:=Zbk (List.mem_map.2 ⟨k,hk,rfl⟩:val k ∈ (G.kids x).map val)
 simp only [Qf]
 omega
def Stuck (G:Gr) (ρ:Nat→Nat) (P:Nat→Prop) (i:Nat):Prop:=∀ val,Vals G val→Con G.n ρ val→∃ r,P r∧(val r).length≤(val i).length
theorem Stuck.here {G:Gr} {ρ:Nat→Nat} {P:Nat→Prop} {i:Nat} (hi:i<G.n) (h:P (ρ i)):Stuck G ρ P i:=fun val _ hc=>⟨ρ i,h,by rw [hc i hi]; exact Qe _⟩
theorem Stuck.up {G:Gr} (hG:G.Ok) {ρ:Nat→Nat} {P:Nat→Prop} {i k:Nat} (hi:i<G.n) (hx:ρ i<G.n) (hk:k ∈ G.kids (ρ i)) (h:Stuck G ρ (fun r=>P r∨r=ρ i) k):Stuck G ρ P i:=by
 intro val hv hc
 have hl:=Ygn hG hv hx hk
 obtain ⟨r,hr | rfl,hle⟩:=h val hv hc
 ·exact ⟨r,hr,by rw [← hc i hi]; omega⟩
 ·omega
theorem Zzx {G:Gr} {tm:Nat→List Sym} {a b:List Sym} (h:Lay G tm a b) {x y:Nat} (hx:x<G.n) (hy:y<G.n) (ha:tm x=a) (hb:tm y=b) {θ:Nat→List Sym} (hθ:Ts θ) (hu:ap θ a=ap θ b) :
  Vals G (fun i=>ap θ (tm i))∧ap θ (tm x)=ap θ (tm y)∧∀ i,i<G.n→(G.hd i).name=[]→ap θ (tm i)=θ (G.hd i).num:=by
 have hw:∀ i,i<G.n→Wf 1 (tm i):=fun i hi=>h.wf _ i (Qe _) hi
 refine ⟨h.val hθ hw,by rw [ha,hb,hu],?_⟩
 intro i hi hn
 rw [h.tm i hi,h.ok.vn i hi hn,Zca]
 simp [ap1,hn,Zvf]
structure Firsts (G:Gr) (ρ:Nat→Nat):Prop where
 rt:Rt G.n ρ
 vars:Vars G ρ
 nm:∀ i,i<G.n→(G.hd i).name≠[]→ρ i=i
 vr:∀ i,i<G.n→(G.hd i).name=[]→(G.hd (ρ i)).name=[]∧(G.hd (ρ i)).num=(G.hd i).num
theorem Firsts.cg {G:Gr} {ρ:Nat→Nat} (h:Firsts G ρ) (i:Nat) (hi:i<G.n):Cg G ρ i:=fun hn=>by rw [h.nm i hi hn]; exact ⟨rfl,rfl⟩
theorem Firsts.con {G:Gr} {ρ:Nat→Nat} (h:Firsts G ρ) {val:Nat→List Sym} (hv:∀ i j,i<G.n→j<G.n→(G.hd i).name=[]→(G.hd j).name=[]→(G.hd i).num=(G.hd j).num→val i=val j):Con G.n ρ val:=by
 intro i hi
 by_cases hn:(G.hd i).name=[]
 ·exact hv _ _ (h.rt.lt i hi) hi (h.vr i hi hn).1 hn (h.vr i hi hn).2
 ·rw [h.nm i hi hn]
theorem Firsts.vars' {G:Gr} {ρ ρ':Nat→Nat} (h:Firsts G ρ) (hg:Grow G.n ρ ρ'):Vars G ρ':=fun i j hi hj h1 h2 e=>hg i j hi hj (h.vars i j hi hj h1 h2 e)
theorem Zvh {G:Gr} {tm:Nat→List Sym} {a b:List Sym} (h:Lay G tm a b) {ρ:Nat→Nat} (h0:Firsts G ρ) {x y:Nat} (hx:x<G.n) (hy:y<G.n) (ha:tm x=a) (hb:tm y=b) (hc:Clash G ρ [x] [y]):NoFit a b:=by
 intro θ hθ hu
 obtain ⟨h1,h2,h3⟩:=Zzx h hx hy ha hb hθ hu
 refine hc _ h1 (h0.con (fun i j hi hj hni hnj e => ?_)) (by simp [h2])
 show ap θ (tm i)=ap θ (tm j)
 rw [h3 i hi hni,h3 j hj hnj,e]
theorem Zvi {G:Gr} {tm:Nat→List Sym} {a b:List Sym} (h:Lay G tm a b) {ρ ρ':Nat→Nat} (h0:Firsts G ρ) {x y:Nat} (hx:x<G.n) (hy:y<G.n) (ha:tm x=a) (hb:tm y=b) (hj:Joined G ρ ρ' [x] [y]) {i:Nat} (hs:Stuck G ρ' (fun _=>False) i):NoFit a b:=by
 intro θ hθ hu
 obtain ⟨h1,h2,h3⟩:=Zzx h hx hy ha hb hθ hu
 have hc:Con G.n ρ (fun i=>ap θ (tm i)):=h0.con (fun i j hi hj hni hnj e=>by
  show ap θ (tm i)=ap θ (tm j)
  rw [h3 i hi hni,h3 j hj hnj,e])
 obtain ⟨r,hr,_⟩:=hs _ h1 (hj.con _ h1 hc (by simp [h2]))
 exact hr
theorem Zvj {G:Gr} {tm:Nat→List Sym} {a b:List Sym} (h:Lay G tm a b) {ρ ρ':Nat→Nat} (h0:Firsts G ρ) {x y:Nat} (hx:x<G.n) (hy:y<G.n) (ha:tm x=a) (hb:tm y=b) (hj:Joined G ρ ρ' [x] [y])
  {D:Nat→Prop} {T:Nat→List Sym} (hf:Known G ρ' D T) (hd:D (ρ' x)):Mgu (Zep G ρ' D T) a b∧ap (Zep G ρ' D T) a=T (ρ' x):=by
 have hcg:∀ i,i<G.n→Cg G ρ' i:=fun i hi=>hj.cg i hi (h0.cg i hi)
 refine ⟨Zzw h hf hj.rt hcg (h0.vars' hj.grow) hx hy ha hb (by simpa using hj.eq) hd ?_,?_⟩
 ·intro val hv _ hvv e
  exact hj.con val hv (h0.con hvv) (by simp [e])
 ·rw [← ha]
  exact Zmd h hf hj.rt hcg (h0.vars' hj.grow) _ x (Qe _) hx hd
def Inst (xs ys:List (List Sym)):Prop:=∃ τ,Ts τ∧ys=xs.map (ap τ)
def Alike (xs ys:List (List Sym)):Prop:=Inst xs ys∧Inst ys xs
theorem Alike.symm {xs ys:List (List Sym)} (h:Alike xs ys):Alike ys xs:=⟨h.2,h.1⟩
theorem Alike.refl {xs:List (List Sym)} (h:∀ x ∈ xs,∃ k,Wf k x):Alike xs xs:=by
 have:Inst xs xs:=⟨vr,Yii,by
  have:xs.map (ap vr)=xs.map id:=List.map_congr_left (fun x hx=>by obtain ⟨k,hk⟩:=h x hx; exact Ydf hk)
  simpa using this.symm⟩
 exact ⟨this,this⟩
theorem Alike.len {xs ys:List (List Sym)} (h:Alike xs ys):xs.map List.length=ys.map List.length:=by
 obtain ⟨⟨τ,h1,h2⟩,⟨τ',h3,h4⟩⟩:=h
 have hl:xs.length=ys.length:=by simpa using (congrArg List.length h2).symm
 apply List.ext_getElem (by simp [hl])
 intro i hi hj
 simp only [Ql] at hi hj
 simp only [List.getElem_map]
 have e1:ys[i]=ap τ xs[i]:=by simp only [h2,List.getElem_map]
 have e2:xs[i]=ap τ' ys[i]:=by
  have:=List.getElem_of_eq h4 hi
  simpa using this
 have l1:=Zhh h1 xs[i]
 have l2:=Zhh h3 ys[i]
 rw [← e1] at l1
 rw [← e2] at l2
 omega
def upto (V:Nat) (σ τ:Nat→List Sym):Nat→List Sym:=fun n=>if n<V then ap σ (τ n) else σ n
theorem Zme {V:Nat} {σ τ:Nat→List Sym} (h:Ts σ) (k:Ts τ):Ts (upto V σ τ):=fun n=>by
 unfold upto; split
 ·exact Znk h (k n)
 ·exact h n
theorem Zvk {V:Nat} {σ τ:Nat→List Sym} {l:List Sym} (h:∀ v,Occ v l→v<V):ap (upto V σ τ) l=ap σ (ap τ l):=by
 rw [Zwy]
 exact Zpk (fun n hn=>by unfold upto; rw [if_pos (h n hn)])
theorem Zrk {V:Nat} {σ τ:Nat→List Sym} {l:List Sym} (h:∀ v,Occ v l→V≤v):ap (upto V σ τ) l=ap σ l :=
 Zpk (fun n hn=>by unfold upto; rw [if_neg (by have:=h n hn; omega)])
section
variable {V:Nat} {a b h:List Sym} {xs ys:List (List Sym)}
theorem Zjt (ha:∀ v,Occ v a→v<V) (hh:∀ v,Occ v h→V≤v) {τ θ:Nat→List Sym} (e:b=ap τ a) (hu:ap θ b=ap θ h):ap (upto V θ τ) a=ap (upto V θ τ) h∧ap (upto V θ τ) a=ap θ b:=by
 rw [Zvk ha,Zrk hh,← e]
 exact ⟨hu,rfl⟩
theorem NoFit.alike (hi:Inst (a::xs) (b::ys)) (ha:∀ v,Occ v a→v<V) (hh:∀ v,Occ v h→V≤v) (hn:NoFit a h):NoFit b h:=by
 obtain ⟨τ,h1,h2⟩:=hi
 simp only [List.map_cons,List.cons.injEq] at h2
 intro θ hθ hu
 exact hn _ (Zme hθ h1) (Zjt ha hh h2.1 hu).1
theorem Vast.alike (hi:Alike (a::xs) (b::ys)) (ha:∀ v,Occ v a→v<V) (hb:∀ v,Occ v b→v<V) (hh:∀ v,Occ v h→V≤v) (hn:Vast a h):Vast b h:=by
 obtain ⟨⟨τ,h1,h2⟩,τ',h3,h4⟩:=hi
 simp only [List.map_cons,List.cons.injEq] at h2 h4
 obtain ⟨⟨θ,hθ,hu⟩,hv⟩:=hn
 refine ⟨⟨_,Zme hθ h3,(Zjt hb hh h4.1 hu).1⟩,fun θ' hθ' hu' => ?_⟩
 have:=Zjt ha hh h2.1 hu'
 have:=hv _ (Zme hθ' h1) this.1
 rw [(Zjt ha hh h2.1 hu').2] at this
 exact this
theorem Inst.fit {σ σ':Nat→List Sym} {zs:List (List Sym)} (hi:Inst (a::xs) (b::ys)) (ha:∀ x ∈ a::xs,∀ v,Occ v x→v<V) (hh:∀ v,Occ v h→V≤v) (hz:∀ z ∈ zs,∀ v,Occ v z→V≤v) (m:Mgu σ a h) (m':Mgu σ' b h) :
  Inst ((zs++(a::xs)).map (ap σ)) ((zs++(b::ys)).map (ap σ')):=by
 obtain ⟨τ,h1,h2⟩:=hi
 have h2':=h2
 simp only [List.map_cons,List.cons.injEq] at h2'
 have hu:=Zjt (ha a (by simp)) hh h2'.1 m'.unif
 have hw:=m.wide _ (Zme m'.ts h1) hu.1
 refine ⟨_,Zme (V:=V) m'.ts h1,?_⟩
 rw [h2,Qr,Qr,Qr,List.map_map,List.map_map,List.map_map]
 congr 1
 ·refine List.map_congr_left (fun z hz' => ?_)
  simp only [Function.comp]
  rw [Zoc hw,Zrk (hz z hz')]
 ·refine List.map_congr_left (fun x hx => ?_)
  simp only [Function.comp]
  rw [Zoc hw,Zvk (ha x hx)]
end
def ren (f:Nat→Nat) (s:Sym):Sym:=if s.name=[] then ⟨[],f s.num,0⟩ else s
theorem ones:∀ {τ:Nat→List Sym},Ts τ→∀ {l:List Sym},(ap τ l).length≤l.length→∀ n,Occ n l→(τ n).length=1:=by
 intro τ hτ l
 induction l with
 | nil=>intro _ n h; obtain ⟨s,h,_⟩:=h; simp at h
 | cons s l ih =>
  intro hl n hn
  rw [Zca] at hl
  simp only [Qg,Qf] at hl
  have h1:=Zhh hτ l
  have h2:1≤(ap1 τ s).length:=by
   unfold ap1; split
   ·exact Zcp (hτ _)
   ·simp
  obtain ⟨t,ht,h3,h4⟩:=hn
  rcases Qp.1 ht with rfl | ht
  ·have:ap1 τ t=τ n:=by unfold ap1; rw [if_pos h3,h4]
   rw [this] at hl h2; omega
  ·exact ih (by omega) n ⟨t,ht,h3,h4⟩
theorem Zxa {τ τ':Nat→List Sym} (h1:Ts τ) (h3:Ts τ'):∀ {l:List Sym},ap τ' (ap τ l)=l→∀ v,Occ v l→ap τ' (τ v)=vr v:=by
 intro l
 induction l with
 | nil=>intro _ v h; obtain ⟨s,h,_⟩:=h; simp at h
 | cons s l ih =>
  intro e v hv
  rw [Zca,Zfs] at e
  have l1:1≤(ap1 τ s).length:=by
   unfold ap1; split
   ·exact Zcp (h1 _)
   ·simp
  have l2:=Zhh h3 (ap1 τ s)
  have l3:=Zhh h3 (ap τ l)
  have l4:=Zhh h1 l
  have l5:=congrArg List.length e
  simp only [Qg,Qf] at l5
  have hh:=List.append_inj (s₁:=ap τ' (ap1 τ s)) (s₂:=[s]) (t₁:=ap τ' (ap τ l)) (t₂:=l) (by simpa using e) (by simp; omega)
  obtain ⟨t,ht,h5,h6⟩:=hv
  rcases Qp.1 ht with rfl | ht
  ·have e1:=hh.1
   unfold ap1 at e1
   rw [if_pos h5,h6] at e1
   have hw:=Znk h3 (h1 v)
   rw [e1] at hw ⊢
   obtain ⟨s',r,e2,_,h7⟩:=Zri hw
   simp only [List.cons.injEq] at e2
   obtain ⟨rfl,_⟩:=e2
   rw [h7 h5,h6]
  ·exact ih hh.2 v ⟨t,ht,h5,h6⟩
theorem Alike.ren {xs ys:List (List Sym)} (h:Alike xs ys):∃ f g:Nat→Nat,ys=xs.map (List.map (ren f))∧(∀ x ∈ xs,∀ v,Occ v x→g (f v)=v):=by
 obtain ⟨⟨τ,h1,h2⟩,⟨τ',h3,h4⟩⟩:=h
 have hl:xs.length=ys.length:=by simpa using (congrArg List.length h2).symm
 have back:∀ x ∈ xs,ap τ' (ap τ x)=x:=fun x hx=>by
  rw [h2,List.map_map] at h4
  obtain ⟨i,hi,rfl⟩:=List.getElem_of_mem hx
  have:=List.getElem_of_eq h4 hi
  simpa using this.symm
 have key:∀ x ∈ xs,∀ v,Occ v x→∃ n,τ v=vr n∧τ' n=vr v:=fun x hx v hv=>by
  have hb:=Zxa h1 h3 (back x hx) v hv
  obtain ⟨t,r,e,hr,hn⟩:=Zri (h1 v)
  by_cases ht:t.name=[]
  ·refine ⟨t.num,by rw [e,← hn ht,e],?_⟩
   rw [hn ht,Zpj] at hb
   exact hb
  ·rw [e,Zca] at hb
   simp [ap1,ht,vr] at hb
   rw [hb.1] at ht
   exact absurd rfl ht
 refine ⟨fun v=>((τ v).head?.map Sym.num).getD 0,fun v=>((τ' v).head?.map Sym.num).getD 0,?_,?_⟩
 ·rw [h2]
  refine List.map_congr_left (fun x hx => ?_)
  have hk:=key x hx
  clear back key h2 h4 hl hx
  induction x with
  | nil=>rfl
  | cons s l ih =>
   rw [Zca,ih (fun v hv=>hk v (by obtain ⟨t,ht,h5⟩:=hv; exact ⟨t,List.mem_cons_of_mem _ ht,h5⟩)),List.map_cons]
   unfold ap1 YtlmjilpjmgjjcaaGreatDoor.ren
   by_cases hs:s.name=[]
   ·obtain ⟨n,e1,_⟩:=hk s.num ⟨s,List.mem_cons_self ..,hs,rfl⟩
    simp [hs,e1,vr]
   ·simp [hs]
 ·intro x hx v hv
  obtain ⟨n,e1,e2⟩:=key x hx v hv
  simp [e1,e2,vr]
structure Cls where
 head:List Sym
 body:List (List Sym)
 names:Names
def Cls.n (c:Cls):Nat:=c.names.length
def Zbr (v:Nat):Nat→List Sym:=fun n=>vr (n+v)
theorem Zpm (v:Nat):Ts (Zbr v):=fun n=>Ztf _
def carr (σ:Nat→List Sym) (gs:List (List Sym × Nat)):List (List Sym × Nat):=gs.map (fun g=>(ap σ g.1,g.2))
structure ND where
 goals:List (List Sym × Nat)
 vals:List (List Sym)
 done:List (List Sym × Nat)
 used:List Nat
 vars:Nat
def bigG (g:List Sym × Nat):Bool:=decide (30<g.1.length)
def Ziz (n:ND):Bool:=(decide (40<n.goals.length) || decide (100<n.used.length)) || n.goals.any bigG || n.done.any bigG
def Zcw (n:ND):Nat:=if Ziz n then 3 else if n.goals=[] then 2 else 1
def Zaq (σ:Nat→List Sym) (n:ND) (c:Cls) (k:Nat) (g:List Sym × Nat) (gs:List (List Sym × Nat)):ND :=
 ⟨carr σ (c.body.map (fun t=>(ap (Zbr n.vars) t,g.2+1))++gs),n.vals.map (ap σ),carr σ (n.done++[g]),n.used++[k],n.vars+c.n⟩
def ND.terms (n:ND):List (List Sym):=n.goals.map (·.1)++(n.vals++n.done.map (·.1))
structure NOk (n:ND):Prop where
 wf:∀ t ∈ n.terms,Wf 1 t
 occ:∀ t ∈ n.terms,∀ v,Occ v t→v<n.vars
 gs:∀ g ∈ n.goals,g.1.length≤30∧g.2≤n.used.length
 ds:∀ g ∈ n.done,g.1.length≤30∧g.2≤n.used.length
 vs:∀ t ∈ n.vals,∃ x ∈ n.goals++n.done,∃ a b,x.1=a++t++b
 gl:n.goals.length≤40
 dl:n.done.length=n.used.length
 ul:n.used.length≤100
 vl:n.vals.length≤1000
 vars:n.vars≤1000 * (n.used.length+1)
theorem NOk.vsize {n:ND} (h:NOk n) {t:List Sym} (ht:t ∈ n.vals):t.length≤30:=by
 obtain ⟨x,hx,a,b,e⟩:=h.vs t ht
 have hl:x.1.length≤30:=by
  rcases Qk.1 hx with hx | hx
  ·exact (h.gs x hx).1
  ·exact (h.ds x hx).1
 rw [e] at hl
 simp at hl; omega
structure COk (c:Cls):Prop where
 wfh:Wf 1 c.head
 wfb:∀ t ∈ c.body,Wf 1 t
 och:∀ v,Occ v c.head→v<c.n
 ocb:∀ t ∈ c.body,∀ v,Occ v t→v<c.n
 n:c.n≤1000
 hl:c.head.length≤30
 bl:∀ t ∈ c.body,t.length≤30
 bn:c.body.length≤6
structure Same (n m:ND):Prop where
 used:n.used=m.used
 vars:n.vars=m.vars
 gd:n.goals.map (·.2)=m.goals.map (·.2)
 dd:n.done.map (·.2)=m.done.map (·.2)
 vl:n.vals.length=m.vals.length
 al:Alike n.terms m.terms
theorem Same.gl {n m:ND} (h:Same n m):n.goals.length=m.goals.length:=by simpa using congrArg List.length h.gd
theorem Same.dl {n m:ND} (h:Same n m):n.done.length=m.done.length:=by simpa using congrArg List.length h.dd
theorem Same.symm {n m:ND} (h:Same n m):Same m n:=⟨h.used.symm,h.vars.symm,h.gd.symm,h.dd.symm,h.vl.symm,h.al.symm⟩
theorem Same.refl {n:ND} (h:NOk n):Same n n:=⟨rfl,rfl,rfl,rfl,rfl,Alike.refl (fun x hx=>⟨1,h.wf x hx⟩)⟩
theorem Zrl {α β:Type} {f:α→β} {a b:List α} {c d:List β} (h:c++d=(a++b).map f) (hl:c.length=a.length):c=a.map f∧d=b.map f:=by
 rw [Qr] at h
 exact List.append_inj h (by simp [hl])
theorem Inst.trans {xs ys zs:List (List Sym)} (h:Inst xs ys) (k:Inst ys zs):Inst xs zs:=by
 obtain ⟨τ,h1,rfl⟩:=h
 obtain ⟨υ,k1,rfl⟩:=k
 refine ⟨_,Zzt h1 k1,?_⟩
 rw [List.map_map]
 exact List.map_congr_left (fun x _=>Zwy υ τ x)
theorem Alike.trans {xs ys zs:List (List Sym)} (h:Alike xs ys) (k:Alike ys zs):Alike xs zs:=⟨h.1.trans k.1,k.2.trans h.2⟩
theorem Same.trans {n m o:ND} (h:Same n m) (k:Same m o):Same n o:=⟨h.used.trans k.used,h.vars.trans k.vars,h.gd.trans k.gd,h.dd.trans k.dd,h.vl.trans k.vl,h.al.trans k.al⟩
theorem Zpn (σ:Nat→List Sym) (l:List (List Sym × Nat)):(carr σ l).map (·.1)=(l.map (·.1)).map (ap σ):=by simp [carr]
theorem Zvl (σ:Nat→List Sym) (l:List (List Sym × Nat)):(carr σ l).map (·.2)=l.map (·.2):=by simp [carr]
theorem Zgq {V:Nat} {l:List Sym} {v:Nat} (h:Occ v (ap (Zbr V) l)):∃ u,Occ u l∧v=u+V:=by
 obtain ⟨u,hu,ho⟩:=Zob.1 h
 exact ⟨u,hu,Zgb.1 ho⟩
theorem Zfu (σ:Nat→List Sym) (n:ND) (c:Cls) (k:Nat) (g:List Sym × Nat) (gs:List (List Sym × Nat)) :
  (Zaq σ n c k g gs).terms=(c.body.map (ap (Zbr n.vars))++gs.map (·.1)).map (ap σ)++(n.vals.map (ap σ)++(n.done.map (·.1)++[g.1]).map (ap σ)):=by
 simp [ND.terms,Zaq,Zpn,Function.comp_def]
theorem Zoe {n m:ND} (hn:NOk n) (hm:NOk m) (hs:Same n m) {c:Cls} (hc:COk c) (k:Nat) {g g':List Sym × Nat} {gs gs':List (List Sym × Nat)} (hg:n.goals=g::gs) (hg':m.goals=g'::gs')
  {σ σ':Nat→List Sym} (h1:Mgu σ g.1 (ap (Zbr n.vars) c.head)) (h2:Mgu σ' g'.1 (ap (Zbr m.vars) c.head)) :
  Inst (Zaq σ n c k g gs).terms (Zaq σ' m c k g' gs').terms:=by
 have hv:=hs.vars
 have hvl:=hs.vl
 have hdl:=hs.dl
 have hgl:=hs.gl
 have hal:=hs.al.1
 have hocc:=hn.occ
 unfold ND.terms at hal hocc
 rw [hg,hg',List.map_cons,List.map_cons,List.cons_append,List.cons_append] at hal
 rw [hg,List.map_cons,List.cons_append] at hocc
 rw [← hv] at h2
 have key:=Inst.fit (V:=n.vars) (zs:=c.body.map (ap (Zbr n.vars))) hal (fun x hx=>hocc x hx) (fun v h=>by obtain ⟨u,_,e⟩:=Zgq h; omega)
  (fun z hz v h=>by
   obtain ⟨t,_,rfl⟩:=List.mem_map.1 hz
   obtain ⟨u,_,e⟩:=Zgq h
   omega) h1 h2
 obtain ⟨τ,ht,e⟩:=key
 refine ⟨τ,ht,?_⟩
 rw [Qr] at e
 rw [Qr] at e
 rw [hg,hg'] at hgl
 simp only [Qf,Nat.add_right_cancel_iff] at hgl
 obtain ⟨e1,e⟩:=Zrl e (by simp)
 simp only [List.map_cons,Qr] at e
 simp only [List.cons.injEq] at e
 obtain ⟨e2,e⟩:=e
 have l1:gs'.length=gs.length:=hgl.symm
 obtain ⟨e3,e⟩:=List.append_inj e (by simp [l1])
 obtain ⟨e4,e5⟩:=List.append_inj e (by simp [hvl])
 rw [Zfu,Zfu,← hv]
 simp only [Qr,List.map_cons,List.map_nil]
 rw [e1,e2,e3,e4,e5]
theorem Zxb {n m:ND} (hn:NOk n) (hm:NOk m) (hs:Same n m) {c:Cls} (hc:COk c) (k:Nat) {g g':List Sym × Nat} {gs gs':List (List Sym × Nat)} (hg:n.goals=g::gs) (hg':m.goals=g'::gs')
  {σ σ':Nat→List Sym} (h1:Mgu σ g.1 (ap (Zbr n.vars) c.head)) (h2:Mgu σ' g'.1 (ap (Zbr m.vars) c.head)) :
  Same (Zaq σ n c k g gs) (Zaq σ' m c k g' gs'):=by
 have hgd:=hs.gd
 rw [hg,hg'] at hgd
 simp only [List.map_cons,List.cons.injEq] at hgd
 refine ⟨by simp [Zaq,hs.used],by simp [Zaq,hs.vars],?_,?_,by simp [Zaq,hs.vl],Zoe hn hm hs hc k hg hg' h1 h2,Zoe hm hn hs.symm hc k hg' hg h2 h1⟩
 ·simp only [Zaq,Zvl,Qr,List.map_map,Function.comp_def,hgd.1,hgd.2]
 ·simp only [Zaq,Zvl,Qr,List.map_cons,List.map_nil,hgd.1,hs.dd]
theorem Same.big {n m:ND} (hs:Same n m):n.goals.any bigG=m.goals.any bigG∧n.done.any bigG=m.done.any bigG:=by
 have h:=hs.al.len
 unfold ND.terms at h
 simp only [Qr,List.map_map] at h
 obtain ⟨e1,h⟩:=List.append_inj h (by simp [hs.gl])
 obtain ⟨_,e2⟩:=List.append_inj h (by simp [hs.vl])
 have key:∀ {a b:List (List Sym × Nat)},a.map (List.length ∘ (·.1))=b.map (List.length ∘ (·.1))→a.any bigG=b.any bigG:=by
  intro a
  induction a with
  | nil=>intro b h; cases b with
   | nil=>rfl
   | cons y b=>simp at h
  | cons x a ih =>
   intro b h
   cases b with
   | nil=>simp at h
   | cons y b =>
    simp only [List.map_cons,List.cons.injEq,Function.comp] at h
    simp only [List.any_cons,bigG,h.1]
    congr 1
    exact ih h.2
 exact ⟨key e1,key e2⟩
theorem Same.kind {n m:ND} (hs:Same n m):Zcw n=Zcw m:=by
 have hb:=hs.big
 have hg:(n.goals=[])↔(m.goals=[]):=by
  rw [← List.length_eq_zero_iff,← List.length_eq_zero_iff,hs.gl]
 unfold Zcw Ziz
 rw [hb.1,hb.2,hs.gl,hs.used]
 split
 ·rfl
 ·split
  ·rw [if_pos (hg.1 (by assumption))]
  ·rw [if_neg (fun h=>by rename_i h'; exact h' (hg.2 h))]
theorem Zpo {n:ND} (hn:NOk n) {c:Cls} (hc:COk c) (k:Nat) {g:List Sym × Nat} {gs:List (List Sym × Nat)} (hg:n.goals=g::gs) {σ:Nat→List Sym} (h1:Mgu σ g.1 (ap (Zbr n.vars) c.head)) (hk:Zcw (Zaq σ n c k g gs)≠3) :
  NOk (Zaq σ n c k g gs):=by
 have hov:Ziz (Zaq σ n c k g gs)=false:=by
  unfold Zcw at hk
  cases h:Ziz (Zaq σ n c k g gs) with
  | false=>rfl
  | true=>rw [h] at hk; simp at hk
 unfold Ziz at hov
 simp only [Bool.or_eq_false_iff,decide_eq_false_iff_not,Nat.not_lt] at hov
 obtain ⟨⟨⟨o1,o2⟩,o3⟩,o4⟩:=hov
 have o3':∀ x ∈ (Zaq σ n c k g gs).goals,x.1.length≤30:=fun x hx=>by
  have:=List.any_eq_false.1 o3 x hx
  simpa [bigG] using this
 have o4':∀ x ∈ (Zaq σ n c k g gs).done,x.1.length≤30:=fun x hx=>by
  have:=List.any_eq_false.1 o4 x hx
  simpa [bigG] using this
 have hul:(Zaq σ n c k g gs).used.length=n.used.length+1:=by simp [Zaq]
 have hwf:=hn.wf
 have hocc:=hn.occ
 unfold ND.terms at hwf hocc
 rw [hg] at hwf hocc
 have hsub:∀ t ∈ (Zaq σ n c k g gs).terms,∃ u,t=ap σ u∧((∃ b ∈ c.body,u=ap (Zbr n.vars) b)∨u ∈ List.map (·.1) (g::gs)++(n.vals++List.map (·.1) n.done)):=by
  intro t ht
  rw [Zfu] at ht
  simp only [Qk,List.mem_map] at ht
  rcases ht with ⟨u,hu,rfl⟩ | ⟨u,hu,rfl⟩ | ⟨u,hu,rfl⟩
  ·rcases hu with ⟨b,hb,rfl⟩ | ⟨x,hx,rfl⟩
   ·exact ⟨_,rfl,Or.inl ⟨b,hb,rfl⟩⟩
   ·exact ⟨_,rfl,Or.inr (List.mem_append_left _ (List.mem_map.2 ⟨x,by simp [hx],rfl⟩))⟩
  ·exact ⟨_,rfl,Or.inr (by simp [hu])⟩
  ·rcases hu with ⟨x,hx,rfl⟩ | hu
   ·exact ⟨_,rfl,Or.inr (List.mem_append_right _ (List.mem_append_right _ (List.mem_map.2 ⟨x,hx,rfl⟩)))⟩
   ·simp at hu; subst hu
    exact ⟨_,rfl,Or.inr (by simp)⟩
 have hocv:∀ u,((∃ b ∈ c.body,u=ap (Zbr n.vars) b)∨u ∈ List.map (·.1) (g::gs)++(n.vals++List.map (·.1) n.done))→∀ v,Occ v u→v<n.vars+c.n:=by
  intro u hu v hv
  rcases hu with ⟨b,hb,rfl⟩ | hu
  ·obtain ⟨z,hz,e⟩:=Zgq hv
   have:=hc.ocb b hb z hz
   omega
  ·have:=hocc u hu v hv; omega
 refine ⟨?_,?_,?_,?_,?_,o1,?_,o2,?_,?_⟩
 ·intro t ht
  obtain ⟨u,rfl,hu⟩:=hsub t ht
  refine Znk h1.ts ?_
  rcases hu with ⟨b,hb,rfl⟩ | hu
  ·exact Znk (Zpm _) (hc.wfb b hb)
  ·exact hwf u hu
 ·intro t ht v hv
  obtain ⟨u,rfl,hu⟩:=hsub t ht
  obtain ⟨z,hz,hv⟩:=Zob.1 hv
  show v<n.vars+c.n
  rcases h1.occ z v hv with rfl | h | h
  ·exact hocv u hu v hz
  ·have:=hocc g.1 (by simp) v h; omega
  ·obtain ⟨y,hy,e⟩:=Zgq h
   have:=hc.och y hy
   omega
 ·intro x hx
  refine ⟨o3' x hx,?_⟩
  rw [hul]
  simp only [Zaq,carr,List.mem_map,Qk] at hx
  obtain ⟨y,hy,rfl⟩:=hx
  have hg2:=(hn.gs g (by rw [hg]; simp)).2
  rcases hy with ⟨t,_,rfl⟩ | hy
  ·simp only; omega
  ·have:=(hn.gs y (by rw [hg]; simp [hy])).2
   simp only; omega
 ·intro x hx
  refine ⟨o4' x hx,?_⟩
  rw [hul]
  simp only [Zaq,carr,List.mem_map,Qk,List.mem_singleton] at hx
  obtain ⟨y,hy,rfl⟩:=hx
  rcases hy with hy | rfl
  ·have:=(hn.ds y hy).2
   simp only; omega
  ·have:=(hn.gs y (by rw [hg]; simp)).2
   simp only; omega
 ·intro t ht
  simp only [Zaq,List.mem_map] at ht
  obtain ⟨u,hu,rfl⟩:=ht
  obtain ⟨x,hx,a,b,e⟩:=hn.vs u hu
  refine ⟨(ap σ x.1,x.2),?_,ap σ a,ap σ b,by rw [e]; simp [Zfs]⟩
  rw [hg] at hx
  simp only [Zaq,carr,Qk,List.mem_map,Qp,List.mem_singleton] at hx ⊢
  rcases hx with (rfl | hx) | hx
  ·exact Or.inr ⟨x,Or.inr (Or.inl rfl),rfl⟩
  ·exact Or.inl ⟨x,Or.inr hx,rfl⟩
  ·exact Or.inr ⟨x,Or.inl hx,rfl⟩
 ·simp [Zaq,carr,hn.dl]
 ·simp [Zaq,hn.vl]
 ·have:=hn.vars
  have:=hc.n
  rw [hul]
  show n.vars+c.n≤_
  omega
def Out (n:ND) (c:Cls) (k:Nat) (q:Nat) (ch:ND):Prop:=∃ g gs,n.goals=g::gs∧((q=0∧NoFit g.1 (ap (Zbr n.vars) c.head))∨(q=3∧Vast g.1 (ap (Zbr n.vars) c.head)) ∨
 (∃ σ,Mgu σ g.1 (ap (Zbr n.vars) c.head)∧(ap σ g.1).length≤30∧q=Zcw (Zaq σ n c k g gs)∧ch=Zaq σ n c k g gs))
theorem Mgu.fits {σ:Nat→List Sym} {a b:List Sym} (h:Mgu σ a b):¬ NoFit a b:=fun hn=>hn σ h.ts h.unif
theorem Vast.fits {a b:List Sym} (h:Vast a b):¬ NoFit a b:=fun hn=>by obtain ⟨⟨θ,hθ,e⟩,_⟩:=h; exact hn θ hθ e
theorem Ydg {n m:ND} (hn:NOk n) (hm:NOk m) (hs:Same n m) {c:Cls} (hc:COk c) {k q q':Nat} {ch ch':ND} (h:Out n c k q ch) (h':Out m c k q' ch'):q=q'∧(q=1∨q=2→NOk ch∧NOk ch'∧Same ch ch'):=by
 obtain ⟨g,gs,hg,h⟩:=h
 obtain ⟨g',gs',hg',h'⟩:=h'
 have hal:=hs.al
 have ho1:=hn.occ
 have ho2:=hm.occ
 unfold ND.terms at hal ho1 ho2
 rw [hg,hg',List.map_cons,List.map_cons,List.cons_append,List.cons_append] at hal
 rw [hg,List.map_cons,List.cons_append] at ho1
 rw [hg',List.map_cons,List.cons_append] at ho2
 have hv:=hs.vars
 have hhd:∀ v,Occ v (ap (Zbr n.vars) c.head)→n.vars≤v:=fun v h=>by obtain ⟨u,_,e⟩:=Zgq h; omega
 have oa:∀ v,Occ v g.1→v<n.vars:=fun v h=>ho1 g.1 (by simp) v h
 have ob:∀ v,Occ v g'.1→v<n.vars:=fun v h=>by have:=ho2 g'.1 (by simp) v h; omega
 have n1:NoFit g.1 (ap (Zbr n.vars) c.head)→NoFit g'.1 (ap (Zbr m.vars) c.head):=fun h=>by rw [← hv]; exact NoFit.alike (V:=n.vars) hal.1 oa hhd h
 have n2:NoFit g'.1 (ap (Zbr m.vars) c.head)→NoFit g.1 (ap (Zbr n.vars) c.head):=fun h=>by rw [← hv] at h; exact NoFit.alike (V:=n.vars) hal.2 ob hhd h
 have v1:Vast g.1 (ap (Zbr n.vars) c.head)→Vast g'.1 (ap (Zbr m.vars) c.head):=fun h=>by rw [← hv]; exact Vast.alike (V:=n.vars) hal oa ob hhd h
 have v2:Vast g'.1 (ap (Zbr m.vars) c.head)→Vast g.1 (ap (Zbr n.vars) c.head):=fun h=>by rw [← hv] at h; exact Vast.alike (V:=n.vars) hal.symm ob oa hhd h
 rcases h with ⟨rfl,h⟩ | ⟨rfl,h⟩ | ⟨σ,h1,h2,h3,rfl⟩
 ·rcases h' with ⟨rfl,h'⟩ | ⟨rfl,h'⟩ | ⟨σ',k1,k2,k3,rfl⟩
  ·exact ⟨rfl,fun h=>by omega⟩
  ·exact absurd (n1 h) h'.fits
  ·exact absurd (n1 h) k1.fits
 ·rcases h' with ⟨rfl,h'⟩ | ⟨rfl,h'⟩ | ⟨σ',k1,k2,k3,rfl⟩
  ·exact absurd (n2 h') h.fits
  ·exact ⟨rfl,fun h=>by omega⟩
  ·have:=(v1 h).2 σ' k1.ts k1.unif; omega
 ·rcases h' with ⟨rfl,h'⟩ | ⟨rfl,h'⟩ | ⟨σ',k1,k2,k3,rfl⟩
  ·exact absurd (n2 h') h1.fits
  ·have:=(v2 h').2 σ h1.ts h1.unif; omega
  ·have hsame:=Zxb hn hm hs hc k hg hg' h1 k1
   have hk:=hsame.kind
   exact ⟨by omega,fun hq=>⟨Zpo hn hc k hg h1 (by omega),Zpo hm hc k hg' k1 (by omega),hsame⟩⟩
open Classical in
noncomputable def tryN (m:ND) (c:Cls) (k:Nat):ND × Nat :=
 if h:∃ r:ND × Nat,∃ n,NOk n∧Same n m∧Out n c k r.2 r.1 then Classical.choose h else (⟨[],[],[],[],0⟩,0)
theorem Zkm {n m:ND} (hn:NOk n) (hs:Same n m) {c:Cls} (hc:COk c) {k q:Nat} {ch:ND} (h:Out n c k q ch):q=(tryN m c k).2∧(q=1∨q=2→NOk ch∧Same ch (tryN m c k).1):=by
 have hex:∃ r:ND × Nat,∃ n,NOk n∧Same n m∧Out n c k r.2 r.1:=⟨(ch,q),n,hn,hs,h⟩
 have e:tryN m c k=Classical.choose hex:=by unfold tryN; rw [dif_pos hex]
 obtain ⟨n',hn',hs',ho⟩:=Classical.choose_spec hex
 rw [e]
 have:=Ydg hn hn' (hs.trans hs'.symm) hc h ho
 exact ⟨this.1,fun hq=>⟨(this.2 hq).1,(this.2 hq).2.2⟩⟩
end Go.Proofs.YtlmjilpjmgjjcaaGreatDoor
namespace Go.Proofs.YtlmjilpjmgjjcaaGreatDoor
open Go.RowKit
theorem Zxc {p:List Tok→Names→Option (List Sym × List Tok × Names)} {M:Nat}
  (hp:∀ ts names r,(∀ t ∈ ts,t.text.length≤M)→p ts names=some r→r.1.length+r.2.1.length≤ts.length∧(∀ s ∈ r.1,s.name.length≤M)∧(∀ t ∈ r.2.1,t.text.length≤M)) :
  ∀ (g:Nat) (ts:List Tok) (names:Names) (acc:List (List Sym)) r,(∀ t ∈ ts,t.text.length≤M)→(∀ s ∈ acc.flatten,s.name.length≤M)→Zer p g ts names acc=some r →
   r.1.flatten.length+r.2.1.length≤acc.flatten.length+ts.length∧(∀ s ∈ r.1.flatten,s.name.length≤M)∧(∀ t ∈ r.2.1,t.text.length≤M):=by
 intro g
 induction g with
 | zero=>intro ts names acc r _ _ h; simp [Zer] at h
 | succ g ih =>
  intro ts names acc r hM hA h
  cases ts with
  | nil=>simp [Zer] at h
  | cons t ts =>
   rw [Zer] at h
   split at h
   ·simp at h; subst h
    exact ⟨by simp,hA,fun t ht=>hM t (by simp [ht])⟩
   ·split at h
    ·simp at h
    ·rename_i q hq
     obtain ⟨h1,h2,h3⟩:=hp _ _ _ (fun t ht=>hM t (by simp [ht])) hq
     obtain ⟨h4,h5,h6⟩:=ih _ _ _ _ h3 (fun s hs=>by
      simp only [List.flatten_append,List.flatten_cons,List.flatten_nil,Qs,Qk] at hs
      rcases hs with hs | hs
      ·exact hA s hs
      ·exact h2 s hs) h
     refine ⟨?_,h5,h6⟩
     simp only [List.flatten_append,List.flatten_cons,List.flatten_nil,Qs,Qg,Qf] at h4 ⊢
     omega
theorem Zxd {M:Nat}:∀ (f:Nat) (ts:List Tok) (names:Names) r,(∀ t ∈ ts,t.text.length≤M)→Zda f ts names=some r→r.1.length+r.2.1.length≤ts.length∧(∀ s ∈ r.1,s.name.length≤M)∧(∀ t ∈ r.2.1,t.text.length≤M):=by
 intro f
 induction f with
 | zero=>intro ts names r _ h; simp [Zda] at h
 | succ f ih =>
  intro ts names r hM h
  cases ts with
  | nil=>simp [Zda] at h
  | cons t ts =>
   rw [Zda] at h
   split at h
   ·simp at h; subst h
    exact ⟨by simp; omega,by simp,fun t ht=>hM t (by simp [ht])⟩
   ·cases ts with
    | nil=>simp [Zlk] at h
    | cons u us =>
     rw [Zlk] at h
     split at h
     ·simp at h; subst h
      exact ⟨by simp; omega,by simp; exact hM t (by simp),fun t ht=>hM t (by simp at ht ⊢; exact Or.inr ht)⟩
     ·rw [Option.map_eq_some_iff] at h
      obtain ⟨q,hq,rfl⟩:=h
      obtain ⟨h1,h2,h3⟩:=Zxc ih _ _ _ _ _ (fun t ht=>hM t (List.mem_cons_of_mem _ ht)) (by simp) hq
      refine ⟨by simp at h1 ⊢; omega,?_,h3⟩
      intro s hs
      simp only [Qp] at hs
      rcases hs with rfl | hs
      ·exact hM t (by simp)
      ·exact h2 s hs
theorem Zmf {M f:Nat}:∀ (g:Nat) (ts:List Tok) (names:Names) (acc:List (List Sym)) r,(∀ t ∈ ts,t.text.length≤M)→(∀ s ∈ acc.flatten,s.name.length≤M)→Zdc f g ts names acc=some r →
   r.1.flatten.length+r.2.1.length≤acc.flatten.length+ts.length∧(∀ s ∈ r.1.flatten,s.name.length≤M)∧(∀ t ∈ r.2.1,t.text.length≤M):=by
 intro g
 induction g with
 | zero=>intro ts names acc r _ _ h; simp [Zdc] at h
 | succ g ih =>
  intro ts names acc r hM hA h
  rw [Zdc] at h
  split at h
  ·simp at h
  ·rename_i q hq
   obtain ⟨h1,h2,h3⟩:=Zxd f _ _ _ hM hq
   have hA':∀ s ∈ (acc++[q.1]).flatten,s.name.length≤M:=fun s hs=>by
    simp only [List.flatten_append,List.flatten_cons,List.flatten_nil,Qs,Qk] at hs
    rcases hs with hs | hs
    ·exact hA s hs
    ·exact h2 s hs
   split at h
   ·simp at h
   ·rename_i x rest hx
    rw [hx] at h1 h3
    split at h
    ·simp at h; subst h
     refine ⟨?_,hA',fun t ht=>h3 t (by simp [ht])⟩
     simp only [List.flatten_append,List.flatten_cons,List.flatten_nil,Qs,Qg,Qf] at h1 ⊢
     omega
    ·obtain ⟨h4,h5,h6⟩:=ih _ _ _ _ (fun t ht=>h3 t (by simp [ht])) hA' h
     refine ⟨?_,h5,h6⟩
     simp only [List.flatten_append,List.flatten_cons,List.flatten_nil,Qs,Qg,Qf] at h1 h4 ⊢
     omega
theorem Tryz.infoClause:(Tryz.prog.info? 185).map (fun i=>(i.zero,i.size,i.bytes))=some (some (.agg #[.string ⟨#[]⟩,.int .i64 0,.slice none 0 0,.slice none 0 0,.int .i64 0]),5,80):=by kernel_rfl
structure KeepT (w w':World):Prop where
 size:w.heap.size≤w'.heap.size
 block:∀ k,Zeo w k→w'.heap[k]?=w.heap[k]?
theorem KeepT.trans {a b c:World} (h:KeepT a b) (h':KeepT b c):KeepT a c :=
 ⟨Qq h.size h'.size,fun k hk=>by
  have e:=h.block k hk
  have:Zeo b k:=by obtain ⟨cur,hc⟩:=hk; exact ⟨cur,e.trans hc⟩
  exact (h'.block k this).trans e⟩
theorem KeepT.of_kept {S:Nat→Prop} {w w':World} (h:Kept S w w') (hs:∀ k,Zeo w k→¬ S k):KeepT w w' :=
 ⟨h.size,fun k hk=>h.block k (by obtain ⟨cur,hc⟩:=hk; exact Zac hc) (hs k hk)⟩
theorem KeepT.of_apart {B:Nat} {e:TypeId} {size n:Nat} {v:Value} {xs:List Value} {w w':World} (h:Kept (Zap v) w w') (ho:w.ownsRow B e size v n xs) (he:e≠183):KeepT w w' :=
 KeepT.of_kept h (fun k hk=>by obtain ⟨cur,hc⟩:=hk; exact Zah ho he hc)
theorem RepT.keep {f:Nat} {w w':World} {lo hi:Nat} {a b c:Value} {l:List Sym} (h:RepT f w lo hi a b c l) (hk:KeepT w w'):RepT f w' lo hi a b c l:=h.later f (fun k _ _ ht=>hk.block k ht)
theorem Kids.keep {f:Nat} {w w':World} {lo:Nat} {cv:Value} {acc:List (List Sym)} {xs:List Value} (h:Kids f w lo cv acc xs) (hk:KeepT w w'):Kids f w' lo cv acc xs :=
 ⟨Zak h.owns (fun k e=>hk.block k (Zar h.owns k e)),fun i l' hl=>by
  obtain ⟨a',b',c',l1,h1,y1,y2,y3,g1,g2,g3,g4⟩:=h.all i l' hl
  exact ⟨a',b',c',l1,h1,y1,y2,y3,g1,Qq g2 hk.size,g3,g4.keep hk⟩⟩
def ClsAt (w:World) (xs:List Value) (c:Cls):Prop:=∃ s n ca cl cc bv lo hi lo' ys,xs=[.string s,.int .i64 n,.slice ca cl cc,bv,.int .i64 c.n]∧RepT 1000 w lo hi (.string s) (.int .i64 n) (.slice ca cl cc) c.head∧Kids 1000 w lo' bv c.body ys
theorem ClsAt.keep {w w':World} {xs:List Value} {c:Cls} (h:ClsAt w xs c) (hk:KeepT w w'):ClsAt w' xs c:=by
 obtain ⟨s,n,ca,cl,cc,bv,lo,hi,lo',ys,h1,h2,h3⟩:=h
 exact ⟨s,n,ca,cl,cc,bv,lo,hi,lo',ys,h1,h2.keep hk,h3.keep hk⟩
structure ClsRow (w:World) (lo:Nat) (lv:Value) (cs:List Cls) (xs:List (List Value)):Prop where
 owns:w.ownsRow lo 185 5 lv cs.length xs.flatten
 len:xs.length=cs.length
 five:∀ x ∈ xs,x.length=5
 all:∀ (i:Nat) (c:Cls),cs[i]?=some c→∃ x,xs[i]?=some x∧ClsAt w x c
theorem ClsRow.nil (w:World) (lo:Nat):ClsRow w lo (.slice none 0 0) [] []:=⟨World.ownsRow_nil _ _ _ _,rfl,by simp,fun i c h=>by simp at h⟩
def Zfv (ts:List Tok):Option (Cls × List Tok) :=
 match Zda 1000 ts [] with
 | none=>none
 | some r=>match r.2.1 with
  | []=>none
  | x::rest=>if x.kind=3 then (Zdc 1000 1000 rest r.2.2 []).map (fun q=>(⟨r.1,q.1,q.2.2⟩,q.2.1)) else some (⟨r.1,[],r.2.2⟩,rest)
def Zhl:Nat→List Tok→List Cls→Option (List Cls)
 | 0,_,_=>none
 | _+1,[],_=>none
 | g+1,t::ts,acc =>
  if t.kind=4 then some acc
  else match Zfv (t::ts) with
   | none=>none
   | some r=>Zhl g r.2 (acc++[r.1])
theorem ClsRow.keep {w w':World} {lo:Nat} {lv:Value} {cs:List Cls} {xs:List (List Value)} (h:ClsRow w lo lv cs xs) (hk:KeepT w w') (ho:w'.ownsRow lo 185 5 lv cs.length xs.flatten):ClsRow w' lo lv cs xs :=
 ⟨ho,h.len,h.five,fun i c hc=>by obtain ⟨x,h1,h2⟩:=h.all i c hc; exact ⟨x,h1,h2.keep hk⟩⟩
theorem ClsRow.add {w w':World} {lo:Nat} {lv lv':Value} {cs:List Cls} {xs:List (List Value)} {c:Cls} {x:List Value} (h:ClsRow w lo lv cs xs) (hx:ClsAt w x c) (hx5:x.length=5) (hk:KeepT w w')
  (ho:w'.ownsRow lo 185 5 lv' (cs.length+1) (xs.flatten++x)):ClsRow w' lo lv' (cs++[c]) (xs++[x]):=by
 refine ⟨by simpa using ho,by simp [h.len],?_,?_⟩
 ·intro y hy
  simp at hy
  rcases hy with hy | rfl
  ·exact h.five y hy
  ·exact hx5
 ·intro i d hd
  rcases Nat.lt_or_ge i cs.length with hi | hi
  ·rw [Qc hi] at hd
   obtain ⟨y,h1,h2⟩:=h.all i d hd
   exact ⟨y,by rw [Qc (by rw [h.len]; exact hi)]; exact h1,h2.keep hk⟩
  ·have hi':i=cs.length:=by
    have:i<(cs++[c]).length:=(Qa.1 hd).1
    simp at this; omega
   subst hi'
   simp at hd
   subst hd
   exact ⟨x,by rw [← h.len]; simp,hx.keep hk⟩
theorem Zzy {s:ByteArray} {n m:Int} {ca ba:Option Addr} {cl cc bl bc:Nat}:∀ u ∈ (#[Value.string s,.int .i64 n,.slice ca cl cc,.slice ba bl bc,.int .i64 m]:Array Value).toList,u.oneCell'=true:=by
 intro u hu
 simp at hu
 rcases hu with rfl | rfl | rfl | rfl | rfl <;> rfl
abbrev CC:=Cls
structure RS where
 query:Bool
 next:Nat
 inBody:Bool
 atom:List Sym
 opn:List Nat
 head:List Sym
 body:List (List Sym)
 vars:Names
 clauses:List CC
structure RV where
 a:Value
 o:Value
 h:Value
 b:Value
 v:Value
 c:Value
def Zby (s:Sym):List Value:=[.string ⟨s.name.toArray⟩,.int .i64 s.num,.int .i64 s.args]
def Zam (l:List Sym):List Value:=l.flatMap Zby
theorem Zbg (l:List Sym) (k:Nat) (t:Sym) (h:l[k]?=some t) (j:Nat) (hj:j<3):(Zam l)[k * 3+j]?=(Zby t)[j]?:=by
 induction l generalizing k with
 | nil=>simp at h
 | cons a l ih =>
  cases k with
  | zero =>
   simp at h; subst h
   show (Zby a++Zam l)[_]?=_
   rw [Qc (by simp [Zby]; omega)]
   simp
  | succ k =>
   show (Zby a++Zam l)[_]?=_
   rw [Qd (by simp [Zby]; omega)]
   rw [← ih k (by simpa using h)]
   congr 1
   simp [Zby]
   omega
def Zde (st:RS) (V:RV):Array Value:=#[.bool st.query,.int .i64 st.next,.bool st.inBody,V.a,V.o,V.h,V.b,V.v,V.c]
structure ROpen (w:World) (B rb:Nat) (st:RS) (V:RV):Prop where
 blk:w.heap[rb]?=some (.cells (Zde st V) 169 (0,0))
 atom:w.ownsRow B 133 3 V.a st.atom.length (Zam st.atom)
 opn:w.ownsRow B 3 1 V.o st.opn.length (ints st.opn.reverse)
 body:∃ x c,V.b = .slice x st.body.length c
 cls:∃ x c,V.c = .slice x st.clauses.length c
theorem ROpen.facts {w:World} {B rb:Nat} {st:RS} {V:RV} (h:ROpen w B rb st V) :
  w.cell? ⟨rb,0,none⟩=some (.bool st.query)∧w.cell? ⟨rb,1,none⟩=some (.int .i64 st.next)∧w.cell? ⟨rb,2,none⟩=some (.bool st.inBody)∧w.cell? ⟨rb,3,none⟩=some V.a∧w.cell? ⟨rb,4,none⟩=some V.o ∧
  w.cell? ⟨rb,5,none⟩=some V.h∧w.cell? ⟨rb,6,none⟩=some V.b∧w.cell? ⟨rb,7,none⟩=some V.v∧w.cell? ⟨rb,8,none⟩=some V.c :=
 ⟨Zab h.blk 0 _ rfl,Zab h.blk 1 _ rfl,Zab h.blk 2 _ rfl,Zab h.blk 3 _ rfl,Zab h.blk 4 _ rfl,Zab h.blk 5 _ rfl,Zab h.blk 6 _ rfl,Zab h.blk 7 _ rfl,Zab h.blk 8 _ rfl⟩
def Zfg (st:RS):Int:=match st.opn with
 | [] => -1
 | n::_=>if st.atom.length≤n then -1 else n
theorem Zmg (w:World) (B rb:Nat) (st:RS) (V:RV) (h:ROpen w B rb st V) (hl:st.opn.length≤4096) (ha:st.atom.length≤4096) :
  Calls Tryz.prog 200 #[.pointer (some ⟨rb,0,none⟩)] w fun e w'=>e = .returned (.int .i64 (Zfg st))∧∃ n,w'=w.drewN n:=by
 obtain ⟨c0,c1,c2,c3,c4,c5,c6,c7,c8⟩:=h.facts
 obtain ⟨aa,acap,hva⟩:=Zad h.atom
 obtain ⟨oa,ocap,hvo⟩:=Zad h.opn
 rw [hva] at c3
 rw [hvo] at c4
 cases hst:st.opn with
 | nil =>
  have Ho:Hid (Zfg st = -1):=by show _=_; simp [Zfg,hst]
  simp only [hst,Qt] at c4
  clear hva hvo hst h
  go_enter Tryz.func200,Tryz.ntmps200
  go_wp2
  go_ret
  rw [Ho.out]
  exact ⟨rfl,0,rfl⟩
 | cons n r =>
  have hrl:r.length+1≤4096:=by rw [hst] at hl; simpa using hl
  have hop:=h.opn
  rw [hst,hvo,hst] at hop
  obtain ⟨g,gcap,gcur,he,hBg,hg,hcap⟩:=Zan hop (by simp)
  simp only [Value.slice.injEq] at he
  obtain ⟨rfl,_,rfl⟩:=he
  have cg:w.cell? ⟨g,r.length,none⟩=some (.int .i64 n):=Zaf hop r.length _ (by simp [ints])
  simp only [hst,Qf] at c4
  simp only [Qf] at hcap
  have hlen0:(((r.length:Nat):Int)+1 == 0)=false:=by rw [Qu]; omega
  by_cases hn:st.atom.length≤n
  ·have Ho:Hid (Zfg st = -1):=by show _=_; simp [Zfg,hst,hn]
   clear hva hvo hst h hop hg
   go_enter Tryz.func200,Tryz.ntmps200
   go_wp2_with fail
   go_quiet (fail)
   go_wp2
   go_ret
   rw [Ho.out]
   exact ⟨rfl,_,rfl⟩
  ·have Ho:Hid (Zfg st=n):=by show _=_; simp [Zfg,hst,hn]
   clear hva hvo hst h hop hg
   go_enter Tryz.func200,Tryz.ntmps200
   go_wp2_with fail
   go_quiet (fail)
   go_wp2
   go_ret
   rw [Ho.out]
   exact ⟨rfl,_,rfl⟩
theorem nb (kd k:Nat):((kd:Int) == (k:Int))=(kd == k):=by
 rw [Bool.eq_iff_iff,beq_iff_eq,beq_iff_eq]; omega
def Zkn (st:RS):Nat:=match st.opn with
 | []=>0
 | n::_=>match st.atom[n]? with
  | none=>0
  | some s=>s.args
def Zbw (st:RS) (kd:Nat):Bool:=if st.opn.isEmpty then (if st.inBody then (kd == 5 || kd == 6) else (kd == 7 || kd == 6)) else (kd == 5 || kd == 4)
def Zbo (st:RS) (kd:Nat):Bool :=
 if st.next=0∨st.next=1 then kd == 1 else if st.next=2 then (kd == 1 || kd == 2) else if st.next=3 then (kd == 3 || Zbw st kd) else if st.next=4 then Zbw st kd else false
def Zfb (st:RS):Bool :=
 if st.next=0 then decide (24≤st.clauses.length) else if st.next=1 then decide (6≤st.body.length) else if st.next=2 then (decide (30≤st.atom.length) || decide (4≤Zkn st)) else false
def Zbx (st:RS) (kd len:Nat):Nat:=if Zbo st kd=false then 2 else if (kd=1∨kd=2)∧(8<len∨Zfb st=true) then 3 else 0
structure RBd (st:RS):Prop where
 opn:st.opn.length≤4096
 atom:st.atom.length≤4096
 body:st.body.length≤4096
 cls:st.clauses.length≤4096
 args:∀ s ∈ st.atom,s.args≤4096
theorem Ydh (w:World) (B rb:Nat) (st:RS) (V:RV) (h:ROpen w B rb st V) (hb:RBd st) :
  Calls Tryz.prog 199 #[.pointer (some ⟨rb,0,none⟩)] w fun e w'=>e = .returned (.int .i64 (Zkn st))∧∃ n,w'=w.drewN n:=by
 obtain ⟨c0,c1,c2,c3,c4,c5,c6,c7,c8⟩:=h.facts
 obtain ⟨aa,acap,hva⟩:=Zad h.atom
 rw [hva] at c3
 have Hown:=Zaa (Zmg w B rb st V h hb.opn hb.atom)
 by_cases ho:Zfg st = -1
 ·have Ha:Hid (Zkn st=0):=by
   show _=_
   cases hst:st.opn with
   | nil=>simp [Zkn,hst]
   | cons n r =>
    have hle:st.atom.length≤n:=by
     unfold Zfg at ho
     rw [hst] at ho
     simp only at ho
     split at ho
     ·assumption
     ·omega
    simp [Zkn,hst,List.getElem?_eq_none hle]
  have Ho:=Zaa ho
  clear ho h hva
  go_enter Tryz.func199,Tryz.ntmps199
  go_wp2_with fail
  refine Hown.out.mono ?_
  rintro e w1 ⟨rfl,n,rfl⟩
  rw [Ho.out]
  go_wp2
  go_ret
  rw [Ha.out]
  exact ⟨rfl,n,rfl⟩
 ·obtain ⟨k,r,hst,hk⟩:∃ k r,st.opn=k::r∧k<st.atom.length:=by
   unfold Zfg at ho
   split at ho
   ·exact absurd rfl ho
   ·rename_i k r hn
    split at ho
    ·exact absurd rfl ho
    ·exact ⟨k,r,hn,by omega⟩
  obtain ⟨s,hs⟩:∃ s,st.atom[k]?=some s:=⟨_,Qb hk⟩
  have Ha:Hid (Zkn st=s.args):=by show _=_; simp [Zkn,hst,hs]
  have Ho:Hid (Zfg st=k):=by show _=_; simp [Zfg,hst]; omega
  have hat:=h.atom
  rw [hva] at hat
  obtain ⟨g,gcap,gcur,he,hBg,hg,hcap⟩:=Zan hat (by omega)
  simp only [Value.slice.injEq] at he
  obtain ⟨rfl,_,rfl⟩:=he
  have cg:w.cell? ⟨g,k * 3+2,none⟩=some (.int .i64 s.args):=Zaf hat _ _ (by rw [Zbg _ k s hs 2 (by omega)]; rfl)
  have hla:=hb.atom
  clear ho h hva hat hst hs hg
  go_enter Tryz.func199,Tryz.ntmps199
  go_wp2_with fail
  refine Hown.out.mono ?_
  rintro e w1 ⟨rfl,n,rfl⟩
  rw [Ho.out]
  go_wp2
  go_ret
  rw [Ha.out]
  exact ⟨rfl,n,rfl⟩
theorem Zxe (w:World) (B rb:Nat) (st:RS) (V:RV) (kd:Nat) (h:ROpen w B rb st V) (hb:RBd st) :
  Calls Tryz.prog 198 #[.pointer (some ⟨rb,0,none⟩),.int .i64 kd] w fun e w'=>e = .returned (.bool (Zbw st kd))∧w'=w:=by
 obtain ⟨c0,c1,c2,c3,c4,c5,c6,c7,c8⟩:=h.facts
 obtain ⟨oa,ocap,hvo⟩:=Zad h.opn
 have hl:=hb.opn
 rw [hvo] at c4
 clear h hvo
 have e4:=nb kd 4
 have e5:=nb kd 5
 have e6:=nb kd 6
 have e7:=nb kd 7
 cases hst:st.opn with
 | nil =>
  simp only [hst,Qt] at c4
  cases hib:st.inBody
  ·rw [hib] at c2
   have Hf:Hid (Zbw st kd=(kd == 7 || kd == 6)):=by show _=_; simp [Zbw,hst,hib]
   rw [Hf.out,← e7,← e6]
   clear e4 e5 e6 e7 hst hib
   cases t1:((kd:Int) == (7:Nat))
   all_goals
    have t1':((kd:Int) == 7)=_:=t1
    go_enter Tryz.func198,Tryz.ntmps198
    go_wp2
    go_ret
    exact ⟨rfl,rfl⟩
  ·rw [hib] at c2
   have Hf:Hid (Zbw st kd=(kd == 5 || kd == 6)):=by show _=_; simp [Zbw,hst,hib]
   rw [Hf.out,← e5,← e6]
   clear e4 e5 e6 e7 hst hib
   cases t1:((kd:Int) == (5:Nat))
   all_goals
    have t1':((kd:Int) == 5)=_:=t1
    go_enter Tryz.func198,Tryz.ntmps198
    go_wp2
    go_ret
    exact ⟨rfl,rfl⟩
 | cons n r =>
  have Hf:Hid (Zbw st kd=(kd == 5 || kd == 4)):=by show _=_; simp [Zbw,hst]
  rw [Hf.out,← e5,← e4]
  have hrl:r.length+1≤4096:=by rw [hst] at hl; simpa using hl
  simp only [hst,Qf] at c4
  clear e4 e5 e6 e7 hst
  cases t1:((kd:Int) == (5:Nat))
  all_goals
   have t1':((kd:Int) == 5)=_:=t1
   go_enter Tryz.func198,Tryz.ntmps198
   go_wp2
   go_ret
   exact ⟨rfl,rfl⟩
theorem Zzz (w:World) (B rb:Nat) (st:RS) (V:RV) (kd:Nat) (h:ROpen w B rb st V) (hb:RBd st) (hn:st.next≤5) :
  Calls Tryz.prog 166 #[.pointer (some ⟨rb,0,none⟩),.int .i64 kd] w fun e w'=>e = .returned (.bool (Zbo st kd))∧w'=w:=by
 obtain ⟨c0,c1,c2,c3,c4,c5,c6,c7,c8⟩:=h.facts
 have HF:=Zaa (Zxe w B rb st V kd h hb)
 have e1:=nb kd 1
 have e2:=nb kd 2
 have e3:=nb kd 3
 clear h hb c0 c2 c3 c4 c5 c6 c7 c8
 have hs:st.next=0∨st.next=1∨st.next=2∨st.next=3∨st.next=4∨st.next=5:=by omega
 rcases hs with hs | hs | hs | hs | hs | hs
 ·rw [hs] at c1
  have Hf:Hid (Zbo st kd=(kd == 1)):=by show _=_; simp [Zbo,hs]
  rw [Hf.out]
  rw [← e1]
  clear hs e1 e2 e3
  go_enter Tryz.func166,Tryz.ntmps166
  go_wp2
  go_ret
  exact ⟨rfl,rfl⟩
 ·rw [hs] at c1
  have Hf:Hid (Zbo st kd=(kd == 1)):=by show _=_; simp [Zbo,hs]
  rw [Hf.out]
  rw [← e1]
  clear hs e1 e2 e3
  go_enter Tryz.func166,Tryz.ntmps166
  go_wp2
  go_ret
  exact ⟨rfl,rfl⟩
 ·rw [hs] at c1
  have Hf:Hid (Zbo st kd=(kd == 1 || kd == 2)):=by show _=_; simp [Zbo,hs]
  rw [Hf.out]
  rw [← e1,← e2]
  clear hs e1 e2 e3
  cases t1:((kd:Int) == (1:Nat))
  all_goals
   have t1':((kd:Int) == 1)=_:=t1
   go_enter Tryz.func166,Tryz.ntmps166
   go_wp2
   go_ret
   exact ⟨rfl,rfl⟩
 ·rw [hs] at c1
  have Hf:Hid (Zbo st kd=(kd == 3 || Zbw st kd)):=by show _=_; simp [Zbo,hs]
  rw [Hf.out]
  rw [← e3]
  clear hs e1 e2 e3
  cases t1:((kd:Int) == (3:Nat))
  all_goals
   have t1':((kd:Int) == 3)=_:=t1
   go_enter Tryz.func166,Tryz.ntmps166
   go_wp2_with (go_at_call 198; refine HF.out.mono ?_; rintro e w' ⟨rfl,rfl⟩)
   go_ret
   exact ⟨rfl,rfl⟩
 ·rw [hs] at c1
  have Hf:Hid (Zbo st kd=Zbw st kd):=by show _=_; simp [Zbo,hs]
  rw [Hf.out]
  clear hs e1 e2 e3
  go_enter Tryz.func166,Tryz.ntmps166
  go_wp2_with (go_at_call 198; refine HF.out.mono ?_; rintro e w' ⟨rfl,rfl⟩)
  go_ret
  exact ⟨rfl,rfl⟩
 ·rw [hs] at c1
  have Hf:Hid (Zbo st kd=false):=by show _=_; simp [Zbo,hs]
  rw [Hf.out]
  clear hs e1 e2 e3
  go_enter Tryz.func166,Tryz.ntmps166
  go_wp2
  go_ret
  exact ⟨rfl,rfl⟩
theorem Ydi (w:World) (B rb:Nat) (st:RS) (V:RV) (h:ROpen w B rb st V) (hb:RBd st) (hn:st.next≤5) :
  Calls Tryz.prog 167 #[.pointer (some ⟨rb,0,none⟩)] w fun e w'=>e = .returned (.bool (Zfb st))∧∃ n,w'=w.drewN n:=by
 obtain ⟨c0,c1,c2,c3,c4,c5,c6,c7,c8⟩:=h.facts
 have HA:=Zaa (Ydh w B rb st V h hb)
 obtain ⟨aa,acap,hva⟩:=Zad h.atom
 obtain ⟨ba,bcap,hvb⟩:=h.body
 obtain ⟨ca,ccap,hvc⟩:=h.cls
 rw [hva] at c3
 rw [hvb] at c6
 rw [hvc] at c8
 have l1:=hb.atom
 have l2:=hb.body
 have l3:=hb.cls
 clear h hb hva hvb hvc
 have hs:st.next=0∨st.next=1∨st.next=2∨(st.next≠0∧st.next≠1∧st.next≠2):=by omega
 rcases hs with hs | hs | hs | hs
 ·rw [hs] at c1
  have Hf:Hid (Zfb st=decide (24≤st.clauses.length)):=by show _=_; simp [Zfb,hs]
  clear hs
  go_enter Tryz.func167,Tryz.ntmps167
  go_wp2
  go_ret
  rw [Hf.out]
  exact ⟨Zem (by rw [Bool.eq_iff_iff]; simp; try omega),0,rfl⟩
 ·rw [hs] at c1
  have Hf:Hid (Zfb st=decide (6≤st.body.length)):=by show _=_; simp [Zfb,hs]
  clear hs
  go_enter Tryz.func167,Tryz.ntmps167
  go_wp2
  go_ret
  rw [Hf.out]
  exact ⟨Zem (by rw [Bool.eq_iff_iff]; simp; try omega),0,rfl⟩
 ·rw [hs] at c1
  by_cases h30:(30:Int)≤(st.atom.length:Int)
  ·have Hf:Hid (Zfb st=true):=by show _=_; simp [Zfb,hs]; left; omega
   clear hs
   go_enter Tryz.func167,Tryz.ntmps167
   go_wp2
   go_ret
   rw [Hf.out]
   exact ⟨rfl,0,rfl⟩
  ·have Hf:Hid (Zfb st=decide (4≤Zkn st)):=by show _=_; simp [Zfb,hs]; omega
   have hd:decide ((30:Int)≤(st.atom.length:Int))=false:=by simpa using h30
   clear hs
   go_enter Tryz.func167,Tryz.ntmps167
   go_wp2_with (go_at_call 199; refine HA.out.mono ?_; rintro e w' ⟨rfl,n,rfl⟩)
   go_ret
   rw [Hf.out]
   exact ⟨Zem (by rw [Bool.eq_iff_iff]; simp; try omega),_,rfl⟩
 ·have t0:((st.next:Int) == 0)=false:=by rw [Qu]; omega
  have t1:((st.next:Int) == 1)=false:=by rw [Qu]; omega
  have t2:((st.next:Int) == 2)=false:=by rw [Qu]; omega
  have Hf:Hid (Zfb st=false):=by show _=_; simp [Zfb,hs]
  clear hs
  go_enter Tryz.func167,Tryz.ntmps167
  go_wp2
  go_ret
  rw [Hf.out]
  exact ⟨rfl,0,rfl⟩
end Go.Proofs.YtlmjilpjmgjjcaaGreatDoor
namespace Go.Proofs.YtlmjilpjmgjjcaaGreatDoor
open Go.RowKit
set_option linter.unusedSimpArgs false
set_option linter.unusedVariables false
theorem ROpen.later {S:Nat→Prop} {w w':World} {B rb:Nat} {st:RS} {V:RV} (h:ROpen w B rb st V) (hk:Kept S w w') (h1:¬ S rb) (h2:∀ k,V.a.ownBlock=some k→¬ S k) (h3:∀ k,V.o.ownBlock=some k→¬ S k):ROpen w' B rb st V :=
 ⟨(hk.block rb (Zac h.blk) h1).trans h.blk,hk.owns h.atom h2,hk.owns h.opn h3,h.body,h.cls⟩
theorem Yaa (w:World) (B rb:Nat) (st:RS) (V:RV) (kd p q:Nat) (h:ROpen w B rb st V) (hb:RBd st) (hn:st.next≤5) (hpq:p≤q) (hq:q≤4096) :
  Calls Tryz.prog 131 #[.pointer (some ⟨rb,0,none⟩),.agg #[.int .i64 kd,.int .i64 p,.int .i64 q]] w fun e w'=>e = .returned (.int .i64 (Zbx st kd (q - p)))∧Kept Zbf w w':=by
 have h1:∀ o,ROpen (w.alloc o) B rb st V:=fun o=>h.later (S:=Zbf) ((Qx _ w).alloc o) (fun h=>h) (fun _ _ h=>h) (fun _ _ h=>h)
 have HS:=Zaa (fun o=>Zzz (w.alloc o) B rb st V kd (h1 o) hb hn)
 have HF:=Zaa (fun o=>Ydi (w.alloc o) B rb st V (h1 o) hb hn)
 have e1:=nb kd 1
 have e2:=nb kd 2
 clear h h1
 cases hst:Zbo st kd
 ·have Hc:Hid (Zbx st kd (q - p)=2):=by show _=_; simp [Zbx,hst]
  go_enter Tryz.func131,Tryz.ntmps131
  go_wp2_with (go_at_call 166; refine (HS.out _).mono ?_; rintro e w' ⟨rfl,rfl⟩)
  go_ret
  rw [Hc.out]
  exact ⟨rfl,(Qx _ w).alloc _⟩
 ·by_cases hw:kd=1∨kd=2
  ·have hword:((kd:Int) == 1)=true∨(((kd:Int) == 1)=false∧((kd:Int) == 2)=true):=by
    rcases hw with rfl | rfl
    ·exact Or.inl rfl
    ·exact Or.inr ⟨rfl,rfl⟩
   by_cases h8:8<q - p
   ·have h8':(8:Int)<(q:Int) - (p:Int):=by omega
    have Hc:Hid (Zbx st kd (q - p)=3):=by show _=_; simp [Zbx,hst,hw,h8]
    clear hw e1 e2
    rcases hword with t1 | ⟨t1,t2⟩
    all_goals
     go_enter Tryz.func131,Tryz.ntmps131
     go_wp2_with (go_at_call 166; refine (HS.out _).mono ?_; rintro e w' ⟨rfl,rfl⟩)
     go_ret
     rw [Hc.out]
     exact ⟨rfl,(Qx _ w).alloc _⟩
   ·have h8':¬ (8:Int)<(q:Int) - (p:Int):=by omega
    have hd8:decide ((8:Int)<(q:Int) - (p:Int))=false:=by simpa using h8'
    cases hfl:Zfb st
    ·have Hc:Hid (Zbx st kd (q - p)=0):=by show _=_; simp [Zbx,hst,h8,hfl]
     clear hw e1 e2
     rcases hword with t1 | ⟨t1,t2⟩
     all_goals
      go_enter Tryz.func131,Tryz.ntmps131
      go_wp2_with (first | (go_at_call 166; refine (HS.out _).mono ?_; rintro e w' ⟨rfl,rfl⟩) | (go_at_call 167; refine (HF.out _).mono ?_; rintro e w' ⟨rfl,n,rfl⟩))
      go_ret
      rw [Hc.out]
      exact ⟨rfl,((Qx _ w).alloc _).drewN _⟩
    ·have Hc:Hid (Zbx st kd (q - p)=3):=by show _=_; simp [Zbx,hst,hw,hfl]
     clear hw e1 e2
     rcases hword with t1 | ⟨t1,t2⟩
     all_goals
      go_enter Tryz.func131,Tryz.ntmps131
      go_wp2_with (first | (go_at_call 166; refine (HS.out _).mono ?_; rintro e w' ⟨rfl,rfl⟩) | (go_at_call 167; refine (HF.out _).mono ?_; rintro e w' ⟨rfl,n,rfl⟩))
      go_ret
      rw [Hc.out]
      exact ⟨rfl,((Qx _ w).alloc _).drewN _⟩
  ·have t1:((kd:Int) == 1)=false:=by rw [Qu]; omega
   have t2:((kd:Int) == 2)=false:=by rw [Qu]; omega
   have Hc:Hid (Zbx st kd (q - p)=0):=by show _=_; simp [Zbx,hst,hw]
   clear hw e1 e2
   go_enter Tryz.func131,Tryz.ntmps131
   go_wp2_with (go_at_call 166; refine (HS.out _).mono ?_; rintro e w' ⟨rfl,rfl⟩)
   go_ret
   rw [Hc.out]
   exact ⟨rfl,(Qx _ w).alloc _⟩
theorem Zxf (s:ByteArray) (kd:Int) (p q:Nat) (w:World) (hpq:p≤q) (hq:q≤s.size) (hs:s.size≤4096) :
  Calls Tryz.prog 133 #[.string s,.agg #[.int .i64 kd,.int .i64 p,.int .i64 q]] w fun e w'=>e = .returned (.string (s.extract p q))∧Kept Zbf w w':=by
 have d1:decide (((p:Nat):Int)<0)=false:=by simp
 have d2:decide ((q:Int)<(p:Int))=false:=by simp; omega
 go_enter Tryz.func133,Tryz.ntmps133
 go_wp2
 go_ret
 exact ⟨rfl,(Qx _ w).alloc _⟩
theorem Tryz.infoSym:(Tryz.prog.info? 133).map (fun i=>(i.zero,i.size,i.bytes))=some (some (.agg #[.string ⟨#[]⟩,.int .i64 0,.int .i64 0]),3,32):=by kernel_rfl
theorem Tryz.infoSyms:(Tryz.prog.info? 105).map (fun i=>(i.zero,i.size,i.bytes))=some (some (.slice none 0 0),1,24):=by kernel_rfl
theorem Tryz.infoCls:(Tryz.prog.info? 107).map (fun i=>(i.zero,i.size,i.bytes))=some (some (.agg #[.slice none 0 0,.slice none 0 0,.slice none 0 0]),3,72):=by kernel_rfl
def SymRow (w:World) (B Sa:Nat) (v:Value) (l:List Sym):Prop:=w.ownsRow B 133 3 v l.length (Zam l)∧∀ k,v.ownBlock=some k→k<Sa
def BodyRow (w:World) (B Sa:Nat) (v:Value) (ls:List (List Sym)) (vs:List Value):Prop :=
 w.ownsRow B 105 1 v ls.length vs∧∀ (i:Nat) (l:List Sym),ls[i]?=some l→∃ x,vs[i]?=some x∧SymRow w B Sa x l
def CCRow (w:World) (B Sa Sb:Nat) (v:Value) (cs:List CC) (xs:List (List Value)):Prop :=
 w.ownsRow B 107 3 v cs.length xs.flatten∧xs.length=cs.length∧(∀ x ∈ xs,x.length=3) ∧
 ∀ (i:Nat) (c:CC),cs[i]?=some c→∃ hv bv vv vs,xs[i]?=some [hv,bv,vv]∧SymRow w B Sa hv c.head∧BodyRow w B Sa bv c.body vs∧(∀ k,bv.ownBlock=some k→k<Sb)∧w.ownsRow B 9 1 vv c.names.length (strs c.names)∧∀ k,vv.ownBlock=some k→k<Sb
structure RRest (w:World) (B:Nat) (st:RS) (V:RV) (Sa Sb:Nat) (vs:List Value) (xs:List (List Value)):Prop where
 atom:w.ownsRow B 133 3 V.a st.atom.length (Zam st.atom)
 opn:w.ownsRow B 3 1 V.o st.opn.length (ints st.opn.reverse)
 vars:w.ownsRow B 9 1 V.v st.vars.length (strs st.vars)
 head:SymRow w B Sa V.h st.head
 body:BodyRow w B Sa V.b st.body vs
 cls:CCRow w B Sa Sb V.c st.clauses xs
 ta:∀ k,V.a.ownBlock=some k→Sa≤k
 tb:∀ k,V.b.ownBlock=some k→Sb≤k
 tv:∀ k,V.v.ownBlock=some k→Sb≤k
 la:Sa≤w.heap.size
 lb:Sb≤w.heap.size
structure IsR (w:World) (B rb:Nat) (st:RS) (V:RV) (Sa Sb:Nat) (vs:List Value) (xs:List (List Value)):Prop where
 blk:w.heap[rb]?=some (.cells (Zde st V) 169 (0,0))
 rest:RRest w B st V Sa Sb vs xs
 le:B≤rb
theorem IsR.opens {w:World} {B rb:Nat} {st:RS} {V:RV} {Sa Sb:Nat} {vs:List Value} {xs:List (List Value)} (h:IsR w B rb st V Sa Sb vs xs):ROpen w B rb st V:=by
 obtain ⟨ba,bc,hb⟩:=Zad h.rest.body.1
 obtain ⟨ca,cc,hc⟩:=Zad h.rest.cls.1
 exact ⟨h.blk,h.rest.atom,h.rest.opn,⟨ba,bc,hb⟩,⟨ca,cc,hc⟩⟩
def Zes (rb:Nat) (X:Value):Nat→Prop:=fun k=>k=rb∨Zap X k
section
variable {w w':World} {B rb:Nat} {st:RS} {V:RV} {Sa Sb:Nat} {vs:List Value} {xs:List (List Value)} {X:Value}
theorem Zcb {Br:Nat} {e eX:TypeId} {s sX n nX:Nat} {v:Value} {ys yX:List Value} {cs:Array Value} {fr:Nat × Nat} (ho:w.ownsRow Br e s v n ys) (hk:Kept (Zes rb X) w w') (hblk:w.heap[rb]?=some (.cells cs 169 fr))
  (hX:w.ownsRow B eX sX X nX yX) (h1:e≠169) (h2:e≠eX):w'.ownsRow Br e s v n ys :=
 hk.owns ho (fun k hv hs=>by
  rcases hs with rfl | hs
  ·exact Zah ho h1 hblk hv
  ·obtain ⟨cur,hc⟩:=Zar hX k hs
   exact Zah ho h2 hc hv)
theorem Zez {v:Value} {l:List Sym} {eX:TypeId} {sX nX:Nat} {yX:List Value} {cs:Array Value} {fr:Nat × Nat} (h:SymRow w B Sa v l) (hk:Kept (Zes rb X) w w') (hblk:w.heap[rb]?=some (.cells cs 169 fr))
  (hX:w.ownsRow B eX sX X nX yX) (h2:133≠eX∨∀ k,X.ownBlock=some k→Sa≤k):SymRow w' B Sa v l:=by
 refine ⟨?_,h.2⟩
 rcases h2 with h2 | h2
 ·exact Zcb h.1 hk hblk hX (by decide) h2
 ·exact hk.owns h.1 (fun k hv hs=>by
   rcases hs with rfl | hs
   ·exact Zah h.1 (by decide) hblk hv
   ·have a1:=h.2 k hv
    have a2:=h2 k hs
    omega)
theorem Zfc {v:Value} {ls:List (List Sym)} {ws:List Value} {eX:TypeId} {sX nX:Nat} {yX:List Value} {cs:Array Value} {fr:Nat × Nat} (h:BodyRow w B Sa v ls ws) (hk:Kept (Zes rb X) w w') (hblk:w.heap[rb]?=some (.cells cs 169 fr))
  (hX:w.ownsRow B eX sX X nX yX) (h2:133≠eX∨∀ k,X.ownBlock=some k→Sa≤k) (h3:105≠eX∨∀ k,v.ownBlock=some k→¬ Zap X k):BodyRow w' B Sa v ls ws:=by
 refine ⟨?_,fun i l hl => ?_⟩
 ·rcases h3 with h3 | h3
  ·exact Zcb h.1 hk hblk hX (by decide) h3
  ·exact hk.owns h.1 (fun k hv hs=>by
    rcases hs with rfl | hs
    ·exact Zah h.1 (by decide) hblk hv
    ·exact h3 k hv hs)
 ·obtain ⟨x,hx,hs⟩:=h.2 i l hl
  exact ⟨x,hx,Zez hs hk hblk hX h2⟩
theorem Zij {v:Value} {cs:List CC} {ys:List (List Value)} {eX:TypeId} {sX nX:Nat} {yX:List Value} {cl:Array Value} {fr:Nat × Nat} (h:CCRow w B Sa Sb v cs ys) (hk:Kept (Zes rb X) w w') (hblk:w.heap[rb]?=some (.cells cl 169 fr))
  (hX:w.ownsRow B eX sX X nX yX) (h2:133≠eX∨∀ k,X.ownBlock=some k→Sa≤k) (h3:105≠eX∨∀ k,X.ownBlock=some k→Sb≤k) (h4:107≠eX) (h5:9≠eX∨∀ k,X.ownBlock=some k→Sb≤k):CCRow w' B Sa Sb v cs ys:=by
 refine ⟨Zcb h.1 hk hblk hX (by decide) h4,h.2.1,h.2.2.1,fun i c hc => ?_⟩
 obtain ⟨hv,bv,vv,us,e1,e2,e3,e4⟩:=h.2.2.2 i c hc
 refine ⟨hv,bv,vv,us,e1,Zez e2 hk hblk hX h2,Zfc e3 hk hblk hX h2 ?_,e4.1,hk.owns e4.2.1 (fun k hv hs => ?_),e4.2.2⟩
 rotate_left
 ·rcases hs with rfl | hs
  ·exact Zah e4.2.1 (by decide) hblk hv
  ·rcases h5 with h5 | h5
   ·obtain ⟨cur,hc⟩:=Zar hX k hs
    exact Zah e4.2.1 h5 hc hv
   ·have a1:=e4.2.2 k hv
    have a2:=h5 k hs
    omega
 rcases h3 with h3 | h3
 ·exact Or.inl h3
 ·exact Or.inr (fun k hb hs=>by
   have a1:=e4.1 k hb
   have a2:=h3 k hs
   omega)
end
structure Held (B:Nat) (w w':World):Prop where
 below:Below B w w'
 other:∀ (k:Nat) (cs:Array Value) (T:TypeId) (fr:Nat × Nat),w.heap[k]?=some (.cells cs T fr)→(T=224∨T=91)→w'.heap[k]?=w.heap[k]?
theorem Held.refl (B:Nat) (w:World):Held B w w:=⟨Below.refl _ _,fun _ _ _ _ _ _=>rfl⟩
theorem Held.trans {B:Nat} {a b c:World} (h:Held B a b) (k:Held B b c):Held B a c :=
 ⟨h.below.trans k.below,fun i cs T fr hb hT=>(k.other i cs T fr ((h.other i cs T fr hb hT).trans hb) hT).trans (h.other i cs T fr hb hT)⟩
theorem Held.drew {B:Nat} {a w:World} (h:Held B a w):Held B a w.drew:=⟨h.below.drew,h.other⟩
theorem Held.fresh {B:Nat} {w w':World} (h:Kept Zbf w w') (hB:B≤w.heap.size):Held B w w':=⟨h.below hB (fun _ h=>h.elim),fun k _ _ _ hb _=>h.block k (Zac hb) (fun h=>h)⟩
section
variable {w w':World} {B rb:Nat} {st:RS} {V:RV} {Sa Sb:Nat} {vs:List Value} {xs:List (List Value)}
theorem IsR.below (h:IsR w B rb st V Sa Sb vs xs) {X:Value} {eX:TypeId} {sX nX:Nat} {yX:List Value} (hk:Kept (Zes rb X) w w') (hX:w.ownsRow B eX sX X nX yX) (he:eX≠224∧eX≠91):Held B w w' :=
 ⟨hk.below (Nat.le_of_lt (Nat.lt_of_le_of_lt h.le (Zac h.blk))) (fun k hs=>by
  rcases hs with rfl | hs
  ·exact h.le
  ·exact (hX.lt k hs).1),fun k cs T fr hb hT=>by
  refine hk.block k (Zac hb) (fun hs => ?_)
  rcases hs with rfl | hs
  ·have e:=h.blk
   rw [hb] at e
   simp only [Qo,Obj.cells.injEq] at e
   rcases hT with h1 | h1 <;> exact absurd (e.2.1.symm.trans h1) (by decide)
  ·obtain ⟨cur,hc⟩:=Zar hX k hs
   rw [hb] at hc
   simp only [Qo,Obj.cells.injEq] at hc
   rcases hT with h1 | h1
   ·exact he.1 (hc.2.1.symm.trans h1)
   ·exact he.2 (hc.2.1.symm.trans h1)⟩
theorem IsR.only (h:IsR w B rb st V Sa Sb vs xs) (hk:Kept (Zes rb (.slice none 0 0)) w w') (st':RS) (hblk:w'.heap[rb]?=some (.cells (Zde st' V) 169 (0,0)))
  (e1:st'.atom=st.atom) (e2:st'.opn=st.opn) (e3:st'.vars=st.vars) (e4:st'.head=st.head) (e5:st'.body=st.body) (e6:st'.clauses=st.clauses):IsR w' B rb st' V Sa Sb vs xs:=by
 have hX:w.ownsRow B 169 1 (.slice none 0 0) 0 []:=World.ownsRow_nil _ _ _ _
 have r:=h.rest
 refine ⟨hblk,⟨?_,?_,?_,?_,?_,?_,r.ta,r.tb,r.tv,Qq r.la hk.size,Qq r.lb hk.size⟩,h.le⟩
 ·rw [e1]; exact Zcb r.atom hk h.blk hX (by decide) (by decide)
 ·rw [e2]; exact Zcb r.opn hk h.blk hX (by decide) (by decide)
 ·rw [e3]; exact Zcb r.vars hk h.blk hX (by decide) (by decide)
 ·rw [e4]; exact Zez r.head hk h.blk hX (Or.inl (by decide))
 ·rw [e5]; exact Zfc r.body hk h.blk hX (Or.inl (by decide)) (Or.inl (by decide))
 ·rw [e6]; exact Zij r.cls hk h.blk hX (Or.inl (by decide)) (Or.inl (by decide)) (by decide) (Or.inl (by decide))
theorem IsR.opened (h:IsR w B rb st V Sa Sb vs xs) (hk:Kept (Zes rb V.o) w w') (l:List Nat) (o':Value) (hblk:w'.heap[rb]?=some (.cells (Zde { st with opn:=l } { V with o:=o' }) 169 (0,0)))
  (ho:w'.ownsRow B 3 1 o' l.length (ints l.reverse)):IsR w' B rb { st with opn:=l } { V with o:=o' } Sa Sb vs xs:=by
 have r:=h.rest
 exact ⟨hblk,⟨Zcb r.atom hk h.blk r.opn (by decide) (by decide),ho,Zcb r.vars hk h.blk r.opn (by decide) (by decide),Zez r.head hk h.blk r.opn (Or.inl (by decide)),
  Zfc r.body hk h.blk r.opn (Or.inl (by decide)) (Or.inl (by decide)),Zij r.cls hk h.blk r.opn (Or.inl (by decide)) (Or.inl (by decide)) (by decide) (Or.inl (by decide)),r.ta,r.tb,r.tv,Qq r.la hk.size,Qq r.lb hk.size⟩,h.le⟩
theorem IsR.named (h:IsR w B rb st V Sa Sb vs xs) (hk:Kept (Zes rb V.v) w w') (l:Names) (v':Value) (hblk:w'.heap[rb]?=some (.cells (Zde { st with vars:=l } { V with v:=v' }) 169 (0,0)))
  (ho:w'.ownsRow B 9 1 v' l.length (strs l)) (htv:∀ k,v'.ownBlock=some k→Sb≤k):IsR w' B rb { st with vars:=l } { V with v:=v' } Sa Sb vs xs:=by
 have r:=h.rest
 exact ⟨hblk,⟨Zcb r.atom hk h.blk r.vars (by decide) (by decide),Zcb r.opn hk h.blk r.vars (by decide) (by decide),ho,Zez r.head hk h.blk r.vars (Or.inl (by decide)),
  Zfc r.body hk h.blk r.vars (Or.inl (by decide)) (Or.inl (by decide)),Zij r.cls hk h.blk r.vars (Or.inl (by decide)) (Or.inl (by decide)) (by decide) (Or.inr r.tv),r.ta,r.tb,htv,Qq r.la hk.size,Qq r.lb hk.size⟩,h.le⟩
theorem IsR.atoms (h:IsR w B rb st V Sa Sb vs xs) (hk:Kept (Zes rb V.a) w w') (l:List Sym) (a':Value) (hblk:w'.heap[rb]?=some (.cells (Zde { st with atom:=l } { V with a:=a' }) 169 (0,0)))
  (ho:w'.ownsRow B 133 3 a' l.length (Zam l)) (hta:∀ k,a'.ownBlock=some k→Sa≤k):IsR w' B rb { st with atom:=l } { V with a:=a' } Sa Sb vs xs:=by
 have r:=h.rest
 exact ⟨hblk,⟨ho,Zcb r.opn hk h.blk r.atom (by decide) (by decide),Zcb r.vars hk h.blk r.atom (by decide) (by decide),Zez r.head hk h.blk r.atom (Or.inr r.ta),
  Zfc r.body hk h.blk r.atom (Or.inr r.ta) (Or.inl (by decide)),Zij r.cls hk h.blk r.atom (Or.inr r.ta) (Or.inl (by decide)) (by decide) (Or.inl (by decide)),hta,r.tb,r.tv,Qq r.la hk.size,Qq r.lb hk.size⟩,h.le⟩
theorem SymRow.more {v:Value} {l:List Sym} {S':Nat} (h:SymRow w B Sa v l) (hS:Sa≤S'):SymRow w B S' v l:=⟨h.1,fun k hk=>Nat.lt_of_lt_of_le (h.2 k hk) hS⟩
theorem BodyRow.more {v:Value} {ls:List (List Sym)} {ws:List Value} {S':Nat} (h:BodyRow w B Sa v ls ws) (hS:Sa≤S'):BodyRow w B S' v ls ws :=
 ⟨h.1,fun i l hl=>by obtain ⟨x,h1,h2⟩:=h.2 i l hl; exact ⟨x,h1,h2.more hS⟩⟩
theorem CCRow.more {v:Value} {cs:List CC} {ys:List (List Value)} {S' T':Nat} (h:CCRow w B Sa Sb v cs ys) (hS:Sa≤S') (hT:Sb≤T'):CCRow w B S' T' v cs ys :=
 ⟨h.1,h.2.1,h.2.2.1,fun i c hc=>by
  obtain ⟨hv,bv,vv,us,e1,e2,e3,e4⟩:=h.2.2.2 i c hc
  exact ⟨hv,bv,vv,us,e1,e2.more hS,e3.more hS,fun k hk=>Nat.lt_of_lt_of_le (e4.1 k hk) hT,e4.2.1,fun k hk=>Nat.lt_of_lt_of_le (e4.2.2 k hk) hT⟩⟩
theorem IsR.headed (h:IsR w B rb st V Sa Sb vs xs) (hk:Kept (Zes rb (.slice none 0 0)) w w') (hblk:w'.heap[rb]?=some (.cells (Zde { st with head:=st.atom,atom:=[] } { V with h:=V.a,a := .slice none 0 0 }) 169 (0,0))) :
  IsR w' B rb { st with head:=st.atom,atom:=[] } { V with h:=V.a,a := .slice none 0 0 } w'.heap.size Sb vs xs:=by
 have hX:w.ownsRow B 169 1 (.slice none 0 0) 0 []:=World.ownsRow_nil _ _ _ _
 have r:=h.rest
 have hs:Sa≤w'.heap.size:=Qq r.la hk.size
 have ha:=Zcb r.atom hk h.blk hX (by decide) (by decide)
 exact ⟨hblk,⟨World.ownsRow_nil _ _ _ _,Zcb r.opn hk h.blk hX (by decide) (by decide),Zcb r.vars hk h.blk hX (by decide) (by decide),⟨ha,fun k e=>(ha.lt k e).2⟩,
  (Zfc r.body hk h.blk hX (Or.inl (by decide)) (Or.inl (by decide))).more hs,(Zij r.cls hk h.blk hX (Or.inl (by decide)) (Or.inl (by decide)) (by decide) (Or.inl (by decide))).more hs (Qe _),fun k e=>by simp [Value.ownBlock] at e,r.tb,r.tv,Qe _,Qq r.lb hk.size⟩,h.le⟩
theorem IsR.bodied (h:IsR w B rb st V Sa Sb vs xs) (hk:Kept (Zes rb V.b) w w') (b':Value) (hblk:w'.heap[rb]?=some (.cells (Zde { st with body:=st.body++[st.atom],atom:=[] } { V with b:=b',a := .slice none 0 0 }) 169 (0,0)))
  (ho:w'.ownsRow B 105 1 b' (st.body.length+1) (vs++[V.a])) (htb:∀ k,b'.ownBlock=some k→Sb≤k) :
  IsR w' B rb { st with body:=st.body++[st.atom],atom:=[] } { V with b:=b',a := .slice none 0 0 } w'.heap.size Sb (vs++[V.a]) xs:=by
 have r:=h.rest
 have hs:Sa≤w'.heap.size:=Qq r.la hk.size
 have ha:=Zcb r.atom hk h.blk r.body.1 (by decide) (by decide)
 have hvl:vs.length=st.body.length:=by have:=r.body.1.1; omega
 refine ⟨hblk,⟨World.ownsRow_nil _ _ _ _,Zcb r.opn hk h.blk r.body.1 (by decide) (by decide),Zcb r.vars hk h.blk r.body.1 (by decide) (by decide),(Zez r.head hk h.blk r.body.1 (Or.inl (by decide))).more hs,?_,
  (Zij r.cls hk h.blk r.body.1 (Or.inl (by decide)) (Or.inr r.tb) (by decide) (Or.inl (by decide))).more hs (Qe _),fun k e=>by simp [Value.ownBlock] at e,htb,r.tv,Qe _,Qq r.lb hk.size⟩,h.le⟩
 refine ⟨by simpa using ho,fun i l hl => ?_⟩
 rcases Nat.lt_or_ge i st.body.length with hi | hi
 ·simp only at hl
  rw [Qc hi] at hl
  obtain ⟨x,h1,h2⟩:=r.body.2 i l hl
  exact ⟨x,by rw [Qc (by omega)]; exact h1,(Zez h2 hk h.blk r.body.1 (Or.inl (by decide))).more hs⟩
 ·have hi':i=st.body.length:=by
   have:i<(st.body++[st.atom]).length:=(Qa.1 hl).1
   simp at this; omega
  subst hi'
  simp at hl
  subst hl
  exact ⟨V.a,by rw [← hvl]; simp,ha,fun k e=>(ha.lt k e).2⟩
theorem IsR.clausd (h:IsR w B rb st V Sa Sb vs xs) (hk:Kept (Zes rb V.c) w w') (c':Value) (st':RS) (hblk:w'.heap[rb]?=some (.cells (Zde st' { V with c:=c',h := .slice none 0 0,b := .slice none 0 0,v := .slice none 0 0 }) 169 (0,0)))
  (ho:w'.ownsRow B 107 3 c' (st.clauses.length+1) (xs.flatten++[V.h,V.b,V.v]))
  (e1:st'.atom=st.atom) (e2:st'.opn=st.opn) (e3:st'.vars=[]) (e4:st'.head=[]) (e5:st'.body=[]) (e6:st'.clauses=st.clauses++[⟨st.head,st.body,st.vars⟩]) :
  IsR w' B rb st' { V with c:=c',h := .slice none 0 0,b := .slice none 0 0,v := .slice none 0 0 } Sa w'.heap.size [] (xs++[[V.h,V.b,V.v]]):=by
 have r:=h.rest
 have hs:Sb≤w'.heap.size:=Qq r.lb hk.size
 have hbd:=Zfc r.body hk h.blk r.cls.1 (Or.inl (by decide)) (Or.inl (by decide))
 have hvd:=Zcb r.vars hk h.blk r.cls.1 (by decide) (by decide)
 refine ⟨hblk,⟨?_,?_,?_,?_,?_,?_,r.ta,fun k e=>by simp [Value.ownBlock] at e,fun k e=>by simp [Value.ownBlock] at e,Qq r.la hk.size,Qe _⟩,h.le⟩
 ·rw [e1]; exact Zcb r.atom hk h.blk r.cls.1 (by decide) (by decide)
 ·rw [e2]; exact Zcb r.opn hk h.blk r.cls.1 (by decide) (by decide)
 ·rw [e3]; exact World.ownsRow_nil _ _ _ _
 ·rw [e4]; exact ⟨World.ownsRow_nil _ _ _ _,fun k e=>by simp [Value.ownBlock] at e⟩
 ·rw [e5]; exact ⟨World.ownsRow_nil _ _ _ _,fun i l hl=>by simp at hl⟩
 ·rw [e6]
  refine ⟨by simpa using ho,by simp [r.cls.2.1],?_,fun i c hc => ?_⟩
  ·intro x hx
   simp at hx
   rcases hx with hx | rfl
   ·exact r.cls.2.2.1 x hx
   ·rfl
  ·rcases Nat.lt_or_ge i st.clauses.length with hi | hi
   ·rw [Qc hi] at hc
    obtain ⟨hv,bv,vv,us,d1,d2,d3,d4⟩:=r.cls.2.2.2 i c hc
    exact ⟨hv,bv,vv,us,by rw [Qc (by rw [r.cls.2.1]; exact hi)]; exact d1,Zez d2 hk h.blk r.cls.1 (Or.inl (by decide)),Zfc d3 hk h.blk r.cls.1 (Or.inl (by decide)) (Or.inl (by decide)),fun k e=>Nat.lt_of_lt_of_le (d4.1 k e) hs,Zcb d4.2.1 hk h.blk r.cls.1 (by decide) (by decide),fun k e=>Nat.lt_of_lt_of_le (d4.2.2 k e) hs⟩
   ·have hi':i=st.clauses.length:=by
     have:i<(st.clauses++[(⟨st.head,st.body,st.vars⟩:CC)]).length:=(Qa.1 hc).1
     simp at this; omega
    subst hi'
    simp at hc
    subst hc
    exact ⟨V.h,V.b,V.v,vs,by rw [← r.cls.2.1]; simp,Zez r.head hk h.blk r.cls.1 (Or.inl (by decide)),hbd,fun k e=>(hbd.1.lt k e).2,hvd,fun k e=>(hvd.lt k e).2⟩
end
end Go.Proofs.YtlmjilpjmgjjcaaGreatDoor
