/-
  PROVED HERE: what the reference's 'Warrant' writes of a node that lies in memory (the conditions stand in each statement).
-/
import Derived.Test.YtlmjilpjmgjjcabGreatDoorT3
import Derived.Laws.OwnMore
import Derived.Orders
import Derived.BigQuiet
import Derived.Deep.QuietTactic
import Derived.Deep.RegionWith
import Derived.Lib.ItoaLen
import Derived.Shelf.LaysM
import Derived.Shelf.Strconv.Itoa3
import Derived.Lib.AppendIntMem
import Derived.Lib.Strings
import Derived.Deep.CutRange
set_option linter.unusedSimpArgs false
set_option linter.unusedVariables false
set_option maxRecDepth 10000
set_option maxHeartbeats 4000000
namespace Go.Proofs.YtlmjilpjmgjjcabGreatDoor
open Go.RowKit
def GT.tk:GT→Nat→List Tok
 | .v s,p=>[⟨2,s,p⟩]
 | .n s,p=>[⟨1,s,p⟩]
 | .f s t,p=>⟨1,s,p⟩::⟨40,[40],p+s.length⟩::(t.tk (p+s.length+1)++[⟨41,[41],p+s.length+1+t.text.length⟩])
 | .g s t u,p=>⟨1,s,p⟩::⟨40,[40],p+s.length⟩::(t.tk (p+s.length+1)++(⟨44,[44],p+s.length+1+t.text.length⟩::(u.tk (p+s.length+1+t.text.length+1)++[⟨41,[41],p+s.length+1+t.text.length+1+u.text.length⟩])))
theorem Zke {b:ByteArray} {k:Nat} {s rest:List UInt8} (hs:Zkc b s=true) (hb:(b=Zek∧k=1)∨(b=Zhz∧k=2)) (hr:Zbm rest=0) (p:Nat):toks (s++rest) p=⟨k,s,p⟩::toks rest (p+s.length):=by
 cases s with
 | nil=>simp [Zkc] at hs
 | cons c r =>
  simp only [Zkc,Bool.and_eq_true,beq_iff_eq] at hs
  obtain ⟨⟨h1,h2⟩,_⟩:=hs
  have hc:inB c Zhw=true:=by
   rcases hb with ⟨rfl,_⟩ | ⟨rfl,_⟩
   ·exact Zfv h1
   ·exact Zgq h1
  have hh:Zbn c (r++rest)=(k,r.length):=by
   unfold Zbn
   rcases hb with ⟨rfl,rfl⟩ | ⟨rfl,rfl⟩
   ·rw [if_pos h1,Zhl h2 hr]
   ·rw [if_neg (by simp [Zlr h1]),if_pos h1,Zhl h2 hr]
  rw [List.cons_append,Zfw _ _ _ (Zmx hc),hh]
  simp only
  rw [List.drop_left]
  have e1:(c::(r++rest)).take (r.length+1)=c::r:=by simp
  rw [e1,show p+r.length+1=p+(c::r).length by simp; omega]
theorem Zer {c:UInt8} {rest:List UInt8} (h:c=40∨c=41∨c=44∨c=46) (p:Nat):toks (c::rest) p=⟨c.toNat,[c],p⟩::toks rest (p+1):=by
 have hb:Zhh c=false∧Zbn c rest=(c.toNat,0):=by
  rcases h with rfl | rfl | rfl | rfl
  all_goals
   refine ⟨by decide,?_⟩
   unfold Zbn
   rw [if_neg (by decide +kernel),if_neg (by decide +kernel),if_pos (by decide +kernel)]
 rw [Zfw _ _ _ hb.1,hb.2]
 simp
theorem Zzg {rest:List UInt8} (p:Nat):toks (58::45::rest) p=⟨3,[58,45],p⟩::toks rest (p+2):=by
 have hh:Zbn 58 (45::rest)=(3,1):=by
  unfold Zbn
  rw [if_neg (by decide +kernel),if_neg (by decide +kernel),if_neg (by decide +kernel),if_pos ⟨rfl,rfl⟩]
 rw [Zfw _ _ _ (by decide),hh]
 simp
theorem Zkf (t:GT):∀ (rest:List UInt8) (p:Nat),t.ok=true→Zbm rest=0→toks (t.text++rest) p=t.tk p++toks rest (p+t.text.length):=by
 induction t with
 | v s=>intro rest p h hr; exact Zke h (Or.inr ⟨rfl,rfl⟩) hr p
 | n s=>intro rest p h hr; exact Zke h (Or.inl ⟨rfl,rfl⟩) hr p
 | f s t ih =>
  intro rest p h hr
  simp only [GT.ok,Bool.and_eq_true] at h
  simp only [GT.text,GT.tk,Qi,List.cons_append,List.nil_append]
  rw [Zke h.1 (Or.inl ⟨rfl,rfl⟩) (Zbf _ _ (by decide +kernel)),Zer (Or.inl rfl),ih _ _ h.2 (Zbf _ _ (by decide +kernel)),Zer (Or.inr (Or.inl rfl))]
  have e:p+s.length+1+t.text.length+1=p+(s++40::(t.text++[41])).length:=by simp; omega
  rw [e]
  rfl
 | g s t u iht ihu =>
  intro rest p h hr
  simp only [GT.ok,Bool.and_eq_true] at h
  simp only [GT.text,GT.tk,Qi,List.cons_append,List.nil_append]
  rw [Zke h.1 (Or.inl ⟨rfl,rfl⟩) (Zbf _ _ (by decide +kernel)),Zer (Or.inl rfl),iht _ _ h.2.1 (Zbf _ _ (by decide +kernel)),Zer (Or.inr (Or.inr (Or.inl rfl))),ihu _ _ h.2.2 (Zbf _ _ (by decide +kernel)),Zer (Or.inr (Or.inl rfl))]
  have e:p+s.length+1+t.text.length+1+u.text.length+1=p+(s++40::(t.text++44::(u.text++[41]))).length:=by simp; omega
  rw [e]
  rfl
def GT.syms:GT→Names→List Sym × Names
 | .v s,N=>([⟨[],(Zbr N s).2,0⟩],(Zbr N s).1)
 | .n s,N=>([⟨s,0,0⟩],N)
 | .f s t,N=>(⟨s,0,1⟩::(t.syms N).1,(t.syms N).2)
 | .g s t u,N=>(⟨s,0,2⟩::((t.syms N).1++(u.syms (t.syms N).2).1),(u.syms (t.syms N).2).2)
theorem Ziq (t:GT):∀ (f p:Nat) (x:Tok) (rest:List Tok) (N:Names),t.size≤f→x.kind≠40→Zda f (t.tk p++x::rest) N=some ((t.syms N).1,x::rest,(t.syms N).2):=by
 induction t with
 | v s =>
  intro f p x rest N hf hx
  obtain ⟨g,rfl⟩:∃ g,f=g+1:=⟨f - 1,by simp [GT.size] at hf; omega⟩
  simp [GT.tk,GT.syms,Zda]
 | n s =>
  intro f p x rest N hf hx
  obtain ⟨g,rfl⟩:∃ g,f=g+1:=⟨f - 1,by simp [GT.size] at hf; omega⟩
  simp [GT.tk,GT.syms,Zda,Zju,hx]
 | f s t ih =>
  intro f p x rest N hf hx
  simp only [GT.size] at hf
  obtain ⟨g,rfl⟩:∃ g,f=g+1:=⟨f - 1,by omega⟩
  simp only [GT.tk,List.cons_append,Qi,List.nil_append,Zda]
  rw [if_neg (by simp)]
  simp only [Zju]
  rw [if_neg (by simp)]
  simp only [Qg,Qf]
  rw [Zeo,if_neg (by simp),ih g _ ⟨41,[41],_⟩ (x::rest) N (by omega) (by simp)]
  simp only
  rw [show (t.tk (p+s.length+1)).length+(rest.length+1+1)=((t.tk (p+s.length+1)).length+(rest.length+1))+1 by omega,Zeo]
  simp [GT.syms]
 | g s t u iht ihu =>
  intro f p x rest N hf hx
  simp only [GT.size] at hf
  obtain ⟨g,rfl⟩:∃ g,f=g+1:=⟨f - 1,by omega⟩
  simp only [GT.tk,List.cons_append,Qi,List.nil_append,Zda]
  rw [if_neg (by simp)]
  simp only [Zju]
  rw [if_neg (by simp)]
  simp only [Qg,Qf]
  rw [Zeo,if_neg (by simp),iht g _ ⟨44,[44],_⟩ _ N (by omega) (by simp)]
  simp only
  rw [show (t.tk (p+s.length+1)).length+((u.tk (p+s.length+1+t.text.length+1)).length+(rest.length+1+1)+1)=((t.tk (p+s.length+1)).length+((u.tk (p+s.length+1+t.text.length+1)).length+(rest.length+1))+1)+1 by omega,Zeo,if_neg (by simp),ihu g _ ⟨41,[41],_⟩ (x::rest) _ (by omega) (by simp)]
  simp only
  rw [Zeo]
  simp [GT.syms]
def Zls:GT→List GT→Nat→List Tok
 | t,[],p=>t.tk p
 | t,u::r,p=>t.tk p++(⟨44,[44],p+t.text.length⟩::Zls u r (p+t.text.length+1))
theorem Zrx:∀ (r:List GT) (t:GT) (rest:List UInt8) (p:Nat),t.fine=true→(∀ u ∈ r,u.fine=true)→Zbm rest=0→toks (Zdp t r++rest) p=Zls t r p++toks rest (p+(Zdp t r).length):=by
 intro r
 induction r with
 | nil=>intro t rest p ht _ hr; exact Zkf t rest p (GT.fine_iff ht).2.1 hr
 | cons u r ih =>
  intro t rest p ht hu hr
  simp only [Zdp,Zls,Qi,List.cons_append]
  rw [Zkf t _ _ (GT.fine_iff ht).2.1 (Zbf _ _ (by decide +kernel)),Zer (Or.inr (Or.inr (Or.inl rfl))),ih u rest _ (hu u (by simp)) (fun x hx=>hu x (by simp [hx])) hr]
  have e:p+t.text.length+1+(Zdp u r).length=p+(t.text++44::Zdp u r).length:=by simp; omega
  rw [e]
  rfl
def Zfm:List GT→Names→List (List Sym) × Names
 | [],N=>([],N)
 | t::r,N=>((t.syms N).1::(Zfm r (t.syms N).2).1,(Zfm r (t.syms N).2).2)
theorem Zmy:∀ (r:List GT) (t:GT) (g p d:Nat) (rest:List Tok) (N:Names) (acc:List (List Sym)),t.fine=true→(∀ u ∈ r,u.fine=true)→r.length<g→Zdh 1000 g (Zls t r p++⟨46,[46],d⟩::rest) N acc=some (acc++(Zfm (t::r) N).1,rest,(Zfm (t::r) N).2):=by
 intro r
 induction r with
 | nil =>
  intro t g p d rest N acc ht _ hg
  obtain ⟨k,rfl⟩:∃ k,g=k+1:=⟨g - 1,by omega⟩
  simp only [Zls,Zdh]
  rw [Ziq t 1000 p ⟨46,[46],d⟩ rest N (by have:=(GT.fine_iff ht).2.2; omega) (by simp)]
  simp [Zfm]
 | cons u r ih =>
  intro t g p d rest N acc ht hu hg
  simp only [Qf] at hg
  obtain ⟨k,rfl⟩:∃ k,g=k+1:=⟨g - 1,by omega⟩
  simp only [Zls,Qi,List.cons_append,Zdh]
  rw [Ziq t 1000 p ⟨44,[44],_⟩ _ N (by have:=(GT.fine_iff ht).2.2; omega) (by simp)]
  simp only
  rw [if_neg (by simp),ih u k _ d rest _ _ (hu u (by simp)) (fun x hx=>hu x (by simp [hx])) (by omega)]
  simp [Zfm]
def clTk (a:GT):List GT→Nat→List Tok
 | [],p=>a.tk p++[⟨46,[46],p+a.text.length⟩]
 | t::r,p=>a.tk p++(⟨3,[58,45],p+a.text.length⟩::(Zls t r (p+a.text.length+2)++[⟨46,[46],p+a.text.length+2+(Zdp t r).length⟩]))
theorem Zuo (c:GT × List GT) (hc:ClFine c) (rest:List UInt8) (p:Nat):toks (clT c.1 c.2++rest) p=clTk c.1 c.2 p++toks rest (p+(clT c.1 c.2).length):=by
 obtain ⟨a,b⟩:=c
 obtain ⟨h1,h2,h3⟩:=hc
 simp only at h1 h2 h3 ⊢
 cases b with
 | nil =>
  simp only [clT,clTk,Qi,List.cons_append,List.nil_append]
  rw [Zkf a _ _ (GT.fine_iff h1).2.1 (Zbf _ _ (by decide +kernel)),Zer (Or.inr (Or.inr (Or.inr rfl)))]
  have e:p+a.text.length+1=p+(a.text++[46]).length:=by simp; omega
  rw [e]
  rfl
 | cons t r =>
  simp only [clT,clTk,Qi,List.cons_append,List.nil_append]
  rw [Zkf a _ _ (GT.fine_iff h1).2.1 (Zbf _ _ (by decide +kernel)),Zzg,Zrx r t _ _ (h2 t (by simp)) (fun x hx=>h2 x (by simp [hx])) (Zbf _ _ (by decide +kernel)),Zer (Or.inr (Or.inr (Or.inr rfl)))]
  have e:p+a.text.length+2+(Zdp t r).length+1=p+(a.text++58::45::(Zdp t r++[46])).length:=by simp; omega
  rw [e]
  rfl
def clOf (c:GT × List GT):Cls:=⟨(c.1.syms []).1,(Zfm c.2 (c.1.syms []).2).1,(Zfm c.2 (c.1.syms []).2).2⟩
theorem Zry (c:GT × List GT) (hc:ClFine c) (p:Nat) (rest:List Tok):Zeq (clTk c.1 c.2 p++rest)=some (clOf c,rest):=by
 obtain ⟨a,b⟩:=c
 obtain ⟨h1,h2,h3⟩:=hc
 simp only at h1 h2 h3 ⊢
 cases b with
 | nil =>
  simp only [clTk,Qi,List.cons_append,List.nil_append,Zeq]
  rw [Ziq a 1000 p ⟨46,[46],_⟩ rest [] (by have:=(GT.fine_iff h1).2.2; omega) (by simp)]
  simp [clOf,Zfm]
 | cons t r =>
  simp only [Qf] at h3
  simp only [clTk,Qi,List.cons_append,List.nil_append,Zeq]
  rw [Ziq a 1000 p ⟨3,[58,45],_⟩ _ [] (by have:=(GT.fine_iff h1).2.2; omega) (by simp)]
  simp only
  rw [if_pos trivial,Zmy r t 1000 _ _ rest _ [] (h2 t (by simp)) (fun x hx=>h2 x (by simp [hx])) (by omega)]
  simp [clOf]
def Zoi:List (GT × List GT)→Nat→List Tok
 | [],_=>[]
 | c::P,p=>clTk c.1 c.2 p++Zoi P (p+(clT c.1 c.2).length)
theorem Ydf:∀ (P:List (GT × List GT)) (p:Nat),(∀ c ∈ P,ClFine c)→toks (Zec P) p=Zoi P p:=by
 intro P
 induction P with
 | nil=>intro p _; rfl
 | cons c P ih =>
  intro p hc
  rw [show Zec (c::P)=clT c.1 c.2++Zec P by simp [Zec],Zuo c (hc c (by simp)),ih _ (fun x hx=>hc x (by simp [hx]))]
  rfl
theorem Yji (t:GT) (h:t.atom=true) (p:Nat):∃ x r,t.tk p=x::r∧x.kind=1:=by
 cases t with
 | v s=>simp [GT.atom] at h
 | n s=>exact ⟨_,_,rfl,rfl⟩
 | f s t=>exact ⟨_,_,rfl,rfl⟩
 | g s t u=>exact ⟨_,_,rfl,rfl⟩
theorem Zzh:∀ (P:List (GT × List GT)) (g p d:Nat) (acc:List Cls),(∀ c ∈ P,ClFine c)→P.length<g→Zhj g (Zoi P p++[⟨4,[],d⟩]) acc=some (acc++P.map clOf):=by
 intro P
 induction P with
 | nil =>
  intro g p d acc _ hg
  obtain ⟨k,rfl⟩:∃ k,g=k+1:=⟨g - 1,by omega⟩
  simp [Zoi,Zhj]
 | cons c P ih =>
  intro g p d acc hc hg
  simp only [Qf] at hg
  obtain ⟨k,rfl⟩:∃ k,g=k+1:=⟨g - 1,by omega⟩
  have hcc:=hc c (by simp)
  obtain ⟨x,r,hx,hx1⟩:=Yji c.1 (GT.fine_iff hcc.head).1 p
  obtain ⟨r',hr'⟩:∃ r',clTk c.1 c.2 p=x::r':=by
   cases hb:c.2 with
   | nil=>exact ⟨_,by simp only [clTk]; rw [hx]; rfl⟩
   | cons t q=>exact ⟨_,by simp only [clTk]; rw [hx]; rfl⟩
  have hpc:=Zry c hcc p (Zoi P (p+(clT c.1 c.2).length)++[⟨4,[],d⟩])
  simp only [Zoi,Qi]
  rw [hr'] at hpc ⊢
  simp only [List.cons_append] at hpc ⊢
  rw [Zhj,if_neg (by omega),hpc]
  simp only
  rw [ih k _ d _ (fun y hy=>hc y (by simp [hy])) (by omega)]
  simp
theorem Zup (P:List (GT × List GT)) (hc:∀ c ∈ P,ClFine c) (hl:P.length≤24) (hs:(Zec P).length≤800):Zcl ⟨(Zec P).toArray⟩=some (P.map clOf):=by
 obtain ⟨cs,h⟩:=Ygn P hc hl hs
 rw [h]
 unfold Zcl at h
 split at h
 ·simp at h
 ·split at h
  ·simp at h
  ·unfold Zbb at h
   rw [show (⟨(Zec P).toArray⟩:ByteArray).data.toList=Zec P from rfl,Ydf P 0 hc,Zzh P 1000 0 _ [] hc (by omega)] at h
   simpa using h.symm
theorem Zzi (t:GT) (r:List GT) (ht:t.fine=true) (hr:∀ u ∈ r,u.fine=true) (hl:r.length<6) (hs:(Zdp t r++[46]).length≤120):Zdx ⟨(Zdp t r++[46]).toArray⟩=some (Zfm (t::r) []):=by
 obtain ⟨a,h⟩:=Yjh t r ht hr hl hs
 rw [h]
 unfold Zdx at h
 split at h
 ·simp at h
 ·split at h
  ·simp at h
  ·unfold Zbb at h
   have e:toks (⟨(Zdp t r++[46]).toArray⟩:ByteArray).data.toList 0=Zls t r 0++[⟨46,[46],0+(Zdp t r).length⟩]:=by
    show toks (Zdp t r++[46]) 0=_
    rw [Zrx r t _ _ ht hr (Zbf _ _ (by decide +kernel)),Zer (Or.inr (Or.inr (Or.inr rfl)))]
    rfl
   rw [e,Qi,List.singleton_append,Zmy r t 1000 0 _ _ [] [] ht hr (by omega)] at h
   simpa using h.symm
def Zzj (w:World) (size:Nat) (xv:Value) (m:Nat) (news:List Value):Prop :=
 news.length=m * size∧(∀ u ∈ news,u.oneCell'=true)∧((m=0∧xv = .slice none 0 0)∨∃ a c,xv = .slice (some a) m c∧∀ j u,news[j]?=some u→w.cell? (a.add j)=some u)
theorem Zuq {P:Program} (w:World) (t ty:TypeId) (base:Nat) (e:TypeId) {z:Value} {size bytes:Nat}
  (hinfo:(P.info? e).map (fun i=>(i.zero,i.size,i.bytes))=some (some z,size,bytes)) (ht:P.underlying t=some (.slice e)) (hzs:z.cells.size=size) (hsz:0<size)
  (v:Value) (n:Nat) (xs:List Value) (hown:w.ownsRow base e size v n xs) (xv:Value) (m:Nat) (news:List Value) (hx:Zzj w size xv m news)
  (hbig:(n+m) * (bytes+1)≤140737488355328) (hbase:base≤w.heap.size) :
  ∃ v' w',(Builtin.append_ #[t,t] ty #[v,xv]).run P w = .ok v' w'∧Appended w base e size v (n+m) (xs++news) v' w':=by
 obtain ⟨i,hi,hz,hsi,hby⟩:=info_parts hinfo
 have hb1:n+m≤140737488355328:=Qq (Nat.le_mul_of_pos_right (n+m) (Nat.succ_pos bytes)) hbig
 have hb2:(n+m) * bytes≤140737488355328:=Qq (Nat.mul_le_mul_left _ (Nat.le_succ _)) hbig
 have h63:n+m≤maxLen:=by simp only [maxLen]; omega
 obtain ⟨hl,h1,⟨rfl,rfl⟩ | ⟨a,c,rfl,hnews⟩⟩:=hx
 ·have hn:news=[]:=List.eq_nil_of_length_eq_zero (by simpa using hl)
  subst hn
  exact ⟨v,w,run_append_owned_none w base t ty e i size ht hi v n xs hown,by simpa using hown,Qx _ _,Or.inl rfl⟩
 ·obtain ⟨v',w',hr,hA,hB,hC⟩:=run_append_own (P:=P) w base t ty e i z size bytes ht hi hz hsi hby hzs hsz v n xs hown a m c news hl hnews h1 h63 hb2 hbase
  refine ⟨v',w',hr,hA,Kept.of_grown hB |>.mono (fun k _ h=>h),?_⟩
  rcases Nat.eq_zero_or_pos m with rfl | hm
  ·rcases hown.2 with ⟨rfl,rfl⟩ | ⟨g,cap,cur,rfl,hbg,hg,hnc,hcm,hcs,htake⟩
   ·have:=hC.2 ⟨rfl,rfl⟩
    rw [this]; exact Or.inl rfl
   ·have hfit:n * i.size+news.length≤cur.size:=by rw [hl,hcs,hsi]; simp; exact Nat.mul_le_mul_right _ hnc
    have hr':=run_append_room (P:=P) w t ty e i ht hi g n cap cur hg a 0 c news (by rw [hsi]; exact hl) hnews h1 (by omega) hfit
    rw [hr'] at hr
    injection hr with h2 h3
    subst h2
    exact Or.inl rfl
  ·subst hsi hby
   rcases Zhu (P:=P) w base t ty e i z ht hi hz v n xs hown a m c news hl hm hnews h1 h63 hb2 v' w' hr with h | h
   ·exact .inl h
   ·exact .inr ⟨_,h,Qe _⟩
theorem Zzk {P:Program} {o:Oper} {a:Act} {K:Act→World→Prop} {Q:Exit→Act→World→Prop} (w:World) (s x:Operand) (t:TypeId)
  (ho:o.op = .call { callee := .builtin .append,args:=#[s,x],argTypes:=#[t,t] })
  (base:Nat) (e:TypeId) {z:Value} {size bytes:Nat}
  (hinfo:(P.info? e).map (fun i=>(i.zero,i.size,i.bytes))=some (some z,size,bytes)) (ht:P.underlying t=some (.slice e)) (hzs:z.cells.size=size) (hsz:0<size)
  (v:Value) (n:Nat) (xs:List Value) (hs:a.eval s=v) (hown:w.ownsRow base e size v n xs) (xv:Value) (m:Nat) (news:List Value) (hx:a.eval x=xv) (hr:Zzj w size xv m news)
  (hbig:(n+m) * (bytes+1)≤140737488355328) (hbase:base≤w.heap.size)
  (h:∀ v' w',Appended w base e size v (n+m) (xs++news) v' w'→K (a.put o.dst v') w'):o.wp P a w K Q:=by
 obtain ⟨v',w',hrun,hA⟩:=Zuq (P:=P) w t o.type base e hinfo ht hzs hsz v n xs hown xv m news hr hbig hbase
 unfold Oper.wp
 simp [execOp,ho,resolve,invoke,builtin,hs,hx,hrun,Result.andThen]
 exact h v' w' hA
theorem Zjd {P:Program} {ops:Array Oper} {rest:List Oper} {o:Oper} {a:Act} {Q:Exit→Act→World→Prop} (w:World) (hgd:o.guard=none) (s x:Operand) (t:TypeId)
  (ho:o.op = .call { callee := .builtin .append,args:=#[s,x],argTypes:=#[t,t] })
  (base:Nat) (e:TypeId) {z:Value} {size bytes:Nat}
  (hinfo:(P.info? e).map (fun i=>(i.zero,i.size,i.bytes))=some (some z,size,bytes)) (ht:P.underlying t=some (.slice e)) (hzs:z.cells.size=size) (hsz:0<size)
  (v:Value) (n:Nat) (xs:List Value) (hs:a.eval s=v) (hown:w.ownsRow base e size v n xs) (xv:Value) (m:Nat) (news:List Value) (hx:a.eval x=xv) (hr:Zzj w size xv m news)
  (hbig:(n+m) * (bytes+1)≤140737488355328) (hbase:base≤w.heap.size)
  (h:∀ v' w',Appended w base e size v (n+m) (xs++news) v' w'→wpList P ops Q rest (a.put o.dst v') w'):wpList P ops Q (o::rest) a w :=
 wpList_plain hgd fun _ hK=>Zzk w s x t ho base e hinfo ht hzs hsz v n xs hs hown xv m news hx hr hbig hbase fun v' w' h2=>hK _ _ (h v' w' h2)
theorem Zrz {w:World} {B:Nat} {e:TypeId} {size n:Nat} {v:Value} {xs:List Value} (h:w.ownsRow B e size v n xs) (h1:∀ u ∈ xs,u.oneCell'=true):Zzj w size v n xs:=by
 refine ⟨h.1,h1,?_⟩
 rcases h.2 with ⟨rfl,rfl⟩ | ⟨g,cap,cur,rfl,_⟩
 ·exact Or.inl ⟨rfl,rfl⟩
 ·exact Or.inr ⟨⟨g,0,none⟩,cap,rfl,fun j u hu=>h.cells (g:=g) rfl j u hu⟩
abbrev Ext (w w':World):Prop:=Below w.heap.size w w'
section inv
variable {P:Program} {ops:Array Oper} {Q:Exit→Act→World→Prop} {md:Region.Mode}
def unl (ops:Array Oper) (L:Array Bool):Nat:=((List.range ops.size).filter (fun i => !L.getD i true)).length
theorem Zsa {α:Type} {p q:α→Bool} {l:List α} (h:∀ x ∈ l,q x=true→p x=true) {x:α} (hx:x ∈ l) (hp:p x=true) (hq:q x=false):(l.filter q).length<(l.filter p).length:=by
 induction l with
 | nil=>simp at hx
 | cons y l ih =>
  have hle:(l.filter q).length≤(l.filter p).length:=by
   clear ih hx
   induction l with
   | nil=>simp
   | cons z l ih =>
    have h1:=h z (by simp)
    have h2:=ih (fun u hu=>h u (by
     rcases Qp.1 hu with rfl | hu
     ·simp
     ·simp [hu]))
    simp only [List.filter_cons]
    split
    ·rename_i hz
     rw [if_pos (h1 hz)]; simp; omega
    ·split <;> simp <;> omega
  simp only [List.filter_cons]
  rcases Qp.1 hx with rfl | hx
  ·rw [hp,hq]; simp; omega
  ·have:=ih (fun u hu=>h u (by simp [hu])) hx
   split
   ·rename_i hy
    rw [if_pos (h y (by simp) hy)]; simp; omega
   ·split <;> simp <;> omega
theorem Ydg {L:Array Bool} {i:Nat} (hi:i<ops.size) (hl:L.getD i true=false):unl ops (L.setIfInBounds i true)<unl ops L:=by
 have hil:i<L.size:=by
  rcases Nat.lt_or_ge i L.size with h | h
  ·exact h
  ·simp [Array.getElem?_eq_none h] at hl
 refine Zsa (x:=i) (fun j _ hj => ?_) (List.mem_range.2 hi) (by simp at hl ⊢; exact hl) (by simp [hil])
 by_cases e:i=j
 ·subst e; simp [hil] at hj
 ·rw [getD_set_ne true e] at hj; exact hj
theorem Zmz {J:Array Bool→Act→World→Prop} (hs:∀ L a w i,i ∈ Region.ready md ops L→J L a w→wpOp P ops Q i (J (L.setIfInBounds i true)) a w)
  (hf:∀ L a w,Region.ready md ops L=[]→J L a w→Q .normal a w):∀ (fuel:Nat) (L:Array Bool) (a:Act) (w:World),unl ops L≤fuel→J L a w→wpAny P md ops Q fuel L a w:=by
 intro fuel
 induction fuel with
 | zero =>
  intro L a w hu hJ
  have hr:Region.ready md ops L=[]:=by
   cases h:Region.ready md ops L with
   | nil=>rfl
   | cons i r =>
    have hi:i ∈ Region.ready md ops L:=by rw [h]; simp
    obtain ⟨h0,o,ho,_⟩:=mem_ready.1 hi
    have:=Ydg (ops:=ops) (Array.getElem?_eq_some_iff.1 ho).1 h0
    omega
  exact ⟨hr,hf L a w hr hJ⟩
 | succ fuel ih =>
  intro L a w hu hJ
  refine ⟨fun hr=>hf L a w hr hJ,fun i hi=>wpOp_mono (fun a' w' h=>ih _ a' w' ?_ h) (hs L a w i hi hJ)⟩
  obtain ⟨h0,o,ho,_⟩:=mem_ready.1 hi
  have:=Ydg (ops:=ops) (Array.getElem?_eq_some_iff.1 ho).1 h0
  omega
end inv
inductive Kd where
 | pur (c:Value)
 | post (g:Value→Value)
 | cal
 | alo (t:TypeId) (z:Array Value) (s:Nat) (cs:Value→Array Value)
 | sto (i:Nat)
def Kd.val (vc:Value) (β:Nat→Nat) (i:Nat):Kd→Value
 | .pur c=>c
 | .post g=>g vc
 | .cal=>vc
 | .alo .. => .pointer (some ⟨β i,0,none⟩)
 | .sto _=>undef
def pa (a0:Act) (vc:Value) (β:Nat→Nat) (lst:Nat→Bool):Nat→List Oper→List Kd→Act
 | _,[],_=>a0
 | _,_,[]=>a0
 | k,o::os,q::qs=>if lst k then (pa a0 vc β lst (k+1) os qs).put o.dst (q.val vc β k) else pa a0 vc β lst (k+1) os qs
abbrev paAll (a0:Act) (ops:List Oper) (kd:List Kd) (vc:Value) (β:Nat→Nat):Act:=pa a0 vc β (fun _=>true) 0 ops kd
def Zdt:Kd→Bool
 | .post _=>true
 | .sto _=>true
 | _=>false
def Zfe:Kd→Bool
 | .post _=>true
 | .cal=>true
 | _=>false
def Zdy (o:Oper) (j:Nat):Bool:=o.after.any fun e=>Region.binds .any e && e.on == j
def Zir (ops:List Oper) (kd:List Kd) (ic:Nat):Bool :=
 ops.length == kd.length &&
 (List.range ops.length).all fun i=>match ops[i]?,kd[i]? with
  | some o,some q =>
   o.guard.isNone && (match o.op with | .select .. => false | _=>true) &&
   (o.after.all fun e => !Region.binds .any e || e.on<i) &&
   ((List.range ops.length).all fun j=>match ops[j]? with
    | some p=>match p.dst with
     | some d=>((j == i) || (o.dst != some d)) && (!(o.looksAt ops.toArray).contains d || Zdy o j)
     | none=>true
    | none=>true) &&
   (match q with
    | .pur _=>true
    | .cal=>i == ic
    | .post _=>(List.range i).any fun j=>Zdy o j && (match kd[j]? with | some r=>Zfe r | none=>false)
    | .alo _ _ s _=>match kd[s]? with | some (.sto k)=>k == i | _=>false
    | .sto k=>o.dst.isNone && Zdy o k && ((List.range i).any fun j=>Zdy o j && (match kd[j]? with | some r=>Zfe r | none=>false)) && (match kd[k]? with | some (.alo _ _ s _)=>s == i | _=>false))
  | _,_=>false
theorem Zfs {a0:Act} {vc vc':Value} {β β':Nat→Nat} {lst lst':Nat→Bool}:∀ {ops:List Oper} {kd:List Kd} {k:Nat},(∀ j q,kd[j]?=some q→lst (k+j)=lst' (k+j)∧(lst (k+j)=true→q.val vc β (k+j)=q.val vc' β' (k+j))) →
  pa a0 vc β lst k ops kd=pa a0 vc' β' lst' k ops kd:=by
 intro ops
 induction ops with
 | nil=>intro kd k _; simp [pa]
 | cons o os ih =>
  intro kd k h
  cases kd with
  | nil=>simp [pa]
  | cons q qs =>
   have h0:=h 0 q rfl
   simp only [Nat.add_zero] at h0
   have ih':=ih (kd:=qs) (k:=k+1) (fun j r hr=>by
    have:=h (j+1) r (by simpa using hr)
    have e:k+1+j=k+(j+1):=by omega
    rw [e]; exact this)
   rw [pa,pa,ih',← h0.1]
   split
   ·rename_i hk; rw [h0.2 hk]
   ·rfl
theorem Zur {a0:Act} {vc:Value} {β:Nat→Nat} {lst:Nat→Bool} {x:Operand}:∀ {ops:List Oper} {kd:List Kd} {k:Nat},(∀ j o,ops[j]?=some o→lst (k+j)=false→∀ d,o.dst=some d→x ≠ .tmp d) →
  (pa a0 vc β lst k ops kd).eval x=(pa a0 vc β (fun _=>true) k ops kd).eval x:=by
 intro ops
 induction ops with
 | nil=>intro kd k _; simp [pa]
 | cons o os ih =>
  intro kd k h
  cases kd with
  | nil=>simp [pa]
  | cons q qs =>
   have ih':=ih (kd:=qs) (k:=k+1) (fun j r hr hl=>by
    have e:k+1+j=k+(j+1):=by omega
    rw [e] at hl
    exact h (j+1) r (by simpa using hr) hl)
   rw [pa,pa]
   simp only [if_true]
   by_cases hx:∃ d,o.dst=some d∧x = .tmp d
   ·obtain ⟨d,hd,rfl⟩:=hx
    cases hk:lst k
    ·exact absurd rfl (h 0 o rfl hk d hd)
    ·simp only [if_true]
     rw [hd]
     have hsz:∀ (lst':Nat→Bool) (k':Nat) (os':List Oper) (qs':List Kd),(pa a0 vc β lst' k' os' qs').tmps.size=a0.tmps.size:=by
      intro lst' k' os'
      induction os' generalizing k' with
      | nil=>intro qs'; simp [pa]
      | cons o' os' ih2 =>
       intro qs'
       cases qs' with
       | nil=>simp [pa]
       | cons q' qs' =>
        rw [pa]
        split
        ·cases o'.dst <;> simp [Act.put,ih2]
        ·exact ih2 _ _
     simp only [Act.eval,Act.put,Array.getD_eq_getD_getElem?]
     rcases Nat.lt_or_ge d a0.tmps.size with hd' | hd'
     ·rw [Array.getElem?_setIfInBounds_self_of_lt (by rw [hsz]; exact hd'),Array.getElem?_setIfInBounds_self_of_lt (by rw [hsz]; exact hd')]
     ·rw [Array.getElem?_eq_none (by simp [hsz]; omega),Array.getElem?_eq_none (by simp [hsz]; omega)]
   ·have hne:∀ d,o.dst=some d→x ≠ .tmp d:=fun d hd e=>hx ⟨d,hd,e⟩
    rw [Act.eval_put hne]
    split
    ·rw [Act.eval_put hne]; exact ih'
    ·exact ih'
theorem Ydh {a0:Act} {vc:Value} {β:Nat→Nat} {lst:Nat→Bool}:∀ {ops:List Oper} {kd:List Kd} {k i:Nat} {o:Oper} {q:Kd},ops[i]?=some o→kd[i]?=some q→lst (k+i)=false →
  (∀ j p d,ops[j]?=some p→p.dst=some d→j=i∨o.dst≠some d)→pa a0 vc β (fun j=>lst j || j == k+i) k ops kd=(pa a0 vc β lst k ops kd).put o.dst (q.val vc β (k+i)):=by
 intro ops
 induction ops with
 | nil=>intro kd k i o q h; simp at h
 | cons p os ih =>
  intro kd k i o q ho hq hl hd
  cases kd with
  | nil=>simp at hq
  | cons r qs =>
   cases i with
   | zero =>
    simp at ho hq
    subst ho hq
    simp only [Nat.add_zero] at hl ⊢
    rw [pa,pa]
    simp only [hl,Bool.false_or,BEq.rfl,if_true,Bool.false_eq_true,if_false]
    congr 1
    refine Zfs (fun j s hs=>⟨?_,fun _=>rfl⟩)
    have:(k+1+j == k)=false:=by rw [Qu]; omega
    simp [this]
   | succ i =>
    have e:k+(i+1)=k+1+i:=by omega
    have ih':=ih (kd:=qs) (k:=k+1) (i:=i) (o:=o) (q:=q) (by simpa using ho) (by simpa using hq) (by rw [← e]; exact hl) (fun j p' d hp hd'=>by
     rcases hd (j+1) p' d (by simpa using hp) hd' with h | h
     ·exact Or.inl (by omega)
     ·exact Or.inr h)
    rw [e]
    rw [pa,pa,ih']
    have hk:(k == k+1+i)=false:=by rw [Qu]; omega
    simp only [hk,Bool.or_false]
    split
    ·refine Act.put_comm _ _ _ (fun d hd' e' => ?_)
     rcases hd 0 p d rfl e' with h | h
     ·omega
     ·exact h hd'
    ·rfl
def Ob (P:Program) (kd:List Kd) (w0:World) (FA:Value→(Nat→Nat)→Act) (R:(Nat→Prop)→Value→World→Prop) (f:FuncId) (args:Array Value) (o:Oper):Kd→Prop
 | .pur c=>∀ vc β w,Ext w0 w→(execOp (FA vc β).eval o).run P w = .ok (.value c) w
 | .post g=>∀ vc β X w,R X vc w→(execOp (FA vc β).eval o).run P w = .ok (.value (g vc)) w
 | .cal=>∀ vc β w,(execOp (FA vc β).eval o).run P w = .ok (.enter f args) w
 | .alo t z _ _=>∀ vc β w,(execOp (FA vc β).eval o).run P w = .ok (.value (.pointer (some ⟨w.heap.size,0,none⟩))) (w.alloc (.cells z t))
 | .sto i=>∀ vc β X w t z s cs,kd[i]?=some (.alo t z s cs)→R X vc w→w.heap[β i]?=some (.cells z t (0,0)) →
   ∃ w',(execOp (FA vc β).eval o).run P w = .ok .skip w'∧w'.heap[β i]?=some (.cells (cs vc) t (0,0))∧Kept (fun k=>k=β i) w w'
def AllOb (P:Program) (kd:List Kd) (w0:World) (FA:Value→(Nat→Nat)→Act) (R:(Nat→Prop)→Value→World→Prop) (f:FuncId) (args:Array Value):List Oper→List Kd→Prop
 | o::os,q::qs=>Ob P kd w0 FA R f args o q∧AllOb P kd w0 FA R f args os qs
 | _,_=>True
theorem AllOb.at {P:Program} {kd:List Kd} {w0:World} {FA:Value→(Nat→Nat)→Act} {R:(Nat→Prop)→Value→World→Prop} {f:FuncId} {args:Array Value}:∀ {ops:List Oper} {ks:List Kd},AllOb P kd w0 FA R f args ops ks →
  ∀ {i:Nat} {o:Oper} {q:Kd},ops[i]?=some o→ks[i]?=some q→Ob P kd w0 FA R f args o q:=by
 intro ops
 induction ops with
 | nil=>intro ks _ i o q h; simp at h
 | cons p os ih =>
  intro ks h i o q ho hq
  cases ks with
  | nil=>simp at hq
  | cons r qs =>
   cases i with
   | zero=>simp at ho hq; subst ho hq; exact h.1
   | succ i=>exact ih h.2 (by simpa using ho) (by simpa using hq)
def Zis (kd:List Kd) (β:Nat→Nat) (lst:Nat→Bool):Nat→Prop:=fun k=>∃ i t z s cs,kd[i]?=some (.alo t z s cs)∧lst i=true∧k=β i
structure Plan (P:Program) (ops:List Oper) (kd:List Kd) (ic:Nat) (a0:Act) (w0:World) (R:(Nat→Prop)→Value→World→Prop) (L:Array Bool) (a:Act) (w:World):Prop where
 size:L.size=ops.length
 ext:Ext w0 w
 st:∃ vc β,a=pa a0 vc β (fun j=>L.getD j false) 0 ops kd∧(L.getD ic false=true→R (Zis kd β (fun j=>L.getD j false)) vc w) ∧
  (∀ (i:Nat) q,kd[i]?=some q→L.getD i false=true→Zdt q=true→L.getD ic false=true) ∧
  (∀ (i:Nat) t z s cs,kd[i]?=some (.alo t z s cs)→L.getD i false=true→w0.heap.size≤β i∧w.heap[β i]?=some (.cells (if L.getD s false then cs vc else z) t (0,0))) ∧
  (∀ (i j:Nat) t z s cs t' z' s' cs',kd[i]?=some (.alo t z s cs)→kd[j]?=some (.alo t' z' s' cs')→L.getD i false=true→L.getD j false=true→i≠j→β i≠β j) ∧
  (∀ (i k:Nat),kd[i]?=some (.sto k)→L.getD i false=true→L.getD k false=true)
theorem Zjl {L:Array Bool} {i:Nat} (hi:i<L.size) (j:Nat):(L.setIfInBounds i true).getD j false=(L.getD j false || j == i):=by
 by_cases e:i=j
 ·subst e; simp [hi]
 ·rw [getD_set_ne false e]
  have:(j == i)=false:=by rw [Qu]; omega
  simp [this]
structure FitsAt (ops:List Oper) (kd:List Kd) (ic i:Nat) (o:Oper) (q:Kd):Prop where
 gd:o.guard=none
 sel:∀ cs b,o.op ≠ .select cs b
 low:∀ e ∈ o.after,Region.binds .any e=true→e.on<i
 dst:∀ j p d,ops[j]?=some p→p.dst=some d→j=i∨o.dst≠some d
 look:∀ j p d,ops[j]?=some p→p.dst=some d→d ∈ o.looksAt ops.toArray→Zdy o j=true
 cal:q = .cal→i=ic
 post:Zdt q=true→∃ j r,Zdy o j=true∧kd[j]?=some r∧Zfe r=true
 alo:∀ t z s cs,q = .alo t z s cs→kd[s]?=some (.sto i)
 sto:∀ k,q = .sto k→o.dst=none∧Zdy o k=true∧∃ t z cs,kd[k]?=some (.alo t z i cs)
theorem Zpy {ops:List Oper} {kd:List Kd} {ic:Nat} (h:Zir ops kd ic=true) {i:Nat} {o:Oper} (ho:ops[i]?=some o):∃ q,kd[i]?=some q∧FitsAt ops kd ic i o q:=by
 unfold Zir at h
 simp only [Bool.and_eq_true,List.all_eq_true,List.mem_range,beq_iff_eq] at h
 obtain ⟨hl,h⟩:=h
 have hi:=(Qa.1 ho).1
 have h:=h i hi
 rw [ho] at h
 cases hq:kd[i]? with
 | none=>rw [hq] at h; simp at h
 | some q =>
  rw [hq] at h
  simp only [Bool.and_eq_true,List.all_eq_true,List.mem_range] at h
  obtain ⟨⟨⟨⟨h1,h2⟩,h3⟩,h4⟩,h5⟩:=h
  refine ⟨q,rfl,?_,?_,?_,?_,?_,?_,?_,?_,?_⟩
  ·simpa using h1
  ·intro cs b e; rw [e] at h2; simp at h2
  ·intro e he hb
   have:=Array.all_eq_true_iff_forall_mem.1 h3 e he
   simpa [hb] using this
  ·intro j p d hp hd
   have:=h4 j (Qa.1 hp).1
   rw [hp] at this
   simp only [hd,Bool.and_eq_true,Bool.or_eq_true,beq_iff_eq,bne_iff_ne] at this
   exact this.1
  ·intro j p d hp hd hm
   have:=h4 j (Qa.1 hp).1
   rw [hp] at this
   simp only [hd,Bool.and_eq_true,Bool.or_eq_true,beq_iff_eq,bne_iff_ne] at this
   rcases this.2 with h | h
   ·simp [hm] at h
   ·exact h
  ·intro e; subst e; simpa using h5
  ·intro hp
   cases q with
   | post g =>
    simp only [List.any_eq_true,List.mem_range,Bool.and_eq_true] at h5
    obtain ⟨j,_,h6,h7⟩:=h5
    cases hr:kd[j]? with
    | none=>rw [hr] at h7; simp at h7
    | some r=>rw [hr] at h7; exact ⟨j,r,h6,hr,h7⟩
   | sto k =>
    simp only [List.any_eq_true,List.mem_range,Bool.and_eq_true] at h5
    obtain ⟨⟨_,j,_,h6,h7⟩,_⟩:=h5
    cases hr:kd[j]? with
    | none=>rw [hr] at h7; simp at h7
    | some r=>rw [hr] at h7; exact ⟨j,r,h6,hr,h7⟩
   | _=>simp [Zdt] at hp
  ·intro t z s cs e
   subst e
   simp only at h5
   split at h5
   ·rename_i k hk; simp at h5; subst h5; exact hk
   ·simp at h5
  ·intro k e
   subst e
   simp only [List.any_eq_true,List.mem_range,Bool.and_eq_true] at h5
   obtain ⟨⟨⟨h6,h7⟩,_⟩,h8⟩:=h5
   refine ⟨by simpa using h6,h7,?_⟩
   split at h8
   ·rename_i t z s cs hk; simp at h8; subst h8; exact ⟨t,z,cs,hk⟩
   ·simp at h8
theorem Zcm {ops:List Oper} {L:Array Bool} {i j:Nat} {o:Oper} (hr:i ∈ Region.ready .any ops.toArray L) (ho:ops[i]?=some o) (hw:Zdy o j=true):L.getD j false=true:=by
 obtain ⟨_,o',ho',h⟩:=mem_ready.1 hr
 have:o'=o:=by simpa [ho] using ho'.symm
 subst this
 obtain ⟨e,he,hb⟩:=Array.any_eq_true'.1 hw
 simp only [Bool.and_eq_true,beq_iff_eq] at hb
 rw [← hb.2]
 exact h e he hb.1
theorem Zzl {ops:List Oper} {kd:List Kd} {ic:Nat} (hfit:Zir ops kd ic=true) {L:Array Bool} (hs:L.size=ops.length) (hr:Region.ready .any ops.toArray L=[]):∀ i,i<ops.length→L.getD i false=true:=by
 intro i
 induction i using Nat.strongRecOn with
 | _ i ih =>
  intro hi
  cases hl:L.getD i false with
  | true=>rfl
  | false =>
   exfalso
   have ho:ops[i]?=some ops[i]:=Qb hi
   obtain ⟨q,hq,hF⟩:=Zpy hfit ho
   have:i ∈ Region.ready .any ops.toArray L:=by
    refine mem_ready.2 ⟨?_,ops[i],by simp,fun e he hb=>ih e.on (hF.low e he hb) (by have:=hF.low e he hb; omega)⟩
    have hi':i<L.size:=by omega
    simp [hi'] at hl ⊢
    exact hl
   rw [hr] at this
   simp at this
theorem Zsb {P:Program} {ops:List Oper} {id:Nat} {Q:Exit→Act→World→Prop} {a0:Act} {w:World} (hm:P.follows .mixedOrders=true) (kd:List Kd) (ic:Nat) (hfit:Zir ops kd ic=true)
  (R:(Nat→Prop)→Value→World→Prop) (f:FuncId) (args:Array Value)
  (hR:∀ X X' v u u',R X v u→(∀ k,k<u.heap.size→¬ X k→u'.heap[k]?=u.heap[k]?)→u.heap.size≤u'.heap.size→(∀ k,k<u.heap.size→X' k→X k)→R X' v u')
  (hC:∀ X u,Ext w.drew u→(∀ k,X k→w.heap.size≤k∧k<u.heap.size∧∃ (i:Nat) (t:TypeId) (z:Array Value) (s:Nat) (cs:Value→Array Value) (cl:Array Value),kd[i]?=some (.alo t z s cs)∧u.heap[k]?=some (.cells cl t (0,0)))→Calls P f args u (fun e u'=>∃ v,e = .returned v∧Ext u u'∧R X v u'))
  (hob:AllOb P kd w.drew (paAll a0 ops kd) R f args ops kd)
  (hcal:kd[ic]?=some .cal) (hil:ic<ops.length)
  (hQ:∀ vc β u,Ext w.drew u→R (Zis kd β (fun _=>true)) vc u→(∀ (i:Nat) t z s cs,kd[i]?=some (.alo t z s cs)→w.heap.size≤β i∧u.heap[β i]?=some (.cells (cs vc) t (0,0))) →
   (∀ (i j:Nat) t z s cs t' z' s' cs',kd[i]?=some (.alo t z s cs)→kd[j]?=some (.alo t' z' s' cs')→i≠j→β i≠β j)→Q .normal (paAll a0 ops kd vc β) u) :
  (Code.region id ops.toArray true).wp P Q a0 w:=by
 have hlen:ops.length=kd.length:=by
  unfold Zir at hfit
  simp only [Bool.and_eq_true,beq_iff_eq] at hfit
  exact hfit.1
 refine wp_region_any hm (Zmz (J:=Plan P ops kd ic a0 w.drew R) ?_ ?_ _ _ _ _ ?_ ?_)
 ·intro L a u i hr hJ
  obtain ⟨hsz,hext,vc,β,rfl,hcR,hpost,hbox,hdist,hsto⟩:=hJ
  obtain ⟨h0,o,ho',_⟩:=mem_ready.1 hr
  have ho:ops[i]?=some o:=by simpa using ho'
  have hi:i<ops.length:=(Qa.1 ho).1
  have hil:i<L.size:=by omega
  have hun:L.getD i false=false:=by simp [hil] at h0 ⊢; exact h0
  obtain ⟨q,hq,hF⟩:=Zpy hfit ho
  have hOb:=hob.at ho hq
  have hexec:execOp (pa a0 vc β (fun j=>L.getD j false) 0 ops kd).eval o=execOp (paAll a0 ops kd vc β).eval o:=by
   refine execOp_congr o hF.sel (fun x hx=>Zur (fun j p hp hl d hd e => ?_))
   subst e
   have hw:=hF.look j p d hp hd (List.mem_append_left _ (List.mem_filterMap.2 ⟨.tmp d,by simpa using hx,rfl⟩))
   have:=Zcm hr ho hw
   simp only [Nat.zero_add] at hl
   rw [hl] at this
   simp at this
  have hwant:Region.wanted o (yielded ops.toArray (pa a0 vc β (fun j=>L.getD j false) 0 ops kd).tmps)=true:=by simp [Region.wanted,hF.gd]
  have hL:=Zjl hil
  have hput:∀ vc' β',(∀ j r,kd[j]?=some r→L.getD j false=true→r.val vc β j=r.val vc' β' j) →
    (pa a0 vc β (fun j=>L.getD j false) 0 ops kd).put o.dst (q.val vc' β' i)=pa a0 vc' β' (fun j=>(L.setIfInBounds i true).getD j false) 0 ops kd:=by
   intro vc' β' hv
   have e1:pa a0 vc β (fun j=>L.getD j false) 0 ops kd=pa a0 vc' β' (fun j=>L.getD j false) 0 ops kd:=Zfs (fun j r hr'=>by
    simp only [Nat.zero_add]
    exact ⟨trivial,fun hl=>hv j r hr' hl⟩)
   rw [e1]
   have e2:=Ydh (a0:=a0) (vc:=vc') (β:=β') (lst:=fun j=>L.getD j false) (k:=0) ho hq (by simpa using hun) hF.dst
   simp only [Nat.zero_add] at e2
   rw [← e2]
   exact Zfs (fun j r hr'=>⟨by simp only [Nat.zero_add,hL],fun _=>rfl⟩)
  have hicn:∀ r,kd[ic]?=some r→r = .cal:=fun r h=>by rw [hcal] at h; exact (Option.some.inj h).symm
  have hold:∀ j,L.getD j false=true→(L.setIfInBounds i true).getD j false=true:=fun j h=>by rw [hL,h]; rfl
  have hnew:∀ j,j≠i→(L.setIfInBounds i true).getD j false=L.getD j false:=fun j h=>by
   rw [hL]
   have:(j == i)=false:=by rw [Qu]; exact h
   simp [this]
  unfold wpOp
  simp only [ho']
  rw [if_pos hwant]
  refine Or.inl ?_
  unfold Oper.wp
  rw [hexec]
  have hpl:∀ (i':Nat) q',kd[i']?=some q'→(L.setIfInBounds i true).getD i' false=true→Zdt q'=true→i'≠i→(L.setIfInBounds i true).getD ic false=true:=fun i' q' h1 h2 h3 hne =>
   hold _ (hpost i' q' h1 (by rw [hnew i' hne] at h2; exact h2) h3)
  have hkat:∀ {i':Nat} {q':Kd},kd[i']?=some q'→∃ o',FitsAt ops kd ic i' o' q':=fun {i' q'} h1=>by
   obtain ⟨q2,hq2,hF2⟩:=Zpy hfit (Qb (l:=ops) (i:=i') (by have:=(Qa.1 h1).1; omega))
   rw [h1] at hq2; simp at hq2; subst hq2
   exact ⟨_,hF2⟩
  have hne:∀ {i':Nat} {q':Kd},kd[i']?=some q'→q'≠q→i'≠i:=fun {i' q'} h1 h2 e=>by
   subst e; rw [hq] at h1; exact h2 (Option.some.inj h1).symm
  have hvars:(∀ t z s cs,q ≠ .alo t z s cs)→∀ k,Zis kd β (fun j=>(L.setIfInBounds i true).getD j false) k→Zis kd β (fun j=>L.getD j false) k:=by
   rintro hna k ⟨i',t,z,s,cs,h1,h2,rfl⟩
   have:i'≠i:=hne h1 (fun e=>hna t z s cs e.symm)
   exact ⟨i',t,z,s,cs,h1,(hnew i' this).symm.trans h2,rfl⟩
  have hdist':(∀ t z s cs,q ≠ .alo t z s cs)→∀ (i' j':Nat) t z s cs t' z' s' cs',kd[i']?=some (.alo t z s cs)→kd[j']?=some (.alo t' z' s' cs')→(L.setIfInBounds i true).getD i' false=true→(L.setIfInBounds i true).getD j' false=true→i'≠j'→β i'≠β j':=by
   intro hna i' j' t z s cs t' z' s' cs' h1 h2 h3 h4
   rw [hnew i' (hne h1 (fun e=>hna _ _ _ _ e.symm))] at h3
   rw [hnew j' (hne h2 (fun e=>hna _ _ _ _ e.symm))] at h4
   exact hdist i' j' t z s cs t' z' s' cs' h1 h2 h3 h4
  have hbox':(∀ t z s cs,q ≠ .alo t z s cs)→(∀ k,q ≠ .sto k)→∀ (i':Nat) t z s cs,kd[i']?=some (.alo t z s cs)→(L.setIfInBounds i true).getD i' false=true→w.drew.heap.size≤β i'∧u.heap[β i']?=some (.cells (if (L.setIfInBounds i true).getD s false then cs vc else z) t (0,0)):=by
   intro hna hns i' t z s cs h1 h2
   obtain ⟨o',hF'⟩:=hkat h1
   have hs:s≠i:=hne (hF'.alo t z s cs rfl) (fun e=>hns _ e.symm)
   rw [hnew s hs]
   exact hbox i' t z s cs h1 ((hnew i' (hne h1 (fun e=>hna _ _ _ _ e.symm))).symm.trans h2)
  have hsto':(∀ k,q ≠ .sto k)→∀ (i' k:Nat),kd[i']?=some (.sto k)→(L.setIfInBounds i true).getD i' false=true→(L.setIfInBounds i true).getD k false=true:=fun hns i' k h1 h2 =>
   hold _ (hsto i' k h1 ((hnew i' (hne h1 (fun e=>hns _ e.symm))).symm.trans h2))
  have hpost':Zdt q=false→∀ (i':Nat) q',kd[i']?=some q'→(L.setIfInBounds i true).getD i' false=true→Zdt q'=true→(L.setIfInBounds i true).getD ic false=true:=fun hp i' q' h1 h2 h3 =>
   hpl i' q' h1 h2 h3 (hne h1 (fun e=>by rw [e,hp] at h3; simp at h3))
  have hcl:Zdt q=true→L.getD ic false=true:=fun hp=>by
   obtain ⟨j,r,h1,h2,h3⟩:=hF.post hp
   have hj:=Zcm hr ho h1
   cases r with
   | post g=>exact hpost j _ h2 hj rfl
   | cal =>
    obtain ⟨o',hF'⟩:=hkat h2
    have:=hF'.cal rfl
    rw [← this]; exact hj
   | _=>simp [Zfe] at h3
  cases q with
  | pur c =>
   rw [hOb vc β u hext]
   have hic:ic≠i:=hne hcal (by simp)
   refine ⟨by simpa using hsz,hext,vc,β,hput vc β (fun _ _ _ _=>rfl),?_,hpost' rfl,hbox' (by simp) (by simp),hdist' (by simp),hsto' (by simp)⟩
   intro h
   rw [hnew ic hic] at h
   exact hR _ _ vc u u (hcR h) (fun _ _ _=>rfl) (Qe _) (fun k _=>hvars (by simp) k)
  | post g =>
   have hic:=hcl rfl
   rw [hOb vc β _ u (hcR hic)]
   refine ⟨by simpa using hsz,hext,vc,β,hput vc β (fun _ _ _ _=>rfl),?_,fun i' q' _ _ _=>hold _ hic,hbox' (by simp) (by simp),hdist' (by simp),hsto' (by simp)⟩
   intro h
   exact hR _ _ vc u u (hcR hic) (fun _ _ _=>rfl) (Qe _) (fun k _=>hvars (by simp) k)
  | cal =>
   have hie:=hF.cal rfl
   rw [hOb vc β u]
   refine (hC (Zis kd β (fun j=>L.getD j false)) u hext ?_).mono ?_
   ·rintro k ⟨i',t,z,s,cs,h1,h2,rfl⟩
    have:=hbox i' t z s cs h1 h2
    exact ⟨this.1,(Array.getElem?_eq_some_iff.1 this.2).1,i',t,z,s,cs,_,h1,this.2⟩
   ·rintro e u' ⟨v,rfl,he,hr'⟩
    refine ⟨by simpa using hsz,hext.trans (he.mono hext.size),v,β,hput v β ?_,?_,?_,?_,hdist' (by simp),hsto' (by simp)⟩
    ·intro j r h1 h2
     cases r with
     | post g =>
      have:=hpost j _ h1 h2 rfl
      rw [← hie,hun] at this; simp at this
     | cal =>
      obtain ⟨o',hF'⟩:=hkat h1
      have:=hF'.cal rfl
      rw [this,← hie,hun] at h2; simp at h2
     | _=>rfl
    ·intro _
     exact hR _ _ v u' u' hr' (fun _ _ _=>rfl) (Qe _) (fun k _=>hvars (by simp) k)
    ·intro i' q' _ _ _
     rw [← hie,hL]; simp
    ·intro i' t z s cs h1 h2
     have hi':=hne h1 (by simp)
     have hb:=hbox i' t z s cs h1 ((hnew i' hi').symm.trans h2)
     refine ⟨hb.1,(he.block _ (Array.getElem?_eq_some_iff.1 hb.2).1).trans ?_⟩
     obtain ⟨o',hF'⟩:=hkat h1
     have hks:=hF'.alo t z s cs rfl
     have hs:s≠i:=hne hks (by simp)
     have hsl:L.getD s false=false:=by
      cases hsl:L.getD s false with
      | false=>rfl
      | true =>
       have:=hpost s _ hks hsl rfl
       rw [← hie,hun] at this; simp at this
     rw [hnew s hs,hsl]
     rw [hsl] at hb
     exact hb.2
  | alo t z s cs =>
   have hic:ic≠i:=hne hcal (by simp)
   rw [hOb vc β u]
   have hkat':=hF.alo t z s cs rfl
   have hs:s≠i:=hne hkat' (by simp)
   have hsl:L.getD s false=false:=by
    cases hsl:L.getD s false with
    | false=>rfl
    | true =>
     have:=hsto s i hkat' hsl
     rw [hun] at this; simp at this
   have hβ:∀ j,j≠i→(fun j=>if j=i then u.heap.size else β j) j=β j:=fun j h=>by simp [h]
   have hβi:(fun j=>if j=i then u.heap.size else β j) i=u.heap.size:=by simp
   have hp:=hput vc (fun j=>if j=i then u.heap.size else β j) (fun j r h1 h2=>by
    have hj:j≠i:=fun e=>by rw [e,hun] at h2; simp at h2
    cases r with
    | alo=>simp only [Kd.val]; rw [if_neg hj]
    | _=>rfl)
   simp only [Kd.val,if_true] at hp
   have hlt:∀ (i':Nat) t z s cs,kd[i']?=some (.alo t z s cs)→L.getD i' false=true→β i'<u.heap.size:=fun i' t z s cs h1 h2=>(Array.getElem?_eq_some_iff.1 (hbox i' t z s cs h1 h2).2).1
   refine ⟨by simpa using hsz,hext.alloc hext.size _,vc,(fun j=>if j=i then u.heap.size else β j),hp,?_,?_,?_,?_,hsto' (by simp)⟩
   ·intro h
    rw [hnew ic hic] at h
    refine hR _ _ vc u _ (hcR h) (fun k hk _=>Below.heap_alloc _ _ _ hk) (by simp) ?_
    rintro k hk ⟨i',t,z,s,cs,h1,h2,rfl⟩
    by_cases e:i'=i
    ·subst e; simp at hk
    ·rw [hβ i' e]
     exact ⟨i',t,z,s,cs,h1,(hnew i' e).symm.trans h2,rfl⟩
   ·exact hpost' rfl
   ·intro i' t' z' s' cs' h1 h2
    by_cases e:i'=i
    ·subst e
     rw [hq] at h1
     simp only [Qo,Kd.alo.injEq] at h1
     obtain ⟨rfl,rfl,rfl,rfl⟩:=h1
     rw [hβi,hnew s hs,hsl]
     exact ⟨hext.size,heap_alloc_new u _⟩
    ·rw [hβ i' e]
     have hl':=(hnew i' e).symm.trans h2
     have hb:=hbox i' t' z' s' cs' h1 hl'
     have hs':s'≠i:=by
      obtain ⟨o',hF'⟩:=hkat h1
      exact hne (hF'.alo t' z' s' cs' rfl) (by simp)
     rw [hnew s' hs']
     exact ⟨hb.1,(Below.heap_alloc _ _ _ (hlt i' t' z' s' cs' h1 hl')).trans hb.2⟩
   ·intro i' j' t' z' s' cs' t'' z'' s'' cs'' h1 h2 h3 h4 hij
    by_cases e:i'=i
    ·have e':j'≠i:=fun h=>hij (e.trans h.symm)
     rw [e,hβi,hβ j' e']
     have:=hlt j' _ _ _ _ h2 ((hnew j' e').symm.trans h4)
     omega
    ·rw [hβ i' e]
     by_cases e':j'=i
     ·rw [e',hβi]
      have:=hlt i' _ _ _ _ h1 ((hnew i' e).symm.trans h3)
      omega
     ·rw [hβ j' e']
      exact hdist i' j' _ _ _ _ _ _ _ _ h1 h2 ((hnew i' e).symm.trans h3) ((hnew j' e').symm.trans h4) hij
  | sto k =>
   have hic:=hcl rfl
   obtain ⟨hdn,hwk,t,z,cs,hkk⟩:=hF.sto k rfl
   have hkl:=Zcm hr ho hwk
   have hbk:=hbox k t z i cs hkk hkl
   rw [hun] at hbk
   obtain ⟨w',hrun,hnewb,hkept⟩:=hOb vc β _ u t z i cs hkk (hcR hic) hbk.2
   rw [hrun]
   have hki:k≠i:=hne hkk (by simp)
   refine ⟨by simpa using hsz,hext.trans (hkept.below hext.size (fun j e=>by rw [e]; exact hbk.1)),vc,β,hput vc β (fun _ _ _ _=>rfl),?_,fun i' q' _ _ _=>hold _ hic,?_,hdist' (by simp),?_⟩
   ·intro _
    refine hR _ _ vc u w' (hcR hic) (fun j hj hn=>hkept.block j hj (fun e=>hn ⟨k,t,z,i,cs,hkk,hkl,e⟩)) hkept.size (fun j _=>hvars (by simp) j)
   ·intro i' t' z' s' cs' h1 h2
    have e:i'≠i:=hne h1 (by simp)
    have hl':=(hnew i' e).symm.trans h2
    by_cases ek:i'=k
    ·subst ek
     rw [hkk] at h1
     simp only [Qo,Kd.alo.injEq] at h1
     obtain ⟨rfl,rfl,rfl,rfl⟩:=h1
     rw [hL]
     simp only [BEq.rfl,Bool.or_true,if_true]
     exact ⟨hbk.1,hnewb⟩
    ·have hb:=hbox i' t' z' s' cs' h1 hl'
     have hs':s'≠i:=fun e'=>by
      obtain ⟨o',hF'⟩:=hkat h1
      have:=hF'.alo t' z' s' cs' rfl
      rw [e',hq] at this
      simp at this
      exact ek this.symm
     rw [hnew s' hs']
     exact ⟨hb.1,(hkept.block _ (Array.getElem?_eq_some_iff.1 hb.2).1 (hdist i' k _ _ _ _ _ _ _ _ h1 hkk hl' hkl ek)).trans hb.2⟩
   ·intro i' k' h1 h2
    by_cases e:i'=i
    ·subst e
     rw [hq] at h1
     simp at h1
     subst h1
     exact hold _ hkl
    ·exact hold _ (hsto i' k' h1 ((hnew i' e).symm.trans h2))
 ·intro L a u hr hJ
  obtain ⟨hsz,hext,vc,β,rfl,hcR,hpost,hbox,hdist,hsto⟩:=hJ
  have hall:=Zzl hfit hsz hr
  have e:pa a0 vc β (fun j=>L.getD j false) 0 ops kd=paAll a0 ops kd vc β:=Zfs (fun j r hr'=>⟨by
   simp only [Nat.zero_add]
   exact hall j (by have:=(Qa.1 hr').1; omega),fun _=>rfl⟩)
  rw [e]
  have hk:∀ (i:Nat) t z s cs,kd[i]?=some (.alo t z s cs)→L.getD i false=true∧L.getD s false=true:=fun i t z s cs h=>by
   have hi:=(Qa.1 h).1
   obtain ⟨q2,hq2,hF2⟩:=Zpy hfit (Qb (l:=ops) (i:=i) (by omega))
   rw [h] at hq2; simp at hq2; subst hq2
   have:=(Qa.1 (hF2.alo t z s cs rfl)).1
   exact ⟨hall i (by omega),hall s (by omega)⟩
  refine hQ vc β u hext ?_ ?_ ?_
  ·refine hR _ _ vc u u (hcR (hall ic hil)) (fun _ _ _=>rfl) (Qe _) ?_
   rintro k _ ⟨i',t,z,s,cs,h1,h2,rfl⟩
   exact ⟨i',t,z,s,cs,h1,(hk i' t z s cs h1).1,rfl⟩
  ·intro i t z s cs h
   have:=hbox i t z s cs h (hk i t z s cs h).1
   rw [(hk i t z s cs h).2] at this
   exact this
  ·intro i j t z s cs t' z' s' cs' h1 h2
   exact hdist i j t z s cs t' z' s' cs' h1 h2 (hk i t z s cs h1).1 (hk j t' z' s' cs' h2).1
 ·have:(ops.toArray).size=ops.length:=by simp
  unfold unl
  exact Qq (List.length_filter_le _ _) (by simp)
 ·have hz:∀ j,(Array.replicate ops.toArray.size false).getD j false=false:=fun j=>by
   simp only [Array.getD_eq_getD_getElem?,Array.getElem?_replicate]
   split <;> rfl
  refine ⟨by simp,Below.refl _ _,undef,fun _=>0,?_,?_,?_,?_,?_,?_⟩
  ·have:∀ (k:Nat) (os:List Oper) (qs:List Kd),pa a0 undef (fun _=>0) (fun j=>(Array.replicate ops.toArray.size false).getD j false) k os qs=a0:=by
    intro k os
    induction os generalizing k with
    | nil=>intro qs; simp [pa]
    | cons o os ih =>
     intro qs
     cases qs with
     | nil=>simp [pa]
     | cons q qs=>rw [pa,hz]; simp only [Bool.false_eq_true,if_false]; exact ih _ _
   exact (this _ _ _).symm
  ·intro h; rw [hz] at h; simp at h
  ·intro i q _ h; rw [hz] at h; simp at h
  ·intro i t z s cs _ h; rw [hz] at h; simp at h
  ·intro i j t z s cs t' z' s' cs' _ _ h; rw [hz] at h; simp at h
  ·intro i k _ h; rw [hz] at h; simp at h
theorem Zga {P:Program} {ops:List Oper} {id:Nat} {Q:Exit→Act→World→Prop} {a0:Act} {w:World} (hm:P.follows .mixedOrders=true) (kd:List Kd) (ic:Nat) (hfit:Zir ops kd ic=true)
  (R:(Nat→Prop)→Value→World→Prop) (f:FuncId) (args:Array Value)
  (hR:∀ X X' v u u',R X v u→(∀ k,k<u.heap.size→¬ X k→u'.heap[k]?=u.heap[k]?)→u.heap.size≤u'.heap.size→(∀ k,k<u.heap.size→X' k→X k)→R X' v u')
  (hC:∀ X u,Ext w.drew u→(∀ k,X k→w.heap.size≤k∧k<u.heap.size)→Calls P f args u (fun e u'=>∃ v,e = .returned v∧Ext u u'∧R X v u'))
  (hob:AllOb P kd w.drew (paAll a0 ops kd) R f args ops kd)
  (hcal:kd[ic]?=some .cal) (hil:ic<ops.length)
  (hQ:∀ vc β u,Ext w.drew u→R (Zis kd β (fun _=>true)) vc u→(∀ (i:Nat) t z s cs,kd[i]?=some (.alo t z s cs)→w.heap.size≤β i∧u.heap[β i]?=some (.cells (cs vc) t (0,0))) →
   (∀ (i j:Nat) t z s cs t' z' s' cs',kd[i]?=some (.alo t z s cs)→kd[j]?=some (.alo t' z' s' cs')→i≠j→β i≠β j)→Q .normal (paAll a0 ops kd vc β) u) :
  (Code.region id ops.toArray true).wp P Q a0 w :=
 Zsb hm kd ic hfit R f args hR (fun X u hu hX=>hC X u hu (fun k hk=>⟨(hX k hk).1,(hX k hk).2.1⟩)) hob hcal hil hQ
theorem Ext.of {w w':World} (h:Kept Zdc w w'):Ext w w':=h.below (Qe _) (fun _ e=>e.elim)
theorem Ext.undrew {w u:World} (h:Ext w.drew u):Ext w u:=⟨h.os,h.tape,h.output,h.size,h.block⟩
theorem Ext.up {w u:World} (h:Ext w.drew u) {p:Addr} {v:Value} (hc:w.cell? p=some v):u.cell? p=some v:=(h.cell (World.block_lt_of_cell? w p hc)).trans hc
def cellsOf:Value→Array Value
 | .agg cs=>cs
 | _=>#[]
theorem box3 {w:World} {b:Nat} {u0 u1 u2:Value} {t:TypeId} (h:w.heap[b]?=some (.cells #[u0,u1,u2] t (0,0))) :
  w.cell? ⟨b,0,none⟩=some u0∧w.cell? ⟨b,1,none⟩=some u1∧w.cell? ⟨b,2,none⟩=some u2∧∀ i,w.frozen? ⟨b,i,none⟩=false :=
 ⟨Zaa h 0 _ rfl,Zaa h 1 _ rfl,Zaa h 2 _ rfl,fun i=>Zae h i⟩
def Zdm (i:Nat):Value→Value
 | .tuple xs=>xs.getD i undef
 | _=>undef
def Yjj:Kd→Bool
 | .pur _=>true
 | .cal=>true
 | _=>false
def ObL (P:Program) (w0:World) (FA:Value→Act) (R R':Value→World→Prop) (f:FuncId) (args:Array Value) (o:Oper):Kd→Prop
 | .pur c=>∀ vc,(execOp (FA vc).eval o).run P w0 = .ok (.value c) w0
 | .post g=>∀ vc w,R vc w∨R' vc w→(execOp (FA vc).eval o).run P w = .ok (.value (g vc)) w
 | .cal=>∀ vc,(execOp (FA vc).eval o).run P w0 = .ok (.enter f args) w0
 | .alo .. => True
 | .sto _=>∀ vc w,R vc w→∃ w',(execOp (FA vc).eval o).run P w = .ok .skip w'∧R' vc w'
def AllObL (P:Program) (w0:World) (FA:Value→Act) (R R':Value→World→Prop) (f:FuncId) (args:Array Value):List Oper→List Kd→Prop
 | o::os,q::qs=>ObL P w0 FA R R' f args o q∧AllObL P w0 FA R R' f args os qs
 | _,_=>True
theorem AllObL.at {P:Program} {w0:World} {FA:Value→Act} {R R':Value→World→Prop} {f:FuncId} {args:Array Value}:∀ {ops:List Oper} {ks:List Kd},AllObL P w0 FA R R' f args ops ks →
  ∀ {i:Nat} {o:Oper} {q:Kd},ops[i]?=some o→ks[i]?=some q→ObL P w0 FA R R' f args o q:=by
 intro ops
 induction ops with
 | nil=>intro ks _ i o q h; simp at h
 | cons p os ih =>
  intro ks h i o q ho hq
  cases ks with
  | nil=>simp at hq
  | cons r qs =>
   cases i with
   | zero=>simp at ho hq; subst ho hq; exact h.1
   | succ i=>exact ih h.2 (by simpa using ho) (by simpa using hq)
abbrev noB:Nat→Nat:=fun _=>0
structure LastPlan (ops:List Oper) (kd:List Kd) (ic fi:Nat) (a0:Act) (w0:World) (R R':Value→World→Prop) (L:Array Bool) (a:Act) (w:World):Prop where
 size:L.size=ops.length
 closed:∀ (i:Nat) o,ops[i]?=some o→L.getD i false=true→∀ j,Zdy o j=true→L.getD j false=true
 st:∃ vc,a=pa a0 vc noB (fun j=>L.getD j false) 0 ops kd∧(L.getD ic false=false→w=w0)∧(L.getD ic false=true→(L.getD fi false=false→R vc w)∧(L.getD fi false=true→R vc w∨R' vc w)∧(L.getD fi false=true→(∃ k,kd[fi]?=some (.sto k))→R' vc w)) ∧
  (∀ (i:Nat) q,kd[i]?=some q→L.getD i false=true→Zdt q=true→L.getD ic false=true)
structure CellS where
 sym:Sym
 kids:List Nat
 up:Nat
def turn (cs:List CellS) (x y:Nat):List CellS:=cs.modify x (fun c => { c with up:=y })
theorem Zwv (cs:List CellS) (x y:Nat):(turn cs x y).length=cs.length:=by simp [turn]
theorem Zpz (cs:List CellS) (x y i:Nat):(turn cs x y)[i]?=(cs[i]?).map (fun c=>if x=i then { c with up:=y } else c):=by
 simp only [turn,List.getElem?_modify]
 cases cs[i]? with
 | none=>rfl
 | some c=>simp
def UpOk (cs:List CellS) (ρ rk:Nat→Nat):Prop:=∀ (i:Nat) c,cs[i]?=some c→c.up<cs.length∧ρ c.up=ρ i∧(c.up=i→ρ i=i)∧(c.up≠i→rk c.up<rk i)
theorem UpOk.root {cs:List CellS} {ρ rk:Nat→Nat} (h:UpOk cs ρ rk):∀ (n i:Nat) c,rk i≤n→cs[i]?=some c→∃ c',cs[ρ i]?=some c'∧c'.up=ρ i∧ρ (ρ i)=ρ i:=by
 intro n
 induction n with
 | zero =>
  intro i c hn hc
  obtain ⟨h1,h2,h3,h4⟩:=h i c hc
  by_cases e:c.up=i
  ·rw [h3 e]; exact ⟨c,hc,e,h3 e⟩
  ·have:=h4 e; omega
 | succ n ih =>
  intro i c hn hc
  obtain ⟨h1,h2,h3,h4⟩:=h i c hc
  by_cases e:c.up=i
  ·rw [h3 e]; exact ⟨c,hc,e,h3 e⟩
  ·have:=h4 e
   rw [← h2]
   exact ih c.up _ (by omega) (Qb h1)
theorem UpOk.rt {cs:List CellS} {ρ rk:Nat→Nat} (h:UpOk cs ρ rk):Rt cs.length ρ:=by
 refine ⟨fun i hi => ?_,fun i hi => ?_⟩
 ·obtain ⟨c',h1,_,_⟩:=h.root _ i _ (Qe _) (Qb hi)
  exact (Qa.1 h1).1
 ·obtain ⟨c',_,_,h3⟩:=h.root _ i _ (Qe _) (Qb hi)
  exact h3
def Zgt (cs:List CellS):Nat:=((List.range cs.length).filter (fun i=>((cs[i]?).map (fun c=>c.up == i)).getD false)).length
theorem Zsc {cs:List CellS} {x y:Nat} {c:CellS} (hx:cs[x]?=some c) (hr:c.up=x) (hne:x≠y):Zgt (turn cs x y)<Zgt cs:=by
 unfold Zgt
 rw [Zwv]
 refine Zsa (x:=x) (fun i _ hi => ?_) (List.mem_range.2 (Qa.1 hx).1) (by simp [hx,hr]) ?_
 ·rw [Zpz] at hi
  cases hc:cs[i]? with
  | none=>rw [hc] at hi; simp at hi
  | some d =>
   rw [hc] at hi
   simp only [Option.map_some,Option.getD_some,beq_iff_eq] at hi ⊢
   split at hi
   ·rename_i e; subst e; simp at hi; exact absurd hi.symm hne
   ·exact hi
 ·rw [Zpz,hx]
  simp
  exact fun e=>hne e.symm
theorem UpOk.turn {cs:List CellS} {ρ rk:Nat→Nat} (h:UpOk cs ρ rk) {x y:Nat} (hx:x<cs.length) (hy:y<cs.length) (rx:ρ x=x) (ry:ρ y=y) (hne:x≠y) :
  UpOk (YtlmjilpjmgjjcabGreatDoor.turn cs x y) (mg ρ x y) (fun i=>if ρ i=x then rk i+rk y+1 else rk i):=by
 intro i c hc
 rw [Zpz] at hc
 cases hd:cs[i]? with
 | none=>rw [hd] at hc; simp at hc
 | some d =>
  rw [hd] at hc
  simp only [Option.map_some,Qo] at hc
  obtain ⟨h1,h2,h3,h4⟩:=h i d hd
  rw [Zwv]
  by_cases e:x=i
  ·subst e
   rw [if_pos rfl] at hc
   subst hc
   refine ⟨hy,?_,fun e=>absurd e.symm hne,fun _ => ?_⟩
   ·unfold mg
    rw [rx,ry,if_pos rfl,if_neg (fun e=>hne e.symm)]
   ·simp only [rx,ry,if_true]
    rw [if_neg (fun e=>hne e.symm)]; omega
  ·rw [if_neg e] at hc
   subst hc
   refine ⟨h1,?_,fun e' => ?_,fun e' => ?_⟩
   ·unfold mg; rw [h2]
   ·have:=h3 e'
    unfold mg
    rw [this,if_neg (fun e''=>e e''.symm)]
   ·have:=h4 e'
    simp only [h2]
    split <;> omega
theorem Zid (w:World) (g n cap i:Nat) (u:Value):Kept (Zbl (.slice (some ⟨g,0,none⟩) n cap)) w (w.setCell ⟨g,i,none⟩ u):=(Qx _ w).setCell (p:=⟨g,i,none⟩) (fun _=>(rfl:some g=some g)) u
theorem Zsd {l:List Nat} {k n:Nat} (h:l[k]?=some n):l.take (k+1)=l.take k++[n]:=by rw [List.take_add_one,h]; rfl
theorem Zww {w:World} {B e size n:Nat} {v:Value} {xs:List Value} (h:w.ownsRow B e size v n xs):∀ k,Zbl v k→∃ cl fr,w.heap[k]?=some (.cells cl e fr):=fun k hk=>by
 rcases h.2 with ⟨rfl,_⟩ | ⟨g,cap,cur,rfl,_,hg,_⟩
 ·simp [Zbl,Value.ownBlock] at hk
 ·simp [Zbl,Value.ownBlock] at hk
  subst hk
  exact ⟨_,_,hg⟩
def OfTy (S:Nat→Prop) (w:World) (t:TypeId):Prop:=∀ k,S k→∃ cl fr,w.heap[k]?=some (.cells cl t fr)
theorem OfTy.block {S:Nat→Prop} {w w':World} {t t':TypeId} {k:Nat} {cl:Array Value} {fr:Nat × Nat} (hS:OfTy S w t) (hk:Kept S w w') (h:w.heap[k]?=some (.cells cl t' fr)) (ht:t'≠t):w'.heap[k]?=some (.cells cl t' fr) :=
 (hk.block k (Zab h) (fun hs=>by
  obtain ⟨cl',fr',h1⟩:=hS k hs
  rw [h] at h1
  simp at h1
  exact ht h1.2.1)).trans h
theorem OfTy.row {S:Nat→Prop} {w w':World} {t B e size n:Nat} {v:Value} {xs:List Value} (hS:OfTy S w t) (hk:Kept S w w') (h:w.ownsRow B e size v n xs) (ht:e≠t):w'.ownsRow B e size v n xs :=
 Zah h (fun k hj=>by
  obtain ⟨cl,fr,h1⟩:=Zww h k hj
  rw [hS.block hk h1 ht,h1])
def symA (i:Nat):UInt8:=[97,98,99,88,89,90].getD i 0
def symP (i:Nat):UInt8:=[112,113,114].getD i 0
def argT (i:Nat):GT:=if i<3 then .n [symA i] else .v [symA i]
def atT (P A B:Nat):GT := .g [symP P] (argT A) (argT B)
theorem Zse (i:Nat):(argT i).text=[symA i]:=by unfold argT; split <;> rfl
theorem Ydi (i:Nat):(argT i).size=1:=by unfold argT; split <;> rfl
theorem Ydj (i:Nat) (h:i<6):(argT i).ok=true:=by
 rcases (by omega:i=0∨i=1∨i=2∨i=3∨i=4∨i=5) with rfl | rfl | rfl | rfl | rfl | rfl <;> decide +kernel
theorem Zqa (P A B:Nat) (hP:P<3) (hA:A<6) (hB:B<6):(atT P A B).fine=true:=by
 have hw:Zkc Zek [symP P]=true:=by rcases (by omega:P=0∨P=1∨P=2) with rfl | rfl | rfl <;> decide +kernel
 unfold GT.fine
 rw [Bool.and_eq_true,Bool.and_eq_true]
 exact ⟨rfl,by simp only [atT,GT.ok]; rw [hw,Ydj A hA,Ydj B hB]; rfl,by rw [decide_eq_true_eq]; simp only [atT,GT.size,Ydi]; omega⟩
theorem Zjm (P A B:Nat):(atT P A B).text.length=6:=by simp [atT,GT.text,Zse]
theorem cut_p (P:Nat) (h:P<3):(⟨#[112,113,114]⟩:ByteArray).extract P (P+1)=⟨[symP P].toArray⟩:=by
 rcases (by omega:P=0∨P=1∨P=2) with rfl | rfl | rfl <;> rw [Lib.extract_eq] <;> rfl
theorem Ylf (A:Nat) (h:A<6):(⟨#[97,98,99,88,89,90]⟩:ByteArray).extract A (A+1)=⟨[symA A].toArray⟩:=by
 rcases (by omega:A=0∨A=1∨A=2∨A=3∨A=4∨A=5) with rfl | rfl | rfl | rfl | rfl | rfl <;> rw [Lib.extract_eq] <;> rfl
theorem Ydk (P A B:Nat):(⟨(atT P A B).text.toArray⟩:ByteArray)=⟨[symP P].toArray⟩++⟨#[40]⟩++⟨[symA A].toArray⟩++⟨#[44]⟩++⟨[symA B].toArray⟩++⟨#[41]⟩:=by
 show _=⟨[symP P].toArray⟩++(⟨[40].toArray⟩:ByteArray)++⟨[symA A].toArray⟩++(⟨[44].toArray⟩:ByteArray)++⟨[symA B].toArray⟩++(⟨[41].toArray⟩:ByteArray)
 rw [Zbd,Zbd,Zbd,Zbd,Zbd]
 simp [atT,GT.text,Zse]
theorem Zoj (P A B:Nat) (hP:P<3) (hA:A<6) (hB:B<6) (w:World):Calls Tryz.prog 19 #[.agg #[.int .i64 P,.int .i64 A,.int .i64 B]] w fun e w'=>e = .returned (.string ⟨(atT P A B).text.toArray⟩)∧Ext w w':=by
 have e1:=cut_p P hP
 have e2:=Ylf A hA
 have e3:=Ylf B hB
 have He:=Zac (Ydk P A B)
 go_enter Tryz.func19,Tryz.ntmps19
 go_wp2_with fail
 go_quiet (fail)
 go_wp2
 go_ret
 exact ⟨by rw [He.out,← e1,← e2,← e3]; rfl,(Ext.of (by repeat' (first | with_reducible(first|exact Qx _ _|apply Kept.drew|apply Kept.drewN|apply Qz|refine Qy ?_ ?_ _)|exact fun h=>absurd h (by simp <;> omega))))⟩
def Zhx:List GT→List UInt8
 | []=>[]
 | t::r=>Zdp t r
theorem Ydl:∀ (r:List GT) (t u:GT),Zdp t (r++[u])=Zdp t r++(44::u.text):=by
 intro r
 induction r with
 | nil=>intro t u; rfl
 | cons x r ih=>intro t u; simp [Zdp,ih]
theorem Zzm {l:List GT} (h:l≠[]) (u:GT):Zhx (l++[u])=Zhx l++(44::u.text):=by
 cases l with
 | nil=>exact absurd rfl h
 | cons t r=>exact Ydl r t u
def atC (x:Nat × Nat × Nat):List Value:=[.int .i64 x.1,.int .i64 x.2.1,.int .i64 x.2.2]
def atG (x:Nat × Nat × Nat):GT:=atT x.1 x.2.1 x.2.2
def AtOk (x:Nat × Nat × Nat):Prop:=x.1<3∧x.2.1<6∧x.2.2<6
structure AtomsIn (w:World) (v:Value) (l:List (Nat × Nat × Nat)):Prop where
 owns:w.ownsRow 0 30 3 v l.length (l.flatMap atC)
 ok:∀ x ∈ l,AtOk x
theorem AtomsIn.ext {w w':World} {v:Value} {l:List (Nat × Nat × Nat)} (h:AtomsIn w v l) (e:Ext w w'):AtomsIn w' v l:=⟨Zah h.owns (fun k hk=>e.block k (h.owns.lt k hk).2),h.ok⟩
theorem Ygo:∀ (l:List (Nat × Nat × Nat)) (k:Nat) (x:Nat × Nat × Nat),l[k]?=some x→(l.flatMap atC)[k * 3]?=some (.int .i64 x.1)∧(l.flatMap atC)[k * 3+1]?=some (.int .i64 x.2.1)∧(l.flatMap atC)[k * 3+2]?=some (.int .i64 x.2.2):=by
 intro l
 induction l with
 | nil=>intro k x h; simp at h
 | cons y l ih =>
  intro k x h
  cases k with
  | zero=>simp at h; subst h; simp [atC]
  | succ k =>
   simp at h
   have:=ih k x h
   simp only [List.flatMap_cons]
   rw [Qd (by simp [atC]; omega),Qd (by simp [atC]; omega),Qd (by simp [atC]; omega)]
   simpa [atC,show (k+1) * 3 - 3=k * 3 by omega,show (k+1) * 3+1 - 3=k * 3+1 by omega,show (k+1) * 3+2 - 3=k * 3+2 by omega] using this
theorem AtomsIn.cells {w:World} {a:Option Addr} {c:Nat} {l:List (Nat × Nat × Nat)} (h:AtomsIn w (.slice a l.length c) l) {k:Nat} {x:Nat × Nat × Nat} (hx:l[k]?=some x):∃ g,a=some ⟨g,0,none⟩∧g<w.heap.size∧w.cell? ⟨g,k * 3,none⟩=some (.int .i64 x.1)∧w.cell? ⟨g,k * 3+1,none⟩=some (.int .i64 x.2.1)∧w.cell? ⟨g,k * 3+2,none⟩=some (.int .i64 x.2.2):=by
 have hk:=(Qa.1 hx).1
 rcases h.owns.2 with ⟨h1,h2⟩ | ⟨g,cap,cur,h1,_⟩
 ·omega
 ·simp only [Value.slice.injEq] at h1
  obtain ⟨rfl,_,rfl⟩:=h1
  obtain ⟨y0,y1,y2⟩:=Ygo l k x hx
  exact ⟨g,rfl,(h.owns.lt g rfl).2,Zai h.owns _ _ y0,Zai h.owns _ _ y1,Zai h.owns _ _ y2⟩
theorem Zlt (w:World) (a:Option Addr) (c:Nat) (l:List (Nat × Nat × Nat)) (h:AtomsIn w (.slice a l.length c) l) (hl:l.length≤100):Calls Tryz.prog 9 #[.slice a l.length c] w fun e w'=>e = .returned (.string ⟨(Zhx (l.map atG)++[46]).toArray⟩)∧Ext w w':=by
 have H:Hid (∀ u,Ext w u→AtomsIn u (.slice a l.length c) l):=fun u hu=>h.ext hu
 have HO:=Zac h.ok
 have HT:=Zac (fun P A B (hP:P<3) (hA:A<6) (hB:B<6) u=>Zoj P A B hP hA hB u)
 clear h
 go_enter Tryz.func9,Tryz.ntmps9
 go_wp2
 go_loopw [3,4] (fun sv i u=>∃ (k:Nat) (J:List UInt8),k≤l.length∧i = .int .i64 k∧sv = .string ⟨J.toArray⟩∧J=Zhx ((l.take k).map atG)∧J.length≤7 * k∧Ext w u) (fun _ i _=>l.length - (intOf i).toNat)
 case atStart=>exact ⟨0,[],Qm _,rfl,rfl,rfl,by simp,Below.refl _ _⟩
 case round =>
  obtain ⟨k,J,hk,rfl,rfl,hJ,hjl,hEu⟩:=hrel
  have HJ:=Zac hJ
  clear hJ
  have HEu:=Zac hEu
  by_cases hlt:k<l.length
  ·obtain ⟨x,hx⟩:∃ x,l[k]?=some x:=⟨_,Qb hlt⟩
   obtain ⟨g,rfl,hg,d0,d1,d2⟩:=(H.out wr hEu).cells hx
   obtain ⟨o1,o2,o3⟩:=HO.out x (Qh hx)
   have htk:(l.take (k+1)).map atG=(l.take k).map atG++[atG x]:=by rw [List.take_add_one,hx]; simp
   have HTx:=Zac (HT.out x.1 x.2.1 x.2.2 o1 o2 o3)
   have hal:(atT x.1 x.2.1 x.2.2).text.length=6:=Zjm _ _ _
   have hx6:(atG x).text.length=6:=hal
   by_cases h0:k=0
   ·subst h0
    have Hs:Hid (∃ J',J'=Zhx ((l.take (0+1)).map atG)∧(⟨J.toArray⟩:ByteArray)++⟨(atT x.1 x.2.1 x.2.2).text.toArray⟩=⟨J'.toArray⟩∧J'.length≤7):=by
     refine ⟨(atG x).text,?_,?_,by omega⟩
     ·rw [htk]
      simp [Zhx,Zdp]
     ·rw [HJ.out,Zbd]
      simp [Zhx,atG]
    clear hEu hx htk
    go_wp2_with fail
    refine (HTx.out _).mono ?_
    rintro e w3 ⟨rfl,hE3⟩
    have HE3:=Zac (HEu.out.trans (hE3.mono HEu.out.size))
    clear hE3
    go_wp2
    go_roundw
    case rel =>
     obtain ⟨J',j1,j2,j3⟩:=Hs.out
     exact ⟨0+1,J',by omega,by go_num,by rw [j2],j1,by omega,HE3.out⟩
    case measure=>simp [intOf]; omega
   ·have hne:(l.take k).map atG≠[]:=by
     intro e
     have:=congrArg List.length e
     simp only [Ql,List.length_take,Jt] at this
     omega
    have Hs:Hid (∃ J',J'=Zhx ((l.take (k+1)).map atG)∧(⟨J.toArray⟩:ByteArray)++⟨#[44]⟩++⟨(atT x.1 x.2.1 x.2.2).text.toArray⟩=⟨J'.toArray⟩∧J'.length≤7 * (k+1)):=by
     refine ⟨J++(44::(atG x).text),?_,?_,by simp only [Qg,Qf]; omega⟩
     ·rw [htk,Zzm hne,HJ.out]
     ·show (⟨J.toArray⟩:ByteArray)++⟨[44].toArray⟩++⟨(atT x.1 x.2.1 x.2.2).text.toArray⟩=_
      rw [Zbd,Zbd]
      simp [atG]
    have hpos:(0:Int)<(k:Int):=by omega
    clear hEu hx htk hne
    go_wp2_with fail
    refine (HTx.out _).mono ?_
    rintro e w3 ⟨rfl,hE3⟩
    have HE3:=Zac (HEu.out.trans (hE3.mono HEu.out.size))
    clear hE3
    go_wp2
    go_roundw
    case rel =>
     obtain ⟨J',j1,j2,j3⟩:=Hs.out
     exact ⟨k+1,J',by omega,by go_num,by rw [j2],j1,j3,HE3.out⟩
    case measure=>simp [intOf]; omega
  ·obtain rfl:k=l.length:=by omega
   have Hs:Hid ((⟨(Zhx (l.map atG)++[46]).toArray⟩:ByteArray)=⟨J.toArray⟩++⟨#[46]⟩):=by
    show _=⟨J.toArray⟩++(⟨[46].toArray⟩:ByteArray)
    rw [Zbd,HJ.out,List.take_length]
   clear hEu
   go_wp2
   go_ret
   exact ⟨by rw [Hs.out]; rfl,HEu.out⟩
def Znu (c:Int) (n:Nat):Nat:=((if c<0 then -(c+1) else c) % (n:Int)).toNat
theorem Zwx (c:Int) (n:Nat) (hn:0<n):Znu c n<n:=by
 have h1:=Int.emod_nonneg (if c<0 then -(c+1) else c) (show (n:Int)≠0 by omega)
 have h2:=Int.emod_lt_of_pos (if c<0 then -(c+1) else c) (show (0:Int)<n by omega)
 unfold Znu
 omega
theorem Zwy (c:Int) (n:Nat) (w:World) (hc : -9223372036854775808≤c∧c<9223372036854775808) (hn:0<n∧n<1000000) :
  Calls Tryz.prog 13 #[.int .i64 c,.int .i64 n] w fun e w'=>e = .returned (.int .i64 (Znu c n))∧w'=w:=by
 have hn0:¬ (n:Int)=0:=by omega
 obtain ⟨hc1,hc2⟩:=hc
 obtain ⟨hn1,hn2⟩:=hn
 by_cases h0:c<0
 ·have e : -((c+1).tmod n)=(Znu c n:Int):=by
   unfold Znu
   rw [if_pos h0,← Int.neg_tmod,Int.tmod_eq_emod_of_nonneg (by omega),Int.toNat_of_nonneg (Int.emod_nonneg _ hn0)]
  go_enter Tryz.func13,Tryz.ntmps13
  go_wp2
  go_ret
  exact ⟨by first | rfl | (rw [← e]; rfl) | simp [e],rfl⟩
 ·have e:c.tmod n=(Znu c n:Int):=by
   unfold Znu
   rw [if_neg h0,Int.tmod_eq_emod_of_nonneg (by omega),Int.toNat_of_nonneg (Int.emod_nonneg _ hn0)]
  have e':c % n=(Znu c n:Int):=by rw [← e,Int.tmod_eq_emod_of_nonneg (by omega)]
  go_enter Tryz.func13,Tryz.ntmps13
  go_wp2
  go_ret
  exact ⟨by first | rfl | (rw [← e]; rfl) | (rw [← e']; rfl) | simp [e,e'],rfl⟩
structure RawAt (w:World) (B b:Nat) (ra:Option Addr) (rl rc:Nat) (at':Nat):Prop where
 le:B≤b
 box:w.heap[b]?=some (.cells #[.slice ra rl rc,.int .i64 at'] 25 (0,0))
 far:at'≤rl
 len:rl≤9223372036854775807
 cells:∀ i,i<rl→∃ (k off:Nat) (c:Int),ra=some ⟨k,off,none⟩∧k<B∧w.cell? ⟨k,off+i,none⟩=some (.int .i64 c) ∧ -9223372036854775808≤c∧c<9223372036854775808
def RawIn (w:World) (B b:Nat) (ra:Option Addr) (rl rc:Nat):Prop:=∃ at',RawAt w B b ra rl rc at'
theorem RawAt.put {w w':World} {B b:Nat} {ra:Option Addr} {rl rc at' at2:Nat} (h:RawAt w B b ra rl rc at') (hK:Kept (only b) w w') (hb:w'.heap[b]?=some (.cells #[.slice ra rl rc,.int .i64 at2] 25 (0,0))) (h2:at2≤rl):RawAt w' B b ra rl rc at2:=by
 refine ⟨h.le,hb,h2,h.len,fun i hi => ?_⟩
 obtain ⟨k,off,c,h1,h3,h4,h5⟩:=h.cells i hi
 exact ⟨k,off,c,h1,h3,hK.cell h4 (fun e=>by have e:k=b:=e; have:=h.le; omega),h5⟩
theorem Zeh (w:World) (B b:Nat) (ra:Option Addr) (rl rc:Nat) (h:RawIn w B b ra rl rc) (n:Nat) (hn:0<n∧n≤100) :
  Calls Tryz.prog 6 #[.pointer (some ⟨b,0,none⟩),.int .i64 n] w fun e w'=>∃ v:Nat,v<n∧e = .returned (.int .i64 v)∧Kept (only b) w w'∧RawIn w' B b ra rl rc:=by
 obtain ⟨p,h⟩:=h
 have c0:=Zaa h.box 0 _ rfl
 have c1:=Zaa h.box 1 _ rfl
 have hb:=Zab h.box
 have hf:=fun i=>Zae h.box i
 have hfar:=h.far
 have hlen:=h.len
 have HR:=Zac h
 by_cases hlt:p<rl
 ·obtain ⟨k,off,c,rfl,hk,hc,hc1,hc2⟩:=h.cells p hlt
  have hkb:k<w.heap.size:=by have:=h.le; omega
  have HP:=Zac (fun u=>Zwy c n u ⟨hc1,hc2⟩ ⟨hn.1,by omega⟩)
  have hpl:=Zwx c n hn.1
  obtain ⟨v,hv⟩:∃ v,v=Znu c n:=⟨_,rfl⟩
  rw [← hv] at HP hpl
  have hI:¬ (rl:Int)≤(p:Int):=by omega
  have hI2:decide ((rl:Int)≤(p:Int))=false:=by simpa using hI
  clear h hv
  go_enter Tryz.func6,Tryz.ntmps6
  go_wp2_with fail
  go_quiet (fail)
  go_wp2_with fail
  have d0:(w.drewN nq).cell? ⟨b,0,none⟩=some (.slice (some ⟨k,off,none⟩) rl rc):=c0
  have d1:(w.drewN nq).cell? ⟨b,1,none⟩=some (.int .i64 p):=c1
  have dc:(w.drewN nq).cell? ⟨k,off+p,none⟩=some (.int .i64 c):=hc
  have df:∀ i,(w.drewN nq).frozen? ⟨b,i,none⟩=false:=hf
  have db:b<(w.drewN nq).heap.size:=hb
  have HK:Hid (Kept (only b) w (w.drewN nq)):=(Qx _ _).drewN nq
  have HB:Hid ((w.drewN nq).heap[b]?=some (.cells #[.slice (some ⟨k,off,none⟩) rl rc,.int .i64 p] 25 (0,0))):=HR.out.box
  clear c0 c1 hc hf hb hkb
  generalize w.drewN nq=W at d0 d1 dc df db HK HB ⊢
  go_quiet ((go_at_call 13; exact Calls.quiet_of_same (HP.out _)))
  go_wp2
  go_ret
  have hKe:∀ u:Value,Kept (only b) W (W.setCell ⟨b,1,none⟩ u):=fun u=>(Qx _ _).put 1 u
  refine ⟨v,hpl,rfl,?_,p+1,?_⟩
  ·exact HK.out.trans (by repeat (first | with_reducible exact Qx _ _ | with_reducible apply Kept.drewN | with_reducible apply Kept.put))
  ·refine HR.out.put (HK.out.trans (by repeat (first | with_reducible exact Qx _ _ | with_reducible apply Kept.drewN | with_reducible apply Kept.put))) ?_ (by omega)
   exact Zaf HB.out 1 _
 ·have hI:(rl:Int)≤(p:Int):=by omega
  have hI2:decide ((rl:Int)≤(p:Int))=true:=by simpa using hI
  clear h
  go_enter Tryz.func6,Tryz.ntmps6
  go_wp2_with fail
  go_quiet (fail)
  go_wp2
  go_ret
  exact ⟨0,hn.1,rfl,(Qx _ _).drewN _,p,HR.out.put ((Qx _ _).drewN _) HR.out.box hfar⟩
theorem Zgl {S:Nat→Prop} {w w':World} (h:Ext w w'):Kept S w w':=⟨h.os,h.tape,h.output,h.size,fun k hk _=>h.block k hk⟩
theorem RawIn.keep {S:Nat→Prop} {w w':World} {B b:Nat} {ra:Option Addr} {rl rc:Nat} (h:RawIn w B b ra rl rc) (hk:Kept S w w') (hb:¬ S b) (hB:∀ k,S k→B≤k):RawIn w' B b ra rl rc:=by
 obtain ⟨p,h⟩:=h
 refine ⟨p,h.le,(hk.block b (Zab h.box) hb).trans h.box,h.far,h.len,fun i hi => ?_⟩
 obtain ⟨k,off,c,h1,h2,h3,h4⟩:=h.cells i hi
 exact ⟨k,off,c,h1,h2,hk.cell h3 (fun e=>by have:=hB k e; omega),h4⟩
theorem RawIn.ext {w w':World} {B b:Nat} {ra:Option Addr} {rl rc:Nat} (h:RawIn w B b ra rl rc) (e:Ext w w'):RawIn w' B b ra rl rc :=
 h.keep (S:=fun _=>False) ⟨e.os,e.tape,e.output,e.size,fun k hk _=>e.block k hk⟩ (fun h=>h) (fun _ h=>h.elim)
theorem Zgb (w:World) (B b:Nat) (ra:Option Addr) (rl rc:Nat) (h:RawIn w B b ra rl rc) (p:Nat) (hp:p<3):Calls Tryz.prog 7 #[.pointer (some ⟨b,0,none⟩),.int .i64 p] w fun e w'=>∃ x:Nat × Nat × Nat,AtOk x∧x.1=p∧e = .returned (.agg #[.int .i64 x.1,.int .i64 x.2.1,.int .i64 x.2.2])∧Kept (only b) w w'∧RawIn w' B b ra rl rc:=by
 have hbl:b<w.heap.size:=by obtain ⟨q,h⟩:=h; exact Zab h.box
 have HT:=Zac (Zeh (w.alloc (.cells #[.int .i64 0,.int .i64 0,.int .i64 0] 30)) B b ra rl rc (h.ext (Ext.of (by repeat' (first | with_reducible(first|exact Qx _ _|apply Kept.drew|apply Kept.drewN|apply Qz|refine Qy ?_ ?_ _)|exact fun h=>absurd h (by simp <;> omega))))) 6 ⟨by omega,by omega⟩)
 clear h
 go_enter Tryz.func7,Tryz.ntmps7
 go_wp2_with fail
 refine HT.out.mono ?_
 rintro e w1 ⟨A,hA,rfl,hK,hR⟩
 have HT2:=Zac (Zeh w1 B b ra rl rc hR 6 ⟨by omega,by omega⟩)
 have HK:=Zac hK
 clear hK hR HT
 go_wp2_with fail
 refine HT2.out.mono ?_
 rintro e w2 ⟨C,hC,rfl,hK2,hR2⟩
 have hbx:w2.heap[w.heap.size]?=some (.cells #[.int .i64 0,.int .i64 0,.int .i64 0] 30 (0,0)):=((HK.out.trans hK2).block _ (by simp) (fun e=>by have e:w.heap.size=b:=e; omega)).trans (heap_alloc_new w _)
 have c0:=Zaa hbx 0 _ rfl
 have c1:=Zaa hbx 1 _ rfl
 have c2:=Zaa hbx 2 _ rfl
 have cf:=fun i=>Zae hbx i
 have cl:=Zab hbx
 have HK2:=Zac (HK.out.trans hK2)
 have Hfin:Hid (∀ Z,Kept (fun k=>k=w.heap.size) w2 Z→Kept (only b) w Z∧RawIn Z B b ra rl rc):=fun Z hZ=>by
  have hB:B≤w.heap.size:=by obtain ⟨q,h⟩:=hR2; have:=h.le; omega
  refine ⟨?_,hR2.keep hZ (fun e=>by omega) (fun k e=>by omega)⟩
  have k1:Kept (only b) w w2:=((Qx (only b) w).alloc _).trans HK2.out
  exact k1.then hZ (fun i hi e=>by omega)
 clear hK2 hR2 hbx HT2
 go_wp2
 refine bodyPost_ret (v := .agg #[.int .i64 p,.int .i64 A,.int .i64 C]) (by simp [results,Tryz.results7,go_sem,c0,c1,c2,cf,cl]) rfl ?_
 refine ⟨(p,A,C),⟨hp,hA,hC⟩,rfl,rfl,?_⟩
 refine Hfin.out _ ?_
 repeat (first | with_reducible exact Qx _ _ | with_reducible apply Kept.drew | with_reducible refine Qy ?_ (fun _=>by simp) _)
abbrev At3:=Nat × Nat × Nat
def RlOk (x:At3 × List At3):Prop:=AtOk x.1∧(∀ y ∈ x.2,AtOk y)∧x.2.length≤2
def rlG (x:At3 × List At3):GT × List GT:=(atG x.1,x.2.map atG)
structure RulesIn (w:World) (v:Value) (R:List (At3 × List At3)) (xs:List Value):Prop where
 owns:w.ownsRow 0 53 4 v R.length xs
 all:∀ (k:Nat) (x:At3 × List At3),R[k]?=some x→∃ (a:Option Addr) (c:Nat),xs[k * 4]?=some (.int .i64 x.1.1)∧xs[k * 4+1]?=some (.int .i64 x.1.2.1)∧xs[k * 4+2]?=some (.int .i64 x.1.2.2)∧xs[k * 4+3]?=some (.slice a x.2.length c)∧AtomsIn w (.slice a x.2.length c) x.2∧AtOk x.1∧x.2.length≤6
theorem RulesIn.ext {w w':World} {v:Value} {R:List (At3 × List At3)} {xs:List Value} (h:RulesIn w v R xs) (e:Ext w w'):RulesIn w' v R xs :=
 ⟨Zah h.owns (fun k hk=>e.block k (h.owns.lt k hk).2),fun k x hx=>by
  obtain ⟨a,c,y0,y1,y2,y3,y4,y5⟩:=h.all k x hx
  exact ⟨a,c,y0,y1,y2,y3,y4.ext e,y5⟩⟩
theorem Zsf (P:List (GT × List GT)) (c:GT × List GT):Zec (P++[c])=Zec P++clT c.1 c.2:=by simp [Zec]
theorem Zwz (a:GT) (b:List GT) (h:b≠[]):clT a b=a.text++([58,45]++(Zhx b++[46])):=by
 cases b with
 | nil=>exact absurd rfl h
 | cons t r=>rfl
theorem Zsg:∀ (l:List At3),(Zhx (l.map atG)).length≤7 * l.length:=by
 have key:∀ (r:List At3) (x:At3),(Zdp (atG x) (r.map atG)).length≤7 * (r.length+1):=by
  intro r
  induction r with
  | nil=>intro x; have:(atG x).text.length=6:=Zjm _ _ _; simp [Zdp,this]
  | cons y r ih =>
   intro x
   have h6:(atG x).text.length=6:=Zjm _ _ _
   have:=ih y
   simp only [List.map_cons,Zdp,Qg,Qf] at this ⊢
   omega
 intro l
 cases l with
 | nil=>simp [Zhx]
 | cons x r=>simpa [Zhx] using key r x
theorem Zqb (w:World) (a:Option Addr) (c:Nat) (R:List (At3 × List At3)) (xs:List Value) (h:RulesIn w (.slice a R.length c) R xs) (hl:R.length≤100):Calls Tryz.prog 8 #[.slice a R.length c] w fun e w'=>e = .returned (.string ⟨(Zec (R.map rlG)).toArray⟩)∧Ext w w':=by
 have H:Hid (∀ u,Ext w u→RulesIn u (.slice a R.length c) R xs):=fun u hu=>h.ext hu
 have HT:=Zac (fun P A B (hP:P<3) (hA:A<6) (hB:B<6) u=>Zoj P A B hP hA hB u)
 have HL:=Zac (fun (u:World) (a:Option Addr) (c:Nat) (l:List At3) (h:AtomsIn u (.slice a l.length c) l) (hl:l.length≤100)=>Zlt u a c l h hl)
 clear h
 go_enter Tryz.func8,Tryz.ntmps8
 go_wp2
 go_loopw [3,4] (fun sv i u=>∃ (k:Nat) (J:List UInt8),k≤R.length∧i = .int .i64 k∧sv = .string ⟨J.toArray⟩∧J=Zec ((R.take k).map rlG)∧J.length≤60 * k∧Ext w u) (fun _ i _=>R.length - (intOf i).toNat)
 case atStart=>exact ⟨0,[],Qm _,rfl,rfl,rfl,by simp,Below.refl _ _⟩
 case round =>
  obtain ⟨k,J,hk,rfl,rfl,hJ,hjl,hEu⟩:=hrel
  have HJ:=Zac hJ
  have HEu:=Zac hEu
  clear hJ
  by_cases hlt:k<R.length
  ·obtain ⟨x,hx⟩:∃ x,R[k]?=some x:=⟨_,Qb hlt⟩
   obtain ⟨xh,xb⟩:=x
   have hRu:=H.out wr hEu
   obtain ⟨ba,bc,y0,y1,y2,y3,hAt,⟨o1,o2,o3⟩,hb6⟩:=hRu.all k _ hx
   simp only at y0 y1 y2 y3 hAt o1 o2 o3 hb6
   obtain ⟨g,hgs,hg⟩:∃ g,a=some ⟨g,0,none⟩∧g<wr.heap.size:=by
    rcases hRu.owns.2 with ⟨h1,h2⟩ | ⟨g,cap,cur,h1,_⟩
    ·omega
    ·simp only [Value.slice.injEq] at h1
     obtain ⟨e,_,rfl⟩:=h1
     subst e
     exact ⟨g,rfl,(hRu.owns.lt g rfl).2⟩
   subst hgs
   have d0:=Zai hRu.owns _ _ y0
   have d1:=Zai hRu.owns _ _ y1
   have d2:=Zai hRu.owns _ _ y2
   have htk:(R.take (k+1)).map rlG=(R.take k).map rlG++[rlG (xh,xb)]:=by rw [List.take_add_one,hx]; simp
   have HTx:=Zac (HT.out xh.1 xh.2.1 xh.2.2 o1 o2 o3)
   have hal:(atT xh.1 xh.2.1 xh.2.2).text.length=6:=Zjm _ _ _
   have hx6:(atG xh).text.length=6:=hal
   have hjb:=Zsg xb
   have HRu:=Zac hRu
   have Hy3:=Zac y3
   have HAt:=Zac hAt
   clear hEu hx hRu y0 y1 y2 y3 hAt
   go_wp2_with fail
   refine (HTx.out _).mono ?_
   rintro e w3 ⟨rfl,hE3⟩
   have HE3:Hid (Ext w w3):=HEu.out.trans (hE3.mono HEu.out.size)
   have f3:w3.cell? ⟨g,k * 4+3,none⟩=some (.slice ba xb.length bc):=Zai (HRu.out.ext hE3).owns _ _ Hy3.out
   have hg3:g<w3.heap.size:=by have:=hE3.size; omega
   have HAt3:=Zac (HAt.out.ext hE3)
   clear hE3 d0 d1 d2
   by_cases hb0:xb.length=0
   ·obtain rfl:xb=[]:=List.eq_nil_of_length_eq_zero hb0
    have Hs:Hid (∃ J',J'=Zec ((R.take (k+1)).map rlG)∧(⟨J.toArray⟩:ByteArray)++⟨(atT xh.1 xh.2.1 xh.2.2).text.toArray⟩++⟨#[46]⟩=⟨J'.toArray⟩∧J'.length≤60 * (k+1)):=by
     refine ⟨J++((atG xh).text++[46]),?_,?_,by simp only [Qg,Qn]; omega⟩
     ·rw [htk,Zsf,HJ.out]
      rfl
     ·show (⟨J.toArray⟩:ByteArray)++⟨(atT xh.1 xh.2.1 xh.2.2).text.toArray⟩++⟨[46].toArray⟩=_
      rw [Zbd,Zbd]
      simp [atG]
    clear htk hb0
    go_wp2
    go_roundw
    case rel =>
     obtain ⟨J',j1,j2,j3⟩:=Hs.out
     exact ⟨k+1,J',by omega,by go_num,by rw [j2],j1,j3,HE3.out⟩
    case measure=>simp [intOf]; omega
   ·have hne:xb.map atG≠[]:=fun e=>hb0 (by simpa using congrArg List.length e)
    have hb0':((xb.length:Int) == 0)=false:=by rw [Qu]; omega
    have Hs:Hid (∃ J',J'=Zec ((R.take (k+1)).map rlG)∧(⟨J.toArray⟩:ByteArray)++⟨(atT xh.1 xh.2.1 xh.2.2).text.toArray⟩++⟨#[58,45]⟩++⟨(Zhx (xb.map atG)++[46]).toArray⟩=⟨J'.toArray⟩∧J'.length≤60 * (k+1)):=by
     refine ⟨J++((atG xh).text++([58,45]++(Zhx (xb.map atG)++[46]))),?_,?_,by simp only [Qg,Qn,Qf,Jt]; omega⟩
     ·rw [htk,Zsf,HJ.out]
      simp only [rlG]
      rw [Zwz _ _ hne]
     ·show (⟨J.toArray⟩:ByteArray)++⟨(atT xh.1 xh.2.1 xh.2.2).text.toArray⟩++⟨[58,45].toArray⟩++⟨(Zhx (xb.map atG)++[46]).toArray⟩=_
      rw [Zbd,Zbd,Zbd]
      simp [atG]
    have HLx:=Zac (HL.out w3 ba bc xb HAt3.out (by omega))
    have hjl6:(Zhx (xb.map atG)++[46]).length≤60:=by simp only [Qg,Qn]; omega
    obtain ⟨V,hV⟩:∃ V,V=Zhx (xb.map atG)++[46]:=⟨_,rfl⟩
    rw [← hV] at Hs HLx hjl6
    clear htk hb0 hne hV hjb
    go_wp2_with fail
    refine HLx.out.mono ?_
    rintro e w4 ⟨rfl,hE4⟩
    have HE4:=Zac (HE3.out.trans (hE4.mono HE3.out.size))
    clear hE4
    go_wp2
    go_roundw
    case rel =>
     obtain ⟨J',j1,j2,j3⟩:=Hs.out
     exact ⟨k+1,J',by omega,by go_num,by rw [j2],j1,j3,HE4.out⟩
    case measure=>simp [intOf]; omega
  ·obtain rfl:k=R.length:=by omega
   have Hs:Hid (J=Zec (R.map rlG)):=by rw [show (R.map rlG)=((R.take R.length).map rlG) by rw [List.take_length]]; exact HJ.out
   clear hEu
   go_wp2
   go_ret
   exact ⟨by rw [← Hs.out]; rfl,HEu.out⟩
structure RlsAt (u:World) (B0:Nat) (v:Value) (R:List (At3 × List At3)) (xs:List Value):Prop where
 owns:u.ownsRow B0 53 4 v R.length xs
 all:∀ (k:Nat) (x:At3 × List At3),R[k]?=some x→∃ (a:Option Addr) (c:Nat),xs[k * 4]?=some (.int .i64 x.1.1)∧xs[k * 4+1]?=some (.int .i64 x.1.2.1)∧xs[k * 4+2]?=some (.int .i64 x.1.2.2)∧xs[k * 4+3]?=some (.slice a x.2.length c)∧u.ownsRow B0 30 3 (.slice a x.2.length c) x.2.length (x.2.flatMap atC)∧RlOk x
theorem RlsAt.nil (u:World) (B0:Nat):RlsAt u B0 (.slice none 0 0) [] []:=⟨World.ownsRow_nil _ _ _ _,fun k x h=>by simp at h⟩
theorem RlsAt.keep {u u':World} {B0:Nat} {v:Value} {R:List (At3 × List At3)} {xs:List Value} (h:RlsAt u B0 v R xs) (hk:∀ k,B0≤k→k<u.heap.size→u'.heap[k]?=u.heap[k]?):RlsAt u' B0 v R xs :=
 ⟨Zah h.owns (fun k e=>hk k (h.owns.lt k e).1 (h.owns.lt k e).2),fun k x hx=>by
  obtain ⟨a,c,y0,y1,y2,y3,y4,y5⟩:=h.all k x hx
  exact ⟨a,c,y0,y1,y2,y3,Zah y4 (fun k e=>hk k (y4.lt k e).1 (y4.lt k e).2),y5⟩⟩
theorem RlsAt.rules {u:World} {B0:Nat} {v:Value} {R:List (At3 × List At3)} {xs:List Value} (h:RlsAt u B0 v R xs):RulesIn u v R xs :=
 ⟨Zba h.owns (Qm _),fun k x hx=>by
  obtain ⟨a,c,y0,y1,y2,y3,y4,y5⟩:=h.all k x hx
  exact ⟨a,c,y0,y1,y2,y3,⟨Zba y4 (Qm _),y5.2.1⟩,y5.1,by have:=y5.2.2; omega⟩⟩
theorem RlsAt.ok {u:World} {B0:Nat} {v:Value} {R:List (At3 × List At3)} {xs:List Value} (h:RlsAt u B0 v R xs):∀ x ∈ R,RlOk x:=fun x hx=>by
 obtain ⟨k,hk⟩:=List.mem_iff_getElem?.1 hx
 obtain ⟨_,_,_,_,_,_,_,y⟩:=h.all k x hk
 exact y
theorem RlsAt.more {U w':World} {B0:Nat} {v v':Value} {R:List (At3 × List At3)} {xs:List Value} {x:At3 × List At3} {a:Option Addr} {c:Nat} (h:RlsAt U B0 v R xs) (hb:U.ownsRow B0 30 3 (.slice a x.2.length c) x.2.length (x.2.flatMap atC)) (ho:RlOk x)
  (hA:Appended U B0 53 4 v (R.length+1) (xs++[.int .i64 x.1.1,.int .i64 x.1.2.1,.int .i64 x.1.2.2,.slice a x.2.length c]) v' w'):RlsAt w' B0 v' (R++[x]) (xs++[.int .i64 x.1.1,.int .i64 x.1.2.1,.int .i64 x.1.2.2,.slice a x.2.length c]):=by
 have hl:=h.owns.1
 have hkeep:∀ {vv:Value} {n:Nat} {zs:List Value},U.ownsRow B0 30 3 vv n zs→w'.ownsRow B0 30 3 vv n zs:=fun hr=>Zah hr (fun k e=>hA.kept.block k (hr.lt k e).2 (fun e2=>by
  obtain ⟨c1,h1⟩:=Zbk hr k e
  obtain ⟨c2,h2⟩:=Zbk h.owns k e2
  rw [h1] at h2
  simp at h2))
 refine ⟨by simpa using hA.owns,fun k y hy => ?_⟩
 rcases Nat.lt_or_ge k R.length with hk | hk
 ·rw [Qc hk] at hy
  obtain ⟨a',c',y0,y1,y2,y3,y4,y5⟩:=h.all k y hy
  refine ⟨a',c',?_,?_,?_,?_,hkeep y4,y5⟩
  ·rw [Qc (by omega)]; exact y0
  ·rw [Qc (by omega)]; exact y1
  ·rw [Qc (by omega)]; exact y2
  ·rw [Qc (by omega)]; exact y3
 ·obtain rfl:k=R.length:=by
   have:=(Qa.1 hy).1
   simp at this
   omega
  simp at hy
  subst hy
  refine ⟨a,c,?_,?_,?_,?_,hkeep hb,ho⟩
  ·rw [Qd (by omega),hl]; simp
  ·rw [Qd (by omega),hl,show R.length * 4+1 - R.length * 4=1 by omega]; simp
  ·rw [Qd (by omega),hl,show R.length * 4+2 - R.length * 4=2 by omega]; simp
  ·rw [Qd (by omega),hl,show R.length * 4+3 - R.length * 4=3 by omega]; simp
theorem Tryz.infoRule:(Tryz.prog.info? 53).map (fun i=>(i.zero,i.size,i.bytes))=some (some (.agg #[.int .i64 0,.int .i64 0,.int .i64 0,.slice none 0 0]),4,48):=by kernel_rfl
def fresh (st:List Nat):Nat:=(st.filter (fun n=>n == 0)).length
def on (st:List Nat):Nat→Prop:=fun i=>st[i]?=some 1
theorem Known.congr {G:Gr} {ρ:Nat→Nat} {D D':Nat→Prop} {T T':Nat→List Sym} (h:Known G ρ D T) (hd:∀ i,D' i↔D i) (ht:∀ i,D i→T' i=T i):Known G ρ D' T':=by
 refine ⟨fun r hr=>h.lt r ((hd r).1 hr),fun r hr => ?_,fun r hr k hk=>(hd _).2 (h.kid r ((hd r).1 hr) k hk)⟩
 have hr':=(hd r).1 hr
 rw [ht r hr',h.tm r hr']
 congr 2
 exact List.map_congr_left (fun k hk=>(ht _ (h.kid r hr' k hk)).symm)
theorem Zct {w w':World} {M:Nat} {cs:Array Value} {t:TypeId} {fr:Nat × Nat} {B:Nat} {e:TypeId} {size n:Nat} {v:Value} {xs:List Value} (h:w.ownsRow B e size v n xs) (hM:w.heap[M]?=some (.cells cs t fr)) (ht:e≠t) (hk:Kept (fun k=>k=M) w w'):w'.ownsRow B e size v n xs :=
 hk.owns h (fun k hk' e'=>by subst e'; exact Zag h ht hM hk')
end Go.Proofs.YtlmjilpjmgjjcabGreatDoor
namespace Go.Proofs.YtlmjilpjmgjjcabGreatDoor
theorem Zok {τ:Nat→List Sym} (hτ:Ts τ) {φ:Sym→Sym}:∀ {l:List Sym},ap τ l=l.map φ→∀ s ∈ l,s.name≠[]→φ s=s:=by
 intro l
 induction l with
 | nil=>intro _ s hs; simp at hs
 | cons t l ih =>
  intro e s hs hn
  rw [Zbs,List.map_cons] at e
  have l1:1≤(ap1 τ t).length:=by
   unfold ap1; split
   ·exact Zel (hτ _)
   ·simp
  have l2:=Zgj hτ l
  have l3:=congrArg List.length e
  simp only [Qg,Qf,Ql] at l3
  have hh:=List.append_inj (s₁:=ap1 τ t) (s₂:=[φ t]) (t₁:=ap τ l) (t₂:=l.map φ) (by simpa using e) (by simp; omega)
  rcases Qp.1 hs with rfl | hs
  ·have:=hh.1
   unfold ap1 at this
   rw [if_neg hn] at this
   simpa using this.symm
  ·exact ih hh.2 s hs hn
def offN (N:List (List UInt8)) (s:Sym):Sym:=if s.name=[]∨s.name ∈ N then s else ⟨s.name++[0],s.num,s.args⟩
theorem Ylg {N:List (List UInt8)}:∀ {l:List Sym} {k:Nat},Wf k l→Wf k (l.map (offN N)):=by
 intro l
 induction l with
 | nil=>intro k h; exact h
 | cons s l ih =>
  intro k h
  obtain ⟨h1,h2,h3,h4⟩:=h
  have e1:(offN N s).args=s.args:=by unfold offN; split <;> rfl
  have e2:(offN N s).name=[]↔s.name=[]:=by
   unfold offN; split
   ·exact Iff.rfl
   ·rename_i h; simp at h ⊢; exact h.1
  have e3:(offN N s).num=s.num:=by unfold offN; split <;> rfl
  refine ⟨h1,fun h=>by rw [e1]; exact h2 (e2.1 h),fun h=>by rw [e3]; exact h3 (fun h'=>h (e2.2 h')),?_⟩
  rw [e1]; exact ih h4
theorem Mgu.nm {σ:Nat→List Sym} {a b:List Sym} (h:Mgu σ a b) (n:Nat):∀ s ∈ σ n,s.name≠[]→∃ t ∈ a++b,t.name=s.name:=by
 intro s hs hn
 refine Classical.byContradiction (fun hno => ?_)
 have hno:∀ t ∈ a++b,t.name≠s.name:=fun t ht e=>hno ⟨t,ht,e⟩
 obtain ⟨N,hN⟩:∃ N,N=(a++b).map (·.name):=⟨_,rfl⟩
 have hθ:Ts (fun n=>(σ n).map (offN N)):=fun n=>Ylg (h.ts n)
 have key:∀ l:List Sym,(∀ t ∈ l,t.name ∈ N)→ap (fun n=>(σ n).map (offN N)) l=(ap σ l).map (offN N):=by
  intro l
  induction l with
  | nil=>intro _; rfl
  | cons t l ih =>
   intro ht
   rw [Zbs,Zbs,Qr,ih (fun u hu=>ht u (by simp [hu]))]
   congr 1
   unfold ap1
   split
   ·rfl
   ·have:offN N t=t:=by unfold offN; rw [if_pos (Or.inr (ht t (by simp)))]
    simp [this]
 have ha:=key a (fun t ht=>by rw [hN]; exact List.mem_map.2 ⟨t,by simp [ht],rfl⟩)
 have hb:=key b (fun t ht=>by rw [hN]; exact List.mem_map.2 ⟨t,by simp [ht],rfl⟩)
 have hw:=h.wide _ hθ (by rw [ha,hb,h.unif]) n
 have hf:=Zok hθ hw s hs hn
 have hnN:¬ (s.name=[]∨s.name ∈ N):=by
  rintro (h | h)
  ·exact hn h
  ·rw [hN] at h
   obtain ⟨t,ht,e⟩:=List.mem_map.1 h
   exact hno t ht e
 unfold offN at hf
 rw [if_neg hnN] at hf
 have:=congrArg (fun s=>s.name.length) hf
 simp at this
def Shorts (l:List Sym):Prop:=∀ s ∈ l,s.name.length≤800
def NNm (n:ND):Prop:=∀ t ∈ n.terms,Shorts t
def CNm (c:Cls):Prop:=Shorts c.head∧∀ t ∈ c.body,Shorts t
theorem Zsh (n:Nat):Shorts (vr n):=fun s hs=>by simp [vr] at hs; subst hs; simp
theorem Shorts.ap {σ:Nat→List Sym} {l:List Sym} (h:Shorts l) (hσ:∀ n,Shorts (σ n)):Shorts (ap σ l):=by
 intro s hs
 simp only [YtlmjilpjmgjjcabGreatDoor.ap,List.mem_flatMap] at hs
 obtain ⟨t,ht,hs⟩:=hs
 unfold ap1 at hs
 split at hs
 ·exact hσ _ s hs
 ·simp at hs; subst hs; exact h s ht
theorem Zlu (v n:Nat):Shorts (Zcx v n):=Zsh _
theorem Mgu.shorts {σ:Nat→List Sym} {a b:List Sym} (h:Mgu σ a b) (ha:Shorts a) (hb:Shorts b) (n:Nat):Shorts (σ n):=by
 intro s hs
 by_cases hn:s.name=[]
 ·rw [hn]; simp
 ·obtain ⟨t,ht,e⟩:=h.nm n s hs hn
  rw [← e]
  rcases Qk.1 ht with ht | ht
  ·exact ha t ht
  ·exact hb t ht
theorem Ydm {n:ND} {c:Cls} {k q:Nat} {ch:ND} (h:Out n c k q ch) (hq:q=1∨q=2) (hn:NNm n) (hc:CNm c):NNm ch:=by
 obtain ⟨g,gs,hg,h⟩:=h
 rcases h with ⟨rfl,_⟩ | ⟨rfl,_⟩ | ⟨σ,h1,_,_,rfl⟩
 ·omega
 ·omega
 ·have hgt:Shorts g.1:=hn g.1 (by simp [ND.terms,hg])
  have hhd:Shorts (ap (Zcx n.vars) c.head):=hc.1.ap (Zlu _)
  have hσ:=h1.shorts hgt hhd
  intro t ht
  rw [Zfy] at ht
  simp only [Qk,List.mem_map] at ht
  rcases ht with ⟨u,hu,rfl⟩ | ⟨u,hu,rfl⟩ | ⟨u,hu,rfl⟩
  ·rcases hu with ⟨b,hb,rfl⟩ | ⟨x,hx,rfl⟩
   ·exact ((hc.2 b hb).ap (Zlu _)).ap hσ
   ·exact (hn x.1 (by simp only [ND.terms,hg,List.map_cons,List.cons_append,Qp,Qk,List.mem_map]; exact Or.inr (Or.inl ⟨x,hx,rfl⟩))).ap hσ
  ·exact (hn u (by simp [ND.terms,hu])).ap hσ
  ·rcases hu with ⟨x,hx,rfl⟩ | hu
   ·exact (hn x.1 (by simp only [ND.terms,Qk,List.mem_map]; exact Or.inr (Or.inr ⟨x,hx,rfl⟩))).ap hσ
   ·simp at hu; subst hu; exact hgt.ap hσ
structure SB (st:RS):Prop where
 next:st.next≤5
 atom:st.atom.length≤30
 empty:st.next≠2→st.next≠3→st.next≠4→st.atom=[]
 head:st.head.length≤30
 body:∀ l ∈ st.body,l.length≤30
 bodyn:st.body.length≤6
 inb:st.next=2∨st.next=3∨st.next=4→st.body.length≤5
 cls:∀ c ∈ st.clauses,c.head.length≤30∧(∀ l ∈ c.body,l.length≤30)∧c.body.length≤6
 clsn:st.clauses.length≤24
 clsb:st.next≠0→st.next≠5→st.clauses.length≤23
 fresh:st.next=0→st.body=[]
 an:∀ s ∈ st.atom,s.name.length≤8
 hn:∀ s ∈ st.head,s.name.length≤8
 bn:∀ l ∈ st.body,∀ s ∈ l,s.name.length≤8
 vn:∀ x ∈ st.vars,x.length≤8
 cn:∀ c ∈ st.clauses,(∀ s ∈ c.head,s.name.length≤8)∧(∀ l ∈ c.body,∀ s ∈ l,s.name.length≤8)∧∀ x ∈ c.names,x.length≤8
theorem SB.endAtom {st:RS} (h:SB st) (h5:st.body.length≤5):(Zap st).atom=[]∧(Zap st).head.length≤30∧(∀ l ∈ (Zap st).body,l.length≤30)∧(Zap st).body.length≤6∧(Zap st).clauses=st.clauses∧(∀ s ∈ (Zap st).head,s.name.length≤8)∧(∀ l ∈ (Zap st).body,∀ s ∈ l,s.name.length≤8)∧(Zap st).vars=st.vars:=by
 unfold Zap
 split
 ·refine ⟨rfl,h.head,?_,by simp; omega,rfl,h.hn,?_,rfl⟩
  ·intro l hl
   simp at hl
   rcases hl with hl | rfl
   ·exact h.body l hl
   ·exact h.atom
  ·intro l hl
   simp at hl
   rcases hl with hl | rfl
   ·exact h.bn l hl
   ·exact h.an
 ·exact ⟨rfl,h.atom,h.body,by simpa using h.bodyn,rfl,h.an,h.bn,rfl⟩
theorem Zol (st:RS) (h:∀ s ∈ st.atom,s.name.length≤8):∀ s ∈ Zcn st,s.name.length≤8:=by
 unfold Zcn
 split
 ·exact h
 ·intro s hs
  rw [List.mem_iff_getElem?] at hs
  obtain ⟨i,hi⟩:=hs
  rw [List.getElem?_modify] at hi
  simp only [Option.map_eq_map,Option.map_eq_some_iff] at hi
  obtain ⟨t,ht,e⟩:=hi
  have:=h t (Qh ht)
  split at e
  ·rw [← e]; exact this
  ·rw [← e]; exact this
theorem SB.take {st:RS} {kd len:Nat} {t:List UInt8} (h:SB st) (hc:Zbv st kd len=0) (hlen:len=t.length):SB (Zbj st kd t):=by
 have hs:=Zji hc
 obtain ⟨k1,k7,_,_⟩:=Zjj hs h.next
 have hfull:kd=1∨kd=2→Zfh st=false:=by
  intro hk
  unfold Zbv at hc
  rw [if_neg (by simp [hs])] at hc
  split at hc
  ·omega
  ·rename_i h'
   cases hf:Zfh st with
   | false=>rfl
   | true=>exact absurd ⟨hk,Or.inr hf⟩ h'
 have h8:kd=1∨kd=2→t.length≤8:=by
  intro hk
  unfold Zbv at hc
  rw [if_neg (by simp [hs])] at hc
  split at hc
  ·omega
  ·rename_i h'
   rcases Nat.lt_or_ge 8 len with h9 | h9
   ·exact absurd ⟨hk,Or.inl h9⟩ h'
   ·omega
 have hnext:kd=1∨kd=2→st.next=0∨st.next=1∨st.next=2:=by
  intro hk
  unfold Zbh at hs
  split at hs
  ·omega
  ·split at hs
   ·omega
   ·split at hs
    ·rcases hk with rfl | rfl
     ·simp [Zbt] at hs
     ·simp [Zbt] at hs
    ·split at hs
     ·rcases hk with rfl | rfl
      ·simp [Zbt] at hs
      ·simp [Zbt] at hs
     ·simp at hs
 have hother:¬ (kd=1∨kd=2)→st.next=3∨st.next=4:=by
  intro hk
  unfold Zbh at hs
  split at hs
  ·simp at hs; omega
  ·split at hs
   ·simp at hs; omega
   ·split at hs
    ·omega
    ·split at hs
     ·omega
     ·simp at hs
 have add:(kd=1∨kd=2)→st.atom.length+1≤30∧st.body.length≤5∧st.clauses.length≤23:=by
  intro hk
  have hf:=hfull hk
  unfold Zfh at hf
  rcases hnext hk with h0 | h0 | h0
  ·rw [if_pos h0] at hf
   simp at hf
   have:=h.empty (by omega) (by omega) (by omega)
   have hb:=h.fresh h0
   exact ⟨by simp [this],by simp [hb],by omega⟩
  ·rw [if_neg (by omega),if_pos h0] at hf
   simp at hf
   have:=h.empty (by omega) (by omega) (by omega)
   exact ⟨by simp [this],by omega,h.clsb (by omega) (by omega)⟩
  ·rw [if_neg (by omega),if_neg (by omega),if_pos h0] at hf
   simp at hf
   exact ⟨by omega,h.inb (Or.inl h0),h.clsb (by omega) (by omega)⟩
 have h34:¬ (kd=1∨kd=2)→st.body.length≤5∧st.clauses.length≤23:=fun hk=>by
  have:=hother hk
  exact ⟨h.inb (by omega),h.clsb (by omega) (by omega)⟩
 unfold Zbj
 split
 ·rename_i hk
  obtain ⟨a1,a2,a3⟩:=add (Or.inl hk)
  exact ⟨by simp,by simp [addS,Zmb]; omega,fun _ h3=>absurd rfl h3,h.head,h.body,h.bodyn,fun _=>a2,h.cls,h.clsn,fun _ _=>a3,fun e=>by simp at e,fun s hs=>by
   simp only [addS,Qk,List.mem_singleton] at hs
   rcases hs with hs | rfl
   ·exact Zol st h.an s hs
   ·exact h8 (Or.inl hk),h.hn,h.bn,h.vn,h.cn⟩
 ·split
  ·rename_i hk
   obtain ⟨a1,a2,a3⟩:=add (Or.inr hk)
   have hb:(Zcn (varS st t)).length=st.atom.length:=Zmb _
   exact ⟨by simp,by simp [addS,hb]; omega,fun _ _ h4=>absurd rfl h4,h.head,h.body,h.bodyn,fun _=>a2,h.cls,h.clsn,fun _ _=>a3,fun e=>by simp at e,fun s hs=>by
    simp only [addS,Qk,List.mem_singleton] at hs
    rcases hs with hs | rfl
    ·exact Zol (varS st t) h.an s hs
    ·simp,h.hn,h.bn,fun x hx=>by
    simp only [addS,varS,Zbr] at hx
    split at hx
    ·exact h.vn x hx
    ·rcases Qk.1 hx with hx | hx
     ·exact h.vn x hx
     ·simp at hx; subst hx; exact h8 (Or.inr hk),h.cn⟩
  ·rename_i n1 n2
   obtain ⟨b1,b2⟩:=h34 (by omega)
   obtain ⟨e1,e2,e3,e4,e5,e6,e7,e8⟩:=h.endAtom b1
   split
   ·exact ⟨by simp,h.atom,fun h2=>absurd rfl h2,h.head,h.body,h.bodyn,fun _=>b1,h.cls,h.clsn,fun _ _=>b2,fun e=>by simp at e,h.an,h.hn,h.bn,h.vn,h.cn⟩
   ·split
    ·exact ⟨by simp,h.atom,fun _ _ h4=>absurd rfl h4,h.head,h.body,h.bodyn,fun _=>b1,h.cls,h.clsn,fun _ _=>b2,fun e=>by simp at e,h.an,h.hn,h.bn,h.vn,h.cn⟩
    ·split
     ·unfold Zgk
      split
      ·exact ⟨by simp,by simp [e1],fun _ _ _=>e1,e2,e3,e4,fun h=>by simp at h,by rw [e5]; exact h.cls,by rw [e5]; exact h.clsn,fun _ _=>by rw [e5]; exact b2,fun e=>by simp at e,by simp [e1],e6,e7,by rw [e8]; exact h.vn,by rw [e5]; exact h.cn⟩
      ·exact ⟨by simp,h.atom,fun h2=>absurd rfl h2,h.head,h.body,h.bodyn,fun _=>b1,h.cls,h.clsn,fun _ _=>b2,fun e=>by simp at e,h.an,h.hn,h.bn,h.vn,h.cn⟩
     ·split
      ·exact ⟨by simp,by simp [e1],fun _ _ _=>e1,e2,e3,e4,fun h=>by simp at h,by rw [e5]; exact h.cls,by rw [e5]; exact h.clsn,fun _ _=>by rw [e5]; exact b2,fun e=>by simp at e,by simp [e1],e6,e7,by rw [e8]; exact h.vn,by rw [e5]; exact h.cn⟩
      ·split
       ·have hn:(Zan (Zap st)).next=0∨(Zan (Zap st)).next=5:=by unfold Zan; simp only; split <;> simp
        refine ⟨by omega,by simp [Zan,e1],fun _ _ _=>by simp [Zan,e1],by simp [Zan],by simp [Zan],by simp [Zan],fun _=>by simp [Zan],?_,?_,fun h0 h5=>by omega,fun _=>by simp [Zan],by simp [Zan,e1],by simp [Zan],by simp [Zan],by simp [Zan],?_⟩
        ·intro c hc'
         simp only [Zan,e5,Qk,List.mem_singleton] at hc'
         rcases hc' with hc' | rfl
         ·exact h.cls c hc'
         ·exact ⟨e2,e3,e4⟩
        ·simp [Zan,e5]; omega
        ·intro c hc'
         simp only [Zan,e5,Qk,List.mem_singleton] at hc'
         rcases hc' with hc' | rfl
         ·exact h.cn c hc'
         ·exact ⟨e6,e7,by rw [e8]; exact h.vn⟩
       ·exact h
theorem SB.run {e:Nat}:∀ {ts:List Tok} {st:RS},SB st→(runT e ts st).1=0→SB (runT e ts st).2.2:=by
 intro ts
 induction ts with
 | nil=>intro st h _; unfold runT; split <;> exact h
 | cons t ts ih =>
  intro st h h0
  unfold runT at h0 ⊢
  split at h0
  ·rename_i hc; exact absurd h0 hc
  ·rename_i hc
   rw [if_neg hc]
   exact ih (h.take (len:=t.text.length) (by omega) rfl) h0
theorem SB.start (q:Bool):SB ⟨q,if q then 1 else 0,q,[],[],[],[],[],[]⟩:=by
 cases q <;> exact ⟨by simp,by simp,fun _ _ _=>rfl,by simp,by simp,by simp,fun _=>by simp,by simp,by simp,fun _ _=>by simp,fun _=>rfl,by simp,by simp,by simp,by simp,by simp⟩
theorem Zed (s:ByteArray):Worded (Zbb s):=Zri s
theorem Zdu (s:ByteArray) (q:Bool):(runs s q).1=(Zgv (Zbb s) (Zcw q)).1∧((runs s q).1≠0→(runs s q).2.1=(Zgv (Zbb s) (Zcw q)).2)∧((runs s q).1=0→(runs s q).2.2=takes (toks s.data.toList 0) (st0 q)) :=
 Ycu s.size _ _ _ (sim0 q) (Zkz _ _)
theorem Ygp {ts:List Tok} {L:LookS} (hok:okk ts L) (hf:fin ts) (hw:L.want=5):∃ t r,ts=t::r∧t.kind=4:=by
 cases ts with
 | nil=>exact hf.elim
 | cons t r =>
  refine ⟨t,r,rfl,?_⟩
  apply Classical.byContradiction
  intro hk
  have h:=(Zfd hok (fun hc=>hk hc.1)).1
  unfold Zce at h
  rw [if_neg (by omega),if_pos hw] at h
  simp at h
theorem Zit (s:ByteArray) (hs:s.size≤120) (h0:(runs s true).1=0) :
  ∃ q,Zdh 1000 1000 (Zbb s) [] []=some q∧(runs s true).2.2.clauses=[⟨[],q.1,q.2.2⟩]∧Ycs [] q.1=Zjf 1000 [] q.1 []∧q.1.length≤4000∧(∀ l ∈ q.1,Yge l)∧(Ycs [] q.1).length≤100000000:=by
 obtain ⟨r1,_,r3⟩:=Zdu s true
 have hl:=Zev s
 have hok:okk (Zbb s) (Zcw true):=r1.symm.trans h0
 obtain ⟨q,L',i,ex,h1,h2,h3,h4,_,_,_,_,h9,h10,h11⟩:=Zrr 1000 (Zbb s) (Zcw true) [] (st0 true) (by omega) (by omega) hok (Zpp _ _) rfl rfl rfl rfl rfl rfl rfl
 have hend:(Zbb s).take i=toks s.data.toList 0:=Yim (Zkz _ _) (by
  obtain ⟨t,r,e1,e2⟩:=Ygp h2 h3 (by rw [h4]; rfl)
  exact ⟨t,r,by rw [← e1,h9]; rfl,e2⟩)
 rw [hend] at h11
 have h1':Zdh 1000 1000 (Zbb s) [] []=some q:=h1
 have hM:=Zmq (M:=120) 1000 (Zbb s) [] [] q (fun t ht=>Qq (Zlp s t ht) hs) (by simp) h1'
 obtain ⟨g1,g2,_⟩:=Zha 1000 0 1000 (Zbb s) [] [] q (Zed s) (by simp) rfl h1'
 have hfl:=Zpg 1000 q.1 g1
 have hlen:q.1.flatten.length≤121:=by have:=hM.1; simp only [List.flatten_nil,Jt] at this; omega
 obtain ⟨_,b2,_⟩:=Zex _ _ _ g2
 have hw:=Zui 1000 q.1 g1 0 _ [] g2
 simp only [List.range_zero] at hw
 have hwl:=Ztz 1000 q.1 g1 (fun x hx=>Qq (hM.2.1 x hx) (by omega)) [] [] (by simp) (by simp only [Jt]; omega)
 refine ⟨q,h1',?_,hw,by omega,Yje 1000 q.1 0 _ g1 g2 (by omega) (by omega),?_⟩
 ·rw [r3 h0,h11,h10]
  rfl
 ·rw [hw]; omega
theorem Ydn:∀ (f:Nat) {l:List Sym},IsT f l→Wf 1 l:=by
 intro f
 induction f with
 | zero=>intro l h; exact h.elim
 | succ f ih =>
  intro l h
  rcases h with ⟨n,rfl⟩ | ⟨nm,ls,h1,rfl,h2⟩
  ·exact Zua n
  ·refine ⟨by omega,fun e=>absurd e h1,fun _=>rfl,?_⟩
   have:=Zkx (fun l hl=>ih (h2 l hl))
   simpa using this
theorem Ygq:∀ (l:List Sym) (k k':Nat),scan l k=some k'→∀ i,k≤i→i<k'→Occ i l:=by
 intro l
 induction l with
 | nil=>intro k k' h i h1 h2; simp [scan] at h; omega
 | cons s l ih =>
  intro k k' h i h1 h2
  simp only [scan] at h
  have up:Occ i l→Occ i (s::l):=fun ⟨t,ht,e1,e2⟩=>⟨t,by simp [ht],e1,e2⟩
  split at h
  ·rename_i hn
   split at h
   ·exact up (ih _ _ h i h1 h2)
   ·split at h
    ·rename_i hk
     rcases Nat.lt_or_ge k i with h3 | h3
     ·exact up (ih _ _ h i h3 h2)
     ·exact ⟨s,by simp,hn,by omega⟩
    ·simp at h
  ·exact up (ih _ _ h i h1 h2)
theorem Zus {f:Nat}:∀ {g:Nat} {ts:List Tok} {names:Names} {acc:List (List Sym)} {q},Zdh f g ts names acc=some q→acc.length<q.1.length:=by
 intro g
 induction g with
 | zero=>intro ts names acc q h; simp [Zdh] at h
 | succ g ih =>
  intro ts names acc q h
  rw [Zdh] at h
  cases hq:Zda f ts names with
  | none=>rw [hq] at h; simp at h
  | some r =>
   rw [hq] at h
   simp only at h
   cases hr:r.2.1 with
   | nil=>rw [hr] at h; simp at h
   | cons x rest =>
    rw [hr] at h
    simp only at h
    split at h
    ·simp at h; subst h; simp
    ·have:=ih h; simp at this; omega
def Yjk (c:Cls):Prop:=∃ k1,scan c.head 0=some k1∧scan c.body.flatten k1=some c.n
theorem Zsi (ts:List Tok) (c:Cls × List Tok) (hw:Worded ts) (h:Zeq ts=some c):Yjk c.1:=by
 rw [Zeq] at h
 cases hp:Zda 1000 ts [] with
 | none=>rw [hp] at h; simp at h
 | some r =>
  rw [hp] at h
  simp only at h
  obtain ⟨i1,i2⟩:=Zmv 1000 ts [] r hw hp
  obtain ⟨n,_,_,hn,_⟩:=Zgi 1000 ts [] r hp
  have hw1:Worded r.2.1:=by rw [hn]; exact hw.drop n
  cases hr:r.2.1 with
  | nil=>rw [hr] at h; simp at h
  | cons y ys =>
   rw [hr] at h hw1
   simp only at h
   split at h
   ·rw [Option.map_eq_some_iff] at h
    obtain ⟨q,hq,rfl⟩:=h
    obtain ⟨g1,g2,g3⟩:=Zha 1000 r.2.2.length 1000 ys r.2.2 [] q hw1.tail (by simp) rfl hq
    exact ⟨_,i2,g2⟩
   ·simp at h
    subst h
    exact ⟨_,i2,rfl⟩
theorem Zzn:∀ (g:Nat) (ts:List Tok) (acc cs:List Cls),Worded ts→(∀ c ∈ acc,Yjk c)→Zhj g ts acc=some cs→∀ c ∈ cs,Yjk c:=by
 intro g
 induction g with
 | zero=>intro ts acc cs _ _ h; simp [Zhj] at h
 | succ g ih =>
  intro ts acc cs hw ha h
  cases ts with
  | nil=>simp [Zhj] at h
  | cons t ts =>
   rw [Zhj] at h
   split at h
   ·simp at h; subst h; exact ha
   ·cases hc:Zeq (t::ts) with
    | none=>rw [hc] at h; simp at h
    | some c =>
     rw [hc] at h
     simp only at h
     obtain ⟨_,g2⟩:=Zmw _ c hw hc
     have g1:=Zsi _ c hw hc
     refine ih c.2 (acc++[c.1]) cs g2 ?_ h
     intro x hx
     simp at hx
     rcases hx with hx | rfl
     ·exact ha x hx
     ·exact g1
theorem Zsj (s:ByteArray) (hs:s.size≤800) (h0:(runs s false).1=0):∃ cs,Zhj 1000 (Zbb s) []=some cs∧(runs s false).2.2.clauses=cs:=by
 obtain ⟨r1,_,r3⟩:=Zdu s false
 have hl:=Zev s
 have hok:okk (Zbb s) (Zcw false):=r1.symm.trans h0
 obtain ⟨cs,i,ex,h1,h2,h3,h4⟩:=Ygi 1000 (Zbb s) (Zcw false) [] (st0 false) (by omega) (by omega) hok (Zpp _ _) rfl rfl rfl rfl ⟨rfl,rfl,rfl,rfl,rfl,rfl,rfl,rfl⟩
 rw [show (Zbb s).take i=toks s.data.toList 0 from Yim (Zkz _ _) h2] at h4
 rw [List.nil_append] at h3
 subst h3
 refine ⟨cs,h1,?_⟩
 rw [r3 h0,h4]
 rfl
theorem Zdr {s:ByteArray} {cs:List Cls} (h:Zcl s=some cs):s.size≤800∧(runs s false).1=0∧(runs s false).2.2.clauses=cs∧(∀ c ∈ cs,COk c∧CNm c)∧cs.length≤24:=by
 unfold Zcl at h
 split at h
 ·simp at h
 ·split at h
  ·simp at h
  ·rename_i hs he
   have hs:s.size≤800:=by omega
   obtain ⟨r1,_,_⟩:=Zdu s false
   have h0:(runs s false).1=0:=by rw [r1]; omega
   obtain ⟨cs',e1,e2⟩:=Zsj s hs h0
   rw [e1] at h
   simp at h
   subst h
   have hB:SB (runs s false).2.2:=(SB.start false).run h0
   have hg:=Ycz 1000 (Zbb s) [] cs' (Zed s) (by simp) e1
   have hgn:=Zzn 1000 (Zbb s) [] cs' (Zed s) (by simp) e1
   refine ⟨hs,h0,e2,fun c hc => ?_,by rw [← e2]; exact hB.clsn⟩
   obtain ⟨g1,g2,_⟩:=hg c hc
   obtain ⟨k1,n1,n2⟩:=hgn c hc
   obtain ⟨b1,b2,b3⟩:=hB.cls c (by rw [e2]; exact hc)
   obtain ⟨c1,c2,c3⟩:=hB.cn c (by rw [e2]; exact hc)
   obtain ⟨x1,x2,x3⟩:=Zex _ _ _ n1
   obtain ⟨y1,y2,y3⟩:=Zex _ _ _ n2
   have hfl:c.body.flatten.length≤180:=by
    have key:∀ ls:List (List Sym),(∀ t ∈ ls,t.length≤30)→ls.flatten.length≤30 * ls.length:=by
     intro ls
     induction ls with
     | nil=>intro _; simp
     | cons t ts ih =>
      intro h
      have h1:=h t (by simp)
      have h2:=ih (fun y hy=>h y (by simp [hy]))
      simp only [List.flatten_cons,Qg,Qf]; omega
    have:=key c.body b2
    omega
   refine ⟨⟨Ydn 1000 g1,fun t ht=>Ydn 1000 (g2 t ht),?_,?_,by omega,b1,b2,b3⟩,fun x hx=>Qq (c1 x hx) (by omega),fun t ht x hx=>Qq (c2 t ht x hx) (by omega)⟩
   ·rintro v ⟨x,hx,e1,e2⟩
    have:=x3 x hx e1
    omega
   ·rintro t ht v ⟨x,hx,e1,e2⟩
    have:=y3 x (List.mem_flatten.2 ⟨t,ht,hx⟩) e1
    omega
theorem Zcy {s:ByteArray} {a:List (List Sym) × Names} (h:Zdx s=some a):s.size≤120∧(runs s true).1=0∧(runs s true).2.2.clauses=[⟨[],a.1,a.2⟩]∧NOk (topN a)∧NNm (topN a)∧a.1.length≤6∧a.1≠[]∧a.2.length≤121∧(∀ x ∈ a.2,x.length≤8):=by
 unfold Zdx at h
 split at h
 ·simp at h
 ·split at h
  ·simp at h
  ·rename_i hs he
   have hs:s.size≤120:=by omega
   obtain ⟨r1,_,_⟩:=Zdu s true
   have h0:(runs s true).1=0:=by rw [r1]; omega
   obtain ⟨q,e1,e2,_⟩:=Zit s hs h0
   rw [e1] at h
   simp at h
   subst h
   have hB:SB (runs s true).2.2:=(SB.start true).run h0
   obtain ⟨g1,g2,_⟩:=Zha 1000 0 1000 (Zbb s) [] [] q (Zed s) (by simp) rfl e1
   obtain ⟨b1,b2,b3⟩:=hB.cls ⟨[],q.1,q.2.2⟩ (by rw [e2]; simp)
   obtain ⟨c1,c2,c3⟩:=hB.cn ⟨[],q.1,q.2.2⟩ (by rw [e2]; simp)
   obtain ⟨x1,x2,x3⟩:=Zex _ _ _ g2
   have hl:=Zev s
   have hM:=Zmq (M:=120) 1000 (Zbb s) [] [] q (fun t ht=>Qq (Zlp s t ht) hs) (by simp) e1
   have hM1:=hM.1
   simp only [List.flatten_nil,Jt] at hM1
   simp only at b2 b3 c2 c3
   have hwf:∀ t ∈ q.1,Wf 1 t:=fun t ht=>Ydn 1000 (g1 t ht)
   have hne:q.1≠[]:=by
    intro e
    have:=Zus e1
    rw [e] at this
    simp at this
   refine ⟨hs,h0,e2,⟨?_,?_,?_,by simp [topN],?_,by simp [topN]; omega,by simp [topN],by simp [topN],by simp [topN]; omega,by simp [topN]; omega⟩,?_,b3,hne,by simp only; omega,c3⟩
   ·intro t ht
    simp only [ND.terms,topN,List.map_map,List.map_nil,Qs,Qk,List.mem_map,Function.comp] at ht
    rcases ht with ⟨u,hu,rfl⟩ | ⟨i,_,rfl⟩
    ·exact hwf u hu
    ·exact Zua i
   ·intro t ht v hv
    simp only [ND.terms,topN,List.map_map,List.map_nil,Qs,Qk,List.mem_map,Function.comp,List.mem_range] at ht
    show v<q.2.2.length
    rcases ht with ⟨u,hu,rfl⟩ | ⟨i,hi,rfl⟩
    ·obtain ⟨x,hx,e3,e4⟩:=hv
     have:=x3 x (List.mem_flatten.2 ⟨_,hu,hx⟩) e3
     omega
    ·have:=Yby.1 hv; omega
   ·intro g hg
    simp only [topN,List.mem_map] at hg
    obtain ⟨t,ht,rfl⟩:=hg
    exact ⟨b2 t ht,by simp [topN]⟩
   ·intro t ht
    simp only [topN,List.mem_map,List.mem_range] at ht
    obtain ⟨i,hi,rfl⟩:=ht
    obtain ⟨x,hx,e3,e4⟩:=Ygq _ _ _ g2 i (Qm _) hi
    obtain ⟨u,hu,hxu⟩:=List.mem_flatten.1 hx
    obtain ⟨p,r,e5⟩:=List.append_of_mem hxu
    have hargs:=Zuk (hwf u hu) x hxu e3
    have ex:x=⟨[],i,0⟩:=by
     cases x
     simp only at e3 e4 hargs
     subst e3 e4 hargs
     rfl
    refine ⟨(u,0),by simp only [topN,Qs,List.mem_map]; exact ⟨u,hu,rfl⟩,p,r,?_⟩
    show u=p++vr i++r
    rw [e5,ex]; simp [vr]
   ·intro t ht
    simp only [ND.terms,topN,List.map_map,List.map_nil,Qs,Qk,List.mem_map,Function.comp] at ht
    rcases ht with ⟨u,hu,rfl⟩ | ⟨i,_,rfl⟩
    ·exact fun x hx=>Qq (c2 u hu x hx) (by omega)
    ·exact Zsh i
end Go.Proofs.YtlmjilpjmgjjcabGreatDoor
namespace Go.Proofs.YtlmjilpjmgjjcabGreatDoor
open Go.RowKit
theorem Ziu {c:UInt8} (h:figB c=true):48≤c.toNat∧c.toNat≤57:=by simpa [figB] using h
theorem Zsk (s:ByteArray) (p:Nat) (h:¬ p<s.size):Zak (s.data.toList.drop p)=(0,0):=by rw [Zia s p h]; rfl
theorem Zut (s:ByteArray) (p:Nat) (h:p<s.size) (hf:figB s[p]=false):Zak (s.data.toList.drop p)=(0,0):=by
 rw [Zdq s p h]; simp [Zak,hf]
theorem Zsl (s:ByteArray) (p:Nat) (h:p<s.size) (hf:figB s[p]=true) (h0:s[p].toNat - 48=0):Zak (s.data.toList.drop p)=(s[p].toNat - 48,1):=by
 have:=Ziu hf
 rw [Zdq s p h]; simp [Zak,hf,show s[p].toNat=48 by omega]
theorem Zuu (s:ByteArray) (p:Nat) (h:p<s.size) (hf:figB s[p]=true) (h1:¬ p+1<s.size):Zak (s.data.toList.drop p)=(s[p].toNat - 48,1):=by
 rw [Zdq s p h,Zia s (p+1) h1]
 simp only [Zak,hf,if_true]
 split
 ·rename_i h0; rw [h0]
 ·rfl
theorem Zsm (s:ByteArray) (p:Nat) (h:p<s.size) (hf:figB s[p]=true) (h1:p+1<s.size) (hf1:figB s[p+1]=false):Zak (s.data.toList.drop p)=(s[p].toNat - 48,1):=by
 rw [Zdq s p h,Zdq s (p+1) h1]
 simp only [Zak,hf,hf1,if_true]
 split
 ·rename_i h0; rw [h0]
 ·simp
theorem Zuv (s:ByteArray) (p:Nat) (h:p<s.size) (hf:figB s[p]=true) (h0:¬ s[p].toNat - 48=0) (h1:p+1<s.size) (hf1:figB s[p+1]=true):Zak (s.data.toList.drop p)=(10 * (s[p].toNat - 48)+(s[p+1].toNat - 48),2):=by
 rw [Zdq s p h,Zdq s (p+1) h1]
 simp only [Zak,hf,hf1,if_true]
 rw [if_neg (by omega)]
def Zkg (f:Nat) (l:List UInt8) (p:Nat) (acc:List Nat):Option (List Nat) × Nat :=
 match l with
 | []=>(some acc,0)
 | c::r=>if c=46 then Zde f r (p+1) acc else (none,p)
theorem Zqc (f:Nat) (l:List UInt8) (p:Nat) (acc:List Nat) (h:(Zak l).2≠0):Zde (f+1) l p acc=Zkg f (l.drop (Zak l).2) (p+(Zak l).2) (acc++[(Zak l).1]):=by
 rw [Zde,if_neg h]; rfl
theorem Zqd (f:Nat) (l:List UInt8) (p:Nat) (acc:List Nat) (h:(Zak l).2=0):Zde (f+1) l p acc=(none,p):=by
 rw [Zde,if_pos h]
theorem box2 {w:World} {b:Nat} {u0 u1:Value} {t:TypeId} (h:w.heap[b]?=some (.cells #[u0,u1] t (0,0))) :
  w.cell? ⟨b,0,none⟩=some u0∧w.cell? ⟨b,1,none⟩=some u1∧∀ i,w.frozen? ⟨b,i,none⟩=false :=
 ⟨Zaa h 0 _ rfl,Zaa h 1 _ rfl,fun i=>Zae h i⟩
theorem Zem {cs:List Cls} {n:ND} {k i:Nat} {ks:List Nat} (h:n.goals=[]∨cs.length≤k):(Zau cs n (k::ks) i).2=(7,i):=by
 unfold Zau
 split
 ·rfl
 ·rename_i c hc
  rcases h with h | h
  ·rw [if_pos h]
  ·rw [List.getElem?_eq_none h] at hc; simp at hc
theorem Zhn {cs:List Cls} {n:ND} {k i:Nat} {ks:List Nat} {c:Cls} (hc:cs[k]?=some c) (h:¬ ((tryN n c k).2=1∨(tryN n c k).2=2)):(Zau cs n (k::ks) i).2=(7,i):=by
 unfold Zau
 simp only [hc]
 by_cases hg:n.goals=[]
 ·rw [if_pos hg]
 ·rw [if_neg hg,if_neg h]
theorem Zla {cs:List Cls} {n:ND} {k i:Nat} {ks:List Nat} {c:Cls} (hc:cs[k]?=some c) (hg:n.goals≠[]) (h:(tryN n c k).2=1∨(tryN n c k).2=2):Zau cs n (k::ks) i=Zau cs (tryN n c k).1 ks (i+1):=by
 conv=>lhs; unfold Zau
 simp only [hc]
 rw [if_neg hg,if_pos h]
theorem Zsn {l:List Sym} (hl:l.length≤1000) (hw:Wf 1 l) (hn:∀ s ∈ l,s.name.length≤4096) {seen:List Nat} (hs:seen.length+l.length≤4000) :
  (Zci (Zaw l seen).1 []).length≤4100 * l.length∧(Zaw l seen).2.length≤seen.length+l.length:=by
 have hT:=Yle 1000 hl hw
 obtain ⟨h1,h2⟩:=Zul hT seen
 have:=Zrg 1000 l hT hn seen hs
 rw [h1,h2] at this
 omega
theorem Ydo:∀ (names:Names) (ts:List (List Sym)) (sep:List UInt8) (seen:List Nat),(∀ x ∈ names,x.length≤4096)→(∀ t ∈ ts,Wf 1 t∧t.length≤1000∧∀ s ∈ t,s.name.length≤4096)→sep.length≤1→seen.length+ts.flatten.length≤4000 →
  (Ziz sep names (Zay ts seen).1).length≤4098 * names.length+4100 * ts.flatten.length:=by
 intro names
 induction names with
 | nil=>intro ts sep seen _ _ _ _; cases ts <;> simp [Zay,Ziz]
 | cons x xs ih =>
  intro ts sep seen h1 h2 h3 h4
  cases ts with
  | nil=>simp [Zay,Ziz]
  | cons t ts =>
   obtain ⟨t1,t2,t3⟩:=h2 t (by simp)
   simp only [List.flatten_cons,Qg] at h4 ⊢
   obtain ⟨c1,c2⟩:=Zsn t2 t1 t3 (seen:=seen) (by omega)
   have h:=ih ts [44] (Zaw t seen).2 (fun y hy=>h1 y (by simp [hy])) (fun y hy=>h2 y (by simp [hy])) (by simp) (by omega)
   have hx:=h1 x (by simp)
   simp only [Zay,Ziz,Qg,Qf]
   omega
theorem Zkh {n:ND} {c:Cls} {k:Nat} (h:(tryN n c k).2=1∨(tryN n c k).2=2):(tryN n c k).1.vals.length=n.vals.length:=by
 by_cases hex:∃ r:ND × Nat,∃ m,NOk m∧Same m n∧Out m c k r.2 r.1
 ·have e:tryN n c k=Classical.choose hex:=by unfold tryN; rw [dif_pos hex]
  obtain ⟨m,_,hS,g,gs,_,ho⟩:=Classical.choose_spec hex
  rw [e] at h ⊢
  rcases ho with ⟨h0,_⟩ | ⟨h0,_⟩ | ⟨σ,_,_,_,h4⟩
  ·omega
  ·omega
  ·rw [h4]; simp [Zaq,hS.vl]
 ·have e:tryN n c k=(⟨[],[],[],[],0⟩,0):=by unfold tryN; rw [dif_neg hex]
  rw [e] at h
  simp at h
theorem Zso {cs:List Cls}:∀ {ks:List Nat} {n:ND} {i:Nat},(Zau cs n ks i).2.1=0→(Zau cs n ks i).1.vals.length=n.vals.length:=by
 intro ks
 induction ks with
 | nil=>intro n i h; unfold Zau at h ⊢; split <;> rfl
 | cons k ks ih =>
  intro n i h
  cases hc:cs[k]? with
  | none =>
   have:=Zem (cs:=cs) (n:=n) (k:=k) (i:=i) (ks:=ks) (Or.inr (List.getElem?_eq_none_iff.1 hc))
   rw [this] at h; simp at h
  | some c =>
   by_cases hg:n.goals=[]
   ·have:=Zem (cs:=cs) (n:=n) (k:=k) (i:=i) (ks:=ks) (Or.inl hg)
    rw [this] at h; simp at h
   ·by_cases hq:(tryN n c k).2=1∨(tryN n c k).2=2
    ·rw [Zla hc hg hq] at h ⊢
     rw [ih h,Zkh hq]
    ·have:=Zhn (i:=i) (ks:=ks) hc hq
     rw [this] at h; simp at h
theorem Zzo {p q x:ByteArray} {a:List (List Sym) × Names} {n0:ND} (ha:Zdx q=some a) (h:Zeg p q x=(a.2,n0,0,0)):n0.vals.length=a.2.length:=by
 cases hp:Zcl p with
 | none=>simp [Zeg,hp] at h
 | some cs =>
  by_cases hx:400<x.size
  ·simp [Zeg,hp,ha,hx] at h
  ·cases hn:Zcj x with
   | mk o pl =>
    cases o with
    | none=>simp [Zeg,hp,ha,hx,hn] at h
    | some ks =>
     simp [Zeg,hp,ha,hx,hn] at h
     have h2:=Zso (cs:=cs) (ks:=ks) (n:=topN a) (i:=0) (by rw [h])
     rw [h] at h2
     simpa [topN] using h2
theorem Zgc {n:ND} {c:Cls} {k:Nat} (h:(tryN n c k).2=1∨(tryN n c k).2=2):(tryN n c k).1.used=n.used++[k]:=by
 by_cases hex:∃ r:ND × Nat,∃ m,NOk m∧Same m n∧Out m c k r.2 r.1
 ·have e:tryN n c k=Classical.choose hex:=by unfold tryN; rw [dif_pos hex]
  obtain ⟨m,_,hS,g,gs,_,ho⟩:=Classical.choose_spec hex
  rw [e] at h ⊢
  rcases ho with ⟨h0,_⟩ | ⟨h0,_⟩ | ⟨σ,_,_,_,h4⟩
  ·omega
  ·omega
  ·rw [h4]; simp [Zaq,hS.used]
 ·have e:tryN n c k=(⟨[],[],[],[],0⟩,0):=by unfold tryN; rw [dif_neg hex]
  rw [e] at h
  simp at h
theorem Zzp:∀ (ks:List Nat) (sep:List UInt8),sep.length≤1→(∀ k ∈ ks,k≤99)→(Zax sep ks).length≤101 * ks.length:=by
 intro ks
 induction ks with
 | nil=>intro sep _ _; simp [Zax]
 | cons k ks ih =>
  intro sep hs hk
  have h1:=ih [46] (by simp) (fun j hj=>hk j (by simp [hj]))
  have h2:=hk k (by simp)
  have h3:=Zkt k
  simp only [Zax,Qg,Qf]
  omega
end Go.Proofs.YtlmjilpjmgjjcabGreatDoor
