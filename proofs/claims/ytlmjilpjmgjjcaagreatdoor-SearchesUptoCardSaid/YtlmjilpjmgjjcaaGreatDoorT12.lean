/-
  PROVED HERE: what the reference's 'Told' tells of a search (the conditions stand in each statement).
-/
import Derived.Test.YtlmjilpjmgjjcaaGreatDoorT11
import Derived.Test.YtlmjilpjmgjjcaaGreatDoorCards
import Derived.Test.YtlmjilpjmgjjcaaGreatDoorTie
import Derived.ProofKit
import Derived.LaidMore
import Derived.OpenShut
import Derived.Stop.Joined
import Derived.SevenTiedAt
import Derived.Deep.Slices
import Derived.Carry
import Derived.Deep.QuietTactic
import Derived.BigQuiet
set_option linter.unusedSimpArgs false
set_option linter.unusedVariables false
set_option maxRecDepth 20000
set_option maxHeartbeats 16000000
namespace Go.Proofs.YtlmjilpjmgjjcaaGreatDoor
open Go.RowKit
def TryX (n:ND) (c:Cls) (k:Nat) (X:Nat->Prop) (v:Value) (u:World):Prop:=∃ g1 g2 g3 v1 v2 v3 r1 r2 r3,∃ uu q:Nat,v = .tuple #[.agg #[.slice g1 g2 g3,.slice v1 v2 v3,.slice r1 r2 r3,.int .i64 uu],.int .i64 q] /\
 ((q=0/\(n.goals=[]\/Out n c k 0 n))\/(q=2/\∃ ch,Out n c k 3 ch)\/(q=1/\∃ ch qq,(qq=1\/qq=2)/\Out n c k qq ch/\uu=ch.vars/\g2=ch.goals.length /\
  (∃ vs,TermsAt u 0 (.slice g1 g2 g3) (ch.goals.map (·.1)) vs/\(∀ j,(Value.slice g1 g2 g3).ownBlock=some j->¬ X j)/\∀ x ∈ vs,∀ j,x.ownBlock=some j->¬ X j) /\
  (∃ vs,TermsAt u 0 (.slice v1 v2 v3) ch.vals vs/\(∀ j,(Value.slice v1 v2 v3).ownBlock=some j->¬ X j)/\∀ x ∈ vs,∀ j,x.ownBlock=some j->¬ X j) /\
  (∃ vs,TermsAt u 0 (.slice r1 r2 r3) (ch.done.map (·.1)) vs/\(∀ j,(Value.slice r1 r2 r3).ownBlock=some j->¬ X j)/\∀ x ∈ vs,∀ j,x.ownBlock=some j->¬ X j)))
theorem Zhr {X X':Nat->Prop} {v:Value} {ls:List (List Sym)} {u u':World} (h:∃ vs,TermsAt u 0 v ls vs/\(∀ j,v.ownBlock=some j->¬ X j)/\∀ x ∈ vs,∀ j,x.ownBlock=some j->¬ X j) (hb:∀ k,k<u.heap.size->¬ X k->u'.heap[k]?=u.heap[k]?) (hX:∀ k,k<u.heap.size->X' k->X k) :
  ∃ vs,TermsAt u' 0 v ls vs/\(∀ j,v.ownBlock=some j->¬ X' j)/\∀ x ∈ vs,∀ j,x.ownBlock=some j->¬ X' j:=by
 obtain ⟨vs,h,h1,h2⟩:=h;have hlen:vs.length=ls.length:=by have:=h.owns.1; omega
 have hin:∀ x ∈ vs,∃ l,WordAt u x l:=fun x hx=>by
  obtain ⟨i,hi⟩:=List.mem_iff_getElem?.1 hx;have hil:=(List.getElem?_eq_some_iff.1 hi).1;obtain ⟨y,h3,h4⟩:=h.all i _ (List.getElem?_eq_getElem (by omega));rw [hi] at h3;simp only [Option.some.injEq] at h3;subst h3;exact ⟨_,h4⟩
 refine ⟨vs,⟨Zan h.owns (fun j hj=>hb j (h.owns.lt j hj).2 (h1 j hj)),fun i l hi => ?_⟩,fun j hj hx=>h1 j hj (hX j (h.owns.lt j hj).2 hx),fun x hx j hj hx' => ?_⟩
 ·obtain ⟨y,h3,h4⟩:=h.all i l hi;exact ⟨y,h3,Zan h4 (fun j hj=>hb j (h4.lt j hj).2 (h2 y (List.mem_of_getElem? h3) j hj))⟩
 ·obtain ⟨l,hl⟩:=hin x hx;exact h2 x hx j hj (hX j (hl.lt j hj).2 hx')
theorem TryX.stable {n:ND} {c:Cls} {k:Nat}:∀ X X' v u u',TryX n c k X v u->(∀ k,k<u.heap.size->¬ X k->u'.heap[k]?=u.heap[k]?)->u.heap.size<=u'.heap.size->(∀ k,k<u.heap.size->X' k->X k)->TryX n c k X' v u':=by
 rintro X X' v u u' ⟨g1,g2,g3,v1,v2,v3,r1,r2,r3,uu,q,rfl,h⟩ hb _ hX;refine ⟨g1,g2,g3,v1,v2,v3,r1,r2,r3,uu,q,rfl,?_⟩;rcases h with h | h | ⟨rfl,ch,qq,h1,h2,h3,h4,h5,h6,h7⟩
 ·exact Or.inl h
 ·exact Or.inr (Or.inl h)
 ·exact Or.inr (Or.inr ⟨rfl,ch,qq,h1,h2,h3,h4,Zhr h5 hb hX,Zhr h6 hb hX,Zhr h7 hb hX⟩)
theorem TryOut.toX {n:ND} {c:Cls} {k:Nat} {X:Nat->Prop} {w w':World} {e:Ending} (h:TryOut n c k w e w') (hX:∀ j,X j->j<w.heap.size):∃ v,e = .returned v/\Ext w w'/\TryX n c k X v w':=by
 obtain ⟨hE,g1,g2,g3,v1,v2,v3,r1,r2,r3,uu,q,rfl,h⟩:=h;refine ⟨_,rfl,hE,g1,g2,g3,v1,v2,v3,r1,r2,r3,uu,q,rfl,?_⟩;have key:∀ {v:Value} {ls:List (List Sym)},TermsNew w.heap.size w' v ls->∃ vs,TermsAt w' 0 v ls vs/\(∀ j,v.ownBlock=some j->¬ X j)/\∀ x ∈ vs,∀ j,x.ownBlock=some j->¬ X j:=fun {v ls} h=>by
  obtain ⟨vs,h1,h2,h3⟩:=h;exact ⟨vs,h1,fun j hj hx=>by have:=h2 j hj; have:=hX j hx; omega,fun x hx j hj hx'=>by have:=h3 x hx j hj; have:=hX j hx'; omega⟩
 rcases h with h | h | ⟨rfl,ch,qq,h1,h2,h3,h4,h5⟩
 ·exact Or.inl h
 ·exact Or.inr (Or.inl h)
 ·exact Or.inr (Or.inr ⟨rfl,ch,qq,h1,h2,h4,h5,key h3.goals,key h3.vals,key h3.done⟩)
theorem ProgIn.cell {w:World} {lb cap:Nat} {cs:List Cls} {xs:List (List Value)} (h:ProgIn w (.slice (some ⟨lb,0,none⟩) cs.length cap) cs xs) {k:Nat} {c:Cls} (hc:cs[k]?=some c):∃ hv bv nv,w.cell? ⟨lb,k * 3,none⟩=some hv/\w.cell? ⟨lb,k * 3+1,none⟩=some bv/\w.cell? ⟨lb,k * 3+2,none⟩=some nv/\ClsIn w hv bv nv c:=by
 obtain ⟨hv,bv,nv,hx,hcl⟩:=h.all k c hc;have key:∀ (xs:List (List Value)) (k:Nat),(∀ x ∈ xs,x.length=3)->xs[k]?=some [hv,bv,nv]->∀ j,j<3->xs.flatten[k * 3+j]?=[hv,bv,nv][j]?:=by
  intro xs
  induction xs with
  | nil=>intro k _ h; simp at h
  | cons x xs ih =>
   intro k h3 hk j hj;rw [List.flatten_cons];have hx3:=h3 x (by simp)
   cases k with
   | zero =>
    simp at hk;subst hk;rw [List.getElem?_append_left (by simp; omega)];simp
   | succ k =>
    rw [List.getElem?_append_right (by omega),hx3];have:=ih k (fun y hy=>h3 y (by simp [hy])) (by simpa using hk) j hj;rw [<- this]
    congr 1
    omega
 have k3:=key xs k h.three hx;refine ⟨hv,bv,nv,Zaf h.owns _ _ ?_,Zaf h.owns _ _ ?_,Zaf h.owns _ _ ?_,hcl⟩
 ·have:=k3 0 (by omega); simpa using this
 ·have:=k3 1 (by omega); simpa using this
 ·have:=k3 2 (by omega); simpa using this
theorem Znb {l:List Sym} (hl:l.length<=1000) (hw:Wf 1 l) (hn:∀ s ∈ l,s.name.length<=4096) {seen:List Nat} (hs:seen.length+l.length<=4000) :
  (Zcm (Zay l seen).1 []).length<=4100 * l.length/\(Zay l seen).2.length<=seen.length+l.length:=by
 have hT:=Yfx 1000 hl hw;obtain ⟨h1,h2⟩:=Zmq hT seen;have:=Zkf 1000 l hT hn seen hs;rw [h1,h2] at this;omega
theorem Zst:∀ (names:Names) (ts:List (List Sym)) (sep:List UInt8) (seen:List Nat),(∀ x ∈ names,x.length<=4096)->(∀ t ∈ ts,Wf 1 t/\t.length<=1000/\∀ s ∈ t,s.name.length<=4096)->sep.length<=1->seen.length+ts.flatten.length<=4000 ->
  (Zgg sep names (Zbc ts seen).1).length<=4098 * names.length+4100 * ts.flatten.length:=by
 intro names
 induction names with
 | nil=>intro ts sep seen _ _ _ _; cases ts <;> simp [Zbc,Zgg]
 | cons x xs ih =>
  intro ts sep seen h1 h2 h3 h4
  cases ts with
  | nil=>simp [Zbc,Zgg]
  | cons t ts =>
   obtain ⟨t1,t2,t3⟩:=h2 t (by simp);simp only [List.flatten_cons,List.length_append] at h4 ⊢;obtain ⟨c1,c2⟩:=Znb t2 t1 t3 (seen:=seen) (by omega);have h:=ih ts [44] (Zay t seen).2 (fun y hy=>h1 y (by simp [hy])) (fun y hy=>h2 y (by simp [hy])) (by simp) (by omega);have hx:=h1 x (by simp);simp only [Zbc,Zgg,List.length_append,List.length_cons];omega
theorem Zqq (w:World) (X:Nat->Prop) (av nv gv vv dv uv:Value) (vs:Int) (names:Names) (n:ND) (lo:Nat) (vx:List Value) (hav:∃ a l c,av = .slice a l c) (hgv:∃ a l c,gv = .slice a l c) (hdv:∃ a l c,dv = .slice a l c) (huv:∃ a l c,uv = .slice a l c)
  (hN:w.ownsRow lo 9 1 nv names.length (strs names)) (hV:RowT X w vv n.vals vx) (hl:names.length=n.vals.length) (hn:names.length<=125) (hnl:∀ x ∈ names,x.length<=4096) (hs:∀ t ∈ n.vals,t.length<=30/\∀ s ∈ t,s.name.length<=4096) :
  Calls Tryz.prog 116 #[.agg #[av,nv],.agg #[gv,vv,dv,uv,.int .i64 vs]] w fun e w'=>e = .returned (.string ⟨(Zdu names n).toArray⟩)/\Ext w w':=by
 obtain ⟨aa,al,ac,rfl⟩:=hav;obtain ⟨ga,gl,gc,rfl⟩:=hgv;obtain ⟨da,dl,dc,rfl⟩:=hdv;obtain ⟨ua,ul,uc,rfl⟩:=huv;obtain ⟨na,ncap,rfl⟩:=Zad hN;obtain ⟨va,vcap,rfl⟩:=Zad hV.1;have hwf:=hV.wf;have HN:=Zaa hN;have HV:=Zaa hV;clear hN hV
 cases hnm:names with
 | nil =>
  have hl0:n.vals.length=0:=by rw [<- hl,hnm]; rfl
  have Hans:Hid (Zdu [] n=[121,101,115]):=by show _=_; simp [Zdu]
  clear HN HV hl hn hnl hs hwf hnm;go_enter Tryz.func116,Tryz.ntmps116;go_wp2;go_ret;rw [Hans.out];exact ⟨rfl,Mxt⟩
 | cons x0 xr =>
  rw [<- hnm];have hpos:0<names.length:=by rw [hnm]; simp
  have hne:(((names.length:Nat):Int) == 0)=false:=by rw [beq_eq_false_iff_ne]; omega
  obtain ⟨F,hF⟩:∃ F,F=Zgg [] names (Zbc n.vals []).1:=⟨_,rfl⟩;have Hans:Hid (Zdu names n=F):=by show _=_; rw [hF,Zdu,if_neg (by rw [hnm]; simp)]
  have hfl:n.vals.flatten.length<=3750:=by
   have key:∀ ls:List (List Sym),(∀ t ∈ ls,t.length<=30)->ls.flatten.length<=30 * ls.length:=by
    intro ls
    induction ls with
    | nil=>intro _; simp
    | cons t ts ih =>
     intro h;have h1:=h t (by simp);have h2:=ih (fun y hy=>h y (by simp [hy]));simp only [List.flatten_cons,List.length_append,List.length_cons]; omega
   have:=key n.vals (fun t ht=>(hs t ht).1);omega
  have hFl:F.length<=20000000:=by
   have:=Zst names n.vals [] [] hnl (fun t ht=>⟨hwf t ht,by have:=(hs t ht).1; omega,(hs t ht).2⟩) (by simp) (by simp only [List.length_nil]; omega);rw [hF]; omega
  have HF:=Zaa hF;have Hl:=Zaa hl;have hn2:n.vals.length<=125:=by omega
  have Hs:=Zaa hs;have Hnl:=Zaa hnl;have Hwf:=Zaa hwf;clear hnm hF hs hnl hwf hl;go_enter Tryz.func116,Tryz.ntmps116;go_wp2;obtain ⟨W0,hW0⟩:∃ W0,W0=(w.alloc (.cells #[.slice aa al ac,.slice na names.length ncap] 148)).alloc (.cells #[.slice ga gl gc,.slice va n.vals.length vcap,.slice da dl dc,.slice ua ul uc,.int .i64 vs] 152):=⟨_,rfl⟩;have hE0:Ext w W0:=by rw [hW0]; exact Mxt
  have hs0:W0.heap.size=w.heap.size+2:=by rw [hW0]; simp
  have hA0:W0.heap[w.heap.size]?=some (.cells #[.slice aa al ac,.slice na names.length ncap] 148 (0,0)):=by rw [hW0]; exact Zah (heap_alloc_new w _) _
  have hB0:W0.heap[w.heap.size+1]?=some (.cells #[.slice ga gl gc,.slice va n.vals.length vcap,.slice da dl dc,.slice ua ul uc,.int .i64 vs] 152 (0,0)):=by rw [hW0]; simpa using heap_alloc_new (w.alloc _) _
  rw [<- hW0];have HE0:=Zaa hE0;have HA0:=Zaa hA0;have HB0:=Zaa hB0;clear hW0 hE0 hA0 hB0
  go_loopg [5,6,7] (names.length+1) (fun gk tx sl i wr=>∃ (k:Nat) (sk:List Nat) (dt:List UInt8),i = .int .i64 k/\k<=names.length/\names.length - k<gk/\tx = .string ⟨dt.toArray⟩ /\
   dt++Zgg (if k=0 then [] else [44]) (names.drop k) (Zbc (n.vals.drop k) sk).1=F/\sk.length+(n.vals.drop k).flatten.length<=3750/\Appended W0 W0.heap.size 3 1 (.slice none 0 0) sk.length (ints sk) sl wr)
  case atStart=>exact ⟨0,[],[],by go_num,Nat.zero_le _,by omega,rfl,by simp [HF.out],by simpa using hfl,⟨World.ownsRow_nil _ _ _ _,Kept.refl _ _,Or.inl rfl⟩⟩
  case round =>
   obtain ⟨k,sk,dt,rfl,hk,hgk,rfl,hdt,hsk,hap⟩:=hrel;obtain ⟨ska,skcap,rfl⟩:=Zad hap.owns;have hdl:dt.length<=20000000:=by
    have h1:=congrArg List.length hdt;simp only [List.length_append] at h1;omega
   have hE0r:Ext W0 wr:=hap.kept.below (Nat.le_refl _) (fun i e=>by simp [Zas,Value.ownBlock] at e);have hsr:=hE0r.size;have hEwr:Ext w wr:=HE0.out.trans (hE0r.mono (by omega));have hA:=(hE0r.block _ (by omega)).trans HA0.out;obtain ⟨b0,b1⟩:wr.cell? ⟨w.heap.size,0,none⟩=some (.slice aa al ac)/\wr.cell? ⟨w.heap.size,1,none⟩=some (.slice na names.length ncap):=⟨Zab hA 0 _ rfl,Zab hA 1 _ rfl⟩;obtain ⟨m0,m1,m2,m3,m4,mf⟩:=box5 ((hE0r.block (w.heap.size+1) (by omega)).trans HB0.out);have Hap:=Zaa hap;have Hdt:=Zaa hdt;have HEwr:=Zaa hEwr;have HE0r:=Zaa hE0r;clear hap hdt hEwr hE0r hA
   by_cases hlt:k<names.length
   ·obtain ⟨x,hx⟩:∃ x,names[k]?=some x:=⟨_,List.getElem?_eq_getElem hlt⟩;have hlv:k<n.vals.length:=by have:=Hl.out; omega
    obtain ⟨t,ht⟩:∃ t,n.vals[k]?=some t:=⟨_,List.getElem?_eq_getElem hlv⟩;have hdx:names.drop k=x::names.drop (k+1):=by
     rw [List.drop_eq_getElem_cons hlt,(List.getElem?_eq_some_iff.1 hx).2]
    have hdv:n.vals.drop k=t::n.vals.drop (k+1):=by
     rw [List.drop_eq_getElem_cons hlv,(List.getElem?_eq_some_iff.1 ht).2]
    obtain ⟨a',b',c',x0,x1,x2,hrt⟩:=HV.out.2.2 k t ht;obtain ⟨s3,n3,c3a,c3l,c3c,rfl,rfl,rfl⟩:=hrt.shape;have hrow':=HV.out.ext (Y:=X) HEwr.out (fun _ _ h=>h);obtain ⟨gb,cap',cur,hge,hBg,hgb,hcp⟩:=Zal hrow'.1 (by omega);simp only [Value.slice.injEq] at hge;obtain ⟨rfl,_,rfl⟩:=hge;have y0:wr.cell? ⟨gb,k * 3,none⟩=some (.string s3):=Zaf hrow'.1 _ _ x0;have y1:wr.cell? ⟨gb,k * 3+1,none⟩=some (.int .i64 n3):=Zaf hrow'.1 _ _ x1;have y2:wr.cell? ⟨gb,k * 3+2,none⟩=some (.slice c3a c3l c3c):=Zaf hrow'.1 _ _ x2;have hnr:=Zan HN.out (fun i hi=>HEwr.out.block i (HN.out.lt i hi).2);obtain ⟨nb,ncap',ncur,hne',hNB,hnb,hncp⟩:=Zal hnr (by omega);simp only [Value.slice.injEq] at hne';obtain ⟨rfl,_,rfl⟩:=hne';have z0:wr.cell? ⟨nb,k,none⟩=some (.string ⟨x.toArray⟩):=Zaf hnr k _ (by simp only [strs,List.getElem?_map,hx,Option.map_some]);have hxl:=Hnl.out x (List.mem_of_getElem? hx);obtain ⟨ht30,htn⟩:=Hs.out t (List.mem_of_getElem? ht);have htw:=Hwf.out t (List.mem_of_getElem? ht);have hT:=Yfx 1000 (by omega) htw;obtain ⟨wc1,wc2⟩:=Zmq hT sk;have hskl:sk.length+t.length+(n.vals.drop (k+1)).flatten.length<=3750:=by
     rw [hdv] at hsk;simp only [List.flatten_cons,List.length_append] at hsk;omega
    obtain ⟨cl1,cl2⟩:=Znb (by omega) htw htn (seen:=sk) (by omega);have hI:=Ztq 1000 wr 0 wr.heap.size _ _ _ t W0.heap.size sk _ ((hrt.ext HEwr.out (fun _ _ h=>h)).repT (by omega)) Hap.out.owns hsr htn (by omega);rw [wc1,wc2] at hI;have HI:=Zaa hI;have hcl1:(Zcm (Zay t sk).1 []).length<=200000:=by omega
    have hnbl:=Zac hnb;obtain ⟨tx,htx⟩:∃ tx,tx=Zcm (Zay t sk).1 []:=⟨_,rfl⟩;obtain ⟨sk2,hsk2⟩:∃ sk2,sk2=(Zay t sk).2:=⟨_,rfl⟩;have Hnext:Hid (∀ sep:List UInt8,dt++(sep++(x++(61::(tx++Zgg [44] (names.drop (k+1)) (Zbc (n.vals.drop (k+1)) sk2).1))))=dt++Zgg sep (names.drop k) (Zbc (n.vals.drop k) sk).1):=fun sep=>by
     rw [hdx,hdv,htx,hsk2]; simp [Zbc,Zgg]
    rw [<- htx] at hcl1;rw [<- hsk2] at cl2;rw [<- htx,<- hsk2] at HI;clear hgb hrow' hrt x0 x1 x2 ht hx hnr hnb hdx hdv hT wc1 wc2 hI htw htn cl1 htx hsk2
    by_cases h0:k=0
    ·have hk0:¬ (0:Int)<(k:Int):=by omega
     have Hd0:Hid ((dt++x++[61]++tx)++Zgg [44] (names.drop (k+1)) (Zbc (n.vals.drop (k+1)) sk2).1=F):=by
      have h1:=Hdt.out;rw [if_pos h0,<- Hnext.out []] at h1;show _=_;rw [<- h1]; simp
     have Hstr:Hid ((⟨dt.toArray⟩:ByteArray)++⟨x.toArray⟩++⟨[61].toArray⟩++⟨tx.toArray⟩=⟨(dt++x++[61]++tx).toArray⟩):=by
      show _=_; rw [Zbk,Zbk,Zbk]
     have H0:=Zaa h0;clear h0;go_wp2_with fail;refine HI.out.mono ?_;rintro e w1 ⟨sv',rfl,hap1⟩;obtain ⟨s1a,s1cap,rfl⟩:=Zad hap1.owns;have hk1:Kept (fun i=>W0.heap.size<=i) wr w1:=hap1.kept.mono (fun i _ e=>(Hap.out.owns.lt i e).1);have b1':w1.cell? ⟨w.heap.size,1,none⟩=some (.slice (some ⟨nb,0,none⟩) names.length ncap):=hk1.cell b1 (by show ¬ W0.heap.size<=w.heap.size; omega);have z0':w1.cell? ⟨nb,k,none⟩=some (.string ⟨x.toArray⟩):=hk1.cell z0 (by have:=(HN.out.lt nb rfl).2; show ¬ W0.heap.size<=nb; omega);have Hap1:=Zaa hap1;clear hap1 y0 y1 y2 hk1;go_wp2
     go_roundg (names.length - k)
     case measure=>omega
     case rel=>exact ⟨k+1,sk2,dt++x++[61]++tx,by go_num,by omega,by omega,by rw [<- Hstr.out],by simpa using Hd0.out,by omega,Hap.out.trans Hap1.out⟩
    ·have hk0:(0:Int)<(k:Int):=by omega
     have Hd0:Hid ((dt++[44]++x++[61]++tx)++Zgg [44] (names.drop (k+1)) (Zbc (n.vals.drop (k+1)) sk2).1=F):=by
      have h1:=Hdt.out;rw [if_neg h0,<- Hnext.out [44]] at h1;show _=_;rw [<- h1]; simp
     have Hstr:Hid ((⟨dt.toArray⟩:ByteArray)++⟨[44].toArray⟩++⟨x.toArray⟩++⟨[61].toArray⟩++⟨tx.toArray⟩=⟨(dt++[44]++x++[61]++tx).toArray⟩):=by
      show _=_; rw [Zbk,Zbk,Zbk,Zbk]
     have H0:=Zaa h0;clear h0;go_wp2_with fail;refine HI.out.mono ?_;rintro e w1 ⟨sv',rfl,hap1⟩;obtain ⟨s1a,s1cap,rfl⟩:=Zad hap1.owns;have hk1:Kept (fun i=>W0.heap.size<=i) wr w1:=hap1.kept.mono (fun i _ e=>(Hap.out.owns.lt i e).1);have b1':w1.cell? ⟨w.heap.size,1,none⟩=some (.slice (some ⟨nb,0,none⟩) names.length ncap):=hk1.cell b1 (by show ¬ W0.heap.size<=w.heap.size; omega);have z0':w1.cell? ⟨nb,k,none⟩=some (.string ⟨x.toArray⟩):=hk1.cell z0 (by have:=(HN.out.lt nb rfl).2; show ¬ W0.heap.size<=nb; omega);have Hap1:=Zaa hap1;clear hap1 y0 y1 y2 hk1;go_wp2
     go_roundg (names.length - k)
     case measure=>omega
     case rel=>exact ⟨k+1,sk2,dt++[44]++x++[61]++tx,by go_num,by omega,by omega,by rw [<- Hstr.out],by simpa using Hd0.out,by omega,Hap.out.trans Hap1.out⟩
   ·have Hend:Hid (F=dt):=by
     have h1:=Hdt.out;rw [List.drop_eq_nil_of_le (by omega)] at h1;have e:Zgg (if k=0 then [] else [44]) [] (Zbc (n.vals.drop k) sk).1=[]:=by cases (Zbc (n.vals.drop k) sk).1 <;> rfl
     rw [e,List.append_nil] at h1;exact h1.symm
    go_wp2;go_ret;rw [Hans.out,Hend.out];exact ⟨rfl,HEwr.out⟩
theorem Ycw {n:ND} {c:Cls} {k:Nat} (h:(tryN n c k).2=1\/(tryN n c k).2=2):(tryN n c k).1.vals.length=n.vals.length:=by
 by_cases hex:∃ r:ND × Nat,∃ m,NOk m/\Same m n/\Out m c k r.2 r.1
 ·have e:tryN n c k=Classical.choose hex:=by unfold tryN; rw [dif_pos hex]
  obtain ⟨m,_,hS,g,gs,_,ho⟩:=Classical.choose_spec hex;rw [e] at h ⊢;rcases ho with ⟨h0,_⟩ | ⟨h0,_⟩ | ⟨σ,_,_,_,h4⟩
  ·omega
  ·omega
  ·rw [h4]; simp [Zao,hS.vl]
 ·have e:tryN n c k=(⟨[],[],[],[],0⟩,0):=by unfold tryN; rw [dif_neg hex]
  rw [e] at h;simp at h
theorem Yhq:∀ {met:List Nat} {n k:Nat},(∀ i,i<k->met[i]?≠some n)->met[k]?=some n->met.idxOf n=k:=by
 intro met
 induction met with
 | nil=>intro n k _ h; simp at h
 | cons x met ih =>
  intro n k h1 h2;rw [List.idxOf_cons]
  cases k with
  | zero=>simp at h2; subst h2; simp
  | succ k =>
   have hx:x≠n:=fun e=>h1 0 (by omega) (by simp [e]);have:(x == n)=false:=by rw [beq_eq_false_iff_ne]; exact hx
   rw [this];simp only [cond_false];rw [ih (n:=n) (k:=k) (fun i hi=>by have:=h1 (i+1) (by omega); simpa using this) (by simpa using h2)]
theorem Yfg:∀ {met:List Nat} {n:Nat},(∀ i,i<met.length->met[i]?≠some n)->met.idxOf n=met.length:=by
 intro met
 induction met with
 | nil=>intro n _; rfl
 | cons x met ih =>
  intro n h1;rw [List.idxOf_cons];have hx:x≠n:=fun e=>h1 0 (by simp) (by simp [e]);have:(x == n)=false:=by rw [beq_eq_false_iff_ne]; exact hx
  rw [this];simp only [cond_false,List.length_cons];rw [ih (n:=n) (fun i hi=>by have:=h1 (i+1) (by simp; omega); simpa using this)]
theorem Zuy (w:World) (n:Nat) (lv:Value) (met:List Nat) (h:w.ownsRow 0 3 1 lv met.length (ints met)) (hl:met.length<=10000) (hn:n<=200000) :
  Calls Tryz.prog 134 #[.int .i64 n,lv] w fun e w'=>e = .returned (.int .i64 (met.idxOf n))/\w'=w:=by
 obtain ⟨la,lcap,rfl⟩:=Zad h;have H:=Zaa h;clear h;go_enter Tryz.func134,Tryz.ntmps134;go_wp2
 go_loopg [5] (met.length+1) (fun gk pv wr=>∃ (k:Nat),pv = .int .i64 k/\k<=met.length/\met.length - k<gk/\wr=w/\∀ i,i<k->met[i]?≠some n)
 case atStart=>exact ⟨0,by go_num,Nat.zero_le _,by omega,rfl,fun i hi=>by omega⟩
 case round =>
  obtain ⟨k,rfl,hk,hgk,rfl,hbef⟩:=hrel;have Hbef:=Zaa hbef;clear hbef
  by_cases hlt:k<met.length
  ·have hlt':(k:Int)<(met.length:Int):=by omega
   obtain ⟨x,hx⟩:∃ x,met[k]?=some x:=⟨_,List.getElem?_eq_getElem hlt⟩;obtain ⟨g,cap',cur,he,_,hgb,_⟩:=Zal H.out (by omega);simp only [Value.slice.injEq] at he;obtain ⟨rfl,_,rfl⟩:=he;have x0:wr.cell? ⟨g,k,none⟩=some (.int .i64 x):=Zaf H.out k _ (by simp only [ints,List.getElem?_map,hx,Option.map_some]);have hgl:=Zac hgb;have Hx:=Zaa hx;clear hx hgb
   by_cases hxn:x=n
   ·subst hxn;have Hi:Hid (met.idxOf x=k):=Yhq Hbef.out Hx.out;go_wp2;go_ret;exact ⟨by rw [Hi.out]; simp,rfl⟩
   ·have hb:((x:Int) != (n:Int))=true:=by rw [bne_iff_ne]; omega
    go_wp2
    go_roundg (met.length - k)
    case measure=>omega
    case rel =>
     refine ⟨k+1,by go_num,by omega,by omega,rfl,fun i hi => ?_⟩
     by_cases e:i=k
     ·subst e;rw [Hx.out];simpa using hxn
     ·exact Hbef.out i (by omega)
  ·have hek:k=met.length:=by omega
   subst hek;have Hi:Hid (met.idxOf n=met.length):=Yfg Hbef.out;have hlt':¬ ((met.length:Int)<(met.length:Int)):=by omega
   go_wp2;go_ret;exact ⟨by rw [Hi.out]; simp,rfl⟩
theorem TermsAt.other {w w':World} {B B2 n s:Nat} {e:TypeId} {v vv:Value} {ls:List (List Sym)} {vs ys:List Value} (h:TermsAt w B v ls vs) (hv:w.ownsRow B2 e s vv n ys) (he1:105≠e) (he2:133≠e) (hk:Kept (Zas vv) w w'):TermsAt w' B v ls vs :=
 ⟨hk.owns h.owns (fun j hj hS=>by
  obtain ⟨cur,hc⟩:=Zap hv j hS;exact Zai h.owns he1 hc hj),fun i l hi=>by
  obtain ⟨x,h1,h2⟩:=h.all i l hi;refine ⟨x,h1,hk.owns h2 (fun j hj hS => ?_)⟩;obtain ⟨cur,hc⟩:=Zap hv j hS;exact Zai h2 he2 hc hj⟩
structure OrdB (w:World) (Bc:Nat) (rl:List (List Sym)) (rv:Value) (xs:List Value) (met:List Nat) (mv:Value) (ch:List Sym) (cv:Value) (wr:World):Prop where
 ext:Ext w wr
 row:TermsAt wr w.heap.size rv rl xs
 low:∀ x ∈ xs,∀ j,x.ownBlock=some j->j<Bc
 met:wr.ownsRow w.heap.size 3 1 mv met.length (ints met)
 b1:w.heap.size<=Bc
 b2:Bc<=wr.heap.size
 chg:wr.ownsRow Bc 133 3 cv ch.length (Zam ch)
theorem OrdB.on {w wr w1:World} {Bc:Nat} {rl:List (List Sym)} {rv mv cv:Value} {xs:List Value} {met:List Nat} {ch:List Sym} (h:OrdB w Bc rl rv xs met mv ch cv wr) (e:Ext wr w1):OrdB w Bc rl rv xs met mv ch cv w1:=by
 obtain ⟨h1,h2,h3,h4,h5,h6,h7⟩:=h;exact ⟨h1.trans (e.mono h1.size),h2.ext e,h3,Zan h4 (fun j hj=>e.block j (h4.lt j hj).2),h5,Nat.le_trans h6 e.size,Zan h7 (fun j hj=>e.block j (h7.lt j hj).2)⟩
theorem OrdB.metApp {w w1 w2:World} {Bc n:Nat} {rl:List (List Sym)} {rv mv mv2 cv:Value} {xs:List Value} {met:List Nat} {ch:List Sym} (h:OrdB w Bc rl rv xs met mv ch cv w1) (hap:Appended w1 w.heap.size 3 1 mv (met.length+1) (ints met++[.int .i64 n]) mv2 w2):OrdB w Bc rl rv xs (met++[n]) mv2 ch cv w2:=by
 obtain ⟨h1,h2,h3,h4,h5,h6,h7⟩:=h;have hsz:=hap.kept.size;refine ⟨h1.trans (hap.kept.below h1.size (fun j hj=>(h4.lt j hj).1)),h2.other h4 (by decide) (by decide) hap.kept,h3,?_,h5,by omega,hap.kept.owns h7 (fun j hj hS => ?_)⟩
 ·have:=hap.owns;simpa [ints] using this
 ·obtain ⟨cur,hc⟩:=Zap h4 j hS;exact Zai h7 (by decide) hc hj
theorem OrdB.chApp {w w1 w2:World} {Bc:Nat} {rl:List (List Sym)} {rv mv cv cv2:Value} {xs:List Value} {met:List Nat} {ch:List Sym} {s:Sym} (h:OrdB w Bc rl rv xs met mv ch cv w1) (hap:Appended w1 Bc 133 3 cv (ch.length+1) (Zam ch++Zbz s) cv2 w2):OrdB w Bc rl rv xs met mv (ch++[s]) cv2 w2:=by
 obtain ⟨h1,h2,h3,h4,h5,h6,h7⟩:=h;have hsz:=hap.kept.size;refine ⟨h1.trans (hap.kept.below h1.size (fun j hj=>Nat.le_trans h5 (h7.lt j hj).1)),⟨hap.kept.owns h2.owns (fun j hj hS => ?_),fun i l hi => ?_⟩,h3,hap.kept.owns h4 (fun j hj hS => ?_),h5,by omega,?_⟩
 ·obtain ⟨cur,hc⟩:=Zap h7 j hS;exact Zai h2.owns (by decide) hc hj
 ·obtain ⟨x,e1,e2⟩:=h2.all i l hi;refine ⟨x,e1,hap.kept.owns e2 (fun j hj hS => ?_)⟩;have:=h3 x (List.mem_of_getElem? e1) j hj;have:=(h7.lt j hS).1;omega
 ·obtain ⟨cur,hc⟩:=Zap h7 j hS;exact Zai h4 (by decide) hc hj
 ·have:=hap.owns;rw [Zdq,List.length_append];simpa [Zam] using this
theorem OrdB.box {w w1 w2:World} {Bc M:Nat} {cs:Array Value} {fr:Nat × Nat} {rl:List (List Sym)} {rv mv cv:Value} {xs:List Value} {met:List Nat} {ch:List Sym} (h:OrdB w Bc rl rv xs met mv ch cv w1) (hM:w1.heap[M]?=some (.cells cs 133 fr)) (hB:Bc<=M) (hc:∀ j,cv.ownBlock=some j->j≠M) (hk:Kept (fun k=>k=M) w1 w2):OrdB w Bc rl rv xs met mv ch cv w2:=by
 obtain ⟨h1,h2,h3,h4,h5,h6,h7⟩:=h;have hsz:=hk.size;refine ⟨h1.trans (hk.below h1.size (fun j hj=>by omega)),⟨Zdp h2.owns hM (by decide) hk,fun i l hi => ?_⟩,h3,Zdp h4 hM (by decide) hk,h5,by omega,hk.owns h7 (fun j hj hS=>hc j hj hS)⟩;obtain ⟨x,e1,e2⟩:=h2.all i l hi;refine ⟨x,e1,hk.owns e2 (fun j hj hS => ?_)⟩;have:=h3 x (List.mem_of_getElem? e1) j hj;have hS:j=M:=hS;omega
theorem TermsAt.words {w:World} {B:Nat} {v:Value} {ls:List (List Sym)} {vs:List Value} (h:TermsAt w B v ls vs):∀ x ∈ vs,∀ j,x.ownBlock=some j->j<w.heap.size:=fun x hx j hj=>by
 have hlen:vs.length=ls.length:=by have:=h.owns.1; omega
 obtain ⟨i,hi⟩:=List.mem_iff_getElem?.1 hx;have hil:=(List.getElem?_eq_some_iff.1 hi).1;obtain ⟨y,h3,h4⟩:=h.all i _ (List.getElem?_eq_getElem (by omega));rw [hi] at h3;simp only [Option.some.injEq] at h3;subst h3;exact (h4.lt j hj).2
theorem Yfh (n:Nat) (met:List Nat):(meet n met).length<=met.length+1:=by unfold meet; split <;> simp
theorem Zow:∀ (l:List Sym) (met:List Nat),(Zay l met).2.length<=met.length+l.length:=by
 intro l
 induction l with
 | nil=>intro met; simp [Zay]
 | cons s l ih =>
  intro met;simp only [Zay];split
  ·have:=ih (meet s.num met); have:=Yfh s.num met; simp; omega
  ·have:=ih met; simp; omega
theorem Zox:∀ (ts:List (List Sym)) (met:List Nat),(Zbc ts met).2.length<=met.length+ts.flatten.length:=by
 intro ts
 induction ts with
 | nil=>intro met; simp [Zbc]
 | cons t ts ih =>
  intro met;simp only [Zbc,List.flatten_cons,List.length_append];have:=ih (Zay t met).2;have:=Zow t met;omega
def Yim (ts:List (List Sym)) (w:World) (e:Ending) (w':World):Prop:=Ext w w'/\∃ x c,e = .returned (.slice x ts.length c)/\TermsIn w' (.slice x ts.length c) (Zbc ts []).1
theorem Zuz (w:World) (tv:Value) (ts:List (List Sym)) (h:TermsIn w tv ts) (hl:ts.length<=1000) (hf:ts.flatten.length<=8000) (hok:∀ t ∈ ts,TmOk t) :
  Calls Tryz.prog 99 #[tv] w (Yim ts w):=by
 obtain ⟨us,h⟩:=h;obtain ⟨ta,tcap,rfl⟩:=Zad h.owns;have H:=Zaa h;have Hok:=Zaa hok;have Hf:=Zaa hf;clear h hok hf;go_enter Tryz.func99,Tryz.ntmps99;go_wp2
 go_loopg [3,4,13] (ts.length+1) (fun gk rv mv iv wr=>∃ (k:Nat) (xs:List Value),iv = .int .i64 k/\k<=ts.length/\ts.length - k<gk/\OrdB w wr.heap.size (Zbc (ts.take k) []).1 rv xs (Zbc (ts.take k) []).2 mv [] (.slice none 0 0) wr)
 case atStart=>exact ⟨0,[],by go_num,Nat.zero_le _,by omega,Below.refl _ _,TermsAt.nil _ _,by simp,World.ownsRow_nil _ _ _ _,Nat.le_refl _,Nat.le_refl _,World.ownsRow_nil _ _ _ _⟩
 case round =>
  obtain ⟨k,xs,rfl,hk,hgk,hA⟩:=hrel;have hmet:(Zbc (ts.take k) []).2.length<=8000:=by
   have h1:=Zox (ts.take k) [];have h2:=Hf.out;have h3:(ts.take k).flatten.length<=ts.flatten.length:=by
    conv=>rhs; rw [<- List.take_append_drop k ts,List.flatten_append,List.length_append]
    omega
   simp at h1;simp at h2 h3;omega
  have hlk:(Zbc (ts.take k) []).1.length=k:=by rw [Zhl]; simp; omega
  obtain ⟨rl,hrl⟩:∃ r,r=(Zbc (ts.take k) []).1:=⟨_,rfl⟩;obtain ⟨met,hme⟩:∃ r,r=(Zbc (ts.take k) []).2:=⟨_,rfl⟩;rw [<- hrl,<- hme] at hA;rw [<- hme] at hmet;rw [<- hrl] at hlk;have hrow:=hA.row.owns;rw [hlk] at hrow;obtain ⟨ra,rcap,rfl⟩:=Zad hrow;obtain ⟨ma,mcap,rfl⟩:=Zad hA.met;have hsr:=hA.ext.size;have HA:=Zaa hA;have Hrl:=Zaa hrl;have Hme:=Zaa hme;have Hlk:=Zaa hlk;clear hA hrow hrl hme hlk
  by_cases hlt:k<ts.length
  ·obtain ⟨t,ht⟩:∃ t,ts[k]?=some t:=⟨_,List.getElem?_eq_getElem hlt⟩;obtain ⟨x,hx,hxo⟩:=H.out.all _ t ht;obtain ⟨xa,xcap,rfl⟩:=Zad hxo;obtain ⟨g,cap',cur,he,_,hgb,_⟩:=Zal H.out.owns (by omega);simp only [Value.slice.injEq] at he;obtain ⟨rfl,_,rfl⟩:=he;have hgw:=Zac hgb;have hgr:g<wr.heap.size:=by omega
   have x0:wr.cell? ⟨g,k,none⟩=some (.slice xa t.length xcap):=(HA.out.ext.cell (p:=⟨g,k,none⟩) hgw).trans (Zaf H.out.owns _ _ hx);obtain ⟨o1,o2,o3⟩:=Hok.out t (List.mem_of_getElem? ht);have Hxo:Hid (WordAt w (.slice xa t.length xcap) t):=hxo;have Ht:=Zaa ht;have Ho3:=Zaa o3;have Hta:Hid (∀ (i:Nat) s,t[i]?=some s->s.name=[]->s.args=0):=fun i s hs=>by obtain ⟨j,hj⟩:=o1; exact (Zjx hj hs).1
   have hm8:met.length+t.length<=9000:=by omega
   obtain ⟨wo,hwo⟩:∃ x,x=wr:=⟨_,rfl⟩;subst hwo;clear ht hx hxo hgb o1 o3;go_wp2
   go_loopg [4,7,19] (t.length+1) (fun gk mv cv iv wr=>∃ (i:Nat),iv = .int .i64 i/\i<=t.length/\t.length - i<gk/\OrdB w wo.heap.size rl (.slice ra k rcap) xs (Zay (t.take i) met).2 mv (Zay (t.take i) met).1 cv wr)
   case atStart=>exact ⟨0,by go_num,Nat.zero_le _,by omega,HA.out⟩
   case round =>
    obtain ⟨i,rfl,hi,hgi,hB⟩:=hrel;have hmi:(Zay (t.take i) met).2.length<=9000:=by
     have:=Zow (t.take i) met;simp at this;omega
    have hci:(Zay (t.take i) met).1.length=i:=by rw [Zkk]; simp; omega
    obtain ⟨ch,hch⟩:∃ r,r=(Zay (t.take i) met).1:=⟨_,rfl⟩;obtain ⟨mt,hmt⟩:∃ r,r=(Zay (t.take i) met).2:=⟨_,rfl⟩;rw [<- hch,<- hmt] at hB;rw [<- hmt] at hmi;rw [<- hch] at hci;have hcg:=hB.chg;rw [hci] at hcg;obtain ⟨ca,ccap,rfl⟩:=Zad hcg;obtain ⟨na,ncap,rfl⟩:=Zad hB.met;have hsi:=hB.ext.size;have hb2:=hB.b2;have HB:=Zaa hB;have Hch:=Zaa hch;have Hmt:=Zaa hmt;have Hci:=Zaa hci;clear hB hcg hch hmt hci x0
    by_cases hit:i<t.length
    ·obtain ⟨s,hs⟩:∃ s,t[i]?=some s:=⟨_,List.getElem?_eq_getElem hit⟩;obtain ⟨g2,cap2,cur2,he2,_,hgb2,_⟩:=Zal Hxo.out (by omega);simp only [Value.slice.injEq] at he2;obtain ⟨rfl,_,rfl⟩:=he2;have ho:=Zan Hxo.out (fun j hj=>HB.out.ext.block j (Hxo.out.lt j hj).2);have hgw2:=Zac hgb2;have hgr2:g2<wr.heap.size:=by omega
     have e0:wr.cell? ⟨g2,i * 3,none⟩=some (.string ⟨s.name.toArray⟩):=Zaf ho _ _ (by have:=Zbg t i s hs 0 (by omega); rw [Nat.add_zero] at this; rw [this]; rfl);have e1:wr.cell? ⟨g2,i * 3+1,none⟩=some (.int .i64 s.num):=Zaf ho _ _ (by rw [Zbg t i s hs 1 (by omega)]; rfl);have e2:wr.cell? ⟨g2,i * 3+2,none⟩=some (.int .i64 s.args):=Zaf ho _ _ (by rw [Zbg t i s hs 2 (by omega)]; rfl);have hsn:=Ho3.out s (List.mem_of_getElem? hs);have hnx:Zay (t.take (i+1)) met=(if s.name=[] then (ch++[⟨[],mt.idxOf s.num,s.args⟩],meet s.num mt) else (ch++[s],mt)):=by
      rw [List.take_add_one,hs];simp only [Option.toList];rw [Zkj,<- Hch.out,<- Hmt.out];simp only [Zay];split <;> rfl
     have Hnx:=Zaa hnx;clear hs ho hgb2 hnx
     cases hnm:s.name with
     | cons y ys =>
      rw [hnm] at e0;have Hnx2:Hid (Zay (t.take (i+1)) met=(ch++[s],mt)):=by show _=_; rw [Hnx.out,if_neg (by rw [hnm]; simp)]
      have Hs2:Hid (s=⟨y::ys,s.num,s.args⟩):=by show _=_; rw [<- hnm]
      have hE:Ext wr (wr.alloc (.cells #[.string ⟨(y::ys).toArray⟩,.int .i64 s.num,.int .i64 s.args] 133)):=Mxt;have HB1:=Zaa (HB.out.on hE);have Hrow:Hid ((wr.alloc (.cells #[.string ⟨(y::ys).toArray⟩,.int .i64 s.num,.int .i64 s.args] 133)).ownsRow wo.heap.size 133 3 (.slice ca i ccap) i (Zam ch)):=by have:=HB1.out.chg; rw [Hci.out] at this; exact this
      clear hnm hE
      go_wp2_with (at_builtin; go_loud (refine Zak (wr.alloc (.cells #[.string ⟨(y::ys).toArray⟩,.int .i64 s.num,.int .i64 s.args] 133)) rfl (.tmp 41) (.tmp 43) 105 rfl wo.heap.size 133 Tryz.infoSym Tryz.underlying105 rfl (by decide) (.slice ca i ccap) i (Zam ch) rfl Hrow.out #[.string ⟨(y::ys).toArray⟩,.int .i64 s.num,.int .i64 s.args] (N:=wr.heap.size+1) rfl (by simp) rfl (Zhj _ _ _) ?_ ?_ ?_))
      ·omega
      ·simp; omega
      intro v2 w2 hap;obtain ⟨a2,c2,rfl⟩:=Zad hap.owns;have hB2:=HB1.out.chApp (s:=s) (cv2 := .slice a2 (i+1) c2) (w2:=w2) (by rw [Hci.out,Hs2.out]; simpa [Zbz] using hap);have HB2:=Zaa hB2;clear hap hB2;go_wp2
      go_roundg (t.length - i)
      case measure=>omega
      case rel=>exact ⟨i+1,by go_num,by omega,by omega,by rw [Hnx2.out]; exact HB2.out⟩
     | nil =>
      rw [hnm] at e0;obtain ⟨P,hP⟩:∃ p,p=mt.idxOf s.num:=⟨_,rfl⟩;have hPl:P<=mt.length:=by rw [hP]; exact List.idxOf_le_length
      have hE:∀ o,Ext wr (wr.alloc o):=fun o=>Mxt;have HPl:=Zaa (Zuy (wr.alloc (.cells #[.string ⟨#[]⟩,.int .i64 s.num,.int .i64 s.args] 133)) s.num (.slice na mt.length ncap) mt (Zbe (HB.out.on (hE _)).met (Nat.zero_le _)) (by omega) hsn);rw [<- hP] at HPl;have Hnx2:Hid (Zay (t.take (i+1)) met=(ch++[⟨[],P,s.args⟩],meet s.num mt)):=by show _=_; rw [Hnx.out,if_pos hnm,<- hP]
      have Hmeet:Hid (meet s.num mt=if P=mt.length then mt++[s.num] else mt):=by show _=_; unfold meet; rw [<- hP]
      have HE:=Zaa hE;have HBm:=Zaa (HB.out.on (hE (.cells #[.string ⟨#[]⟩,.int .i64 s.num,.int .i64 s.args] 133)));clear hnm hE hP;go_wp2_with fail;refine HPl.out.mono ?_;rintro e w1 ⟨rfl,rfl⟩
      by_cases hnew:P=mt.length
      ·subst hnew;have hz:((mt.length:Int) == (mt.length:Int))=true:=by simp
       have Hmrow:Hid ((wr.alloc (.cells #[.string ⟨#[]⟩,.int .i64 s.num,.int .i64 s.args] 133)).ownsRow w.heap.size 3 1 (.slice na mt.length ncap) mt.length (ints mt)):=HBm.out.met
       go_wp2_with (at_builtin; go_loud (refine Zak (wr.alloc (.cells #[.string ⟨#[]⟩,.int .i64 s.num,.int .i64 s.args] 133)) rfl (.tmp 34) (.tmp 37) 25 rfl w.heap.size 3 Tryz.infoInt Tryz.underlying25 rfl (by decide) (.slice na mt.length ncap) mt.length (ints mt) rfl Hmrow.out #[.int .i64 s.num] (N:=wr.heap.size+1) rfl (by simp) rfl (Zif _) ?_ ?_ ?_))
       ·omega
       ·simp; omega
       intro v2 w2 hap;obtain ⟨a2,c2,rfl⟩:=Zad hap.owns;have hB2:=HBm.out.metApp (n:=s.num) hap;have hbx:w2.heap[wr.heap.size]?=some (.cells #[.string ⟨#[]⟩,.int .i64 s.num,.int .i64 s.args] 133 (0,0)):=(hap.kept.block _ (by simp) (Zai Hmrow.out (by decide) (heap_alloc_new wr _))).trans (heap_alloc_new wr _);have hK:Kept (fun k=>k=wr.heap.size) w2 (w2.setCell ⟨wr.heap.size,1,none⟩ (.int .i64 mt.length)):=(Kept.refl (only wr.heap.size) w2).put 1 _;have hB3:=hB2.box hbx hb2 (fun j hj=>by have:=(HB.out.chg.lt j hj).2; omega) hK;have y0:=Zab hbx 0 _ rfl;have y1:=Zab hbx 1 _ rfl;have y2:=Zab hbx 2 _ rfl;have yf:=fun i=>Zae hbx i;have yl:=Zac hbx;have hsz2:=hap.kept.size;simp at hsz2;have HB3:=Zaa hB3;have Hrow:Hid ((w2.setCell ⟨wr.heap.size,1,none⟩ (.int .i64 mt.length)).ownsRow wo.heap.size 133 3 (.slice ca i ccap) i (Zam ch)):=by have:=hB3.chg; rw [Hci.out] at this; exact this
       have Hme2:Hid (meet s.num mt=mt++[s.num]):=by show _=_; rw [Hmeet.out]; simp
       clear hap hB2 hbx hK hB3 e0 e1 e2
       go_wp2_with (at_builtin; go_loud (refine Zak (w2.setCell ⟨wr.heap.size,1,none⟩ (.int .i64 mt.length)) rfl (.tmp 41) (.tmp 43) 105 rfl wo.heap.size 133 Tryz.infoSym Tryz.underlying105 rfl (by decide) (.slice ca i ccap) i (Zam ch) rfl Hrow.out #[.string ⟨#[]⟩,.int .i64 mt.length,.int .i64 s.args] (N:=w2.heap.size) rfl (by simp) rfl (Zhj _ _ _) ?_ ?_ ?_))
       ·omega
       ·simp; omega
       intro v4 w4 hap;obtain ⟨a4,c4,rfl⟩:=Zad hap.owns;have hB4:=HB3.out.chApp (s:=⟨[],mt.length,s.args⟩) (cv2 := .slice a4 (i+1) c4) (w2:=w4) (by rw [Hci.out]; simpa [Zbz] using hap);have HB4:=Zaa hB4;clear hap hB4;go_wp2
       go_roundg (t.length - i)
       case measure=>omega
       case rel=>exact ⟨i+1,by go_num,by omega,by omega,by rw [Hnx2.out,Hme2.out]; exact HB4.out⟩
      ·have hz:((P:Int) == (mt.length:Int))=false:=by rw [beq_eq_false_iff_ne]; omega
       have Hme2:Hid (meet s.num mt=mt):=by show _=_; rw [Hmeet.out,if_neg hnew]
       have HB3:=Zaa (HB.out.on (HE.out (.cells #[.string ⟨#[]⟩,.int .i64 P,.int .i64 s.args] 133)));have Hrow:Hid ((wr.alloc (.cells #[.string ⟨#[]⟩,.int .i64 P,.int .i64 s.args] 133)).ownsRow wo.heap.size 133 3 (.slice ca i ccap) i (Zam ch)):=by have:=HB3.out.chg; rw [Hci.out] at this; exact this
       clear hnew
       go_wp2_with (at_builtin; go_loud (refine Zak (wr.alloc (.cells #[.string ⟨#[]⟩,.int .i64 P,.int .i64 s.args] 133)) rfl (.tmp 41) (.tmp 43) 105 rfl wo.heap.size 133 Tryz.infoSym Tryz.underlying105 rfl (by decide) (.slice ca i ccap) i (Zam ch) rfl Hrow.out #[.string ⟨#[]⟩,.int .i64 P,.int .i64 s.args] (N:=wr.heap.size+1) rfl (by simp) rfl (Zhj _ _ _) ?_ ?_ ?_))
       ·omega
       ·simp; omega
       intro v4 w4 hap;obtain ⟨a4,c4,rfl⟩:=Zad hap.owns;have hB4:=HB3.out.chApp (s:=⟨[],P,s.args⟩) (cv2 := .slice a4 (i+1) c4) (w2:=w4) (by rw [Hci.out]; simpa [Zbz] using hap);have HB4:=Zaa hB4;clear hap hB4;go_wp2
       go_roundg (t.length - i)
       case measure=>omega
       case rel=>exact ⟨i+1,by go_num,by omega,by omega,by rw [Hnx2.out,Hme2.out]; exact HB4.out⟩
    ·have hei:i=t.length:=by omega
     subst hei;have Hrow:Hid (wr.ownsRow w.heap.size 105 1 (.slice ra k rcap) k xs):=by have:=HB.out.row.owns; rw [Hlk.out] at this; exact this
     go_wp2_with (at_builtin; go_loud (refine Zak wr rfl (.tmp 46) (.tmp 48) 85 rfl w.heap.size 105 Tryz.infoSyms Tryz.underlying85 rfl (by decide) (.slice ra k rcap) k xs rfl Hrow.out #[.slice ca t.length ccap] (N:=wr.heap.size) rfl (by simp) rfl (Zej _ _ _) ?_ ?_ ?_))
     ·omega
     ·omega
     intro v2 w2 hap;obtain ⟨a2,c2,rfl⟩:=Zad hap.owns;have hfin:OrdB w w2.heap.size (Zbc (ts.take (k+1)) []).1 (.slice a2 (k+1) c2) (xs++[.slice ca t.length ccap]) (Zbc (ts.take (k+1)) []).2 (.slice na mt.length ncap) [] (.slice none 0 0) w2:=by
      have hch:=Hch.out;have hmt:=Hmt.out;rw [List.take_length] at hch hmt;have hnx:Zbc (ts.take (k+1)) []=(rl++[ch],mt):=by
       rw [List.take_add_one,Ht.out];simp only [Option.toList];rw [Zqb,<- Hrl.out,<- Hme.out];simp only [Zbc];rw [hch,hmt]
      rw [hnx];obtain ⟨q1,q2,q3,q4,q5,q6,q7⟩:=HB.out;have hsz:=hap.kept.size;have hx:WordAt wr (.slice ca t.length ccap) ch:=Zbe q7 (Nat.zero_le _);have ht:TermsAt w2 w.heap.size (.slice a2 (k+1) c2) (rl++[ch]) (xs++[.slice ca t.length ccap]):=q2.snoc (by rw [Hlk.out]; exact hap) hx;refine ⟨q1.trans (hap.kept.below q1.size (fun j hj=>(Hrow.out.lt j hj).1)),ht,ht.words,hap.kept.owns q4 (fun j hj hS => ?_),by omega,Nat.le_refl _,World.ownsRow_nil _ _ _ _⟩;obtain ⟨cur,hc⟩:=Zap Hrow.out j hS;exact Zai q4 (by decide) hc hj
     have Hfin:=Zaa hfin;clear hap hfin;go_wp2
     go_roundg (ts.length - k)
     case measure=>omega
     case rel=>exact ⟨k+1,_,by go_num,by omega,by omega,Hfin.out⟩
  ·have hek:k=ts.length:=by omega
   subst hek;go_wp2;go_ret;have hr:=Hrl.out;rw [List.take_length] at hr;obtain ⟨q1,q2,_⟩:=HA.out;rw [hr] at q2;exact ⟨q1,ra,rcap,rfl,q2.inn⟩
structure TxOk (ts:List (List Sym)):Prop where
 len:ts.length<=1000
 all:ts.flatten.length<=8000
 ok:∀ t ∈ ts,TmOk t
 sym:∀ t ∈ (Zbc ts []).1,Yeg t
 txt:∀ t ∈ (Zbc ts []).1,(Zcm t []).length<=1000000
def Znc (ts:List (List Sym)):List (List UInt8):=(Zbc ts []).1.map (fun t=>Zcm t [])
def Yfi (ts:List (List Sym)) (w:World) (e:Ending) (w':World):Prop:=Ext w w'/\∃ x c,e = .returned (.slice x ts.length c)/\w'.ownsRow 0 9 1 (.slice x ts.length c) ts.length (strs (Znc ts))
theorem Ycx (w:World) (tv:Value) (ts:List (List Sym)) (h:TermsIn w tv ts) (ho:TxOk ts):Calls Tryz.prog 79 #[tv] w (Yfi ts w):=by
 obtain ⟨ta,tcap,rfl⟩:=h.shape;have HI:=Zaa (Zuz w _ ts h ho.len ho.all ho.ok);have Ho:=Zaa ho;have hl:=ho.len;have hcl:(Zbc ts []).1.length=ts.length:=Zhl _ _;obtain ⟨C,hC⟩:∃ C,C=(Zbc ts []).1:=⟨_,rfl⟩;have Htx:Hid (Znc ts=C.map (fun t=>Zcm t [])):=by show _=_; unfold Znc; rw [hC]
 rw [<- hC] at hcl;have HC:=Zaa hC;have Hcl:=Zaa hcl;clear h ho hC hcl;go_enter Tryz.func79,Tryz.ntmps79;go_wp2_with fail;refine HI.out.mono ?_;rintro e w1 ⟨hE1,xa,xc,rfl,hT⟩;rw [<- HC.out] at hT;obtain ⟨us,hT⟩:=hT;have hz1:=hE1.size;have HE1:=Zaa hE1;have HT:=Zaa hT;clear hE1 hT HI;go_wp2
 go_loopg [3,9] (ts.length+1) (fun gk rv iv wr=>∃ (k:Nat),iv = .int .i64 k/\k<=ts.length/\ts.length - k<gk/\Ext w1 wr/\wr.ownsRow w1.heap.size 9 1 rv k (strs ((C.take k).map (fun t=>Zcm t []))))
 case atStart=>exact ⟨0,by go_num,Nat.zero_le _,by omega,Below.refl _ _,World.ownsRow_nil _ _ _ _⟩
 case round =>
  obtain ⟨k,rfl,hk,hgk,hE,hown⟩:=hrel;obtain ⟨ra,rcap,rfl⟩:=Zad hown;have hsr:=hE.size;have HE:=Zaa hE;have Hown:=Zaa hown;clear hE hown
  by_cases hlt:k<ts.length
  ·have hkC:k<C.length:=by rw [Hcl.out]; exact hlt
   obtain ⟨t,ht⟩:∃ t,C[k]?=some t:=⟨_,List.getElem?_eq_getElem hkC⟩;obtain ⟨y,hy,hyo⟩:=HT.out.all _ t ht;obtain ⟨ya,ycap,rfl⟩:=Zad hyo;have hor:=HT.out.owns;rw [Hcl.out] at hor;obtain ⟨g,cap',cur,he,_,hgb,_⟩:=Zal hor (by omega);simp only [Value.slice.injEq] at he;obtain ⟨rfl,_,rfl⟩:=he;have hgw:=Zac hgb;have hgr:g<wr.heap.size:=by omega
   have x0:wr.cell? ⟨g,k,none⟩=some (.slice ya t.length ycap):=(HE.out.cell (p:=⟨g,k,none⟩) hgw).trans (Zaf hor _ _ hy);have htm:t ∈ (Zbc ts []).1:=by rw [<- HC.out]; exact List.mem_of_getElem? ht
   have hso:=Ho.out.sym t htm;have htx:=Ho.out.txt t htm;have HA:=Zaa (Zrw wr 0 (.slice ya t.length ycap) t (WordAt.ext hyo HE.out) hso.1 hso.2 (by omega));have hnx:C.take (k+1)=C.take k++[t]:=by rw [List.take_add_one,ht]; rfl
   obtain ⟨A,hA⟩:∃ A,A=Zcm t []:=⟨_,rfl⟩;rw [<- hA] at HA htx;have HAA:=Zaa hA;have Hnx:=Zaa hnx;clear ht hy hyo hor hgb htm hso hnx hA;go_wp2_with fail;refine HA.out.mono ?_;rintro e w2 ⟨rfl,hE2⟩;have hz2:=hE2.size;have HE2:Hid (Ext w1 w2):=HE.out.trans (hE2.mono hsr);have Hrow:Hid (w2.ownsRow w1.heap.size 9 1 (.slice ra k rcap) k (strs ((C.take k).map (fun t=>Zcm t [])))):=Zan Hown.out (fun j hj=>hE2.block j (Hown.out.lt j hj).2);clear hE2 x0
   go_wp2_with (at_builtin; go_loud (refine Zak w2 rfl (.tmp 13) (.tmp 16) 47 rfl w1.heap.size 9 Tryz.infoStr Tryz.underlying47 rfl (by decide) (.slice ra k rcap) k (strs ((C.take k).map (fun t=>Zcm t []))) rfl Hrow.out #[.string ⟨A.toArray⟩] (N:=w2.heap.size) rfl (by simp) rfl (Ztn _) ?_ ?_ ?_))
   ·omega
   ·omega
   intro v3 w3 hap;obtain ⟨a3,c3,rfl⟩:=Zad hap.owns;have hE3:Ext w1 w3:=HE2.out.trans (hap.kept.below (by omega) (fun j hj=>(Hrow.out.lt j hj).1));have hrow3:w3.ownsRow w1.heap.size 9 1 (.slice a3 (k+1) c3) (k+1) (strs ((C.take (k+1)).map (fun t=>Zcm t []))):=by
    have:=hap.owns;rw [Hnx.out,List.map_append];simp only [List.map_cons,List.map_nil,strs,List.map_append];rw [<- HAA.out];rw [<- List.map_take] at this;exact this
   have HE3:=Zaa hE3;have Hrow3:=Zaa hrow3;clear hap hE3 hrow3;go_wp2
   go_roundg (ts.length - k)
   case measure=>omega
   case rel=>exact ⟨k+1,by go_num,by omega,by omega,HE3.out,Hrow3.out⟩
  ·have hek:k=ts.length:=by omega
   subst hek;go_wp2;go_ret;have hrow:=Hown.out;rw [<- Hcl.out,List.take_length] at hrow;rw [<- Htx.out,Hcl.out] at hrow;exact ⟨HE1.out.trans (HE.out.mono hz1),ra,rcap,rfl,Zbe hrow (Nat.zero_le _)⟩
theorem Znn (w:World) (nv vv:Value) (names:Names) (ts:List (List Sym)) (hn:w.ownsRow 0 9 1 nv names.length (strs names)) (h:TermsIn w vv ts) (ho:TxOk ts) (hl:names.length=ts.length) (hL:(Zgg [] names (Zbc ts []).1).length<=100000000) :
  Calls Tryz.prog 70 #[nv,vv] w fun e w'=>Ext w w'/\e = .returned (.string ⟨(if names=[] then [121,101,115] else Zgg [] names (Zbc ts []).1).toArray⟩):=by
 obtain ⟨na,ncap,rfl⟩:=Zad hn;obtain ⟨ta,tcap,rfl⟩:=h.shape
 by_cases h0:names=[]
 ·subst h0;clear hn h ho hl hL;go_enter Tryz.func70,Tryz.ntmps70;go_wp2;go_ret;exact ⟨Below.refl _ _,by simp⟩
 ·have hpos:0<names.length:=List.length_pos_iff.2 h0;rw [if_neg h0];have HI:=Zaa (Ycx w _ ts h ho);have hcl:(Zbc ts []).1.length=ts.length:=Zhl _ _;have hlen:=ho.len;obtain ⟨C,hC⟩:∃ C,C=(Zbc ts []).1:=⟨_,rfl⟩;have Htx:Hid (Znc ts=C.map (fun t=>Zcm t [])):=by show _=_; unfold Znc; rw [hC]
  rw [<- hC] at hcl hL ⊢;obtain ⟨F,hF⟩:∃ F,F=Zgg [] names C:=⟨_,rfl⟩;rw [<- hF] at hL ⊢;have HF:=Zaa hF;have Hn:=Zaa hn;have Hcl:=Zaa hcl;have z1:((names.length:Int) == 0)=false:=by rw [beq_eq_false_iff_ne]; omega
  have Hl:=Zaa hl;obtain ⟨N,hN⟩:∃ N,N=names.length:=⟨_,rfl⟩;rw [<- hN] at z1 hpos ⊢;have hNl:N<=1000:=by omega
  have htN:ts.length=N:=by omega
  rw [htN];have HN:=Zaa hN;have HtN:=Zaa htN;rw [htN] at HI;clear hn h ho hC hF hcl hl h0 hN htN;go_enter Tryz.func70,Tryz.ntmps70;go_wp2_with fail;refine HI.out.mono ?_;rintro e w1 ⟨hE1,xa,xc,rfl,hT⟩;rw [HtN.out] at hT ⊢;rw [Htx.out] at hT;have hz1:=hE1.size;have HE1:=Zaa hE1;have HT:=Zaa hT;clear hE1 hT HI;go_wp2
  go_loopg [5,14] (N+1) (fun gk tx iv wr=>∃ (k:Nat) (acc:List UInt8),iv = .int .i64 k/\k<=N/\N - k<gk/\tx = .string ⟨acc.toArray⟩/\acc++Zgg (if k=0 then [] else [44]) (names.drop k) (C.drop k)=F/\wr=w1)
  case atStart=>exact ⟨0,[],by go_num,Nat.zero_le _,by omega,rfl,by rw [HF.out]; rfl,rfl⟩
  case round =>
   obtain ⟨k,acc,rfl,hk,hgk,rfl,hacc,rfl⟩:=hrel
   by_cases hlt:k<N
   ·have hkn:k<names.length:=by rw [<- HN.out]; exact hlt
    have hkC:k<C.length:=by rw [Hcl.out,HtN.out]; exact hlt
    obtain ⟨x,hx⟩:∃ x,names[k]?=some x:=⟨_,List.getElem?_eq_getElem hkn⟩;obtain ⟨t,ht⟩:∃ t,C[k]?=some t:=⟨_,List.getElem?_eq_getElem hkC⟩;have hdx:names.drop k=x::names.drop (k+1):=by rw [List.drop_eq_getElem_cons hkn,(List.getElem?_eq_some_iff.1 hx).2]
    have hdt:C.drop k=t::C.drop (k+1):=by rw [List.drop_eq_getElem_cons hkC,(List.getElem?_eq_some_iff.1 ht).2]
    rw [hdx,hdt,Zgg] at hacc;have hor:w.ownsRow 0 9 1 (.slice na N ncap) N (strs names):=by have:=Hn.out; rw [<- HN.out] at this; exact this
    obtain ⟨g,cap',cur,he,_,hgb,_⟩:=Zal hor (by omega);simp only [Value.slice.injEq] at he;obtain ⟨rfl,_,rfl⟩:=he;have hgw:=Zac hgb;have hgr:g<wr.heap.size:=by omega
    have x0:wr.cell? ⟨g,k,none⟩=some (.string ⟨x.toArray⟩):=(HE1.out.cell (p:=⟨g,k,none⟩) hgw).trans (Zaf hor _ _ (by simp [strs,hx]));obtain ⟨g2,cap2,cur2,he2,_,hgb2,_⟩:=Zal HT.out (by omega);simp only [Value.slice.injEq] at he2;obtain ⟨rfl,_,rfl⟩:=he2;have hgr2:=Zac hgb2;obtain ⟨A,hA⟩:∃ A,A=Zcm t []:=⟨_,rfl⟩;have y0:wr.cell? ⟨g2,k,none⟩=some (.string ⟨A.toArray⟩):=Zaf HT.out _ _ (by simp [strs,ht,hA]);rw [<- hA] at hacc;have hlen2:=Zty hacc;simp only [List.length_append,List.length_cons] at hlen2;have Hacc:=Zaa hacc;have hkN:¬ ((N:Int)<=(k:Int)):=by omega
    clear hacc hdx hdt hx ht hor hgb hgb2 hA
    by_cases hk0:k=0
    ·subst hk0;have Hacc2:Hid (acc++(x++[61]++A)++Zgg [44] (names.drop (0+1)) (C.drop (0+1))=F):=by show _=_; rw [<- Hacc.out]; simp
     simp only [if_pos,List.length_nil] at hlen2;go_wp2
     go_roundg (N - 0)
     case measure=>omega
     case rel =>
      refine ⟨0+1,acc++(x++[61]++A),by go_num,by omega,by omega,?_,Hacc2.out,rfl⟩;show Value.string (_++(_++(⟨[61].toArray⟩:ByteArray)++_))=_;rw [Zbk,Zbk,Zbk]
    ·have Hacc2:Hid (acc++[44]++(x++[61]++A)++Zgg [44] (names.drop (k+1)) (C.drop (k+1))=F):=by show _=_; rw [<- Hacc.out,if_neg hk0]; simp
     rw [if_neg hk0] at hlen2;simp only [List.length_cons,List.length_nil] at hlen2;have hk1:(0:Int)<(k:Int):=by omega
     go_wp2
     go_roundg (N - k)
     case measure=>omega
     case rel =>
      refine ⟨k+1,acc++[44]++(x++[61]++A),by go_num,by omega,by omega,?_,by rw [if_neg (by omega)]; exact Hacc2.out,rfl⟩;show Value.string (_++(⟨[44].toArray⟩:ByteArray)++(_++(⟨[61].toArray⟩:ByteArray)++_))=_;rw [Zbk,Zbk,Zbk,Zbk]
   ·have hek:k=N:=by omega
    subst hek;have Hacc:Hid (acc=F):=by
     show _=_;rw [List.drop_eq_nil_of_le (by rw [<- HN.out]; exact Nat.le_refl _)] at hacc;simpa [Zgg] using hacc
    clear hacc;go_wp2;go_ret;rw [<- Hacc.out];exact ⟨HE1.out,rfl⟩
theorem Ycy {p:List Tok->Names->Option (List Sym × List Tok × Names)} (hp:∀ ts names r,p ts names=some r->2 * r.1.length+r.2.1.length<=ts.length+1) :
  ∀ (g:Nat) (ts:List Tok) (names:Names) (acc:List (List Sym)) r,Zfc p g ts names acc=some r->2 * r.1.flatten.length+r.2.1.length+1<=2 * acc.flatten.length+ts.length:=by
 intro g
 induction g with
 | zero=>intro ts names acc r h; simp [Zfc] at h
 | succ g ih =>
  intro ts names acc r h
  cases ts with
  | nil=>simp [Zfc] at h
  | cons t ts =>
   rw [Zfc] at h;split at h
   ·simp at h; subst h;simp only [List.length_cons]; omega
   ·split at h
    ·simp at h
    ·rename_i q hq;have h1:=hp _ _ _ hq;have h4:=ih _ _ _ _ h;simp only [List.flatten_append,List.flatten_cons,List.flatten_nil,List.append_nil,List.length_append,List.length_cons] at h4 ⊢;omega
theorem Ycz:∀ (f:Nat) (ts:List Tok) (names:Names) r,Zde f ts names=some r->2 * r.1.length+r.2.1.length<=ts.length+1:=by
 intro f
 induction f with
 | zero=>intro ts names r h; simp [Zde] at h
 | succ f ih =>
  intro ts names r h
  cases ts with
  | nil=>simp [Zde] at h
  | cons t ts =>
   rw [Zde] at h;split at h
   ·simp at h; subst h;simp only [List.length_cons,List.length_nil]; omega
   ·cases ts with
    | nil=>simp [Zlo] at h
    | cons u us =>
     rw [Zlo] at h;split at h
     ·simp at h; subst h;simp only [List.length_cons,List.length_nil]; omega
     ·rw [Option.map_eq_some_iff] at h;obtain ⟨q,hq,rfl⟩:=h;have h1:=Ycy ih _ _ _ _ _ hq;simp only [List.flatten_nil,List.length_nil,List.length_cons] at h1 ⊢;omega
theorem Zzh {f:Nat}:∀ (g:Nat) (ts:List Tok) (names:Names) (acc:List (List Sym)) r,Zdh f g ts names acc=some r->2 * r.1.flatten.length+r.2.1.length<=2 * acc.flatten.length+ts.length:=by
 intro g
 induction g with
 | zero=>intro ts names acc r h; simp [Zdh] at h
 | succ g ih =>
  intro ts names acc r h;rw [Zdh] at h;split at h
  ·simp at h
  ·rename_i q hq;have h1:=Ycz f _ _ _ hq;split at h
   ·simp at h
   ·rename_i x rest hx;rw [hx] at h1;simp only [List.length_cons] at h1;split at h
    ·simp at h; subst h;simp only [List.flatten_append,List.flatten_cons,List.flatten_nil,List.append_nil,List.length_append];omega
    ·have h4:=ih _ _ _ _ h;simp only [List.flatten_append,List.flatten_cons,List.flatten_nil,List.append_nil,List.length_append] at h4;omega
theorem Yda {s:ByteArray} {a:List (List Sym) × Names} (h:Zfe s=some a):a.2.length<=60:=by
 unfold Zfe at h;split at h
 ·simp at h
 ·split at h
  ·simp at h
  ·rename_i hs he;have hs:s.size<=120:=by omega
   obtain ⟨r1,_,_⟩:=Zdk s true;have h0:(runs s true).1=0:=by rw [r1]; omega
   obtain ⟨q,e1,e2,_⟩:=Zhc s hs h0;rw [e1] at h;simp at h;subst h;obtain ⟨g1,g2,_⟩:=Zhb 1000 0 1000 (Zau s) [] [] q (Zek s) (by simp) rfl e1;obtain ⟨x1,x2,x3⟩:=Zfh _ _ _ g2;have hl:=Zdz s;have h2:=Zzh 1000 (Zau s) [] [] q e1;simp only [List.flatten_nil,List.length_nil] at h2;simp only;omega
theorem Zzi:∀ (l:List Sym) (met:List Nat) (M:Nat),(Zay l met).2.length<=M->(∀ s ∈ l,s.name≠[]->s.num=0)->0<M->∀ s ∈ (Zay l met).1,s.num<M:=by
 intro l
 induction l with
 | nil=>intro met M _ _ _ s hs; simp [Zay] at hs
 | cons s l ih =>
  intro met M hM hz hp t ht;have hgrow:∀ (l:List Sym) (met:List Nat),met.length<=(Zay l met).2.length:=by
   intro l
   induction l with
   | nil=>intro met; simp [Zay]
   | cons s l ih =>
    intro met;simp only [Zay];split
    ·have:=ih (meet s.num met);have h1:met.length<=(meet s.num met).length:=by unfold meet; split <;> simp
     simp; omega
    ·exact ih met
  simp only [Zay] at hM ht;split at ht
  ·rename_i hn;rw [if_pos hn] at hM;simp only at hM;rcases List.mem_cons.1 ht with rfl | ht
   ·show met.idxOf s.num<M;have h1:=hgrow l (meet s.num met);have h2:met.idxOf s.num<(meet s.num met).length:=by
     unfold meet;split
     ·rename_i e; rw [e]; simp
     ·rename_i e;have:=List.idxOf_le_length (a:=s.num) (l:=met);omega
    omega
   ·exact ih _ M hM (fun u hu=>hz u (by simp [hu])) hp t ht
  ·rename_i hn;rw [if_neg hn] at hM;simp only at hM;rcases List.mem_cons.1 ht with rfl | ht
   ·rw [hz t (by simp) hn]; exact hp
   ·exact ih _ M hM (fun u hu=>hz u (by simp [hu])) hp t ht
theorem Zzj:∀ (ts:List (List Sym)) (met:List Nat) (M:Nat),(Zbc ts met).2.length<=M->(∀ t ∈ ts,∀ s ∈ t,s.name≠[]->s.num=0)->0<M->∀ t ∈ (Zbc ts met).1,∀ s ∈ t,s.num<M:=by
 intro ts
 induction ts with
 | nil=>intro met M _ _ _ t ht; simp [Zbc] at ht
 | cons u ts ih =>
  intro met M hM hz hp t ht;have hgrow:∀ (ts:List (List Sym)) (met:List Nat),met.length<=(Zbc ts met).2.length:=by
   intro ts
   induction ts with
   | nil=>intro met; simp [Zbc]
   | cons v ts ih =>
    intro met;simp only [Zbc];have h1:=ih (Zay v met).2;have h2:met.length<=(Zay v met).2.length:=by
     clear h1 ih
     induction v generalizing met with
     | nil=>simp [Zay]
     | cons s l ih =>
      simp only [Zay];split
      ·have:=ih (meet s.num met);have h1:met.length<=(meet s.num met).length:=by unfold meet; split <;> simp
       simp; omega
      ·exact ih met
    omega
  simp only [Zbc] at hM ht;rcases List.mem_cons.1 ht with rfl | ht
  ·exact Zzi u met M (Nat.le_trans (hgrow ts _) hM) (fun s hs=>hz u (by simp) s hs) hp
  ·exact ih _ M hM (fun v hv=>hz v (by simp [hv])) hp t ht
theorem Zva:∀ (l:List Sym) (met:List Nat) (P:Nat->Prop),(∀ s ∈ l,P s.args)->∀ s ∈ (Zay l met).1,P s.args:=by
 intro l
 induction l with
 | nil=>intro met P _ s hs; simp [Zay] at hs
 | cons s l ih =>
  intro met P h t ht;simp only [Zay] at ht;split at ht
  ·rcases List.mem_cons.1 ht with rfl | ht
   ·exact h s (by simp)
   ·exact ih _ P (fun u hu=>h u (by simp [hu])) t ht
  ·rcases List.mem_cons.1 ht with rfl | ht
   ·exact h t (by simp)
   ·exact ih _ P (fun u hu=>h u (by simp [hu])) t ht
theorem Znd:∀ (ts:List (List Sym)) (met:List Nat) (u:List Sym),u ∈ (Zbc ts met).1->∃ t ∈ ts,∃ m,u=(Zay t m).1:=by
 intro ts
 induction ts with
 | nil=>intro met u h; simp [Zbc] at h
 | cons t ts ih =>
  intro met u h;simp only [Zbc] at h;rcases List.mem_cons.1 h with rfl | h
  ·exact ⟨t,by simp,met,rfl⟩
  ·obtain ⟨t',h1,m,h2⟩:=ih _ u h;exact ⟨t',by simp [h1],m,h2⟩
theorem Zne {n:ND} {c:Cls} {k:Nat} (h:(tryN n c k).2=1\/(tryN n c k).2=2):(tryN n c k).1.used=n.used++[k]:=by
 by_cases hex:∃ r:ND × Nat,∃ m,NOk m/\Same m n/\Out m c k r.2 r.1
 ·have e:tryN n c k=Classical.choose hex:=by unfold tryN; rw [dif_pos hex]
  obtain ⟨m,_,hS,g,gs,_,ho⟩:=Classical.choose_spec hex;rw [e] at h ⊢;rcases ho with ⟨h0,_⟩ | ⟨h0,_⟩ | ⟨σ,_,_,_,h4⟩
  ·omega
  ·omega
  ·rw [h4]; simp [Zao,hS.used]
 ·have e:tryN n c k=(⟨[],[],[],[],0⟩,0):=by unfold tryN; rw [dif_neg hex]
  rw [e] at h;simp at h
end Go.Proofs.YtlmjilpjmgjjcaaGreatDoor
namespace Go.Proofs.YtlmjilpjmgjjcaaGreatDoor
open Go.ChangeShapes Go.WideShapes Go.ChangeAt Go.WideMaps Go.WideElems Go.RowKit
theorem own:ownKnob Tryz.prog.godebug=none:=by kernel_rfl
theorem Yhr:laidOutB Tryz.prog=true:=by kernel_rfl
theorem Zsu:Tryz.prog.cellsOf 78=6:=by kernel_rfl
theorem Zwu:Tryz.prog.cellsOf 3=1:=by kernel_rfl
theorem Yfj:Tryz.prog.cellsOf 9=1:=by kernel_rfl
theorem Zfy {W:World} {a:Addr} {j:Nat} {v:Value} (h:W.cell? (a.add j)=some v) (hs:a.spot=none):W.cell? ⟨a.block,a.off+j,none⟩=some v:=by
 have e:a.add j=⟨a.block,a.off+j,none⟩:=by
  unfold Addr.add;obtain ⟨b,o,s⟩:=a;simp only at hs;subst hs;split
  ·rename_i h0; subst h0; rfl
  ·rfl
 rwa [e] at h
theorem Ydb {W:World} {a:Addr} {v:Value} (h:W.cell? a=some v):a.spot=none:=by
 unfold World.cell? at h;split at h
 ·split at h
  ·cases h
  ·rename_i h1; cases hs:a.spot with
   | none=>rfl
   | some _=>rw [hs] at h1; simp at h1
 ·cases h
theorem Zqr {H:Type} {enc:TypeId × Value->H} {W:World} {base n':Nat} {spare:Nat->Bool} {held:Bool} {a:Addr} {cs:List Value} {x:DataW H × List MemPlace} {i:Nat} (hcells:∀ i,i<6->W.cell? (a.add i)=cs[i]?) (hlen:cs.length=6) (hi:i<6)
  (h:DataW.trod enc Tryz.prog W base spare held n' 9 ((cs.drop i).take (Tryz.prog.cellsOf 9))=some x):∃ s:ByteArray,W.cell? (a.add i)=some (.string s)/\s.size<=maxLen:=by
 obtain ⟨s,h1,_,h3⟩:=DataW.trod_string Tryz.underlying9 h;rw [Yfj] at h1;refine ⟨s,?_,h3⟩;rw [hcells i hi];have:=congrArg (fun l:List Value=>l[0]?) h1;simpa using this
theorem Yfk {H:Type} {enc:TypeId × Value->H} {W:World} {base n':Nat} {spare:Nat->Bool} {held:Bool} {a:Addr} {cs:List Value} {x:DataW H × List MemPlace} {i:Nat} (hcells:∀ i,i<6->W.cell? (a.add i)=cs[i]?) (hlen:cs.length=6) (hi:i<6)
  (h:DataW.trod enc Tryz.prog W base spare held n' 3 ((cs.drop i).take (Tryz.prog.cellsOf 3))=some x):∃ k:Int,W.cell? (a.add i)=some (.int .i64 k):=by
 obtain ⟨s,h1,_,h3⟩:=DataW.trod_int Tryz.underlying3 h;rw [Zwu] at h1;refine ⟨s,?_⟩;rw [hcells i hi];have:=congrArg (fun l:List Value=>l[0]?) h1;simpa using this
end Go.Proofs.YtlmjilpjmgjjcaaGreatDoor
namespace Go.Proofs.YtlmjilpjmgjjcaaGreatDoor
open Go.ChangeShapes Go.WideShapes Go.ChangeAt Go.WideMaps Go.WideElems Go.RowKit
set_option linter.unusedSimpArgs false
set_option linter.unusedVariables false
end Go.Proofs.YtlmjilpjmgjjcaaGreatDoor
namespace Go.Proofs.YtlmjilpjmgjjcaaGreatDoor
open Go.RowKit
theorem Zvb {ts:List (List Sym)} {N:Nat} (h:∀ t ∈ ts,t.length<=N):ts.flatten.length<=N * ts.length:=by
 induction ts with
 | nil=>simp
 | cons t ts ih =>
  have h1:=h t (by simp);have h2:=ih (fun y hy=>h y (by simp [hy]));simp only [List.flatten_cons,List.length_append,List.length_cons];rw [Nat.mul_add];omega
theorem Zzk:∀ (ts:List (List Sym)) (seen:List Nat),(∀ t ∈ ts,Wf 1 t/\t.length<=30/\∀ s ∈ t,s.name.length<=4096)->seen.length+ts.flatten.length<=4000->∀ u ∈ (Zbc ts seen).1,(Zcm u []).length<=200000:=by
 intro ts
 induction ts with
 | nil=>intro seen _ _ u hu; simp [Zbc] at hu
 | cons t ts ih =>
  intro seen h hs u hu;simp only [List.flatten_cons,List.length_append] at hs;obtain ⟨h1,h2,h3⟩:=h t (by simp);have hc:=Znb (l:=t) (by omega) h1 h3 (seen:=seen) (by omega);simp only [Zbc] at hu;rcases List.mem_cons.1 hu with rfl | hu
  ·omega
  ·exact ih _ (fun v hv=>h v (by simp [hv])) (by omega) u hu
theorem tx_ok {n:ND} (hn:NOk n) (hm:NNm n) {ts:List (List Sym)} (ht:∀ t ∈ ts,t ∈ n.terms/\t.length<=30) (hl:ts.length<=130) (hv:(Zbc ts []).2.length<=2599):TxOk ts:=by
 have hfl:ts.flatten.length<=30 * ts.length:=Zvb (fun t h=>(ht t h).2);have hV:n.vars<=101000:=by have:=hn.vars; have:=hn.ul; omega
 refine ⟨by omega,by omega,fun t h=>Znm (hn.wf t (ht t h).1) (by have:=(ht t h).2; omega) (hn.occ t (ht t h).1) (by omega),fun u hu=>⟨?_,fun s hs=>⟨?_,?_⟩⟩,fun u hu => ?_⟩
 ·obtain ⟨t,h1,m,rfl⟩:=Znd ts [] u hu;rw [Zkk];have:=(ht t h1).2;omega
 ·exact Zzj ts [] 2600 (by omega) (fun t h1 x hx hne=>by
   obtain ⟨i,hi⟩:=List.mem_iff_getElem?.1 hx;exact (Zjx (hn.wf t (ht t h1).1) hi).2 hne) (by omega) u hu s hs
 ·obtain ⟨t,h1,m,rfl⟩:=Znd ts [] u hu;refine Nat.le_trans (Zva t m (fun a=>a<=30) (fun x hx => ?_) s hs) (by omega);obtain ⟨i,hi⟩:=List.mem_iff_getElem?.1 hx;have hil:=(List.getElem?_eq_some_iff.1 hi).1;have:=Zuq (hn.wf t (ht t h1).1) (i:=i) hil;have he:Zaz t i=x:=by unfold Zaz; rw [List.getD_eq_getElem?_getD,hi]; rfl
  rw [he] at this;have:=(ht t h1).2;omega
 ·refine Nat.le_trans (Zzk ts [] (fun t h1=>⟨hn.wf t (ht t h1).1,(ht t h1).2,fun s hs=>Nat.le_trans (hm t (ht t h1).1 s hs) (by omega)⟩) ?_ u hu) (by omega);simp only [List.length_nil];omega
theorem Yhs {n:ND} (hn:NOk n) (hm:NNm n) (hl:n.vals.length<=60):TxOk n.vals:=by
 have hfl:n.vals.flatten.length<=30 * n.vals.length:=Zvb (fun t h=>hn.vsize h);refine tx_ok hn hm (fun t h=>⟨by unfold ND.terms; simp [h],hn.vsize h⟩) (by omega) ?_;have:=Zox n.vals [];simp only [List.length_nil] at this;omega
theorem Zzl {n:ND} (hn:NOk n) (hm:NNm n) (hl:n.vals.length<=60) {names:Names} (hs:names.length<=60) (hns:∀ x ∈ names,x.length<=8):(Zgg [] names (Zbc n.vals []).1).length<=100000000:=by
 have hfl:n.vals.flatten.length<=30 * n.vals.length:=Zvb (fun t h=>hn.vsize h);have:=Zst names n.vals [] [] (fun x hx=>Nat.le_trans (hns x hx) (by omega)) (fun t ht=>⟨hn.wf t (by unfold ND.terms; simp [ht]),by have:=hn.vsize ht; omega,fun s hs=>Nat.le_trans (hm t (by unfold ND.terms; simp [ht]) s hs) (by omega)⟩) (by simp) (by simp only [List.length_nil]; omega);omega
theorem Zoy:∀ (ks:List Nat) (sep:List UInt8),sep.length<=1->(∀ k ∈ ks,k<=99)->(Zel sep ks).length<=101 * ks.length:=by
 intro ks
 induction ks with
 | nil=>intro sep _ _; simp [Zel]
 | cons k ks ih =>
  intro sep hs hk;have h1:=ih [46] (by simp) (fun j hj=>hk j (by simp [hj]));have h2:=hk k (by simp);have h3:=Zgv k;simp only [Zel,List.length_append,List.length_cons];omega
theorem Zno (w:World) (X:Nat->Prop) (m0 m1 m2 m3 m4:Value) (n0:ND) (hnode:NodeAt X w m0 m1 m2 m3 m4 n0) (huse:∀ k ∈ n0.used,k<24) :
  Calls Tryz.prog 148 #[.agg #[m0,m1,m2,m3,m4]] w fun e w'=>e = .returned (.string ⟨(Zhm n0).toArray⟩)/\Ext w w':=by
 obtain ⟨h0a,h0c,h1a,h1l,h1c,h2a,h2l,h2c,h3a,h3l,h3c,h4,rfl,rfl,rfl,rfl,rfl⟩:=hnode.len;obtain ⟨n,hR,hOk,hNm,hS,_⟩:=hnode.node;have hU:=hR.used;obtain ⟨ua,ucap,hue⟩:=Zad hU;simp only [Value.slice.injEq] at hue;obtain ⟨rfl,rfl,rfl⟩:=hue;rw [<- hS.used] at huse;obtain ⟨F,hF⟩:∃ F,F=Zel [] n.used:=⟨_,rfl⟩;have hw:Zhm n0=F:=by rw [hF]; unfold Zhm; rw [hS.used]
 rw [hw];have hul:=hOk.ul;have hFl:F.length<=20000:=by
  have:=Zoy n.used [] (by simp) (fun k hk=>by have:=huse k hk; omega);rw [<- hF] at this;omega
 have HU:=Zaa hU;have HF:=Zaa hF;have Huse:=Zaa huse;clear hnode hR hOk hNm hS hU hF hw huse;obtain ⟨W0,hW0⟩:∃ W0,W0=w.alloc (.cells #[.slice h0a n0.goals.length h0c,.slice h1a h1l h1c,.slice h2a h2l h2c,.slice h3a n.used.length h3c,.int .i64 h4] 152):=⟨_,rfl⟩;have hE0:Ext w W0:=by rw [hW0]; exact Mxt
 have hs0:W0.heap.size=w.heap.size+1:=by rw [hW0]; simp
 have hB0:W0.heap[w.heap.size]?=some (.cells #[.slice h0a n0.goals.length h0c,.slice h1a h1l h1c,.slice h2a h2l h2c,.slice h3a n.used.length h3c,.int .i64 h4] 152 (0,0)):=by rw [hW0]; exact heap_alloc_new w _
 have HE0:=Zaa hE0;have hUr:=Zan HU.out (fun i hi=>hE0.block i (HU.out.lt i hi).2);have HUr:=Zaa hUr;have HB0:=Zaa hB0;have HW0:=Zaa hW0;clear hE0 hB0 hW0 hUr;go_enter Tryz.func148,Tryz.ntmps148;go_wp2;rw [<- HW0.out]
 go_loopg [3,4] (n.used.length+1) (fun gk tx i wr=>∃ (j:Nat) (dt:List UInt8),i = .int .i64 j/\j<=n.used.length/\n.used.length - j<gk/\tx = .string ⟨dt.toArray⟩/\wr=W0 /\
  dt++Zel (if j=0 then [] else [46]) (n.used.drop j)=F)
 case atStart=>exact ⟨0,[],by go_num,Nat.zero_le _,by omega,rfl,rfl,by simp [HF.out]⟩
 case round =>
  obtain ⟨j,dt,rfl,hj,hgk,rfl,rfl,hdt⟩:=hrel;have hdl:dt.length<=20000:=by
   have h1:=congrArg List.length hdt;simp only [List.length_append] at h1;omega
  obtain ⟨n0',n1',n2',n3',n4',nf⟩:=box5 HB0.out;have Hdt:=Zaa hdt;clear hdt
  by_cases hlt:j<n.used.length
  ·obtain ⟨u,hu⟩:∃ u,n.used[j]?=some u:=⟨_,List.getElem?_eq_getElem hlt⟩;have hdu:n.used.drop j=u::n.used.drop (j+1):=by
    rw [List.drop_eq_getElem_cons hlt,(List.getElem?_eq_some_iff.1 hu).2]
   obtain ⟨ub,ucap',ucur,hue,hBu,hub,hucp⟩:=Zal HUr.out (by omega);simp only [Value.slice.injEq] at hue;obtain ⟨rfl,_,rfl⟩:=hue;have z0:wr.cell? ⟨ub,j,none⟩=some (.int .i64 u):=Zaf HUr.out j _ (by simp only [ints,List.getElem?_map,hu,Option.map_some]);have hu24:=Huse.out u (List.mem_of_getElem? hu);have HD:=Zaa (Zjj u (by omega));have hul1:(Lib.decDigits u).length<=30:=by have:=Zgv u; omega
   by_cases h0:j=0
   ·have hk0:¬ (0:Int)<(j:Int):=by omega
    have Hd0:Hid ((dt++Lib.decDigits u)++Zel [46] (n.used.drop (j+1))=F):=by
     have h1:=Hdt.out;rw [hdu,if_pos h0] at h1;simp only [Zel] at h1;show _=_;rw [<- h1]; simp
    have Hstr:=Zaa (Zbk dt (Lib.decDigits u));clear h0 hu hdu hub Hdt;go_wp2_with fail;refine (HD.out _).mono ?_;rintro e w1 ⟨rfl,rfl⟩;go_wp2
    go_roundg (n.used.length - j)
    case measure=>omega
    case rel=>exact ⟨j+1,dt++Lib.decDigits u,by go_num,by omega,by omega,by rw [<- Hstr.out],rfl,by simpa using Hd0.out⟩
   ·have hk0:(0:Int)<(j:Int):=by omega
    have Hd0:Hid ((dt++[46]++Lib.decDigits u)++Zel [46] (n.used.drop (j+1))=F):=by
     have h1:=Hdt.out;rw [hdu,if_neg h0] at h1;simp only [Zel] at h1;show _=_;rw [<- h1]; simp
    have Hstr:=Zaa (Zbk (dt++[46]) (Lib.decDigits u));have Hstr1:=Zaa (Zbk dt [46]);clear h0 hu hdu hub Hdt;go_wp2_with fail;refine (HD.out _).mono ?_;rintro e w1 ⟨rfl,rfl⟩;go_wp2
    go_roundg (n.used.length - j)
    case measure=>omega
    case rel=>exact ⟨j+1,dt++[46]++Lib.decDigits u,by go_num,by omega,by omega,by rw [<- Hstr.out,<- Hstr1.out],rfl,by simpa using Hd0.out⟩
  ·have he:j=n.used.length:=by omega
   subst he;have Hfin:Hid (dt=F):=by
    have h1:=Hdt.out;show _=_;simpa [Zel] using h1
   clear Hdt;go_wp2;go_ret;rw [Hfin.out];exact ⟨rfl,HE0.out⟩
end Go.Proofs.YtlmjilpjmgjjcaaGreatDoor
namespace Go.Proofs.YtlmjilpjmgjjcaaGreatDoor
open Go.RowKit
mutual
inductive TreeR (cs:List Cls):ND->List UInt8->Prop
 | leaf (n:ND) (h:n.goals=[]):TreeR cs n [33]
 | node (n:ND) (t:List UInt8) (h:n.goals≠[]) (hp:Part cs n cs.length t):TreeR cs n ([40]++t++[41])
inductive Part (cs:List Cls):ND->Nat->List UInt8->Prop
 | zero (n:ND):Part cs n 0 []
 | miss (n:ND) (k:Nat) (t:List UInt8) (c:Cls) (h:Part cs n k t) (hc:cs[k]?=some c) (hq:(tryN n c k).2=0):Part cs n (k+1) t
 | kid (n:ND) (k:Nat) (t u:List UInt8) (c:Cls) (h:Part cs n k t) (hc:cs[k]?=some c) (hq:(tryN n c k).2=1\/(tryN n c k).2=2) (hu:TreeR cs (tryN n c k).1 u):Part cs n (k+1) (t++Lib.decDigits k++u)
end
structure SN where
 way:List (ND × Nat)
 tries:Nat
 status:Nat
 found:ND
 tree:List UInt8
def Zfn (cs:List Cls):List (ND × Nat)->List UInt8->List (ND × Nat) × List UInt8
 | (n,k)::r,t=>if cs.length<=k then Zfn cs r (t++[41]) else ((n,k)::r,t)
 | [],t=>([],t)
noncomputable def Zdd (s:SN) (n:ND):SN:=open Classical in if n.goals=[] then { s with tree:=s.tree++[33],status:=1,found:=n } else { s with way:=(n,0)::s.way,tree:=s.tree++[40] }
noncomputable def Zev (cs:List Cls) (s:SN):SN := { s with way:=(Zfn cs s.way s.tree).1,tree:=(Zfn cs s.way s.tree).2 }
noncomputable def Zbd (cs:List Cls) (s:SN):SN:=match s.way with
 | []=>s
 | (n,k)::r=>match cs[k]? with
  | none=>s
  | some c=>Zev cs (if (tryN n c k).2=3 then { s with way:=(n,k+1)::r,tries:=s.tries+1,status:=3 }
    else if (tryN n c k).2=1\/(tryN n c k).2=2 then Zdd { s with way:=(n,k+1)::r,tries:=s.tries+1,tree:=s.tree++Lib.decDigits k } (tryN n c k).1
    else { s with way:=(n,k+1)::r,tries:=s.tries+1 })
def PH (cs:List Cls) (top:ND):List (ND × Nat)->ND->Nat->List UInt8->Prop
 | [],n,k,T=>n=top/\n.goals≠[]/\k<=cs.length/\∃ t,Part cs n k t/\T=[40]++t
 | x::r,n,k,T=>n.goals≠[]/\k<=cs.length/\∃ t j' c T',x.2=j'+1/\cs[j']?=some c/\((tryN x.1 c j').2=1\/(tryN x.1 c j').2=2)/\n=(tryN x.1 c j').1/\PH cs top r x.1 j' T'/\Part cs n k t/\T=T'++Lib.decDigits j'++([40]++t)
def PW (cs:List Cls) (top:ND):List (ND × Nat)->List UInt8->Prop
 | [],T=>TreeR cs top T
 | (n,k)::r,T=>PH cs top r n k T
theorem PW.part {cs:List Cls} {top n:ND} {k:Nat} {r:List (ND × Nat)} {T:List UInt8} (h:PW cs top ((n,k)::r) T):n.goals≠[]/\k<=cs.length/\∃ t0 t,Part cs n k t/\T=t0++([40]++t)/\∀ k' t',Part cs n k' t'->k'<=cs.length->PW cs top ((n,k')::r) (t0++([40]++t')):=by
 cases r with
 | nil =>
  obtain ⟨h1,h2,h3,t,h4,h5⟩:=h;exact ⟨h2,h3,[],t,h4,by simpa using h5,fun k' t' hp hk=>⟨h1,h2,hk,t',hp,by simp⟩⟩
 | cons m r =>
  obtain ⟨m,j⟩:=m;obtain ⟨h1,h2,t,j',c,T',h3,h4,h5,h6,h7,h8,h9⟩:=h;exact ⟨h1,h2,T'++Lib.decDigits j',t,h8,h9,fun k' t' hp hk=>⟨h1,hk,t',j',c,T',h3,h4,h5,h6,h7,hp,rfl⟩⟩
theorem PW.miss {cs:List Cls} {top n:ND} {k:Nat} {r:List (ND × Nat)} {T:List UInt8} {c:Cls} (h:PW cs top ((n,k)::r) T) (hc:cs[k]?=some c) (hq:(tryN n c k).2=0):PW cs top ((n,k+1)::r) T:=by
 obtain ⟨h1,h2,t0,t,h3,h4,h5⟩:=h.part;rw [h4];exact h5 (k+1) t (.miss n k t c h3 hc hq) (by have:=(List.getElem?_eq_some_iff.1 hc).1; omega)
theorem PW.kid {cs:List Cls} {top n:ND} {k:Nat} {r:List (ND × Nat)} {T u:List UInt8} {c:Cls} (h:PW cs top ((n,k)::r) T) (hc:cs[k]?=some c) (hq:(tryN n c k).2=1\/(tryN n c k).2=2) (hu:TreeR cs (tryN n c k).1 u):PW cs top ((n,k+1)::r) (T++Lib.decDigits k++u):=by
 obtain ⟨h1,h2,t0,t,h3,h4,h5⟩:=h.part;rw [h4];have:=h5 (k+1) (t++Lib.decDigits k++u) (.kid n k t u c h3 hc hq hu) (by have:=(List.getElem?_eq_some_iff.1 hc).1; omega);simpa using this
theorem PW.down {cs:List Cls} {top n:ND} {k:Nat} {r:List (ND × Nat)} {T:List UInt8} {c:Cls} (h:PW cs top ((n,k)::r) T) (hc:cs[k]?=some c) (hq:(tryN n c k).2=1\/(tryN n c k).2=2) (hg:(tryN n c k).1.goals≠[]):PW cs top (((tryN n c k).1,0)::(n,k+1)::r) (T++Lib.decDigits k++[40]) :=
 ⟨hg,Nat.zero_le _,[],k,c,T,rfl,hc,hq,rfl,h,.zero _,by simp⟩
theorem PW.up {cs:List Cls} {top n:ND} {k:Nat} {r:List (ND × Nat)} {T:List UInt8} (h:PW cs top ((n,k)::r) T) (hk:cs.length<=k):PW cs top r (T++[41]):=by
 cases r with
 | nil =>
  obtain ⟨h1,h2,h3,t,h4,h5⟩:=h;have e:k=cs.length:=by omega
  subst e h1 h5;exact .node n t h2 h4
 | cons m r =>
  obtain ⟨m,j⟩:=m;obtain ⟨h1,h2,t,j',c,T',h3,h4,h5,h6,h7,h8,h9⟩:=h;have e:k=cs.length:=by omega
  simp only at h3 h5 h6 h7;subst e h3 h6 h9;have h7':PW cs top ((m,j')::r) T':=h7;have:=h7'.kid h4 h5 (.node _ t h1 h8);simpa using this
theorem PW.leave {cs:List Cls} {top:ND}:∀ {way:List (ND × Nat)} {T:List UInt8},PW cs top way T->PW cs top (Zfn cs way T).1 (Zfn cs way T).2:=by
 intro way
 induction way with
 | nil=>intro T h; exact h
 | cons x r ih =>
  obtain ⟨n,k⟩:=x;intro T h;unfold Zfn;split
  ·rename_i hk;exact ih (h.up hk)
  ·exact h
theorem Zkv (n:ND) (c:Cls) (k:Nat):(tryN n c k).2=0\/(tryN n c k).2=1\/(tryN n c k).2=2\/(tryN n c k).2=3:=by
 by_cases hex:∃ r:ND × Nat,∃ m,NOk m/\Same m n/\Out m c k r.2 r.1
 ·have e:tryN n c k=Classical.choose hex:=by unfold tryN; rw [dif_pos hex]
  obtain ⟨m,_,_,g,gs,_,ho⟩:=Classical.choose_spec hex;rw [e];rcases ho with ⟨h0,_⟩ | ⟨h0,_⟩ | ⟨σ,_,_,h3,_⟩
  ·exact Or.inl h0
  ·exact Or.inr (Or.inr (Or.inr h0))
  ·rw [h3];unfold Zcv;split
   ·simp
   ·split <;> simp
 ·have e:tryN n c k=(⟨[],[],[],[],0⟩,0):=by unfold tryN; rw [dif_neg hex]
  rw [e]; simp
theorem PW.try' {cs:List Cls} {top:ND} {s:SN} (h:PW cs top s.way s.tree) (hf:(Zbd cs s).status≠3):PW cs top (Zbd cs s).way (Zbd cs s).tree:=by
 unfold Zbd at hf ⊢
 cases hw:s.way with
 | nil=>rw [hw] at hf h; simpa [hw] using h
 | cons x r =>
  obtain ⟨n,k⟩:=x;rw [hw] at hf h;simp only at hf ⊢
  cases hc:cs[k]? with
  | none=>rw [hc] at hf; simp only [hw]; exact h
  | some c =>
   rw [hc] at hf;simp only at hf ⊢
   by_cases h3:(tryN n c k).2=3
   ·rw [if_pos h3] at hf;exact absurd rfl hf
   ·rw [if_neg h3]
    by_cases h12:(tryN n c k).2=1\/(tryN n c k).2=2
    ·rw [if_pos h12]
     by_cases hg:(tryN n c k).1.goals=[]
     ·simp only [Zdd,if_pos hg,Zev];have h':PW cs top ((n,k)::r) s.tree:=h;exact (h'.kid hc h12 (.leaf _ hg)).leave
     ·simp only [Zdd,if_neg hg,Zev];have h':PW cs top ((n,k)::r) s.tree:=h;exact (h'.down hc h12 hg).leave
    ·rw [if_neg h12];simp only [Zev];have h0:(tryN n c k).2=0:=by have:=Zkv n c k; omega
     have h':PW cs top ((n,k)::r) s.tree:=h;exact (h'.miss hc h0).leave
end Go.Proofs.YtlmjilpjmgjjcaaGreatDoor
namespace Go.Proofs.YtlmjilpjmgjjcaaGreatDoor
open Go.RowKit
structure RowD (X:Nat->Prop) (w:World) (B:Nat) (dv:Value) (ds:List (ND × Nat)) (xs:List Value):Prop where
 owns:w.ownsRow B 250 6 dv ds.length xs
 all:∀ (i:Nat) (d:ND × Nat),ds[i]?=some d->∃ m0 m1 m2 m3 m4,xs[i * 6]?=some m0/\xs[i * 6+1]?=some m1/\xs[i * 6+2]?=some m2/\xs[i * 6+3]?=some m3/\xs[i * 6+4]?=some m4/\xs[i * 6+5]?=some (.int .i64 d.2)/\NodeAt X w m0 m1 m2 m3 m4 d.1
theorem RowD.ext {X Y:Nat->Prop} {w w':World} {B B':Nat} {dv:Value} {ds:List (ND × Nat)} {xs:List Value} (h:RowD X w B dv ds xs) (e:Ext w w') (hy:∀ k,k<w.heap.size->Y k->X k) (hB:B'<=B):RowD Y w' B' dv ds xs :=
 ⟨Zbe (Zan h.owns (fun k hk=>e.block k (h.owns.lt k hk).2)) hB,fun i d hd=>by
  obtain ⟨m0,m1,m2,m3,m4,x0,x1,x2,x3,x4,x5,g⟩:=h.all i d hd;exact ⟨m0,m1,m2,m3,m4,x0,x1,x2,x3,x4,x5,g.ext e hy⟩⟩
theorem Zsv {w:World} {B:Nat} {e:TypeId} {s g n cap:Nat} {xs:List Value} (h:w.ownsRow B e s (.slice (some ⟨g,0,none⟩) (n+1) cap) (n+1) xs) :
  w.ownsRow B e s (.slice (some ⟨g,0,none⟩) n cap) n (xs.take (n * s)):=by
 have hm:(n+1) * s=n * s+s:=Nat.succ_mul n s;refine ⟨by have:=h.1; rw [List.length_take]; omega,?_⟩;rcases h.2 with ⟨h1,_⟩ | ⟨g',cap',cur,h1,hb,hg,hn,hc,hs,ht⟩
 ·simp at h1
 ·simp at h1;obtain ⟨rfl,rfl⟩:=h1;refine .inr ⟨g,cap,cur,rfl,hb,hg,by omega,hc,hs,?_⟩;rw [<- ht,List.take_take]
  congr 1
  omega
theorem RowD.pop {X:Nat->Prop} {w:World} {B g n cap:Nat} {ds:List (ND × Nat)} {d:ND × Nat} {xs:List Value} (h:RowD X w B (.slice (some ⟨g,0,none⟩) (n+1) cap) (ds++[d]) xs) (hn:ds.length=n):RowD X w B (.slice (some ⟨g,0,none⟩) n cap) ds (xs.take (n * 6)):=by
 have ho:=h.owns;rw [List.length_append,List.length_singleton,hn] at ho;refine ⟨by rw [hn]; exact Zsv ho,fun i x hx => ?_⟩;have hi:=(List.getElem?_eq_some_iff.1 hx).1;obtain ⟨m0,m1,m2,m3,m4,x0,x1,x2,x3,x4,x5,g⟩:=h.all i x (by rw [List.getElem?_append_left hi]; exact hx);exact ⟨m0,m1,m2,m3,m4,by rw [List.getElem?_take_of_lt (by omega)]; exact x0,by rw [List.getElem?_take_of_lt (by omega)]; exact x1,by rw [List.getElem?_take_of_lt (by omega)]; exact x2,by rw [List.getElem?_take_of_lt (by omega)]; exact x3,by rw [List.getElem?_take_of_lt (by omega)]; exact x4,by rw [List.getElem?_take_of_lt (by omega)]; exact x5,g⟩
theorem Zfp {w:World} {b:Nat} {u0 u1 u2 u3 u4 u5 u6 u7 u8 u9 u10:Value} {t:TypeId} (h:w.heap[b]?=some (.cells #[u0,u1,u2,u3,u4,u5,u6,u7,u8,u9,u10] t (0,0))) :
  w.cell? ⟨b,0,none⟩=some u0/\w.cell? ⟨b,1,none⟩=some u1/\w.cell? ⟨b,2,none⟩=some u2/\w.cell? ⟨b,3,none⟩=some u3/\w.cell? ⟨b,4,none⟩=some u4/\w.cell? ⟨b,5,none⟩=some u5/\w.cell? ⟨b,6,none⟩=some u6/\w.cell? ⟨b,7,none⟩=some u7/\w.cell? ⟨b,8,none⟩=some u8/\w.cell? ⟨b,9,none⟩=some u9/\w.cell? ⟨b,10,none⟩=some u10/\∀ i,w.frozen? ⟨b,i,none⟩=false :=
 ⟨Zab h 0 _ rfl,Zab h 1 _ rfl,Zab h 2 _ rfl,Zab h 3 _ rfl,Zab h 4 _ rfl,Zab h 5 _ rfl,Zab h 6 _ rfl,Zab h 7 _ rfl,Zab h 8 _ rfl,Zab h 9 _ rfl,Zab h 10 _ rfl,fun i=>Zae h i⟩
def Zeo (N:Nat):List (ND × Nat)->List (ND × Nat)
 | []=>[]
 | x::r=>if N<=x.2 then Zeo N r else x::r
theorem Zeb (cs:List Cls):∀ (way:List (ND × Nat)) (t:List UInt8),(Zfn cs way t).1=Zeo cs.length way:=by
 intro way
 induction way with
 | nil=>intro t; rfl
 | cons x r ih =>
  obtain ⟨n,k⟩:=x;intro t;simp only [Zfn,Zeo];split
  ·exact ih _
  ·rfl
theorem Zsw (N:Nat):∀ (way:List (ND × Nat)),(Zeo N way).length<=way.length:=by
 intro way
 induction way with
 | nil=>simp [Zeo]
 | cons x r ih=>simp only [Zeo]; split <;> simp <;> omega
theorem Zoz {N:Nat}:∀ {way:List (ND × Nat)} {x:ND × Nat} {r:List (ND × Nat)},Zeo N way=x::r->x.2<N:=by
 intro way
 induction way with
 | nil=>intro x r h; simp [Zeo] at h
 | cons y s ih =>
  intro x r h;simp only [Zeo] at h;split at h
  ·exact ih h
  ·rename_i hn;simp at h;rw [<- h.1]; omega
theorem Zpa (N:Nat) (way:List (ND × Nat)):Zeo N (Zeo N way)=Zeo N way:=by
 cases h:Zeo N way with
 | nil=>rfl
 | cons x r =>
  have:=Zoz h;simp only [Zeo];rw [if_neg (by omega)]
theorem Znf (w:World) (X:Nat->Prop) (la:Option Addr) (ln lc:Nat) (aa:Option Addr) (al ac:Nat) (na:Option Addr) (nl nc:Nat) (dv:Value) (st tr:Int) (f0a:Option Addr) (f0l f0c:Nat) (f1a:Option Addr) (f1l f1c:Nat) (f2a:Option Addr) (f2l f2c:Nat) (f3a:Option Addr) (f3l f3c:Nat) (f4:Int)
  (way:List (ND × Nat)) (xs:List Value) (hD:RowD X w 0 dv way.reverse xs) (hw:way.length<=4000) (hk:∀ x ∈ way,x.2<=4000) (hln:ln<=4000) :
  Calls Tryz.prog 112 #[.agg #[.slice la ln lc,.slice aa al ac,.slice na nl nc,dv,.int .i64 st,.int .i64 tr,.slice f0a f0l f0c,.slice f1a f1l f1c,.slice f2a f2l f2c,.slice f3a f3l f3c,.int .i64 f4]] w fun e w' =>
   ∃ dv' xs',e = .returned dv'/\Ext w w'/\RowD X w' 0 dv' (Zeo ln way).reverse xs':=by
 obtain ⟨da,dcap,rfl⟩:=Zad hD.owns;rw [List.length_reverse] at hD ⊢;have HD:=Zaa hD;have Hk:=Zaa hk;clear hD hk;obtain ⟨W0,hW0⟩:∃ W0,W0=w.alloc (.cells #[.slice la ln lc,.slice aa al ac,.slice na nl nc,.slice da way.length dcap,.int .i64 st,.int .i64 tr,.slice f0a f0l f0c,.slice f1a f1l f1c,.slice f2a f2l f2c,.slice f3a f3l f3c,.int .i64 f4] 154):=⟨_,rfl⟩;have hE0:Ext w W0:=by rw [hW0]; exact Mxt
 have hs0:W0.heap.size=w.heap.size+1:=by rw [hW0]; simp
 have hB0:W0.heap[w.heap.size]?=some (.cells #[.slice la ln lc,.slice aa al ac,.slice na nl nc,.slice da way.length dcap,.int .i64 st,.int .i64 tr,.slice f0a f0l f0c,.slice f1a f1l f1c,.slice f2a f2l f2c,.slice f3a f3l f3c,.int .i64 f4] 154 (0,0)):=by rw [hW0]; exact heap_alloc_new w _
 have HE0:=Zaa hE0;have HB0:=Zaa hB0;have HW0:=Zaa hW0;have HD0:=Zaa (HD.out.ext (Y:=X) (B':=0) hE0 (fun _ _ h=>h) (Nat.le_refl _));clear hE0 hB0 hW0;go_enter Tryz.func112,Tryz.ntmps112;go_wp2;rw [<- HW0.out]
 go_loopg [3] (way.length+1) (fun gk d wr=>∃ (way':List (ND × Nat)) (xs':List Value),way'.length<gk/\way'.length<=way.length/\(∀ x ∈ way',x.2<=4000)/\Zeo ln way'=Zeo ln way/\Ext W0 wr/\RowD X W0 0 d way'.reverse xs')
 case atStart=>exact ⟨way,xs,by omega,Nat.le_refl _,Hk.out,rfl,Ext.of (Kept.refl _ _),HD0.out⟩
 case round =>
  obtain ⟨way',xs',hgk,hle,hk',htr,hE,hrow⟩:=hrel;obtain ⟨d2,c2,hd2⟩:=Zad hrow.owns;obtain ⟨z,hz⟩:∃ z,z=way'.reverse.length:=⟨_,rfl⟩;rw [<- hz] at hd2;subst hd2;have hs1:=hE.size;obtain ⟨b0,b1,b2,b3,b4,b5,b6,b7,b8,b9,b10,bf⟩:=Zfp ((hE.block _ (by omega)).trans HB0.out);have hrow':=hrow.ext (Y:=X) (B':=0) hE (fun _ _ h=>h) (Nat.le_refl _);have HE:=Zaa hE;have Hrow:=Zaa hrow;have Hrow':=Zaa hrow';have Htr:=Zaa htr;have Hfin0:Hid (∀ u,Ext W0 u->Zeo ln way'=way'->∃ dv' xs',(Ending.returned (.slice d2 z c2)) = .returned dv'/\Ext w u/\RowD X u 0 dv' (Zeo ln way).reverse xs'):=fun u hu ht=>⟨_,xs',rfl,HE0.out.trans (hu.mono HE0.out.size),by
   rw [<- Htr.out,ht];exact (Hrow.out.ext (Y:=X) (B':=0) hu (fun _ _ h=>h) (Nat.le_refl _))⟩
  cases hw':way' with
  | nil =>
   have hg:decide ((0:Int)<(z:Int))=false:=by rw [hz,hw']; rfl
   have hg2:decide (0<z)=false:=by rw [hz,hw']; rfl
   have Hfin:Hid (∀ u,Ext W0 u->_):=fun u hu=>Hfin0.out u hu (by rw [hw']; rfl);clear hE hrow hrow' htr hk' hz hw' Hrow Hrow' Htr Hfin0;go_wp2_with fail;go_quiet (fail);go_wp2;go_ret;exact Hfin.out _ (HE.out.trans ((Ext.of ((Kept.refl _ wr).drewN _)).mono HE.out.size))
  | cons x r =>
   have hzr:z=r.length+1:=by rw [hz,hw']; simp
   obtain ⟨m0,m1,m2,m3,m4,x0,x1,x2,x3,x4,x5,hnode⟩:=hrow'.all r.length x (by rw [hw',List.reverse_cons,List.getElem?_append_right (by simp)]; simp);have ho:=hrow'.owns;rw [<- hz] at ho;obtain ⟨db,dcap',dcur,hde,hBd,hdb,hdc⟩:=Zal ho (by omega);simp only [Value.slice.injEq] at hde;obtain ⟨rfl,_,rfl⟩:=hde;have y5:wr.cell? ⟨db,r.length * 6+5,none⟩=some (.int .i64 x.2):=Zaf ho _ _ x5;have hx4:=hk' x (by rw [hw']; simp);have Hk2:=Zaa hk';have Hw:=Zaa hw';have hzl:z<=4000:=by rw [hz,List.length_reverse]; omega
   have hg:(0:Int)<(z:Int):=by omega
   have hgr:r.length<gk - 1:=by rw [hw'] at hgk; simp at hgk; omega
   have hrl:r.length<=way.length:=by rw [hw'] at hle; simp at hle; omega
   have hzi:(z:Int) - 1=(r.length:Int):=by omega
   by_cases hN:ln<=x.2
   ·have hN':(ln:Int)<=(x.2:Int):=by omega
    have Hnext:Hid (Zeo ln r=Zeo ln way/\RowD X W0 0 (.slice (some ⟨db,0,none⟩) r.length c2) r.reverse (xs'.take (r.length * 6))):=by
     have h:=Htr.out;have h2:=Hrow.out;rw [hw'] at h h2;rw [hzr,List.reverse_cons] at h2;exact ⟨by simpa only [Zeo,if_pos hN] using h,h2.pop (by simp)⟩
    clear hE hrow hrow' htr hk' hnode x0 x1 x2 x3 x4 x5 hdb hN ho hz hw' hgk hle Hrow Hrow' Htr Hfin0;go_wp2_with fail;go_quiet (fail);go_wp2
    go_roundg (r.length+1)
    case measure=>omega
    case rel=>exact ⟨r,_,by omega,by omega,fun y hy=>Hk2.out y (by rw [Hw.out]; simp [hy]),Hnext.out.1,HE.out.trans ((Ext.of ((Kept.refl _ wr).drewN _)).mono HE.out.size),Hnext.out.2⟩
   ·have hN':¬ (ln:Int)<=(x.2:Int):=by omega
    have Hfin:Hid (∀ u,Ext W0 u->_):=fun u hu=>Hfin0.out u hu (by rw [hw']; simp only [Zeo,if_neg hN]);rw [hzr] at Hfin;clear hE hrow hrow' htr hk' hnode x0 x1 x2 x3 x4 x5 hdb hN ho hz hw' hgk hle Hrow Hrow' Htr Hfin0;go_wp2_with fail;go_quiet (fail);go_wp2;go_ret;exact Hfin.out _ (HE.out.trans ((Ext.of ((Kept.refl _ wr).drewN _)).mono HE.out.size))
def Zsx (P:ND->List UInt8->Prop) (cs:List Cls) (n:ND):Nat->Nat->List UInt8->Prop
 | 0,_,t=>t=[]
 | f+1,k,t=>∃ c,cs[k]?=some c/\(((tryN n c k).2=0/\Zsx P cs n f (k+1) t)\/(((tryN n c k).2=1\/(tryN n c k).2=2)/\∃ u t',P (tryN n c k).1 u/\t=Lib.decDigits k++(u++t')/\Zsx P cs n f (k+1) t'))
theorem TreeR.segs {cs:List Cls} {P:ND->List UInt8->Prop} (hl:∀ n,n.goals=[]->P n [33]) (hn:∀ n t,n.goals≠[]->Zsx P cs n cs.length 0 t->P n ([40]++t++[41])):∀ {n u},TreeR cs n u->P n u:=by
 intro n u h;refine TreeR.rec (motive_1:=fun n u _=>P n u) (motive_2:=fun n k t _=>∀ f r,Zsx P cs n f k r->Zsx P cs n (k+f) 0 (t++r)) ?_ ?_ ?_ ?_ ?_ h
 ·intro n h; exact hl n h
 ·intro n t h hp ih;refine hn n t h ?_;simpa using ih 0 [] rfl
 ·intro n f r h; simpa using h
 ·intro n k t c h hc hq ih f r hr;have:=ih (f+1) r ⟨c,hc,Or.inl ⟨hq,hr⟩⟩;rw [show k+1+f=k+(f+1) by omega];exact this
 ·intro n k t u c h hc hq hu ih ihu f r hr;have:=ih (f+1) (Lib.decDigits k++(u++r)) ⟨c,hc,Or.inr ⟨hq,u,r,ihu,rfl,hr⟩⟩;rw [show k+1+f=k+(f+1) by omega];simpa using this
def Zja (cs:List Cls) (n:ND) (u:List UInt8):Prop:=u.length<=1000000->∀ (w:World) (lv:Value) (xs:List Value) (m0 m1 m2 m3 m4:Value),RowC (fun _=>False) w lv cs xs->NodeAt (fun _=>False) w m0 m1 m2 m3 m4 n ->
 Calls Tryz.prog 149 #[lv,.agg #[m0,m1,m2,m3,m4]] w fun e w'=>e = .returned (.string ⟨u.toArray⟩)/\Ext w w'
theorem Ydc (cs:List Cls) (n:ND) (hg:n.goals=[]):Zja cs n [33]:=by
 intro _ w lv xs m0 m1 m2 m3 m4 hC hN;obtain ⟨h0a,h0c,h1a,h1l,h1c,h2a,h2l,h2c,h3a,h3l,h3c,h4,rfl,rfl,rfl,rfl,rfl⟩:=hN.len;rw [hg];obtain ⟨la,lcap,rfl⟩:=Zad hC.owns;clear hC hN;go_enter Tryz.func149,Tryz.ntmps149;go_wp2;go_ret;exact ⟨rfl,Mxt⟩
theorem Ydd (cs:List Cls) (hcs:∀ c ∈ cs,COk c/\CNm c) (hcl:cs.length<=24) (n:ND) (t:List UInt8) (hg:n.goals≠[]) (hS:Zsx (Zja cs) cs n cs.length 0 t):Zja cs n ([40]++t++[41]):=by
 intro hlen w lv xs m0 m1 m2 m3 m4 hC hN;obtain ⟨u,hu⟩:∃ u,u=[40]++t++[41]:=⟨_,rfl⟩;rw [<- hu] at hlen ⊢;obtain ⟨h0a,h0c,h1a,h1l,h1c,h2a,h2l,h2c,h3a,h3l,h3c,h4,rfl,rfl,rfl,rfl,rfl⟩:=hN.len;obtain ⟨la,lcap,rfl⟩:=Zad hC.owns;obtain ⟨z,hz⟩:∃ z,z=n.goals.length:=⟨_,rfl⟩;have hz0:((z:Int) == 0)=false:=by
  rw [beq_eq_false_iff_ne];have:n.goals.length≠0:=fun h=>hg (List.eq_nil_of_length_eq_zero h);omega
 rw [<- hz] at hN ⊢;have HC:=Zaa hC;have HN:=Zaa hN;have HS:=Zaa hS;have Hcs:=Zaa hcs;have Hu:=Zaa hu;have Hg:=Zaa hg;obtain ⟨W0,hW0⟩:∃ W0,W0=w.alloc (.cells #[.slice h0a z h0c,.slice h1a h1l h1c,.slice h2a h2l h2c,.slice h3a h3l h3c,.int .i64 h4] 152):=⟨_,rfl⟩;have hE0:Ext w W0:=by rw [hW0]; exact Mxt
 have hs0:W0.heap.size=w.heap.size+1:=by rw [hW0]; simp
 have hB0:W0.heap[w.heap.size]?=some (.cells #[.slice h0a z h0c,.slice h1a h1l h1c,.slice h2a h2l h2c,.slice h3a h3l h3c,.int .i64 h4] 152 (0,0)):=by rw [hW0]; exact heap_alloc_new w _
 have HE0:=Zaa hE0;have HB0:=Zaa hB0;have HW0:=Zaa hW0;have HC0:=Zaa (hC.ext (Y:=fun _=>False) hE0 (fun _ _ h=>h));have HN0:=Zaa (hN.ext (Y:=fun _=>False) hE0 (fun _ _ h=>h));clear hC hN hS hcs hu hg hz hE0 hB0 hW0;go_enter Tryz.func149,Tryz.ntmps149;go_wp2;rw [<- HW0.out]
 go_loopg [5,6] (cs.length+1) (fun gk tx i wr=>∃ (k:Nat) (dt r:List UInt8),i = .int .i64 k/\k<=cs.length/\cs.length - k<gk/\tx = .string ⟨dt.toArray⟩/\Ext W0 wr/\Zsx (Zja cs) cs n (cs.length - k) k r/\dt++(r++[41])=u)
 case atStart=>exact ⟨0,[40],t,by go_num,Nat.zero_le _,by omega,rfl,Ext.of (Kept.refl _ _),HS.out,by rw [Hu.out]; simp⟩
 case round =>
  obtain ⟨k,dt,r,rfl,hk,hgk,rfl,hE,hR,hdt⟩:=hrel;have hdl:dt.length<=1000000:=by
   have h1:=congrArg List.length hdt;simp only [List.length_append] at h1;omega
  have hs1:=hE.size;obtain ⟨b0,b1,b2,b3,b4,bf⟩:=box5 ((hE.block _ (by omega)).trans HB0.out);have HE:=Zaa hE;have Hdt:=Zaa hdt;have HR:=Zaa hR;have HCr:=Zaa (HC0.out.ext (Y:=fun _=>False) hE (fun _ _ h=>h));have HNr:=Zaa (HN0.out.ext (Y:=fun _=>False) hE (fun _ _ h=>h));clear hE hR hdt
  by_cases hlt:k<cs.length
  ·obtain ⟨f,hf⟩:∃ f,cs.length - k=f+1:=⟨cs.length - k - 1,by omega⟩;have hR':=HR.out;rw [hf] at hR';obtain ⟨c,hc,hcase⟩:=hR';have Hc:=Zaa hc;have Hcase:=Zaa hcase;have HT:=Zaa (Zwp wr (fun _=>False) _ cs xs _ _ _ _ _ n k c HCr.out Hcs.out hcl HNr.out (fun _ h=>h.elim) hc Hg.out);clear hc hcase;go_wp2_with fail;refine HT.out.mono ?_;rintro e w1 ⟨rv,rfl,hE1,p0,p1,p2,p3,p4,q,rfl,hval,hq,hkid⟩;obtain ⟨g0a,g0l,g0c,g1a,g1l,g1c,g2a,g2l,g2c,g3a,g3l,g3c,g4,hpe⟩:=hval;simp only [Value.agg.injEq,Array.mk.injEq,List.cons.injEq,and_true] at hpe;obtain ⟨rfl,rfl,rfl,rfl,rfl⟩:=hpe;have hs2:=hE1.size;have hE0r:Ext W0 w1:=HE.out.trans (hE1.mono hs1);have HE1:=Zaa hE0r;have Hkid:=Zaa hkid;have HC1:=Zaa (HC0.out.ext (Y:=fun _=>False) hE0r (fun _ _ h=>h));clear hE1 hE0r hkid;obtain ⟨W1,hW1⟩:∃ W1,W1=w1.alloc (.cells #[.slice g0a g0l g0c,.slice g1a g1l g1c,.slice g2a g2l g2c,.slice g3a g3l g3c,.int .i64 g4] 152):=⟨_,rfl⟩;have hE11:Ext w1 W1:=by rw [hW1]; exact Mxt
   have hEW1:Ext W0 W1:=HE1.out.trans (hE11.mono HE1.out.size);have HEW1:=Zaa hEW1;have HE11:=Zaa hE11;have HW1:=Zaa hW1;clear hE11 hEW1 hW1;rcases Hcase.out with ⟨h0,hnext⟩ | ⟨h12,u',t',hP,hr,hnext⟩
   ·have hq0:q=0:=by rw [hq,h0]
    have Hnext:=Zaa hnext;clear Hcase hq h0 hnext;subst hq0;go_wp2
    go_roundg (cs.length - k)
    case measure=>omega
    case rel=>exact ⟨k+1,dt,r,by go_num,by omega,by omega,rfl,by rw [<- HW1.out]; exact HEW1.out,by rw [show cs.length - (k+1)=f by omega]; exact Hnext.out,Hdt.out⟩
   ·have hq0:((q:Int) != 0)=true:=by rw [bne_iff_ne]; omega
    have hk24:k<24:=by omega
    have HD:=Zaa (Zjj k (by omega));have hkl:(Lib.decDigits k).length<=30:=by have:=Zgv k; omega
    have hul:u'.length<=1000000:=by
     have h1:=congrArg List.length Hdt.out;rw [hr] at h1;simp only [List.length_append] at h1;omega
    have HTr:=Zaa (hP hul W1 _ xs _ _ _ _ _ (HC1.out.ext (Y:=fun _=>False) HE11.out (fun _ _ h=>h)) ((Hkid.out (by omega)).ext (Y:=fun _=>False) HE11.out (fun _ _ h=>h)));have Hstr:=Zaa (Zbk dt (Lib.decDigits k));have Hstr2:=Zaa (Zbk (dt++Lib.decDigits k) u');have Hnext:Hid (Zsx (Zja cs) cs n f (k+1) t'/\(dt++Lib.decDigits k++u')++(t'++[41])=u):=⟨hnext,by have h1:=Hdt.out; rw [hr] at h1; rw [<- h1]; simp⟩;clear Hcase hq h12 hnext hP hr Hkid HR;go_wp2_with fail;refine (HD.out _).mono ?_;rintro e w2 ⟨rfl,rfl⟩;go_wp2_with fail;rw [<- HW1.out];refine HTr.out.mono ?_;rintro e w3 ⟨rfl,hE3⟩;have HE3:=Zaa hE3;clear hE3;go_wp2
    go_roundg (cs.length - k)
    case measure=>omega
    case rel=>exact ⟨k+1,dt++Lib.decDigits k++u',t',by go_num,by omega,by omega,by rw [<- Hstr2.out,<- Hstr.out],HEW1.out.trans (HE3.out.mono HEW1.out.size),by rw [show cs.length - (k+1)=f by omega]; exact Hnext.out.1,Hnext.out.2⟩
  ·have he:k=cs.length:=by omega
   subst he;have Hfin:Hid (dt++[41]=u):=by
    have h1:=Hdt.out;have h2:=HR.out;rw [Nat.sub_self] at h2;rw [show r=[] from h2] at h1;show _=_;simpa using h1
   have Hstr:=Zaa (Zbk dt [41]);clear Hdt HR;go_wp2;go_ret;rw [<- Hfin.out];exact ⟨Zhi (by rw [<- Hstr.out]),HE0.out.trans (HE.out.mono HE0.out.size)⟩
theorem Zvc (cs:List Cls) (hcs:∀ c ∈ cs,COk c/\CNm c) (hcl:cs.length<=24) {n:ND} {u:List UInt8} (h:TreeR cs n u):Zja cs n u :=
 h.segs (fun n hg=>Ydc cs n hg) (fun n t hg hs=>Ydd cs hcs hcl n t hg hs)
theorem Zvd (w:World) (av nv m0 m1 m2 m3 m4:Value) (a:List (List Sym) × Names) (n0:ND) (hA:AskAt w av nv a) (hnode:NodeAt (fun _=>False) w m0 m1 m2 m3 m4 n0) (hvl:n0.vals.length=a.2.length) (ha3:a.2.length<=121) (ha4:∀ y ∈ a.2,y.length<=4096) :
  Calls Tryz.prog 116 #[.agg #[av,nv],.agg #[m0,m1,m2,m3,m4]] w fun e w'=>e = .returned (.string ⟨(Zdu a.2 n0).toArray⟩)/\Ext w w':=by
 obtain ⟨ax,hA1⟩:=hA.atoms;obtain ⟨aa,acap,rfl⟩:=Zad hA1.1;obtain ⟨n,hR,hOk,hNm,hS,rfl⟩:=hnode.node;obtain ⟨vx,hV⟩:=hR.vals;obtain ⟨gx,hG⟩:=hR.goals;obtain ⟨dx,hD⟩:=hR.done;obtain ⟨ga,gcap,rfl⟩:=Zad hG.owns;obtain ⟨va,vcap,rfl⟩:=Zad hV.1;obtain ⟨da,dcap,rfl⟩:=Zad hD.owns;obtain ⟨ua,ucap,rfl⟩:=Zad hR.used;obtain ⟨na,ncap,rfl⟩:=Zad hA.names;have hans:Zdu a.2 n=Zdu a.2 n0:=by unfold Zdu; rw [hS.valsC hOk]
 rw [<- hans];exact Zqq w (fun _=>False) (.slice aa a.1.length acap) (.slice na a.2.length ncap) (.slice ga n.goals.length gcap) (.slice va n.vals.length vcap) (.slice da n.done.length dcap) (.slice ua n.used.length ucap) n.vars a.2 n 0 vx ⟨_,_,_,rfl⟩ ⟨_,_,_,rfl⟩ ⟨_,_,_,rfl⟩ ⟨_,_,_,rfl⟩
   hA.names hV (by rw [hS.vl,hvl]) (by omega) ha4 (fun t ht=>⟨hOk.vsize ht,fun s hs=>Nat.le_trans (hNm t (by simp [ND.terms,ht]) s hs) (by omega)⟩)
structure SC where
 la:Option Addr
 lc:Nat
 aa:Option Addr
 ac:Nat
 na:Option Addr
 nc:Nat
 da:Option Addr
 dc:Nat
 f0a:Option Addr
 f0l:Nat
 f0c:Nat
 f1a:Option Addr
 f1l:Nat
 f1c:Nat
 f2a:Option Addr
 f2l:Nat
 f2c:Nat
 f3a:Option Addr
 f3l:Nat
 f3c:Nat
 f4:Int
def SC.val (s:SC) (cl al nl wl:Nat) (st tr:Int):Value := .agg #[.slice s.la cl s.lc,.slice s.aa al s.ac,.slice s.na nl s.nc,.slice s.da wl s.dc,.int .i64 st,.int .i64 tr,.slice s.f0a s.f0l s.f0c,.slice s.f1a s.f1l s.f1c,.slice s.f2a s.f2l s.f2c,.slice s.f3a s.f3l s.f3c,.int .i64 s.f4]
structure SRef (w:World) (s:SC) (cs:List Cls) (a:List (List Sym) × Names) (way:List (ND × Nat)) (st:Nat) (found:ND):Prop where
 cls:∃ xs,RowC (fun _=>False) w (.slice s.la cs.length s.lc) cs xs
 ask:AskAt w (.slice s.aa a.1.length s.ac) (.slice s.na a.2.length s.nc) a
 dues:∃ ys,RowD (fun _=>False) w 0 (.slice s.da way.length s.dc) way.reverse ys
 found:st=1->NodeAt (fun _=>False) w (.slice s.f0a s.f0l s.f0c) (.slice s.f1a s.f1l s.f1c) (.slice s.f2a s.f2l s.f2c) (.slice s.f3a s.f3l s.f3c) (.int .i64 s.f4) found
theorem SRef.ext {w w':World} {s:SC} {cs:List Cls} {a:List (List Sym) × Names} {way:List (ND × Nat)} {st:Nat} {found:ND} (h:SRef w s cs a way st found) (e:Ext w w'):SRef w' s cs a way st found:=by
 obtain ⟨xs,h1⟩:=h.cls;obtain ⟨ys,h2⟩:=h.dues;exact ⟨⟨xs,h1.ext e (fun _ _ h=>h)⟩,h.ask.ext e,⟨ys,h2.ext e (fun _ _ h=>h) (Nat.le_refl _)⟩,fun hs=>(h.found hs).ext e (fun _ _ h=>h)⟩
noncomputable def Zfq (a:List (List Sym) × Names) (st:Nat) (found:ND) (T:List UInt8):List UInt8 × List UInt8 × List UInt8 :=
 if st=1 then (Zdu a.2 found,Zhm found,[]) else if st=2 then ([],[],T) else ([],[],[])
theorem Yfl (w:World) (s:SC) (cs:List Cls) (q:ByteArray) (a:List (List Sym) × Names) (way:List (ND × Nat)) (st:Nat) (tr:Int) (found:ND) (T:List UInt8) (h:SRef w s cs a way st found) (hcs:∀ c ∈ cs,COk c/\CNm c) (hcl:cs.length<=24) (hask:Zfe q=some a)
  (h1:st=1->found.vals.length=a.2.length/\∀ k ∈ found.used,k<24) (h2:st=2->TreeR cs (topN a) T/\T.length<=1000000) :
  Calls Tryz.prog 114 #[s.val cs.length a.1.length a.2.length way.length st tr] w fun e w'=>e = .returned (.tuple #[.string ⟨(Zfq a st found T).1.toArray⟩,.string ⟨(Zfq a st found T).2.1.toArray⟩,.string ⟨(Zfq a st found T).2.2.toArray⟩])/\Ext w w':=by
 obtain ⟨_,_,_,hOk,hNm,ha1,ha2,ha3,ha4⟩:=Zfw hask;obtain ⟨xs,hC⟩:=h.cls;have hA:=h.ask;obtain ⟨la,lc,aa,ac,na,nc,da,dc,f0a,f0l,f0c,f1a,f1l,f1c,f2a,f2l,f2c,f3a,f3l,f3c,f4⟩:=s;simp only [SC.val] at *;have HA:=Zaa hA;have HC:=Zaa hC
 by_cases hs1:st=1
 ·subst hs1;obtain ⟨g1,g2⟩:=h1 rfl;have hF:=h.found rfl;have HAn:=Zaa (fun u (hu:Ext w u)=>Zvd u _ _ _ _ _ _ _ a found (hA.ext hu) (hF.ext (Y:=fun _=>False) hu (fun _ _ h=>h)) g1 ha3 (fun y hy=>Nat.le_trans (ha4 y hy) (by omega)));have HW:=Zaa (fun u (hu:Ext w u)=>Zno u (fun _=>False) _ _ _ _ _ found (hF.ext (Y:=fun _=>False) hu (fun _ _ h=>h)) g2);have Ht:Hid (Zfq a 1 found T=(Zdu a.2 found,Zhm found,[])):=by show _=_; simp [Zfq]
  rw [Ht.out];clear h hOk hNm ha1 ha2 ha3 ha4 hask h1 h2 hC hA hF g1 g2 Ht HA HC;obtain ⟨ans,hans⟩:∃ x,x=Zdu a.2 found:=⟨_,rfl⟩;obtain ⟨wrt,hwrt⟩:∃ x,x=Zhm found:=⟨_,rfl⟩;rw [<- hans] at HAn ⊢;rw [<- hwrt] at HW ⊢;clear hans hwrt;go_enter Tryz.func114,Tryz.ntmps114;go_wp2_with fail;refine (HAn.out _ Mxt).mono ?_;rintro e w2 ⟨rfl,hE2⟩;have hs2:=hE2.size;simp at hs2;obtain ⟨b0,b1,b2,b3,b4,b5,b6,b7,b8,b9,b10,bf⟩:=Zfp ((hE2.block w.heap.size (by simp)).trans (heap_alloc_new w _));have HEw2:Hid (Ext w w2):=(Mxt:Ext w (w.alloc _)).trans (hE2.mono (by simp));clear hE2;go_wp2_with fail;refine (HW.out _ HEw2.out).mono ?_;rintro e w3 ⟨rfl,hE3⟩;have HE3:=Zaa hE3;clear hE3;go_wp2;go_ret3;exact ⟨rfl,HEw2.out.trans (HE3.out.mono HEw2.out.size)⟩
 ·by_cases hs2:st=2
  ·subst hs2;obtain ⟨g1,g2⟩:=h2 rfl;obtain ⟨ax,hA1⟩:=hA.atoms;have HT:=Zaa (fun u (hu:Ext w u)=>Zwq u _ _ a ax (hA1.ext hu (fun _ _ h=>h)) ⟨na,nc,rfl⟩ hOk hNm ha1 ha3);have HTr:=Zaa (Zvc cs hcs hcl g1 g2);have Ht:Hid (Zfq a 2 found T=([],[],T)):=by show _=_; simp [Zfq]
   rw [Ht.out];clear h hOk hNm ha1 ha2 ha3 ha4 hask h1 h2 hC hA g1 g2 Ht HA hA1 hcs;go_enter Tryz.func114,Tryz.ntmps114;go_wp2_with fail;refine (HT.out _ Mxt).mono ?_;rintro e w2 ⟨m0,m1,m2,m3,m4,rfl,hE2,hnode⟩;obtain ⟨g0a,g0c,g1a,g1l,g1c,g2a,g2l,g2c,g3a,g3l,g3c,g4,rfl,rfl,rfl,rfl,rfl⟩:=hnode.len;have hs2:=hE2.size;simp at hs2;obtain ⟨b0,b1,b2,b3,b4,b5,b6,b7,b8,b9,b10,bf⟩:=Zfp ((hE2.block w.heap.size (by simp)).trans (heap_alloc_new w _));have HEw2:Hid (Ext w w2):=(Mxt:Ext w (w.alloc _)).trans (hE2.mono (by simp));obtain ⟨W1,hW1⟩:∃ W1,W1=w2.alloc (.cells #[.slice g0a (topN a).goals.length g0c,.slice g1a g1l g1c,.slice g2a g2l g2c,.slice g3a g3l g3c,.int .i64 g4] 152):=⟨_,rfl⟩;have hE21:Ext w2 W1:=by rw [hW1]; exact Mxt
   have HEW1:=Zaa (HEw2.out.trans (hE21.mono HEw2.out.size));have Hcall:=Zaa (HTr.out W1 _ xs _ _ _ _ _ (HC.out.ext (Y:=fun _=>False) HEW1.out (fun _ _ h=>h)) (hnode.ext (Y:=fun _=>False) hE21 (fun _ _ h=>h)));have HW1:=Zaa hW1;have hm2:w.heap.size<w2.heap.size:=by omega
   clear hE2 hnode hW1 hE21;go_wp2_with fail;rw [<- HW1.out];refine Hcall.out.mono ?_;rintro e w3 ⟨rfl,hE3⟩;have HE3:=Zaa hE3;clear hE3;go_wp2;go_ret3;exact ⟨rfl,HEW1.out.trans (HE3.out.mono HEW1.out.size)⟩
  ·have Ht:Hid (Zfq a st found T=([],[],[])):=by show _=_; simp [Zfq,hs1,hs2]
   rw [Ht.out];have k1:((st:Int) == 1)=false:=by rw [beq_eq_false_iff_ne]; omega
   have k2:((st:Int) == 2)=false:=by rw [beq_eq_false_iff_ne]; omega
   clear h hOk hNm ha1 ha2 ha3 ha4 hask h1 h2 hC hA Ht HA HC hcs hs1 hs2;go_enter Tryz.func114,Tryz.ntmps114;go_wp2;go_ret3;exact ⟨rfl,Mxt⟩
end Go.Proofs.YtlmjilpjmgjjcaaGreatDoor
