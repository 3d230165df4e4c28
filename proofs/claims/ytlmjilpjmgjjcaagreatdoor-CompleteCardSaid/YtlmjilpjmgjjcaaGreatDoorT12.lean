/-
  PROVED HERE: the given card of 'Complete' (no conditions).
-/
import Derived.Test.YtlmjilpjmgjjcaaGreatDoorT11
import Derived.Laws.OwnMore
import Derived.Test.YtlmjilpjmgjjcaaGreatDoorRows
import Derived.Test.YtlmjilpjmgjjcaaGreatDoorCards
import Derived.Test.YtlmjilpjmgjjcaaGreatDoorTie
import Derived.ProofKit
import Derived.LaidMore
import Derived.OpenShut
import Derived.Stop.Joined
import Derived.SevenTiedAt
import Derived.Deep.Slices
import Derived.Carry
set_option linter.unusedSimpArgs false
set_option linter.unusedVariables false
set_option maxRecDepth 10000
set_option maxHeartbeats 4000000
namespace Go.Proofs.YtlmjilpjmgjjcaaGreatDoor
open Go.RowKit
structure AppendedR (w:World) (base:Nat) (e:TypeId) (size:Nat) (v:Value) (n:Nat) (xs:List Value) (v':Value) (w':World):Prop where
 owns:w'.ownsRow base e size v' n xs
 kept:Kept (Zbl v) w w'
theorem Zeq {P:Program} {ops:Array Oper} {rest:List Oper} {o:Oper} {a:Act} {Q:Exit→Act→World→Prop} (w:World) (hgd:o.guard=none) (s x:Operand) (t:TypeId)
  (ho:o.op = .call { callee := .builtin .append,args:=#[s,x],argTypes:=#[t,t] })
  (base base':Nat) (e:TypeId) {z:Value} {size bytes:Nat}
  (hinfo:(P.info? e).map (fun i=>(i.zero,i.size,i.bytes))=some (some z,size,bytes)) (ht:P.underlying t=some (.slice e)) (hzs:z.cells.size=size) (hsz:0<size)
  (v:Value) (n:Nat) (xs:List Value) (hs:a.eval s=v) (hown:w.ownsRow base e size v n xs)
  (u:Value) (m:Nat) (ys:List Value) (hx:a.eval x=u) (hown2:w.ownsRow base' e size u m ys) (h1:∀ z ∈ ys,z.oneCell'=true)
  (hbig:(n+m) * (bytes+1)≤140737488355328) (hbase:base≤w.heap.size)
  (h:∀ v' w',AppendedR w base e size v (n+m) (xs++ys) v' w'→wpList P ops Q rest (a.put o.dst v') w'):wpList P ops Q (o::rest) a w:=by
 refine wpList_plain hgd fun _ hK => ?_
 obtain ⟨i,hi,hz,hsi,hby⟩:=info_parts hinfo
 have hb1:n+m≤140737488355328:=Qq (Nat.le_mul_of_pos_right (n+m) (Nat.succ_pos bytes)) hbig
 have hb2:(n+m) * bytes≤140737488355328:=Qq (Nat.mul_le_mul_left _ (Nat.le_succ _)) hbig
 have h63:n+m≤maxLen:=by simp only [maxLen]; omega
 obtain ⟨v',w',hr,h2⟩:∃ v' w',(Builtin.append_ #[t,t] o.type #[v,u]).run P w = .ok v' w'∧AppendedR w base e size v (n+m) (xs++ys) v' w':=by
  rcases hown2.2 with ⟨rfl,rfl⟩ | ⟨g,cap,cur,rfl,_,hg,hmc,hcm,hcs,htake⟩
  ·have hys:ys=[]:=List.eq_nil_of_length_eq_zero (by have:=hown2.1; simpa using this)
   subst hys
   exact ⟨v,w,run_append_owned_none (P:=P) w base t o.type e i size ht hi v n xs hown,by simpa using hown,Qx _ _⟩
  ·have hnews:∀ (j:Nat) (y:Value),ys[j]?=some y→w.cell? ((⟨g,0,none⟩:Addr).add j)=some y:=hown2.cells (g:=g) rfl
   obtain ⟨v',w',hr,hA,hB,_⟩:=run_append_own (P:=P) w base t o.type e i z size bytes ht hi hz hsi hby hzs hsz v n xs hown ⟨g,0,none⟩ m cap ys hown2.1 hnews h1 h63 hb2 hbase
   exact ⟨v',w',hr,hA,Kept.of_grown hB⟩
 unfold Oper.wp execOp
 simp only [ho,resolve,invoke,builtin,Sem.run_bind,Sem.run_pure,Result.andThen_ok,List.map_toArray,List.map_cons,List.map_nil,hs,hx,hr]
 exact hK _ _ (h v' w' h2)
theorem Zli {u:World} {v:Value} {R:List (At3 × List At3)} {xs:List Value} (h:RulesIn u v R xs):∀ z ∈ xs,z.oneCell'=true:=by
 intro z hz
 obtain ⟨j,hj⟩:=List.mem_iff_getElem?.1 hz
 have hl:=h.owns.1
 have hjl:=(Qa.1 hj).1
 obtain ⟨x,hx⟩:∃ x,R[j / 4]?=some x:=⟨_,Qb (by omega)⟩
 obtain ⟨a,c,y0,y1,y2,y3,_⟩:=h.all _ x hx
 rcases (by omega:j % 4=0∨j % 4=1∨j % 4=2∨j % 4=3) with e | e | e | e
 ·rw [show j=j / 4 * 4 by omega,y0] at hj; cases hj; rfl
 ·rw [show j=j / 4 * 4+1 by omega,y1] at hj; cases hj; rfl
 ·rw [show j=j / 4 * 4+2 by omega,y2] at hj; cases hj; rfl
 ·rw [show j=j / 4 * 4+3 by omega,y3] at hj; cases hj; rfl
theorem RulesIn.join {u w':World} {base:Nat} {v1 v2 v':Value} {R1 R2:List (At3 × List At3)} {xs1 xs2:List Value} (h1:RulesIn u v1 R1 xs1) (h2:RulesIn u v2 R2 xs2) (hb:u.ownsRow base 82 4 v1 R1.length xs1) (hA:AppendedR u base 82 4 v1 (R1.length+R2.length) (xs1++xs2) v' w'):RulesIn w' v' (R1++R2) (xs1++xs2):=by
 have hkeep:∀ {vv:Value} {l:List At3},AtomsIn u vv l→AtomsIn w' vv l:=fun hr=>⟨Zal hr.owns (fun k e=>hA.kept.block k (hr.owns.lt k e).2 (fun e2=>by
  obtain ⟨c1,k1⟩:=Zbj hr.owns k e
  obtain ⟨c2,k2⟩:=Zbj hb k e2
  rw [k1] at k2
  simp at k2)),hr.ok⟩
 have hl:=h1.owns.1
 refine ⟨by rw [Qg]; exact Zbd hA.owns (Qm _),fun k x hx => ?_⟩
 rcases Nat.lt_or_ge k R1.length with hk | hk
 ·rw [Qc hk] at hx
  obtain ⟨a,c,y0,y1,y2,y3,y4,y5⟩:=h1.all k x hx
  refine ⟨a,c,?_,?_,?_,?_,hkeep y4,y5⟩
  ·rw [Qc (by omega)]; exact y0
  ·rw [Qc (by omega)]; exact y1
  ·rw [Qc (by omega)]; exact y2
  ·rw [Qc (by omega)]; exact y3
 ·rw [Qd hk] at hx
  obtain ⟨a,c,y0,y1,y2,y3,y4,y5⟩:=h2.all _ x hx
  refine ⟨a,c,?_,?_,?_,?_,hkeep y4,y5⟩
  ·rw [Qd (by omega),hl,show k * 4 - R1.length * 4=(k - R1.length) * 4 by omega]; exact y0
  ·rw [Qd (by omega),hl,show k * 4+1 - R1.length * 4=(k - R1.length) * 4+1 by omega]; exact y1
  ·rw [Qd (by omega),hl,show k * 4+2 - R1.length * 4=(k - R1.length) * 4+2 by omega]; exact y2
  ·rw [Qd (by omega),hl,show k * 4+3 - R1.length * 4=(k - R1.length) * 4+3 by omega]; exact y3
theorem Ydf {α:Type} (c z:Nat):∀ (l:List α),((l.map (fun _=>c)).filter (fun b=>b == z)).length=if c=z then l.length else 0:=by
 intro l
 induction l with
 | nil=>simp
 | cons x l ih =>
  simp only [List.map_cons,List.filter_cons]
  by_cases h:c=z
  ·simp only [h,beq_self_eq_true,if_true,Qf] at ih ⊢
   rw [ih]
  ·have:(c == z)=false:=by simpa using h
   simp only [this,h,if_false,Bool.false_eq_true] at ih ⊢
   exact ih
def lysF (F:List At3):List ((At3 × List At3) × Nat):=F.map (fun x=>((x,[]),0))
def lysR (R:List (At3 × List At3)) (c:Nat):List ((At3 × List At3) × Nat):=R.map (fun x=>(x,c))
theorem Yim {F:List At3} {R S:List (At3 × List At3)} (hF:F.length≤3) (hR:R.length≤2) (hS:S.length≤2) (z:Nat):cntF ((lysF F++(lysR R 1++lysR S 2)).map (·.2)) z 0≤layM z∧cntF (((lysR R 1++lysR S 2)++lysF F).map (·.2)) z 0≤layM z:=by
 have e1:(lysF F).map (·.2)=F.map (fun _=>0):=by simp [lysF]
 have e2:∀ (R:List (At3 × List At3)) c,(lysR R c).map (·.2)=R.map (fun _=>c):=fun R c=>by simp [lysR]
 unfold cntF
 simp only [List.drop_zero,Qr,e1,e2,List.filter_append,Qg,Ydf]
 unfold layM
 match z with
 | 0=>simp; omega
 | 1=>simp; omega
 | 2=>simp; omega
 | z+3 =>
  simp
theorem Yjs {F:List At3} {R S:List (At3 × List At3)} (hF:∀ x ∈ F,x.1=2) (hFo:∀ x ∈ F,RlOk (x,[])) (hR:∀ y ∈ R,RlLay y 1) (hS:∀ y ∈ S,RlLay y 2):∀ y ∈ lysF F++(lysR R 1++lysR S 2),RlLay y.1 y.2:=by
 intro y hy
 simp only [Qk,lysF,lysR,List.mem_map] at hy
 rcases hy with ⟨x,hx,rfl⟩ | ⟨x,hx,rfl⟩ | ⟨x,hx,rfl⟩
 ·exact ⟨hFo x hx,by omega,hF x hx,rfl⟩
 ·exact hR x hx
 ·exact hS x hx
set_option maxHeartbeats 8000000 in
theorem Zui (w:World) (B b:Nat) (ra:Option Addr) (rl rc:Nat) (h:RawIn w B b ra rl rc):Calls Tryz.prog 22 #[.pointer (some ⟨b,0,none⟩)] w fun e w'=>∃ (a:Option Addr) (c:Nat) (Ls:List ((At3 × List At3) × Nat)) (xs:List Value),Ls.length≤7∧(∀ y ∈ Ls,RlLay y.1 y.2)∧(∀ z,cntF (Ls.map (·.2)) z 0≤layM z)∧e = .returned (.slice a Ls.length c)∧RulesIn w' (.slice a Ls.length c) (Ls.map (·.1)) xs∧Kept (only b) w w'∧RawIn w' B b ra rl rc:=by
 have hbl:b<w.heap.size∧B≤b:=by obtain ⟨q,h⟩:=h; exact ⟨Zab h.box,h.le⟩
 have HT:=Zac (Zdt w B b ra rl rc h 4 ⟨by omega,by omega⟩)
 clear h
 go_enter Tryz.func22,Tryz.ntmps22
 go_wp2_with fail
 refine HT.out.mono ?_
 rintro e w1 ⟨n,hn,rfl,hK,hR⟩
 have HK:Hid (Kept (only b) w w1∧RawIn w1 B b ra rl rc):=⟨hK,hR⟩
 clear hK hR HT
 go_wp2
 go_loopw [3,5] (fun sv i u=>∃ (k:Nat) (a:Option Addr) (c:Nat) (F:List At3) (xs:List Value),k+F.length=n∧i = .int .i64 k∧sv = .slice a F.length c∧RlsAt u w.heap.size (.slice a F.length c) (F.map (fun x=>(x,[]))) xs∧(∀ x ∈ F,x.1=2)∧Kept (only b) w u∧RawIn u B b ra rl rc) (fun _ i _=>(intOf i).toNat)
 case atStart=>exact ⟨n,none,0,[],[],by simp,rfl,rfl,RlsAt.nil _ _,by simp,HK.out.1,HK.out.2⟩
 case round =>
  obtain ⟨k,a,c,F,xs,hkF,rfl,rfl,hrls,hF2,hKu,hRu⟩:=hrel
  have Hrls:=Zac hrls
  have HF2:=Zac hF2
  have HKu:=Zac hKu
  have hsw:=hKu.size
  clear hrls hF2 hKu HK
  by_cases h0:k=0
  ·subst h0
   have hFn:F.length≤3:=by omega
   clear hkF
   have HT2:=Zac (Zdt wr B b ra rl rc hRu 3 ⟨by omega,by omega⟩)
   clear hRu
   go_wp2_with fail
   refine HT2.out.mono ?_
   rintro e w2 ⟨n2,hn2,rfl,hK2,hR2⟩
   have HK2:Hid (Kept (only b) w w2∧RawIn w2 B b ra rl rc):=⟨HKu.out.trans hK2,hR2⟩
   have HFr:Hid (∀ u,Kept (only b) w2 u→RlsAt u w.heap.size (.slice a F.length c) (F.map (fun x=>(x,[]))) xs):=fun u hu=>Hrls.out.keep (fun i h1 h2=>by
    have e1:=hK2.block i h2 (fun e=>by have e:i=b:=e; omega)
    have e2:=hu.block i (by have:=hK2.size; omega) (fun e=>by have e:i=b:=e; omega)
    rw [e2,e1])
   have hs2:=HK2.out.1.size
   clear hK2 hR2 HT2 Hrls
   obtain ⟨wf,hwf⟩:∃ wf,wf=wr:=⟨_,rfl⟩
   subst hwf
   have hb2:b<w2.heap.size:=by omega
   go_wp2
   go_loopw [4,7] (fun sv i u=>∃ (k:Nat) (a2:Option Addr) (c2:Nat) (R:List (At3 × List At3)) (ys:List Value),k+R.length=n2∧i = .int .i64 k∧sv = .slice a2 R.length c2∧RlsAt u w2.heap.size (.slice a2 R.length c2) R ys∧(∀ y ∈ R,RlLay y 1)∧Kept (only b) w2 u∧RawIn u B b ra rl rc) (fun _ i _=>(intOf i).toNat)
   case atStart=>exact ⟨n2,none,0,[],[],by simp,rfl,rfl,RlsAt.nil _ _,by simp,Qx _ _,HK2.out.2⟩
   case round =>
    obtain ⟨k,a2,c2,R,ys,hkR,rfl,rfl,hrl2,hRy,hKr,hRr⟩:=hrel
    have Hrl2:=Zac hrl2
    have HRy:=Zac hRy
    have HKr:=Zac hKr
    have hsr:=hKr.size
    have hR2:R.length≤2:=by omega
    clear hrl2 hRy hKr
    by_cases h0:k=0
    ·subst h0
     clear hkR
     have HT3:=Zac (Zdt wr B b ra rl rc hRr 3 ⟨by omega,by omega⟩)
     clear hRr
     go_wp2_with fail
     refine HT3.out.mono ?_
     rintro e w3 ⟨n3,hn3,rfl,hK3,hR3⟩
     have hs3:=hK3.size
     have HRb:Hid (RlsAt w3 w2.heap.size (.slice a2 R.length c2) R ys):=Hrl2.out.keep (fun i h1 h2=>hK3.block i h2 (fun e=>by have e:i=b:=e; omega))
     have HK3:Hid (Kept (only b) w2 w3∧RawIn w3 B b ra rl rc):=⟨HKr.out.trans hK3,hR3⟩
     have hR1l:R.length≤2:=hR2
     clear hK3 hR3 HT3 Hrl2 HKr
     obtain ⟨wg,hwg⟩:∃ wg,wg=wr:=⟨_,rfl⟩
     subst hwg
     go_wp2
     go_loopw [4,11] (fun sv i u=>∃ (k:Nat) (a3:Option Addr) (c3:Nat) (S:List (At3 × List At3)) (zs:List Value),k+S.length=n3∧i = .int .i64 k∧sv = .slice a3 (R++S).length c3∧RlsAt u w2.heap.size (.slice a3 (R++S).length c3) (R++S) zs∧(∀ y ∈ S,RlLay y 2)∧Kept (only b) w2 u∧RawIn u B b ra rl rc) (fun _ i _=>(intOf i).toNat)
     case atStart=>exact ⟨n3,a2,c2,[],ys,by simp,rfl,by simp,by simpa using HRb.out,by simp,HK3.out.1,HK3.out.2⟩
     case round =>
      obtain ⟨k,a3,c3,S,zs,hkS,rfl,rfl,hrl3,hSy,hKs,hRs⟩:=hrel
      have Hrl3:=Zac hrl3
      have HSy:=Zac hSy
      have HKs:=Zac hKs
      have hss:=hKs.size
      have hS2:S.length≤2:=by omega
      obtain ⟨M,hM⟩:∃ M,M=(R++S).length:=⟨_,rfl⟩
      have hM4:M≤4:=by rw [hM,Qg]; omega
      rw [← hM] at Hrl3 ⊢
      have HM:=Zac hM
      clear hrl3 hSy hKs hM
      by_cases h0:k=0
      ·subst h0
       clear hkS
       have HT4:=Zac (Zdt wr B b ra rl rc hRs 2 ⟨by omega,by omega⟩)
       clear hRs
       go_wp2_with fail
       refine HT4.out.mono ?_
       rintro e w4 ⟨fs,hfs,rfl,hK4,hR4⟩
       have hs4:=hK4.size
       have hKw2:Kept (only b) w2 w4:=HKs.out.trans hK4
       have hF4:=HFr.out w4 hKw2
       have hR4':=Hrl3.out.keep (u':=w4) (fun i h1 h2=>hK4.block i h2 (fun e=>by have e:i=b:=e; omega))
       have hFm:(F.map (fun x=>((x,[]):At3 × List At3))).length=F.length:=by simp
       have hFok:∀ x ∈ F,RlOk (x,[]):=fun x hx=>hF4.ok (x,[]) (List.mem_map_of_mem hx)
       have HLy:=Zac (Yjs HF2.out hFok HRy.out HSy.out)
       have HLc:=Zac (fun z=>Yim (F:=F) (R:=R) (S:=S) hFn hR1l hS2 z)
       have HLl:Hid ((lysF F++(lysR R 1++lysR S 2)).length=F.length+M∧((lysR R 1++lysR S 2)++lysF F).length=M+F.length∧(lysF F++(lysR R 1++lysR S 2)).map (·.1)=F.map (fun x=>(x,[]))++(R++S)∧((lysR R 1++lysR S 2)++lysF F).map (·.1)=(R++S)++F.map (fun x=>(x,[]))):=by
        rw [HM.out]
        refine ⟨by simp [lysF,lysR],by simp [lysF,lysR]; omega,?_,?_⟩
        ·simp [lysF,lysR,Function.comp_def]
        ·simp [lysF,lysR,Function.comp_def]
       have HFi:Hid (RulesIn w4 (.slice a F.length c) (F.map (fun x=>(x,[]))) xs):=hF4.rules
       have HRi:Hid (RulesIn w4 (.slice a3 M c3) (R++S) zs):=hR4'.rules
       have HFo:Hid (w4.ownsRow w.heap.size 82 4 (.slice a F.length c) F.length xs):=by have:=hF4.owns; rw [hFm] at this; exact this
       have HRo:Hid (w4.ownsRow w2.heap.size 82 4 (.slice a3 M c3) M zs):=by have:=hR4'.owns; rw [← HM.out] at this; exact this
       have HK4:Hid (Kept (only b) w w4∧RawIn w4 B b ra rl rc):=⟨HK2.out.1.trans hKw2,hR4⟩
       have Hnil:Hid (RulesIn w4 (.slice none 0 0) [] []):=⟨World.ownsRow_nil _ _ _ _,fun k x h=>by simp at h⟩
       clear hK4 hR4 HT4 hKw2 hF4 hR4' hFm hFok HFr Hrl3 HKs HRb HK3 HK2
       have noS:∀ j,¬ Zbl (.slice none 0 0) j:=fun j e=>by simp [Zbl,Value.ownBlock] at e
       rcases (by omega:fs=0∨fs=1) with rfl | rfl
       ·go_wp2_with (at_builtin; go_loud (refine Zeq w4 rfl (.tmp 70) (.tmp 71) 29 rfl w4.heap.size w.heap.size 82 Tryz.infoRule Tryz.underlying29 rfl (by decide) (.slice none 0 0) 0 [] rfl (World.ownsRow_nil _ _ _ _) (.slice a F.length c) F.length xs rfl HFo.out (Zli HFi.out) ?_ ?_ ?_))
        ·omega
        ·omega
        intro v5 w5 hA5
        have hE5:Ext w4 w5:=hA5.kept.below (Qe _) (fun j e=>absurd e (noS j))
        have h5:RulesIn w5 v5 (F.map (fun x=>(x,[]))) xs:=by
         have:=RulesIn.join (base:=w4.heap.size) Hnil.out HFi.out (World.ownsRow_nil _ _ _ _) (by simpa using hA5)
         simpa using this
        have hR5:=HRi.out.ext hE5
        have HRo5:Hid (w5.ownsRow w2.heap.size 82 4 (.slice a3 M c3) M zs):=Zal HRo.out (fun j hj=>hE5.block j (HRo.out.lt j hj).2)
        have H5o:Hid (w5.ownsRow w4.heap.size 82 4 v5 F.length xs):=hA5.owns
        obtain ⟨a5,c5,rfl⟩:=Zad H5o.out
        have H5:=Zac h5
        have HR5:=Zac hR5
        have HE5:=Zac hE5
        have hs5:=hE5.size
        clear hA5 hE5 h5 hR5
        go_wp2_with (at_builtin; go_loud (refine Zeq w5 rfl (.tmp 73) (.tmp 74) 29 rfl w4.heap.size w2.heap.size 82 Tryz.infoRule Tryz.underlying29 rfl (by decide) (.slice a5 F.length c5) F.length xs rfl H5o.out (.slice a3 M c3) M zs rfl HRo5.out (Zli HR5.out) ?_ ?_ ?_))
        ·omega
        ·omega
        intro v6 w6 hA6
        have Hend:Hid (∃ a6 c6,v6 = .slice a6 (lysF F++(lysR R 1++lysR S 2)).length c6∧RulesIn w6 (.slice a6 (lysF F++(lysR R 1++lysR S 2)).length c6) ((lysF F++(lysR R 1++lysR S 2)).map (·.1)) (xs++zs)∧Kept (only b) w w6∧RawIn w6 B b ra rl rc):=by
         have hj:=RulesIn.join (base:=w4.heap.size) H5.out HR5.out (by rw [Ql]; exact H5o.out) (by rw [Ql,← HM.out]; exact hA6)
         obtain ⟨g1,g2,g3,g4⟩:=HLl.out
         rw [← g3] at hj
         obtain ⟨a6,c6,e6⟩:=Zad hj.owns
         rw [Ql] at e6
         refine ⟨a6,c6,e6,e6 ▸ hj,?_,?_⟩
         ·exact (HK4.out.1.trans (Zft HE5.out)).then hA6.kept (fun i hi e=>by have:=(H5o.out.lt i e).1; have:=HK4.out.1.size; omega)
         ·exact (HK4.out.2.ext HE5.out).keep (S:=Zbl (.slice a5 F.length c5)) hA6.kept (fun e=>by have:=(H5o.out.lt b e).1; omega) (fun j e=>by have:=(H5o.out.lt j e).1; omega)
        have Hl7:Hid ((lysF F++(lysR R 1++lysR S 2)).length≤7):=by show _≤7; rw [HLl.out.1]; omega
        clear hA6
        obtain ⟨a6,c6,e6,f1,f2,f3⟩:=Hend.out
        subst e6
        have Hf1:=Zac f1
        have Hf2:=Zac f2
        have Hf3:=Zac f3
        clear f1 f2 f3 Hend
        go_wp2
        go_ret
        exact ⟨a6,c6,_,_,Hl7.out,HLy.out,fun z=>(HLc.out z).1,rfl,Hf1.out,Hf2.out,Hf3.out⟩
       ·go_wp2_with (at_builtin; go_loud (refine Zeq w4 rfl (.tmp 73) (.tmp 74) 29 rfl w4.heap.size w2.heap.size 82 Tryz.infoRule Tryz.underlying29 rfl (by decide) (.slice none 0 0) 0 [] rfl (World.ownsRow_nil _ _ _ _) (.slice a3 M c3) M zs rfl HRo.out (Zli HRi.out) ?_ ?_ ?_))
        ·omega
        ·omega
        intro v5 w5 hA5
        have hE5:Ext w4 w5:=hA5.kept.below (Qe _) (fun j e=>absurd e (noS j))
        have h5:RulesIn w5 v5 (R++S) zs:=by
         have:=RulesIn.join (base:=w4.heap.size) Hnil.out HRi.out (World.ownsRow_nil _ _ _ _) (by rw [← HM.out]; simpa using hA5)
         simpa using this
        have hF5:=HFi.out.ext hE5
        have HFo5:Hid (w5.ownsRow w.heap.size 82 4 (.slice a F.length c) F.length xs):=Zal HFo.out (fun j hj=>hE5.block j (HFo.out.lt j hj).2)
        have H5o:Hid (w5.ownsRow w4.heap.size 82 4 v5 M zs):=hA5.owns
        obtain ⟨a5,c5,rfl⟩:=Zad H5o.out
        have H5:=Zac h5
        have HF5:=Zac hF5
        have HE5:=Zac hE5
        have hs5:=hE5.size
        clear hA5 hE5 h5 hF5
        go_wp2_with (at_builtin; go_loud (refine Zeq w5 rfl (.tmp 78) (.tmp 79) 29 rfl w4.heap.size w.heap.size 82 Tryz.infoRule Tryz.underlying29 rfl (by decide) (.slice a5 M c5) M zs rfl H5o.out (.slice a F.length c) F.length xs rfl HFo5.out (Zli HF5.out) ?_ ?_ ?_))
        ·omega
        ·omega
        intro v6 w6 hA6
        have Hend:Hid (∃ a6 c6,v6 = .slice a6 ((lysR R 1++lysR S 2)++lysF F).length c6∧RulesIn w6 (.slice a6 ((lysR R 1++lysR S 2)++lysF F).length c6) (((lysR R 1++lysR S 2)++lysF F).map (·.1)) (zs++xs)∧Kept (only b) w w6∧RawIn w6 B b ra rl rc):=by
         have hj:=RulesIn.join (base:=w4.heap.size) H5.out HF5.out (by rw [← HM.out]; exact H5o.out) (by rw [Ql,← HM.out]; exact hA6)
         obtain ⟨g1,g2,g3,g4⟩:=HLl.out
         rw [← g4] at hj
         obtain ⟨a6,c6,e6⟩:=Zad hj.owns
         rw [Ql] at e6
         refine ⟨a6,c6,e6,e6 ▸ hj,?_,?_⟩
         ·exact (HK4.out.1.trans (Zft HE5.out)).then hA6.kept (fun i hi e=>by have:=(H5o.out.lt i e).1; have:=HK4.out.1.size; omega)
         ·exact (HK4.out.2.ext HE5.out).keep (S:=Zbl (.slice a5 M c5)) hA6.kept (fun e=>by have:=(H5o.out.lt b e).1; omega) (fun j e=>by have:=(H5o.out.lt j e).1; omega)
        have Hl7:Hid (((lysR R 1++lysR S 2)++lysF F).length≤7):=by show _≤7; rw [HLl.out.2.1]; omega
        have HLy2:Hid (∀ y ∈ (lysR R 1++lysR S 2)++lysF F,RlLay y.1 y.2):=fun y hy=>HLy.out y (by
         rcases Qk.1 hy with h | h
         ·exact List.mem_append_right _ h
         ·exact List.mem_append_left _ h)
        clear hA6
        obtain ⟨a6,c6,e6,f1,f2,f3⟩:=Hend.out
        subst e6
        have Hf1:=Zac f1
        have Hf2:=Zac f2
        have Hf3:=Zac f3
        clear f1 f2 f3 Hend
        go_wp2
        go_ret
        exact ⟨a6,c6,_,_,Hl7.out,HLy2.out,fun z=>(HLc.out z).2,rfl,Hf1.out,Hf2.out,Hf3.out⟩
      ·have hpos:(0:Int)<(k:Int):=by omega
       have HA1:=Zac (Zfk wr B b ra rl rc hRs 0 (by omega))
       clear hRs
       go_wp2_with fail
       refine HA1.out.mono ?_
       rintro e w4 ⟨x,hx,hxp,rfl,hK4,hR4⟩
       have Hxp:=Zac hxp
       have hs4:=hK4.size
       clear hxp
       have hE4:Ext w4 (w4.alloc (.cells #[.int .i64 x.1,.int .i64 x.2.1,.int .i64 x.2.2] 45)):=(Ext.of (by repeat' (first | with_reducible(first|exact Qx _ _|apply Kept.drew|apply Kept.drewN|apply Qz|refine Qy ?_ ?_ _)|exact fun h=>absurd h (by simp <;> omega))))
       have HA2:=Zac (Zfk (w4.alloc (.cells #[.int .i64 x.1,.int .i64 x.2.1,.int .i64 x.2.2] 45)) B b ra rl rc (hR4.ext hE4) 1 (by omega))
       have HK4:Hid (Kept (only b) wr (w4.alloc (.cells #[.int .i64 x.1,.int .i64 x.2.1,.int .i64 x.2.2] 45))):=hK4.trans (Zft hE4)
       clear hK4 hR4 hE4 HA1
       go_wp2_with fail
       refine HA2.out.mono ?_
       rintro e w5 ⟨y,hy,hyp,rfl,hK5,hR5⟩
       have Hyp:=Zac hyp
       clear hyp
       have hs5:=hK5.size
       simp at hs5
       have hbx5:w5.heap[w4.heap.size]?=some (.cells #[.int .i64 x.1,.int .i64 x.2.1,.int .i64 x.2.2] 45 (0,0)):=(hK5.block _ (by simp) (fun e=>by have e:w4.heap.size=b:=e; omega)).trans (heap_alloc_new w4 _)
       have p0:=Zaa hbx5 0 _ rfl
       have p1:=Zaa hbx5 1 _ rfl
       have p2:=Zaa hbx5 2 _ rfl
       have pl:=Zab hbx5
       obtain ⟨U,hU⟩:∃ U,U=(w5.alloc (.cells #[.int .i64 y.1,.int .i64 y.2.1,.int .i64 y.2.2] 45)).alloc (.cells #[.int .i64 y.1,.int .i64 y.2.1,.int .i64 y.2.2] 45):=⟨_,rfl⟩
       have hEU:Ext w5 U:=by rw [hU]; exact (Ext.of (by repeat' (first | with_reducible(first|exact Qx _ _|apply Kept.drew|apply Kept.drewN|apply Qz|refine Qy ?_ ?_ _)|exact fun h=>absurd h (by simp <;> omega))))
       have hsU:U.heap.size=w5.heap.size+2:=by rw [hU]; simp
       have HKU:Hid (Kept (only b) wr U∧RawIn U B b ra rl rc):=⟨(HK4.out.trans hK5).trans (Zft hEU),hR5.ext hEU⟩
       have HrU:Hid (RlsAt U w2.heap.size (.slice a3 M c3) (R++S) zs):=Hrl3.out.keep (fun i h1 h2=>HKU.out.1.block i h2 (fun e=>by have e:i=b:=e; omega))
       have HrO:Hid (U.ownsRow w2.heap.size 82 4 (.slice a3 M c3) M zs):=by have:=HrU.out.owns; rw [← HM.out] at this; exact this
       have HbU:Hid (U.ownsRow w2.heap.size 45 3 (.slice (some ⟨w5.heap.size+1,0,none⟩) [y].length 1) [y].length ([y].flatMap atC)):=by
        have:=World.ownsRow_lit (base:=w2.heap.size) (e:=45) (size:=3) (w5.alloc (.cells #[.int .i64 y.1,.int .i64 y.2.1,.int .i64 y.2.2] 45)) #[.int .i64 y.1,.int .i64 y.2.1,.int .i64 y.2.2] 1 (by simp; omega) (by simp [maxLen]) rfl
        show U.ownsRow _ _ _ _ _ _
        rw [hU]
        simpa [atC] using this
       have HU:=Zac hU
       have Hx:Hid (RlLay (x,[y]) 2):=⟨⟨hx,fun u hu=>by simp at hu; subst hu; exact hy,by simp⟩,by omega,Hxp.out,by simp [layB,Hyp.out]⟩
       clear hK5 hR5 hEU hU HA2 hx hy hbx5 HK4
       go_wp2_with (at_builtin; rw [← HU.out]; go_loud (refine Zam U rfl (.tmp 59) (.tmp 64) 29 rfl w2.heap.size 82 Tryz.infoRule Tryz.underlying29 rfl (by decide) (.slice a3 M c3) M zs rfl HrO.out #[.int .i64 x.1,.int .i64 x.2.1,.int .i64 x.2.2,.slice (some ⟨w5.heap.size+1,0,none⟩) 1 1] rfl (by rw [hsU]) rfl (by simp [Value.oneCell']) ?_ ?_ ?_))
       ·omega
       ·omega
       intro v6 w6 hA6
       have Hend:Hid (∃ a6 c6,v6 = .slice a6 (R++(S++[(x,[y])])).length c6∧RlsAt w6 w2.heap.size (.slice a6 (R++(S++[(x,[y])])).length c6) (R++(S++[(x,[y])])) (zs++[.int .i64 x.1,.int .i64 x.2.1,.int .i64 x.2.2,.slice (some ⟨w5.heap.size+1,0,none⟩) 1 1])∧Kept (only b) w2 w6∧RawIn w6 B b ra rl rc):=by
        have hA7:=hA6
        rw [HM.out] at hA7
        have hm:=HrU.out.more (x:=(x,[y])) HbU.out Hx.out.ok (by rw [HM.out]; exact hA7)
        rw [Qi] at hm
        obtain ⟨a6,c6,e6⟩:=Zad hm.owns
        exact ⟨a6,c6,e6,e6 ▸ hm,(HKs.out.trans HKU.out.1).then hA6.kept (fun i hi e=>by have:=(HrO.out.lt i e).1; omega),HKU.out.2.keep (S:=Zbl (.slice a3 M c3)) hA6.kept (fun e=>by have:=(HrO.out.lt b e).1; omega) (fun j e=>by have:=(HrO.out.lt j e).1; omega)⟩
       clear hA6 p0 p1 p2 pl
       go_wp2
       go_roundw
       case rel =>
        obtain ⟨a6,c6,e6,f1,f2,f3⟩:=Hend.out
        have hk1:((k - 1:Nat):Int)=(k:Int) - 1:=by omega
        refine ⟨k - 1,a6,c6,S++[(x,[y])],_,by simp; omega,by rw [hk1],e6,f1,fun u hu => ?_,f2,f3⟩
        rcases Qk.1 hu with hu | hu
        ·exact HSy.out u hu
        ·simp at hu
         subst hu
         exact Hx.out
       case measure=>simp [intOf]; omega
    ·have hpos:(0:Int)<(k:Int):=by omega
     have HA1:=Zac (Zfk wr B b ra rl rc hRr 1 (by omega))
     clear hRr
     go_wp2_with fail
     refine HA1.out.mono ?_
     rintro e w3 ⟨x,hx,hxp,rfl,hK3,hR3⟩
     have Hxp:=Zac hxp
     have hs3:=hK3.size
     clear hxp
     have hE3:Ext w3 (w3.alloc (.cells #[.int .i64 x.1,.int .i64 x.2.1,.int .i64 x.2.2] 45)):=(Ext.of (by repeat' (first | with_reducible(first|exact Qx _ _|apply Kept.drew|apply Kept.drewN|apply Qz|refine Qy ?_ ?_ _)|exact fun h=>absurd h (by simp <;> omega))))
     have HA2:=Zac (Zfk (w3.alloc (.cells #[.int .i64 x.1,.int .i64 x.2.1,.int .i64 x.2.2] 45)) B b ra rl rc (hR3.ext hE3) 2 (by omega))
     have HK3:Hid (Kept (only b) wr (w3.alloc (.cells #[.int .i64 x.1,.int .i64 x.2.1,.int .i64 x.2.2] 45))):=hK3.trans (Zft hE3)
     clear hK3 hR3 hE3 HA1
     go_wp2_with fail
     refine HA2.out.mono ?_
     rintro e w4 ⟨y,hy,hyp,rfl,hK4,hR4⟩
     have Hyp:=Zac hyp
     clear hyp
     have hs4:=hK4.size
     simp at hs4
     have hbx4:w4.heap[w3.heap.size]?=some (.cells #[.int .i64 x.1,.int .i64 x.2.1,.int .i64 x.2.2] 45 (0,0)):=(hK4.block _ (by simp) (fun e=>by have e:w3.heap.size=b:=e; omega)).trans (heap_alloc_new w3 _)
     have hE4:Ext w4 (w4.alloc (.cells #[.int .i64 y.1,.int .i64 y.2.1,.int .i64 y.2.2] 45)):=(Ext.of (by repeat' (first | with_reducible(first|exact Qx _ _|apply Kept.drew|apply Kept.drewN|apply Qz|refine Qy ?_ ?_ _)|exact fun h=>absurd h (by simp <;> omega))))
     have HA3:=Zac (Zfk (w4.alloc (.cells #[.int .i64 y.1,.int .i64 y.2.1,.int .i64 y.2.2] 45)) B b ra rl rc (hR4.ext hE4) 2 (by omega))
     have HK4:Hid (Kept (only b) wr (w4.alloc (.cells #[.int .i64 y.1,.int .i64 y.2.1,.int .i64 y.2.2] 45))):=(HK3.out.trans hK4).trans (Zft hE4)
     have hbx4':(w4.alloc (.cells #[.int .i64 y.1,.int .i64 y.2.1,.int .i64 y.2.2] 45)).heap[w3.heap.size]?=some (.cells #[.int .i64 x.1,.int .i64 x.2.1,.int .i64 x.2.2] 45 (0,0)):=(hE4.block _ (Zab hbx4)).trans hbx4
     clear hK4 hR4 hE4 HA2 HK3 hbx4
     have Hbx4:=Zac hbx4'
     clear hbx4'
     go_wp2_with fail
     refine HA3.out.mono ?_
     rintro e w5 ⟨z,hz,hzp,rfl,hK5,hR5⟩
     have Hzp:=Zac hzp
     clear hzp
     have hs5:=hK5.size
     simp at hs5
     have hbx5:w5.heap[w3.heap.size]?=some (.cells #[.int .i64 x.1,.int .i64 x.2.1,.int .i64 x.2.2] 45 (0,0)):=(hK5.block _ (by simp; omega) (fun e=>by have e:w3.heap.size=b:=e; omega)).trans Hbx4.out
     have hby5:w5.heap[w4.heap.size]?=some (.cells #[.int .i64 y.1,.int .i64 y.2.1,.int .i64 y.2.2] 45 (0,0)):=(hK5.block _ (by simp) (fun e=>by have e:w4.heap.size=b:=e; omega)).trans (heap_alloc_new w4 _)
     have p0:=Zaa hbx5 0 _ rfl
     have p1:=Zaa hbx5 1 _ rfl
     have p2:=Zaa hbx5 2 _ rfl
     have pl:=Zab hbx5
     have q0:=Zaa hby5 0 _ rfl
     have q1:=Zaa hby5 1 _ rfl
     have q2:=Zaa hby5 2 _ rfl
     have ql:=Zab hby5
     obtain ⟨U,hU⟩:∃ U,U=(w5.alloc (.cells #[.int .i64 z.1,.int .i64 z.2.1,.int .i64 z.2.2] 45)).alloc (.cells #[.int .i64 y.1,.int .i64 y.2.1,.int .i64 y.2.2,.int .i64 z.1,.int .i64 z.2.1,.int .i64 z.2.2] 45):=⟨_,rfl⟩
     have hEU:Ext w5 U:=by rw [hU]; exact (Ext.of (by repeat' (first | with_reducible(first|exact Qx _ _|apply Kept.drew|apply Kept.drewN|apply Qz|refine Qy ?_ ?_ _)|exact fun h=>absurd h (by simp <;> omega))))
     have hsU:U.heap.size=w5.heap.size+2:=by rw [hU]; simp
     have HKU:Hid (Kept (only b) wr U∧RawIn U B b ra rl rc):=⟨(HK4.out.trans hK5).trans (Zft hEU),hR5.ext hEU⟩
     have HrU:Hid (RlsAt U w2.heap.size (.slice a2 R.length c2) R ys):=Hrl2.out.keep (fun i h1 h2=>HKU.out.1.block i h2 (fun e=>by have e:i=b:=e; omega))
     have HbU:Hid (U.ownsRow w2.heap.size 45 3 (.slice (some ⟨w5.heap.size+1,0,none⟩) [y,z].length 2) [y,z].length ([y,z].flatMap atC)):=by
      have:=World.ownsRow_lit (base:=w2.heap.size) (e:=45) (size:=3) (w5.alloc (.cells #[.int .i64 z.1,.int .i64 z.2.1,.int .i64 z.2.2] 45)) #[.int .i64 y.1,.int .i64 y.2.1,.int .i64 y.2.2,.int .i64 z.1,.int .i64 z.2.1,.int .i64 z.2.2] 2 (by simp; omega) (by simp [maxLen]) rfl
      show U.ownsRow _ _ _ _ _ _
      rw [hU]
      simpa [atC] using this
     have HU:=Zac hU
     have Hx:Hid (RlLay (x,[y,z]) 1):=⟨⟨hx,fun u hu=>by simp at hu; rcases hu with rfl | rfl; exact hy; exact hz,by simp⟩,by omega,Hxp.out,by simp [layB,Hyp.out,Hzp.out]⟩
     clear hK5 hR5 hEU hU HA3 hx hy hz hbx5 hby5 HK4 Hbx4
     go_wp2_with (at_builtin; rw [← HU.out]; go_loud (refine Zam U rfl (.tmp 41) (.tmp 47) 29 rfl w2.heap.size 82 Tryz.infoRule Tryz.underlying29 rfl (by decide) (.slice a2 R.length c2) R.length ys rfl HrU.out.owns #[.int .i64 x.1,.int .i64 x.2.1,.int .i64 x.2.2,.slice (some ⟨w5.heap.size+1,0,none⟩) 2 2] rfl (by rw [hsU]) rfl (by simp [Value.oneCell']) ?_ ?_ ?_))
     ·omega
     ·omega
     intro v6 w6 hA6
     have Hend:Hid (∃ a6 c6,v6 = .slice a6 (R++[(x,[y,z])]).length c6∧RlsAt w6 w2.heap.size (.slice a6 (R++[(x,[y,z])]).length c6) (R++[(x,[y,z])]) (ys++[.int .i64 x.1,.int .i64 x.2.1,.int .i64 x.2.2,.slice (some ⟨w5.heap.size+1,0,none⟩) 2 2])∧Kept (only b) w2 w6∧RawIn w6 B b ra rl rc):=by
      have hm:=HrU.out.more (x:=(x,[y,z])) HbU.out Hx.out.ok hA6
      obtain ⟨a6,c6,e6⟩:=Zad hm.owns
      exact ⟨a6,c6,e6,e6 ▸ hm,(HKr.out.trans HKU.out.1).then hA6.kept (fun i hi e=>by have:=(HrU.out.owns.lt i e).1; omega),HKU.out.2.keep (S:=Zbl (.slice a2 R.length c2)) hA6.kept (fun e=>by have:=(HrU.out.owns.lt b e).1; omega) (fun j e=>by have:=(HrU.out.owns.lt j e).1; omega)⟩
     clear hA6 p0 p1 p2 pl q0 q1 q2 ql
     go_wp2
     go_roundw
     case rel =>
      obtain ⟨a6,c6,e6,f1,f2,f3⟩:=Hend.out
      have hk1:((k - 1:Nat):Int)=(k:Int) - 1:=by omega
      refine ⟨k - 1,a6,c6,R++[(x,[y,z])],_,by simp; omega,by rw [hk1],e6,f1,fun u hu => ?_,f2,f3⟩
      rcases Qk.1 hu with hu | hu
      ·exact HRy.out u hu
      ·simp at hu
       subst hu
       exact Hx.out
     case measure=>simp [intOf]; omega
  ·have hpos:(0:Int)<(k:Int):=by omega
   have HA:=Zac (Zfk wr B b ra rl rc hRu 2 (by omega))
   clear hRu
   go_wp2_with fail
   refine HA.out.mono ?_
   rintro e w3 ⟨x,hx,hxp,rfl,hK3,hR3⟩
   have hs3:=hK3.size
   obtain ⟨U,hU⟩:∃ U,U=w3.alloc (.cells #[.int .i64 x.1,.int .i64 x.2.1,.int .i64 x.2.2] 45):=⟨_,rfl⟩
   have hEU:Ext w3 U:=by rw [hU]; exact (Ext.of (by repeat' (first | with_reducible(first|exact Qx _ _|apply Kept.drew|apply Kept.drewN|apply Qz|refine Qy ?_ ?_ _)|exact fun h=>absurd h (by simp <;> omega))))
   have HrU:Hid (RlsAt U w.heap.size (.slice a F.length c) (F.map (fun x=>(x,[]))) xs):=Hrls.out.keep (fun i h1 h2=>by
    have e1:=hK3.block i h2 (fun e=>by have e:i=b:=e; omega)
    have e2:=hEU.block i (by omega)
    rw [e2,e1])
   have HKU:Hid (Kept (only b) w U∧RawIn U B b ra rl rc):=⟨(HKu.out.trans hK3).trans (Zft hEU),hR3.ext hEU⟩
   have hsU:=hEU.size
   have HU:=Zac hU
   have Hx:Hid (AtOk x∧x.1=2):=⟨hx,hxp⟩
   have hFl:F.length≤3:=by omega
   have hFm:(F.map (fun x=>((x,[]):At3 × List At3))).length=F.length:=by simp
   have HrO:Hid (U.ownsRow w.heap.size 82 4 (.slice a F.length c) F.length xs):=by have:=HrU.out.owns; rw [hFm] at this; exact this
   clear hK3 hR3 hEU HA hx hxp hFm
   go_wp2_with (at_builtin; rw [← HU.out]; go_loud (refine Zam U rfl (.tmp 24) (.tmp 27) 29 rfl w.heap.size 82 Tryz.infoRule Tryz.underlying29 rfl (by decide) (.slice a F.length c) F.length xs rfl HrO.out #[.int .i64 x.1,.int .i64 x.2.1,.int .i64 x.2.2,.slice none 0 0] rfl (by rw [HU.out]; simp) rfl (by simp [Value.oneCell']) ?_ ?_ ?_))
   ·omega
   ·omega
   intro v4 w4 hA4
   rw [← HU.out] at hA4
   have Hend:Hid (∃ a4 c4,v4 = .slice a4 (F++[x]).length c4∧RlsAt w4 w.heap.size (.slice a4 (F++[x]).length c4) ((F++[x]).map (fun x=>(x,[]))) (xs++[.int .i64 x.1,.int .i64 x.2.1,.int .i64 x.2.2,.slice none 0 0])∧Kept (only b) w w4∧RawIn w4 B b ra rl rc):=by
    have hm:=HrU.out.more (x:=(x,[])) (a:=none) (c:=0) (World.ownsRow_nil _ _ _ _) ⟨Hx.out.1,by simp,by simp⟩ (by simpa using hA4)
    obtain ⟨a4,c4,e4⟩:=Zad hm.owns
    refine ⟨a4,c4,by simpa using e4,?_,HKU.out.1.then hA4.kept (fun i hi e=>by have:=(HrO.out.lt i e).1; omega),HKU.out.2.keep (S:=Zbl (.slice a F.length c)) hA4.kept (fun e=>by have:=(HrO.out.lt b e).1; omega) (fun j e=>by have:=(HrO.out.lt j e).1; omega)⟩
    have:(F++[x]).map (fun x=>((x,[]):At3 × List At3))=F.map (fun x=>(x,[]))++[(x,[])]:=by simp
    rw [this]
    have e5:v4 = .slice a4 (F++[x]).length c4:=by simpa using e4
    rw [← e5]
    exact hm
   clear hA4
   go_wp2
   go_roundw
   case rel =>
    obtain ⟨a4,c4,e4,f1,f2,f3⟩:=Hend.out
    have hk1:((k - 1:Nat):Int)=(k:Int) - 1:=by omega
    refine ⟨k - 1,a4,c4,F++[x],_,by simp; omega,by rw [hk1],e4,f1,fun y hy => ?_,f2,f3⟩
    rcases Qk.1 hy with hy | hy
    ·exact HF2.out y hy
    ·simp at hy
     subst hy
     exact Hx.out.2
   case measure=>simp [intOf]; omega
theorem RulesIn.keepC {w w':World} {b:Nat} {v:Value} {R:List (At3 × List At3)} {xs:List Value} (h:RulesIn w v R xs) {B:Nat} {ra:Option Addr} {rl rc:Nat} (hb:RawIn w B b ra rl rc) (hk:Kept (only b) w w'):RulesIn w' v R xs:=by
 obtain ⟨q,hb⟩:=hb
 have hbx:=hb.box
 refine ⟨Zal h.owns (fun k e=>hk.block k (h.owns.lt k e).2 (fun e2 => ?_)),fun k x hx => ?_⟩
 ·have e2:k=b:=e2
  obtain ⟨c1,k1⟩:=Zbj h.owns k e
  rw [e2,hbx] at k1
  simp at k1
 ·obtain ⟨a,c,y0,y1,y2,y3,y4,y5⟩:=h.all k x hx
  refine ⟨a,c,y0,y1,y2,y3,⟨Zal y4.owns (fun k e=>hk.block k (y4.owns.lt k e).2 (fun e2 => ?_)),y4.ok⟩,y5⟩
  have e2:k=b:=e2
  obtain ⟨c1,k1⟩:=Zbj y4.owns k e
  rw [e2,hbx] at k1
  simp at k1
theorem Yin {w:World} {b:Nat} {u0 u1 u2 u3 u4:Value} {t:TypeId} (h:w.heap[b]?=some (.cells #[u0,u1,u2,u3,u4] t (0,0))) :
  w.cell? ⟨b,0,none⟩=some u0∧w.cell? ⟨b,1,none⟩=some u1∧w.cell? ⟨b,2,none⟩=some u2∧w.cell? ⟨b,3,none⟩=some u3∧w.cell? ⟨b,4,none⟩=some u4∧∀ i,w.frozen? ⟨b,i,none⟩=false :=
 ⟨Zaa h 0 _ rfl,Zaa h 1 _ rfl,Zaa h 2 _ rfl,Zaa h 3 _ rfl,Zaa h 4 _ rfl,fun i=>Zae h i⟩
theorem Zpy {l:List (List UInt8)} {j:Nat} {b:List UInt8} (h:l[j]?=some b):(strs l)[j]?=some (.string ⟨b.toArray⟩):=by unfold strs; rw [Qj,h]; rfl
set_option maxHeartbeats 8000000 in
theorem Zpz (w:World) (ra:Option Addr) (rl rc:Nat) (hlen:rl≤9223372036854775807) (hraw:∀ i,i<rl→∃ (k off:Nat) (c:Int),ra=some ⟨k,off,none⟩∧k<w.heap.size∧w.cell? ⟨k,off+i,none⟩=some (.int .i64 c) ∧ -9223372036854775808≤c∧c<9223372036854775808) :
  Calls Tryz.prog 11 #[.slice ra rl rc] w fun e w'=>e = .returned (.bool true)∧Ext w w':=by
 have hE0:Ext w (w.alloc (.cells #[.slice ra rl rc,.int .i64 0] 28)):=(Ext.of (by repeat' (first | with_reducible(first|exact Qx _ _|apply Kept.drew|apply Kept.drewN|apply Qz|refine Qy ?_ ?_ _)|exact fun h=>absurd h (by simp <;> omega))))
 have HR:Hid (RawIn (w.alloc (.cells #[.slice ra rl rc,.int .i64 0] 28)) w.heap.size w.heap.size ra rl rc):=⟨0,Qe _,heap_alloc_new w _,Qm _,hlen,fun i hi=>by
  obtain ⟨k,off,c,h1,h2,h3,h4⟩:=hraw i hi
  exact ⟨k,off,c,h1,h2,(hE0.cell (p:=⟨k,off+i,none⟩) h2).trans h3,h4⟩⟩
 have HL:=Zac (Zui _ w.heap.size w.heap.size ra rl rc HR.out)
 have HE0:=Zac hE0
 clear hraw hE0 hlen
 go_enter Tryz.func11,Tryz.ntmps11
 go_wp2_with fail
 refine HL.out.mono ?_
 rintro e w1 ⟨la,lc,Ls,xs,h7,hly,hcn,rfl,hru,hK1,hR1⟩
 have HT:=Zac (Zdt w1 w.heap.size w.heap.size ra rl rc hR1 3 ⟨by omega,by omega⟩)
 have HE1:Hid (Ext w w1):=HE0.out.trans (hK1.below (by simp) (fun k e=>by have e:k=w.heap.size:=e; omega))
 have Hru:Hid (∀ u,Kept (only w.heap.size) w1 u→RulesIn u (.slice la Ls.length lc) (Ls.map (·.1)) xs):=fun u hu=>hru.keepC hR1 hu
 have Hly:=Zac hly
 have Hcn:=Zac hcn
 clear hK1 hR1 HL HR hly hcn hru HE0
 go_wp2_with fail
 refine HT.out.mono ?_
 rintro e w2 ⟨k,hk,rfl,hK2,hR2⟩
 have HA:=Zac (Zfk w2 w.heap.size w.heap.size ra rl rc hR2 k hk)
 have HK2:=Zac hK2
 have HE2:Hid (Ext w w2):=HE1.out.trans (hK2.below HE1.out.size (fun k e=>by have e:k=w.heap.size:=e; omega))
 clear hK2 hR2 HT
 go_wp2_with fail
 refine HA.out.mono ?_
 rintro e w3 ⟨x,hx,hxp,rfl,hK3,hR3⟩
 obtain ⟨cs,a,bss,hTF⟩:=Yde Ls Hly.out h7 Hcn.out x hx
 obtain ⟨qb,hqb⟩:∃ qb,qb=w3.heap.size+1:=⟨_,rfl⟩
 obtain ⟨W4,hW4⟩:∃ W4,W4=(w3.alloc (.cells #[.int .i64 x.1,.int .i64 x.2.1,.int .i64 x.2.2] 45)).alloc (.cells #[.int .i64 x.1,.int .i64 x.2.1,.int .i64 x.2.2] 45):=⟨_,rfl⟩
 have hE4:Ext w3 W4:=by rw [hW4]; exact (Ext.of (by repeat' (first | with_reducible(first|exact Qx _ _|apply Kept.drew|apply Kept.drewN|apply Qz|refine Qy ?_ ?_ _)|exact fun h=>absurd h (by simp <;> omega))))
 have HE4:Hid (Ext w W4):=Zaj (HE2.out.trans (hK3.below HE2.out.size (fun k e=>by have e:k=w.heap.size:=e; omega))) hE4
 have Hru4:Hid (∀ u,Ext W4 u→RulesIn u (.slice la (Ls.map (·.1)).length lc) (Ls.map (·.1)) xs):=fun u hu=>by
  rw [show (Ls.map (·.1)).length=Ls.length by simp]
  exact ((Hru.out w3 (HK2.out.trans hK3)).ext hE4).ext hu
 have Hat:Hid (∀ u,Ext W4 u→AtomsIn u (.slice (some ⟨qb,0,none⟩) [x].length 1) [x]):=fun u hu=>by
  have hrow:=World.ownsRow_lit (base:=0) (e:=45) (size:=3) (w3.alloc (.cells #[.int .i64 x.1,.int .i64 x.2.1,.int .i64 x.2.2] 45)) #[.int .i64 x.1,.int .i64 x.2.1,.int .i64 x.2.2] 1 (Qm _) (by simp [maxLen]) rfl
  have hA4:AtomsIn W4 (.slice (some ⟨qb,0,none⟩) [x].length 1) [x]:=⟨by rw [hW4,hqb]; simpa [atC] using hrow,fun y hy=>by simp at hy; subst hy; exact hx⟩
  exact hA4.ext hu
 have hRs:∀ r ∈ Ls.map (·.1),RlOk r:=fun r hr=>by
  obtain ⟨y,hy,rfl⟩:=List.mem_map.1 hr
  exact (Hly.out y hy).ok
 obtain ⟨RR,hRR⟩:∃ RR,RR=Ls.map (·.1):=⟨_,rfl⟩
 have hlm:RR.length=Ls.length:=by rw [hRR]; simp
 have hmm:Ls.map (fun y=>rlG y.1)=RR.map rlG:=by rw [hRR,List.map_map]; rfl
 rw [← hRR] at Hru4 hTF hRs
 rw [hmm] at hTF
 rw [← hlm]
 have h8:RR.length≤7:=by omega
 obtain ⟨SP,hSP⟩:∃ SP:ByteArray,SP=⟨(Zde (RR.map rlG)).toArray⟩:=⟨_,rfl⟩
 obtain ⟨SQ,hSQ⟩:∃ SQ:ByteArray,SQ=⟨((atG x).text++[46]).toArray⟩:=⟨_,rfl⟩
 have HRt:Hid (∀ u,Ext W4 u→Calls Tryz.prog 16 #[.slice la RR.length lc] u fun e w'=>e = .returned (.string SP)∧Ext u w'):=fun u hu=>by rw [hSP]; exact Zpj u la lc RR xs (Hru4.out u hu) (by omega)
 have HLt:Hid (∀ u,Ext W4 u→Calls Tryz.prog 17 #[.slice (some ⟨qb,0,none⟩) 1 1] u fun e w'=>e = .returned (.string SQ)∧Ext u w'):=fun u hu=>by rw [hSQ]; exact Zko u (some ⟨qb,0,none⟩) 1 [x] (Hat.out u hu) (by simp)
 rw [← hSP,← hSQ] at hTF
 have sP:SP.size≤800:=(Zej hTF.hp).1
 have sQ:SQ.size≤120:=(Zek hTF.hq).1
 have hEn:=fun u=>Ycj SP SQ u cs a (by simp only [maxLen]; omega) (by simp only [maxLen]; omega) hTF.hp hTF.hq
 obtain ⟨R,hR⟩:∃ R,R=aftN cs a 3001 3000 3002 (newN cs a) ⟨[],[],0,0⟩:=⟨_,rfl⟩
 rw [← hR] at hTF hEn
 obtain ⟨R1,T⟩:=R
 obtain ⟨t1,t2⟩:=hTF.two
 simp only at t1 t2
 unfold Yci at hEn
 obtain ⟨TR,hTR⟩:∃ TR:ByteArray,TR=⟨(Zcx a R1.status R1.found R1.tree).2.2.toArray⟩:=⟨_,rfl⟩
 simp only at hEn
 rw [← hTR] at hEn
 have HEn:=Zac hEn
 have hsm:=hTF.small
 have hbl:=hTF.bl
 have qeach:=hTF.each
 have qfind:=hTF.find
 simp only at hsm hbl qeach qfind
 obtain ⟨vs,hvs⟩:∃ vs,vs=askV [x]:=⟨_,rfl⟩
 obtain ⟨M,hM⟩:∃ M,M=Zdu RR:=⟨_,rfl⟩
 rw [← hM,← hvs] at qeach qfind
 have HFo:Hid (∀ u,Ext W4 u→Calls Tryz.prog 20 #[.slice la RR.length lc] u fun e w'=>e = .returned (.pointer (some ⟨u.heap.size,0,none⟩))∧ModelIn w' u.heap.size M∧Ext u w'):=fun u hu=>by rw [hM]; exact Zti u la lc RR xs (Hru4.out u hu) (by omega)
 have HFs:Hid (∀ u b A bs,Ext W4 u→ModelIn u b M→AnsP vs M x A bs→Calls Tryz.prog 21 #[.pointer (some ⟨b,0,none⟩),.slice (some ⟨qb,0,none⟩) 1 1,.string ⟨A.toArray⟩] u fun e w'=>e = .returned (.bool true)∧Ext u w'):=fun u b A bs hu hm hP=>by
  have:=Zug u b M hm (some ⟨qb,0,none⟩) 1 [x] (Hat.out u hu) (by simp) bs (by rw [← hvs]; exact hP.2.1) (by rw [← hvs]; exact hP.2.2)
  rw [← hvs,← hP.1] at this
  exact this
 have HVa:Hid (∀ u A bs,Ext W4 u→AnsP vs M x A bs→Calls Tryz.prog 26 #[.slice (some ⟨qb,0,none⟩) 1 1,.string ⟨A.toArray⟩] u fun e w'=>e = .returned (.tuple #[.string ⟨bs.toArray⟩,.bool true])∧Ext u w'):=fun u A bs hu hP=>by
  have:=Zoi u (some ⟨qb,0,none⟩) 1 [x] (Hat.out u hu) (by simp) bs (by rw [← hvs]; exact hP.2.1)
  rw [← hvs,← hP.1] at this
  exact this
 have HIn:Hid (∀ u n bs,Ext W4 u→bs.length=vs.length→Calls Tryz.prog 29 #[.slice (some ⟨qb,0,none⟩) 1 1,.string ⟨bs.toArray⟩,.agg #[.int .i64 (gv n 0),.int .i64 (gv n 1),.int .i64 (gv n 2)]] u (Zpx n vs bs u)):=fun u n bs hu hb=>by
  have:=Zkt u (some ⟨qb,0,none⟩) 1 [x] (Hat.out u hu) (by simp) bs (by rw [← hvs]; exact hb) n
  rw [← hvs] at this
  exact this
 have HAl:Hid (∀ u b n,Ext W4 u→ModelIn u b M→Calls Tryz.prog 28 #[.pointer (some ⟨b,0,none⟩),.slice (some ⟨qb,0,none⟩) 1 1,.agg #[.int .i64 (gv n 0),.int .i64 (gv n 1),.int .i64 (gv n 2)]] u fun e w'=>e = .returned (.bool (hAll M n [x]))∧Ext u w'):=fun u b n hu hm=>Zth u b M hm (some ⟨qb,0,none⟩) 1 [x] (Hat.out u hu) (by simp) n
 have Heach:=Zac qeach
 have Hfind:=Zac qfind
 have Hbl:=Zac hbl
 have HW4:=Zac hW4
 have Hqb:=Zac hqb
 have ht2b:((T.status:Int) != 2)=false:=by simp [t2]
 have HsE4:=Zac hE4
 clear hxp hK3 hR3 HA HK2 hRs hlm hmm hRR hSP hSQ hTF hR hTR hEn qeach qfind hbl hvs hM t1 t2 Hru Hru4 Hat hE4 hx HE1 HE2 Hly Hcn h7 hW4 hqb sP sQ
 go_wp2_with fail
 rw [← HW4.out]
 refine (HRt.out W4 (Below.refl _ _)).mono ?_
 rintro e w5 ⟨rfl,hE5⟩
 have HE5:=Zac hE5
 clear hE5 HRt
 go_wp2_with fail
 rw [← Hqb.out]
 refine (HLt.out w5 HE5.out).mono ?_
 rintro e w6 ⟨rfl,hE6⟩
 have HE6:Hid (Ext W4 w6):=Zaj HE5.out hE6
 clear hE6 HLt
 go_wp2_with fail
 refine (HEn.out _).mono ?_
 rintro e w7 ⟨hE7,aa,ac,wa,wc,rfl,ha7,hw7⟩
 obtain ⟨V,hV⟩:∃ V,V=w7.alloc (.cells #[.slice aa T.ans.length ac,.slice wa T.wts.length wc,.int .i64 T.tries,.int .i64 T.status,.string TR] 49):=⟨_,rfl⟩
 have hEV:Ext w7 V:=by rw [hV]; exact (Ext.of (by repeat' (first | with_reducible(first|exact Qx _ _|apply Kept.drew|apply Kept.drewN|apply Qz|refine Qy ?_ ?_ _)|exact fun h=>absurd h (by simp <;> omega))))
 have hbV:V.heap[w7.heap.size]?=some (.cells #[.slice aa T.ans.length ac,.slice wa T.wts.length wc,.int .i64 T.tries,.int .i64 T.status,.string TR] 49 (0,0)):=by rw [hV]; exact heap_alloc_new w7 _
 have HTr:Hid (∀ u,Ext V u→u.heap[w7.heap.size]?=some (.cells #[.slice aa T.ans.length ac,.slice wa T.wts.length wc,.int .i64 T.tries,.int .i64 T.status,.string TR] 49 (0,0))∧u.ownsRow 0 9 1 (.slice aa T.ans.length ac) T.ans.length (strs T.ans)):=fun u hu=>⟨(hu.block _ (Zab hbV)).trans hbV,Zal (Zbd ha7 (Qm _)) (fun k hk=>((Zaj hEV hu).block k (ha7.lt k hk).2))⟩
 have HEV:Hid (Ext W4 V):=Zaj HE6.out (Zaj hE7 hEV)
 have HV:=Zac hV
 obtain ⟨bt,hbt⟩:∃ bt,bt=w7.heap.size:=⟨_,rfl⟩
 rw [← hbt] at HTr hbV
 have Hbt:=Zac hbt
 obtain ⟨z0,z1,z2,z3,z4,zf⟩:=Yin hbV
 have zl:=Zab hbV
 clear hE7 ha7 hw7 hEV hbV hV HEn HE5 HE6 hbt
 go_wp2_with fail
 rw [← HV.out,← Hbt.out]
 refine (HFo.out V HEV.out).mono ?_
 rintro e U ⟨rfl,hMU,hEU⟩
 obtain ⟨mb,hmb⟩:∃ mb,mb=V.heap.size:=⟨_,rfl⟩
 rw [← hmb] at hMU ⊢
 have HMU:Hid (∀ u,Ext U u→ModelIn u mb M∧Ext W4 u∧Ext V u):=fun u hu=>⟨hMU.ext hu,Zaj HEV.out (Zaj hEU hu),Zaj hEU hu⟩
 have HEW:Hid (Ext w U):=Zaj HE4.out (Zaj HEV.out hEU)
 clear hMU hEU hmb HFo z0 z1 z2 z3 z4 zf zl
 go_wp2
 go_loopw [13,14] (fun fv i u=>∃ (j:Nat) (fa:Option Addr) (fc:Nat),j≤T.ans.length∧i = .int .i64 j∧fv = .slice fa j fc∧u.ownsRow U.heap.size 9 1 (.slice fa j fc) j (strs (bss.take j))∧Ext U u) (fun _ i _=>T.ans.length - (intOf i).toNat)
 case atStart=>exact ⟨0,none,0,Qm _,rfl,rfl,World.ownsRow_nil _ _ _ _,Below.refl _ _⟩
 case round =>
  obtain ⟨j,fa,fc,hj,rfl,rfl,hrow,hEu⟩:=hrel
  obtain ⟨q1,q2,q3⟩:=HMU.out wr hEu
  obtain ⟨tb,ta⟩:=HTr.out wr q3
  obtain ⟨z0,z1,z2,z3,z4,zf⟩:=Yin tb
  have zl:=Zab tb
  have Hrow:=Zac hrow
  have HEu:=Zac hEu
  by_cases hlt:j<T.ans.length
  ·obtain ⟨A,hA⟩:∃ A,T.ans[j]?=some A:=⟨_,Qb hlt⟩
   obtain ⟨bs,hbs⟩:∃ bs,bss[j]?=some bs:=⟨_,Qb (by rw [Hbl.out]; exact hlt)⟩
   have hP:=Heach.out j A bs hA hbs
   obtain ⟨ga,hga,hgl,zc⟩:∃ ga,aa=some ⟨ga,0,none⟩∧ga<wr.heap.size∧wr.cell? ⟨ga,j,none⟩=some (.string ⟨A.toArray⟩):=by
    rcases ta.2 with ⟨h1,h2⟩ | ⟨ga,cap,cur,h1,_⟩
    ·omega
    ·simp only [Value.slice.injEq] at h1
     obtain ⟨rfl,_,rfl⟩:=h1
     exact ⟨ga,rfl,(ta.lt ga rfl).2,Zag ta _ _ (Zpy hA)⟩
   subst hga
   have HC1:=Zac (HFs.out wr mb A bs q2 q1 hP)
   have HC2:Hid (∀ u,Ext U u→Calls Tryz.prog 26 #[.slice (some ⟨qb,0,none⟩) 1 1,.string ⟨A.toArray⟩] u fun e w'=>e = .returned (.tuple #[.string ⟨bs.toArray⟩,.bool true])∧Ext u w'):=fun u hu=>HVa.out u A bs (HMU.out u hu).2.1 hP
   have Htk:Hid (strs (bss.take (j+1))=strs (bss.take j)++[.string ⟨bs.toArray⟩]):=Zac (by unfold strs; rw [List.take_add_one,hbs]; simp)
   have hA2:=hA
   clear hrow hEu q1 q2 q3 tb ta hP hbs
   go_wp2_with fail
   refine HC1.out.mono ?_
   rintro e u1 ⟨rfl,hF1⟩
   have HF1:Hid (Ext U u1):=Zaj HEu.out hF1
   have HX1:=Zac hF1
   obtain ⟨_,_,q3⟩:=HMU.out u1 HF1.out
   obtain ⟨tb,ta⟩:=HTr.out u1 q3
   obtain ⟨y0,y1,y2,y3,y4,yf⟩:=Yin tb
   have yl:=Zab tb
   have yc:=Zag ta _ _ (Zpy hA2)
   have ygl:=(ta.lt ga rfl).2
   clear hF1 z0 z1 z2 z3 z4 zf zl zc hgl q3 tb ta hA hA2 HC1
   go_wp2_with fail
   refine (HC2.out u1 HF1.out).mono ?_
   rintro e u2 ⟨rfl,hF2⟩
   have HF2:Hid (Ext U u2):=Zaj HF1.out hF2
   have HX2:Hid (Ext wr u2):=Zaj HX1.out hF2
   have Hr2:Hid (u2.ownsRow U.heap.size 9 1 (.slice fa j fc) j (strs (bss.take j))):=Zal Hrow.out (fun k hk=>HX2.out.block k (Hrow.out.lt k hk).2)
   have hUs:U.heap.size≤u2.heap.size:=HF2.out.size
   clear hF2 y0 y1 y2 y3 y4 yf yl yc ygl HC2
   go_wp2_with (at_builtin; go_loud (refine Zam u2 rfl (.tmp 82) (.tmp 84) 47 rfl U.heap.size 9 Tryz.infoStr Tryz.underlying47 rfl (by decide) (.slice fa j fc) j (strs (bss.take j)) rfl Hr2.out #[.string ⟨bs.toArray⟩] (N:=u2.heap.size) rfl rfl rfl (by simp [Value.oneCell']) ?_ ?_ ?_))
   ·omega
   ·omega
   intro v4 w8 hA4
   obtain ⟨a4,c4,rfl⟩:=Zad hA4.owns
   have Hend:Hid (w8.ownsRow U.heap.size 9 1 (.slice a4 (j+1) c4) (j+1) (strs (bss.take (j+1)))∧Ext U w8):=by
    have k1:Ext U u2:=HF2.out
    refine ⟨by rw [Htk.out]; exact hA4.owns,?_⟩
    exact ⟨hA4.kept.os.trans k1.os,hA4.kept.tape.trans k1.tape,hA4.kept.output.trans k1.output,Qq k1.size hA4.kept.size,fun i hi=>(hA4.kept.block i (by omega) (fun e=>by have:=(Hr2.out.lt i e).1; omega)).trans (k1.block i hi)⟩
   clear hA4
   go_wp2
   exact ⟨⟨j+1,a4,c4,by omega,by go_num,rfl,Hend.out.1,Hend.out.2⟩,by simp [intOf]; omega⟩
  ·obtain rfl:j=T.ans.length:=by omega
   have Hf:Hid (strs (bss.take T.ans.length)=strs bss):=Zac (by rw [← Hbl.out,List.take_length])
   clear hrow hEu q1 q2 q3 tb ta
   go_wp2
   obtain ⟨Y,hY⟩:∃ Y,Y=wr:=⟨_,rfl⟩
   rw [← hY] at Hrow HEu ⊢
   have HrY:Hid (∀ u,Ext Y u→u.ownsRow U.heap.size 9 1 (.slice fa T.ans.length fc) T.ans.length (strs bss)):=fun u hu=>by
    have h1:=Hrow.out
    rw [Hf.out] at h1
    exact Zal h1 (fun k hk=>hu.block k (h1.lt k hk).2)
   clear z0 z1 z2 z3 z4 zf zl hY Hrow
   clear wr
   go_loopw [18] (fun i u=>∃ n:Nat,n≤27∧i = .int .i64 n∧Ext Y u) (fun i _=>27 - (intOf i).toNat)
   case atStart=>exact ⟨0,by omega,rfl,Below.refl _ _⟩
   case round =>
    obtain ⟨n,hn,rfl,hEn2⟩:=hrel
    have HEn2:=Zac hEn2
    clear hEn2
    by_cases hn27:n<27
    ·have HGv:=Zac (Zmi n hn27 wr)
     unfold gval at HGv
     have hnd:decide ((n:Int)<27)=true:=by simp only [decide_eq_true_eq]; omega
     go_wp2_with fail
     refine HGv.out.mono ?_
     rintro e x1 ⟨rfl,hx1⟩
     obtain ⟨X,hX⟩:∃ X,X=x1.alloc (.cells #[.int .i64 (gv n 0),.int .i64 (gv n 1),.int .i64 (gv n 2)] 56):=⟨_,rfl⟩
     have HXe:Hid (Ext Y X):=Zaj HEn2.out (Zaj hx1 (by rw [hX]; exact (Ext.of (by repeat' (first | with_reducible(first|exact Qx _ _|apply Kept.drew|apply Kept.drewN|apply Qz|refine Qy ?_ ?_ _)|exact fun h=>absurd h (by simp <;> omega))))))
     have HB:Hid (X.heap[x1.heap.size]?=some (.cells #[.int .i64 (gv n 0),.int .i64 (gv n 1),.int .i64 (gv n 2)] 56 (0,0))):=by rw [hX]; exact heap_alloc_new _ _
     have HX:=Zac hX
     clear hx1 hX
     go_wp2_with fail
     rw [← HX.out]
     obtain ⟨m1,m2,_⟩:=HMU.out X (Zaj HEu.out HXe.out)
     refine (HAl.out X mb n m2 m1).mono ?_
     rintro e x2 ⟨rfl,hx2⟩
     have HX2:Hid (Ext Y x2):=Zaj HXe.out hx2
     have HB2:Hid (∀ u,Ext x2 u→u.cell? ⟨x1.heap.size,0,none⟩=some (.int .i64 (gv n 0))∧u.cell? ⟨x1.heap.size,1,none⟩=some (.int .i64 (gv n 1))∧u.cell? ⟨x1.heap.size,2,none⟩=some (.int .i64 (gv n 2))∧(∀ i,u.frozen? ⟨x1.heap.size,i,none⟩=false)∧x1.heap.size<u.heap.size):=fun u hu=>by
      have b1:=((Zaj hx2 hu).block _ (Zab HB.out)).trans HB.out
      exact ⟨Zaa b1 0 _ rfl,Zaa b1 1 _ rfl,Zaa b1 2 _ rfl,fun i=>Zae b1 i,Zab b1⟩
     obtain ⟨hd,hhd⟩:∃ hd,hd=hAll M n [x]:=⟨_,rfl⟩
     rw [← hhd]
     have Hhd:Hid (hd=true→∃ bs ∈ bss,Zib n vs bs):=fun e=>Hfind.out n hn27 (by rw [← hhd]; exact e)
     clear hx2 hhd m1 m2
     go_wp2
     go_loopw [21,22] (fun bv i u=>∃ (j:Nat) (ib:Bool),j≤T.ans.length∧i = .int .i64 j∧bv = .bool ib∧(ib=true↔∃ bs ∈ bss.take j,Zib n vs bs)∧Ext x2 u) (fun _ i _=>T.ans.length - (intOf i).toNat)
     case atStart=>exact ⟨0,false,Qm _,rfl,rfl,by simp,Below.refl _ _⟩
     case round =>
      obtain ⟨j,ib,hj,rfl,rfl,hib,hEj⟩:=hrel
      have Hib:=Zac hib
      have HEj:=Zac hEj
      clear hib
      by_cases hjl:j<T.ans.length
      ·obtain ⟨bs,hbs⟩:∃ bs,bss[j]?=some bs:=⟨_,Qb (by rw [Hbl.out]; exact hjl)⟩
       obtain ⟨A,hA⟩:∃ A,T.ans[j]?=some A:=⟨_,Qb hjl⟩
       have hlen:=(Heach.out j A bs hA hbs).2.1
       have hrj:=HrY.out wr (Zaj HX2.out hEj)
       obtain ⟨gf,hgf,hgl,zc⟩:∃ gf,fa=some ⟨gf,0,none⟩∧gf<wr.heap.size∧wr.cell? ⟨gf,j,none⟩=some (.string ⟨bs.toArray⟩):=by
        rcases hrj.2 with ⟨h1,h2⟩ | ⟨gf,cap,cur,h1,_⟩
        ·omega
        ·simp only [Value.slice.injEq] at h1
         obtain ⟨rfl,_,rfl⟩:=h1
         exact ⟨gf,rfl,(hrj.lt gf rfl).2,Zag hrj _ _ (Zpy hbs)⟩
       subst hgf
       obtain ⟨p0,p1,p2,pf,l1⟩:=HB2.out wr hEj
       have HC:Hid (∀ u,Ext wr u→Calls Tryz.prog 29 #[.slice (some ⟨qb,0,none⟩) 1 1,.string ⟨bs.toArray⟩,.agg #[.int .i64 (gv n 0),.int .i64 (gv n 1),.int .i64 (gv n 2)]] u (Zpx n vs bs u)):=fun u hu=>HIn.out u n bs (HMU.out u (Zaj HEu.out (Zaj HX2.out (Zaj HEj.out hu)))).2.1 hlen
       have Htk:Hid ((∃ b ∈ bss.take (j+1),Zib n vs b)↔((∃ b ∈ bss.take j,Zib n vs b)∨Zib n vs bs)):=by
        show _↔_
        rw [List.take_add_one,hbs]
        constructor
        ·rintro ⟨b,hb,hi⟩
         rcases Qk.1 hb with hb | hb
         ·exact Or.inl ⟨b,hb,hi⟩
         ·simp at hb
          subst hb
          exact Or.inr hi
        ·rintro (⟨b,hb,hi⟩ | hi)
         ·exact ⟨b,List.mem_append_left _ hb,hi⟩
         ·exact ⟨bs,by simp,hi⟩
       obtain ⟨BS,hBS⟩:∃ BS:ByteArray,BS=⟨bs.toArray⟩:=⟨_,rfl⟩
       rw [← hBS] at HC zc
       clear hEj hbs hA hlen hrj hBS
       go_wp2_with fail
       refine Zds (by kernel_rfl) [.pur (.slice (some ⟨qb,0,none⟩) 1 1),.pur (.slice (some ⟨gf,0,none⟩) T.ans.length fc),.pur (.int .i64 j),.pur (.pointer (some ⟨gf,j,none⟩)),.pur (.string BS),.pur (.agg #[.int .i64 (gv n 0),.int .i64 (gv n 1),.int .i64 (gv n 2)]),.cal,.post (fun z=>z)] 6 8 (by kernel_rfl)
        (fun z u=>∃ r:Bool,z = .bool r∧(r=true↔Zib n vs bs)∧Ext wr u) (fun z u=>∃ r:Bool,z = .bool r∧(r=true↔Zib n vs bs)∧Ext wr u) 29 #[.slice (some ⟨qb,0,none⟩) 1 1,.string BS,.agg #[.int .i64 (gv n 0),.int .i64 (gv n 1),.int .i64 (gv n 2)]] ?_ ?_ rfl (by decide) (Or.inr ⟨by decide,fun _ _ h=>h⟩) ?_
       ·refine (HC.out _ (Zdr (Below.refl _ _))).mono ?_
        rintro e u ⟨r,rfl,hr,he⟩
        exact ⟨_,rfl,r,rfl,hr,Zaj (Zdr (Below.refl _ _)) he⟩
       ·refine ⟨fun vc => ?_,fun vc => ?_,fun vc => ?_,fun vc => ?_,fun vc => ?_,fun vc => ?_,fun vc => ?_,?_,trivial⟩
        all_goals try (simp [pa,Kd.val,go_sem,p0,p1,p2,pf,l1,zc,hgl,hjl]; done)
        all_goals
         intro vc u hR
         simp [pa,Kd.val,go_sem]
       rintro vv w9 ⟨r,rfl,hr,hE9⟩
       have Hr:=Zac hr
       have HE9:Hid (Ext x2 w9):=Zaj HEj.out hE9
       clear hE9 hr zc p0 p1 p2 pf l1 hgl
       simp only [paAll,pa,Kd.val,if_true,Act.put,List.setIfInBounds_toArray,List.set_cons_succ,List.set_cons_zero]
       cases ib with
       | true =>
        go_wp2
        exact ⟨⟨j+1,true,by omega,by go_num,rfl,by rw [Htk.out]; exact ⟨fun _=>Or.inl (Hib.out.1 rfl),fun _=>rfl⟩,HE9.out⟩,by simp [intOf]; omega⟩
       | false =>
        go_wp2
        refine ⟨⟨j+1,r,by omega,by go_num,rfl,?_,HE9.out⟩,by simp [intOf]; omega⟩
        rw [Htk.out,Hr.out]
        constructor
        ·exact fun h=>Or.inr h
        ·rintro (h | h)
         ·exact absurd (Hib.out.2 h) (by simp)
         ·exact h
      ·obtain rfl:j=T.ans.length:=by omega
       have Hin:Hid (hd=true→ib=true):=fun e=>Hib.out.2 (by
        obtain ⟨b,hb,hi⟩:=Hhd.out e
        exact ⟨b,by rw [← Hbl.out,List.take_length]; exact hb,hi⟩)
       have HEz:Hid (Ext Y wr):=Zaj HX2.out HEj.out
       clear hEj
       cases hd with
       | false =>
        go_wp2
        exact ⟨⟨n+1,by omega,by go_num,HEz.out⟩,by simp [intOf]; omega⟩
       | true =>
        obtain rfl:ib=true:=Hin.out rfl
        go_wp2
        exact ⟨⟨n+1,by omega,by go_num,HEz.out⟩,by simp [intOf]; omega⟩
    ·obtain rfl:n=27:=by omega
     go_wp2
     go_ret
     exact ⟨rfl,Zaj HEW.out (Zaj HEu.out HEn2.out)⟩
end Go.Proofs.YtlmjilpjmgjjcaaGreatDoor
namespace Go.Proofs.YtlmjilpjmgjjcaaGreatDoor
open Go.ChangeShapes Go.WideShapes Go.ChangeAt Go.WideMaps Go.WideElems Go.RowKit
theorem own_k:ownKnob Tryz.prog.godebug=none:=by kernel_rfl
theorem Ydg:laidOutB Tryz.prog=true:=by kernel_rfl
theorem Zyp:Tryz.prog.cellsOf 3=1:=by kernel_rfl
theorem Yjt {W:World} {a:Addr} {j:Nat} {v:Value} (h:W.cell? (a.add j)=some v) (hs:a.spot=none):W.cell? ⟨a.block,a.off+j,none⟩=some v:=by
 have e:a.add j=⟨a.block,a.off+j,none⟩:=by
  unfold Addr.add
  obtain ⟨b,o,s⟩:=a
  simp only at hs
  subst hs
  split
  ·rename_i h0; subst h0; rfl
  ·rfl
 rwa [e] at h
theorem Yju {W:World} {a:Addr} {v:Value} (h:W.cell? a=some v):a.spot=none:=by
 unfold World.cell? at h
 split at h
 ·split at h
  ·cases h
  ·rename_i h1; cases hs:a.spot with
   | none=>rfl
   | some _=>rw [hs] at h1; simp at h1
 ·cases h
theorem Yio {H:Type} {enc:TypeId × Value→H} {W:World} {a0:Option Addr} {len cap:Nat} {d:DataW H} {ps:List MemPlace}
  (h:DataW.Trod enc Tryz.prog W 0 (fun _=>true) true 25 (.slice a0 len cap) d ps):len≤9223372036854775807∧∀ i,i<len→∃ (k off:Nat) (c:Int),a0=some ⟨k,off,none⟩∧k<W.heap.size∧W.cell? ⟨k,off+i,none⟩=some (.int .i64 c) ∧ -9223372036854775808≤c∧c<9223372036854775808:=by
 obtain ⟨fuel,hf⟩:=h
 rcases Deep.open_slice1 Tryz.underlying25 Zyp hf with ⟨hcs,_⟩ | ⟨a,l,c,m,n,V,D,Pl,hcs,_,hl,hm,hmm,_,hall⟩
 ·simp [Value.cells] at hcs
  obtain ⟨rfl,rfl,rfl⟩:=hcs
  exact ⟨by omega,fun k hk=>absurd hk (by omega)⟩
 ·simp [Value.cells] at hcs
  obtain ⟨rfl,rfl,rfl⟩:=hcs
  simp only [maxLen] at hm
  refine ⟨by omega,fun i hi => ?_⟩
  obtain ⟨hc,ht⟩:=hall i (by rw [hmm]; simp; omega)
  obtain ⟨z,h1,_,h3⟩:=DataW.trod_int Tryz.underlying3 ht
  simp at h1
  rw [h1] at hc
  have hsp:a.spot=none:=by
   obtain ⟨hc0,_⟩:=hall 0 (by rw [hmm]; simp; omega)
   have:=Yju hc0
   simpa [Addr.add] using this
  have hblk:a.block<W.heap.size:=by
   obtain ⟨hc0,_⟩:=hall 0 (by rw [hmm]; simp; omega)
   have:=World.block_lt_of_cell? W _ hc0
   simpa [Addr.add] using this
  have h4:(decide (IntKind.min .i64≤z) && decide (z≤IntKind.max .i64))=true:=h3
  rw [Bool.and_eq_true,decide_eq_true_eq,decide_eq_true_eq,show IntKind.min .i64 = -9223372036854775808 from rfl,show IntKind.max .i64=9223372036854775807 from rfl] at h4
  refine ⟨a.block,a.off,z,?_,hblk,Yjt hc hsp,by omega,by omega⟩
  obtain ⟨b,o,sp⟩:=a
  simp only at hsp
  subst hsp
  rfl
theorem Zqa (os:Os) (args:Array Value):laidMetH Tryz.prog Rows.completeRow.laid ((World.doorLaid Tryz.prog 400 os).forCall (fun _ _=>0) ⟨#[],args,[]⟩).memory :=
 laidMetH_of_parts3 (fuel:=8) (laidMet_of_run' 8 (by kernel_rfl) (by kernel_rfl)) (by kernel_rfl) (by kernel_rfl)
set_option maxRecDepth 100000 in
theorem Zmv (os:Os) (started:os.Started) (H:Type) (enc:TypeId × Value→H) :
  ReturnsInHanded {} Tryz.checked os 11 .any (fun w args=>(Rows.completeSpec.pre enc Tryz.prog Tryz.f11 [] false w args∧laidMetH Tryz.prog Rows.completeRow.laid w)∧sizedMet enc Tryz.prog Tryz.f11 (OpenSpec.ofChange Rows.completeSpec) false w args)
   (Rows.completeSpec.post enc Tryz.prog Tryz.f11 false true false false):=by
 refine returnsInHanded_of_change_and (C:=Tryz.checked) (X:=fun w _=>laidMetH Tryz.prog Rows.completeRow.laid w) (fun _ _ _ hh h=>h.of_heap hh) own_k started (by kernel_rfl) Tryz.func11
  (ChangeSpec.witness_shaped (enc:=enc) (C:=Tryz.checked) (os:=os) (X:=fun w _=>laidMetH Tryz.prog Rows.completeRow.laid w) false (World.doorLaid Tryz.prog 400 os) #[.slice none 0 0] 8 rfl (World.shaped_of_RefB (by kernel_rfl) (by kernel_rfl)) (by kernel_rfl) (by kernel_rfl) (by kernel_rfl) (Zqa os _)) ?_
 intro W base args ds gs before hval0 hW _ _ hL _
 have hval:∀ (j:Nat) t v,Tryz.f11.params[j]?=some t→args[j]?=some v→Value.okWide Tryz.prog W .any base t v:=hval0
 have hW':=hW
 obtain ⟨p,q,hA0,hV,rfl,hfz,hnd⟩:=hW
 have hA:DataW.TrodAll enc Tryz.prog W 0 (fun _=>true) true Tryz.f11.params.toList args.toList ds p:=hA0
 rw [Tryz.params11] at hA hval
 obtain ⟨v0,d0,rfl,rfl,h0⟩:=trodAll_one hA
 obtain ⟨rfl,rfl⟩:=trodVars_none hV
 have lt0:∀ x ∈ p,x.block<W.heap.size:=by obtain ⟨m,hm⟩:=h0; exact DataW.trod_lt m _ _ _ hm
 obtain ⟨a0,len0,cap0,rfl⟩:=okWide_slice Tryz.underlying25 (hval 0 25 v0 rfl rfl)
 obtain ⟨hlen,hints⟩:=Yio h0
 clear hA0 hval0
 refine (Zpz W a0 len0 cap0 hlen hints).mono fun e W' ⟨he,bel⟩ => ?_
 subst he
 exact ⟨_,rfl,_,_,_,[],_,[],hW',trodAll_mk1 (shut_bool Tryz.underlying4 _),trodAll_mk1 (Below.trod Ydg (by kernel_rfl) (of_decide_eq_true (by kernel_rfl)) h0 bel lt0),rfl,bel.frame _,fun h=>by cases h⟩
theorem Zsj:Rows.CompleteSaid :=
 OpenClaim.holds_of_wide 11 Tryz.f11 rfl rfl rfl rfl rfl rfl rfl ⟨rfl,rfl,rfl,rfl,rfl⟩ rfl rfl rfl rfl rfl (by kernel_rfl) Tryz.func11 (by kernel_rfl)
  (of_decide_eq_true (by kernel_rfl)) (by unfold Func.isWrapper; first | (rw [if_pos (by decide +kernel)]; kernel_rfl) | (rw [if_neg (by decide +kernel)]; exact ⟨rfl,rfl⟩))
  (fun os started H enc _=>Zmv os started H enc)
theorem complete_hold:Rows.CompleteCardSaid :=
 Claim7.holds_tied_plain_at .later [] [.data,.data,.data] true Rows.completeCard.stood.harness false
  Zsj (fun _ h=>by cases h) (by kernel_rfl) (fun _ h=>by cases h) complete_row_tie rfl ⟨rfl,rfl⟩ (by kernel_rfl) rfl
  (fun f fn hf hfn=>by
   obtain rfl:f=11:=Option.some.inj ((show Tryz.prog.funcNamed Tryz.f11.name=some 11 by kernel_rfl).symm.trans hf) |>.symm
   obtain rfl:fn=Tryz.f11:=(Option.some.inj (Tryz.func11.symm.trans hfn)).symm
   exact ⟨by kernel_rfl,fun j t ht=>by
    rw [Tryz.params11] at ht
    have hm:t ∈ [25]:=by simpa using Array.mem_of_getElem? ht
    have hall:([25].all fun u => !Tryz.prog.wantsStandIn u)=true:=by kernel_rfl
    exact (show Tryz.prog.wantsStandIn t=false by simpa using List.all_eq_true.1 hall t hm)⟩)
  (by kernel_rfl)
end Go.Proofs.YtlmjilpjmgjjcaaGreatDoor
