/-
  PROVED HERE: what the program's method 'makeTry' of a search does (the conditions stand in each statement).
-/
import Derived.Test.YtlmjilpjmgjjcaaGreatDoorT12
import Derived.Deep.QuietTactic
import Derived.BigQuiet
set_option linter.unusedSimpArgs false
set_option linter.unusedVariables false
set_option maxRecDepth 20000
set_option maxHeartbeats 16000000
namespace Go.Proofs.YtlmjilpjmgjjcaaGreatDoor
open Go.RowKit
theorem Tryz.infoDue:(Tryz.prog.info? 250).map (fun i=>(i.zero,i.size,i.bytes))=some (some (.agg #[.slice none 0 0,.slice none 0 0,.slice none 0 0,.slice none 0 0,.int .i64 0,.int .i64 0]),6,112):=by kernel_rfl
theorem Yde {a0 a1 a2 a3:Option Addr} {l0 l1 l2 l3 c0 c1 c2 c3:Nat} {v k:Int}:∀ u ∈ (#[Value.slice a0 l0 c0,.slice a1 l1 c1,.slice a2 l2 c2,.slice a3 l3 c3,.int .i64 v,.int .i64 k]:Array Value).toList,u.oneCell'=true:=by
 intro u hu;simp at hu;rcases hu with rfl | rfl | rfl | rfl | rfl | rfl <;> rfl
theorem NodeAt.one {X:Nat->Prop} {w:World} {m0 m1 m2 m3 m4:Value} {n0:ND} (h:NodeAt X w m0 m1 m2 m3 m4 n0):m0.oneCell'=true/\m1.oneCell'=true/\m2.oneCell'=true/\m3.oneCell'=true/\m4.oneCell'=true:=by
 obtain ⟨h0a,h0c,h1a,h1l,h1c,h2a,h2l,h2c,h3a,h3l,h3c,h4,rfl,rfl,rfl,rfl,rfl⟩:=h.len;exact ⟨rfl,rfl,rfl,rfl,rfl⟩
theorem RowD.one {X:Nat->Prop} {w:World} {B:Nat} {dv:Value} {ds:List (ND × Nat)} {xs:List Value} (h:RowD X w B dv ds xs):∀ u ∈ xs,u.oneCell'=true:=by
 intro u hu;obtain ⟨j,hj,rfl⟩:=List.getElem_of_mem hu;have hl:=h.owns.1;have hi:j / 6<ds.length:=by omega
 obtain ⟨m0,m1,m2,m3,m4,x0,x1,x2,x3,x4,x5,g⟩:=h.all (j / 6) _ (List.getElem?_eq_getElem hi);obtain ⟨o0,o1,o2,o3,o4⟩:=g.one;have key:∀ {i:Nat} {v:Value},i=j->xs[i]?=some v->v.oneCell'=true->xs[j].oneCell'=true:=by
  intro i v e hv ho;subst e;rw [(List.getElem?_eq_some_iff.1 hv).2]; exact ho
 have hm:j % 6=0\/j % 6=1\/j % 6=2\/j % 6=3\/j % 6=4\/j % 6=5:=by omega
 rcases hm with e | e | e | e | e | e
 ·exact key (by omega) x0 o0
 ·exact key (by omega) x1 o1
 ·exact key (by omega) x2 o2
 ·exact key (by omega) x3 o3
 ·exact key (by omega) x4 o4
 ·exact key (by omega) x5 rfl
theorem RowD.step {X:Nat->Prop} {w w':World} {B:Nat} {cv cv':Value} {ds:List (ND × Nat)} {xs:List Value} {m0 m1 m2 m3 m4:Value} {n:ND} {k:Nat} (h:RowD X w B cv ds xs) (hn:NodeAt X w m0 m1 m2 m3 m4 n) (ha:Appended w B 250 6 cv (ds.length+1) (xs++[m0,m1,m2,m3,m4,.int .i64 k]) cv' w') :
  RowD X w' B cv' (ds++[(n,k)]) (xs++[m0,m1,m2,m3,m4,.int .i64 k]):=by
 have hS:∀ j,Zas cv j->∃ cl t fr,w.heap[j]?=some (.cells cl t fr)/\t≠183/\t≠200/\t≠3:=fun j hj=>by
  rcases h.owns.2 with ⟨rfl,_⟩ | ⟨g,cap,cur,rfl,_,hg,_⟩
  ·simp [Zas,Value.ownBlock] at hj
  ·simp [Zas,Value.ownBlock] at hj;subst hj;exact ⟨_,_,_,hg,by decide,by decide,by decide⟩
 have hxl:=h.owns.1;refine ⟨by simpa using ha.owns,fun i d hd => ?_⟩;rcases Nat.lt_or_ge i ds.length with hi | hi
 ·rw [List.getElem?_append_left hi] at hd;obtain ⟨p0,p1,p2,p3,p4,x0,x1,x2,x3,x4,x5,g⟩:=h.all i d hd;exact ⟨p0,p1,p2,p3,p4,by rw [List.getElem?_append_left (by omega)]; exact x0,by rw [List.getElem?_append_left (by omega)]; exact x1,by rw [List.getElem?_append_left (by omega)]; exact x2,by rw [List.getElem?_append_left (by omega)]; exact x3,by rw [List.getElem?_append_left (by omega)]; exact x4,by rw [List.getElem?_append_left (by omega)]; exact x5,g.keep ha.kept hS⟩
 ·have e:i=ds.length:=by
   have:=(List.getElem?_eq_some_iff.1 hd).1;simp at this; omega
  subst e;rw [List.getElem?_append_right (Nat.le_refl _)] at hd;simp at hd;subst hd;exact ⟨m0,m1,m2,m3,m4,by rw [List.getElem?_append_right (by omega)]; simp [hxl],by rw [List.getElem?_append_right (by omega),show ds.length * 6+1 - xs.length=1 by omega]; rfl,by rw [List.getElem?_append_right (by omega),show ds.length * 6+2 - xs.length=2 by omega]; rfl,by rw [List.getElem?_append_right (by omega),show ds.length * 6+3 - xs.length=3 by omega]; rfl,by rw [List.getElem?_append_right (by omega),show ds.length * 6+4 - xs.length=4 by omega]; rfl,by rw [List.getElem?_append_right (by omega),show ds.length * 6+5 - xs.length=5 by omega]; rfl,hn.keep ha.kept hS⟩
theorem RowD.on0 {X:Nat->Prop} {w w':World} {B B':Nat} {dv cv':Value} {ds:List (ND × Nat)} {xs:List Value} (h:RowD X w B' dv ds xs) (ha:Appended w B 250 6 (.slice none 0 0) ds.length xs cv' w'):RowD X w' B cv' ds xs:=by
 refine ⟨ha.owns,fun i d hd => ?_⟩;obtain ⟨m0,m1,m2,m3,m4,x0,x1,x2,x3,x4,x5,g⟩:=h.all i d hd;exact ⟨m0,m1,m2,m3,m4,x0,x1,x2,x3,x4,x5,g.keep ha.kept (fun j hj=>by simp [Zas,Value.ownBlock] at hj)⟩
theorem box6 {w:World} {b:Nat} {u0 u1 u2 u3 u4 u5:Value} {t:TypeId} (h:w.heap[b]?=some (.cells #[u0,u1,u2,u3,u4,u5] t (0,0))) :
  w.cell? ⟨b,0,none⟩=some u0/\w.cell? ⟨b,1,none⟩=some u1/\w.cell? ⟨b,2,none⟩=some u2/\w.cell? ⟨b,3,none⟩=some u3/\w.cell? ⟨b,4,none⟩=some u4/\w.cell? ⟨b,5,none⟩=some u5/\∀ i,w.frozen? ⟨b,i,none⟩=false :=
 ⟨Zab h 0 _ rfl,Zab h 1 _ rfl,Zab h 2 _ rfl,Zab h 3 _ rfl,Zab h 4 _ rfl,Zab h 5 _ rfl,fun i=>Zae h i⟩
def Znp (t:TypeId):Prop:=t=183\/t=200\/t=3\/t=250\/t=185\/t=9
def OffRef (S:Nat->Prop) (w:World):Prop:=∀ k,S k->∃ cl t fr,w.heap[k]?=some (.cells cl t fr)/\¬ Znp t
theorem OffRef.own {S:Nat->Prop} {w w':World} {B:Nat} {e:TypeId} {size n:Nat} {v:Value} {xs:List Value} (hS:OffRef S w) (he:Znp e) (hk:Kept S w w') (h:w.ownsRow B e size v n xs):w'.ownsRow B e size v n xs :=
 Zan h (fun k hj=>hk.block k (h.lt k hj).2 (fun hs=>by
  obtain ⟨cl,t,fr,h1,h2⟩:=hS k hs;rcases h.2 with ⟨rfl,_⟩ | ⟨g,cap,cur,rfl,_,hg,_⟩
  ·simp [Zas,Value.ownBlock] at hj
  ·simp [Zas,Value.ownBlock] at hj;subst hj;rw [hg] at h1;simp at h1;exact h2 (h1.2.1 ▸ he)))
theorem OffRef.terms {S X:Nat->Prop} {w w':World} (hS:OffRef S w) (hk:Kept S w w'):∀ k,k<w.heap.size->¬ X k->Zef w k->w'.heap[k]?=w.heap[k]?/\¬ X k:=fun k h1 h2 h3=>⟨hk.block k h1 (fun hs=>by
  obtain ⟨cl,t,fr,g1,g2⟩:=hS k hs;obtain ⟨cur,h3⟩:=h3;rw [g1] at h3;simp at h3;exact g2 (Or.inl h3.2.1)),h2⟩
theorem OffRef.node {S X:Nat->Prop} {w w':World} (hS:OffRef S w) (hk:Kept S w w') {m0 m1 m2 m3 m4:Value} {n0:ND} (h:NodeAt X w m0 m1 m2 m3 m4 n0):NodeAt X w' m0 m1 m2 m3 m4 n0 :=
 h.keep hk (fun k hs=>by
  obtain ⟨cl,t,fr,g1,g2⟩:=hS k hs;exact ⟨cl,t,fr,g1,fun e=>g2 (Or.inl e),fun e=>g2 (Or.inr (Or.inl e)),fun e=>g2 (Or.inr (Or.inr (Or.inl e)))⟩)
theorem RowD.keep {X S:Nat->Prop} {w w':World} {B:Nat} {dv:Value} {ds:List (ND × Nat)} {xs:List Value} (h:RowD X w B dv ds xs) (hk:Kept S w w') (hS:OffRef S w):RowD X w' B dv ds xs :=
 ⟨hS.own (by simp [Znp]) hk h.owns,fun i d hd=>by
  obtain ⟨m0,m1,m2,m3,m4,x0,x1,x2,x3,x4,x5,g⟩:=h.all i d hd;exact ⟨m0,m1,m2,m3,m4,x0,x1,x2,x3,x4,x5,hS.node hk g⟩⟩
theorem RowC.keep {X S:Nat->Prop} {w w':World} {lv:Value} {cs:List Cls} {xs:List Value} (h:RowC X w lv cs xs) (hk:Kept S w w') (hS:OffRef S w):RowC X w' lv cs xs :=
 ⟨hS.own (by simp [Znp]) hk h.owns,fun i c hc=>by
  obtain ⟨a,b,d,bv,ys,x0,x1,x2,x3,x4,g1,g2⟩:=h.all i c hc;exact ⟨a,b,d,bv,ys,x0,x1,x2,x3,x4,g1.on (hS.terms hk),g2.on (hS.terms hk)⟩⟩
theorem SRef.keep {S:Nat->Prop} {w w':World} {s:SC} {cs:List Cls} {a:List (List Sym) × Names} {way:List (ND × Nat)} {st:Nat} {found:ND} (h:SRef w s cs a way st found) (hk:Kept S w w') (hS:OffRef S w):SRef w' s cs a way st found:=by
 obtain ⟨xs,h1⟩:=h.cls;obtain ⟨ys,h2⟩:=h.dues;exact ⟨⟨xs,h1.keep hk hS⟩,h.ask.keep hk (fun k hs=>by
  obtain ⟨cl,t,fr,g1,g2⟩:=hS k hs;exact ⟨cl,t,fr,g1,fun e=>g2 (Or.inl e),fun e=>g2 (Or.inr (Or.inr (Or.inr (Or.inr (Or.inr e)))))⟩),⟨ys,h2.keep hk hS⟩,fun hs=>hS.node hk (h.found hs)⟩
theorem Zeu {w:World} {b:Nat} {c1 c2:Array Value} {f1 f2:Nat × Nat} (h1:w.heap[b]?=some (.cells c1 154 f1)) (h2:w.heap[b+1]?=some (.cells c2 154 f2)):OffRef (fun k=>b<=k/\k<=b+1) w:=fun k hk=>by
 have:k=b\/k=b+1:=by omega
 rcases this with rfl | rfl
 ·exact ⟨_,_,_,h1,by simp [Znp]⟩
 ·exact ⟨_,_,_,h2,by simp [Znp]⟩
theorem SRef.fin {w u w':World} {c1 c2:Array Value} {s:SC} {cs:List Cls} {a:List (List Sym) × Names} {way:List (ND × Nat)} {st:Nat} {found:ND} (hE:Ext w u) (h1:u.heap[w.heap.size]?=some (.cells c1 154 (0,0))) (h2:u.heap[w.heap.size+1]?=some (.cells c2 154 (0,0)))
  (h:SRef u s cs a way st found) (hk:Kept (fun k=>w.heap.size<=k/\k<=w.heap.size+1) u w'):Ext w w'/\SRef w' s cs a way st found :=
 ⟨hE.trans (hk.below hE.size (fun _ h=>h.1)),h.keep hk (Zeu h1 h2)⟩
theorem RowD.base {X:Nat->Prop} {w:World} {B:Nat} {dv:Value} {ds:List (ND × Nat)} {xs:List Value} (h:RowD X w B dv ds xs):RowD X w 0 dv ds xs:=⟨Zbe h.owns (Nat.zero_le _),h.all⟩
noncomputable def Zcj (n:ND) (c:Cls) (k:Nat) (r:List (ND × Nat)):List (ND × Nat):=if (tryN n c k).2=1 then ((tryN n c k).1,0)::(n,k+1)::r else (n,k+1)::r
noncomputable def Zck (n:ND) (c:Cls) (k:Nat):Nat:=if (tryN n c k).2=2 then 1 else if (tryN n c k).2=3 then 3 else 0
theorem Ydf (w:World) (s:SC) (cs:List Cls) (a:List (List Sym) × Names) (way:List (ND × Nat)) (tr:Nat) (found n:ND) (k:Nat) (r:List (ND × Nat)) (c:Cls) (h:SRef w s cs a way 0 found) (hcs:∀ c ∈ cs,COk c/\CNm c) (hcl:cs.length<=24)
  (ht:Zeo cs.length way=(n,k)::r) (hc:cs[k]?=some c) (hg:n.goals≠[]) (hw:way.length<=4000) (hk:∀ x ∈ way,x.2<=4000) (htr:tr<=4000) :
  Calls Tryz.prog 113 #[s.val cs.length a.1.length a.2.length way.length 0 tr] w fun e w'=>∃ s':SC,e = .returned (s'.val cs.length a.1.length a.2.length (Zcj n c k r).length (Zck n c k) ((tr+1:Nat):Int))/\Ext w w'/\SRef w' s' cs a (Zcj n c k r) (Zck n c k) (tryN n c k).1:=by
 have hrl:r.length+1<=4000:=by
  have:=Zsw cs.length way;rw [ht] at this;simp at this;omega
 have hk24:k<24:=by have:=(List.getElem?_eq_some_iff.1 hc).1; omega
 obtain ⟨xs,hC⟩:=h.cls;obtain ⟨ys,hD⟩:=h.dues;have hA:=h.ask;obtain ⟨la,lc,aa,ac,na,nc,da,dc,f0a,f0l,f0c,f1a,f1l,f1c,f2a,f2l,f2c,f3a,f3l,f3c,f4⟩:=s;simp only [SC.val] at *;obtain ⟨W0,hW0⟩:∃ W0,W0=(w.alloc (.cells #[.slice la cs.length lc,.slice aa a.1.length ac,.slice na a.2.length nc,.slice da way.length dc,.int .i64 0,.int .i64 tr,.slice f0a f0l f0c,.slice f1a f1l f1c,.slice f2a f2l f2c,.slice f3a f3l f3c,.int .i64 f4] 154)).alloc (.cells #[.slice none 0 0,.slice none 0 0,.slice none 0 0,.slice none 0 0,.int .i64 0,.int .i64 0,.slice none 0 0,.slice none 0 0,.slice none 0 0,.slice none 0 0,.int .i64 0] 154):=⟨_,rfl⟩;have hE0:Ext w W0:=by rw [hW0]; exact Mxt
 have hs0:W0.heap.size=w.heap.size+2:=by rw [hW0]; simp
 have hB0:W0.heap[w.heap.size]?=some (.cells #[.slice la cs.length lc,.slice aa a.1.length ac,.slice na a.2.length nc,.slice da way.length dc,.int .i64 0,.int .i64 tr,.slice f0a f0l f0c,.slice f1a f1l f1c,.slice f2a f2l f2c,.slice f3a f3l f3c,.int .i64 f4] 154 (0,0)):=by rw [hW0]; exact heap_alloc2_old w _ _
 have hB1:W0.heap[w.heap.size+1]?=some (.cells #[.slice none 0 0,.slice none 0 0,.slice none 0 0,.slice none 0 0,.int .i64 0,.int .i64 0,.slice none 0 0,.slice none 0 0,.slice none 0 0,.slice none 0 0,.int .i64 0] 154 (0,0)):=by rw [hW0]; exact heap_alloc2_new w _ _
 have Htrim:=Zaa (Znf W0 (fun _=>False) la cs.length lc aa a.1.length ac na a.2.length nc (.slice da way.length dc) 0 tr f0a f0l f0c f1a f1l f1c f2a f2l f2c f3a f3l f3c f4 way ys (hD.ext (Y:=fun _=>False) (B':=0) hE0 (fun _ _ h=>h) (Nat.le_refl _)) hw hk (by omega));have HC:=Zaa hC;have HA:=Zaa hA;have HE0:=Zaa hE0;have HB0:=Zaa hB0;have HB1:=Zaa hB1;have HW0:=Zaa hW0;have Ht:=Zaa ht;have Hc:=Zaa hc;have Hg:=Zaa hg;have Hcs:=Zaa hcs;clear h hC hD hA hE0 hB0 hB1 hW0 ht hc hg hcs hk;go_enter Tryz.func113,Tryz.ntmps113;go_wp2_with fail;rw [<- HW0.out];refine Htrim.out.mono ?_;rintro e w1 ⟨dv,xs1,rfl,hE1,hrow⟩;rw [Ht.out,List.reverse_cons] at hrow;have ho:=hrow.owns;rw [List.length_append,List.length_reverse,List.length_singleton] at ho;obtain ⟨db,dcap,dcur,rfl,hBd,hdb,hdc⟩:=Zal ho (by omega);obtain ⟨m0,m1,m2,m3,m4,x0,x1,x2,x3,x4,x5,hnode⟩:=hrow.all r.length (n,k) (by rw [List.getElem?_append_right (by simp)]; simp);obtain ⟨g0a,g0c,g1a,g1l,g1c,g2a,g2l,g2c,g3a,g3l,g3c,g4,rfl,rfl,rfl,rfl,rfl⟩:=hnode.len;have y0:=Zaf ho _ _ x0;have y1:=Zaf ho _ _ x1;have y2:=Zaf ho _ _ x2;have y3:=Zaf ho _ _ x3;have y4:=Zaf ho _ _ x4;have y5:=Zaf ho _ _ x5;have hpop:=hrow.pop List.length_reverse;have hs1:=hE1.size;obtain ⟨b0,b1,b2,b3,b4,b5,b6,b7,b8,b9,b10,bf⟩:=Zfp ((hE1.block _ (by omega)).trans HB0.out);obtain ⟨W2,hW2⟩:∃ W2,W2=w1.alloc (.cells #[.slice g0a n.goals.length g0c,.slice g1a g1l g1c,.slice g2a g2l g2c,.slice g3a g3l g3c,.int .i64 g4,.int .i64 k] 250):=⟨_,rfl⟩;have hE12:Ext w1 W2:=by rw [hW2]; exact Mxt
 have hs2:W2.heap.size=w1.heap.size+1:=by rw [hW2]; simp
 have hB2:W2.heap[w1.heap.size]?=some (.cells #[.slice g0a n.goals.length g0c,.slice g1a g1l g1c,.slice g2a g2l g2c,.slice g3a g3l g3c,.int .i64 g4,.int .i64 k] 250 (0,0)):=by rw [hW2]; exact heap_alloc_new w1 _
 have hpop2:=hpop.ext (Y:=fun _=>False) (B':=0) hE12 (fun _ _ h=>h) (Nat.le_refl _);have HR:=Zaa (Zio hpop2.owns hpop2.one);rw [List.length_reverse] at HR;have HEw1:=Zaa (HE0.out.trans (hE1.mono HE0.out.size));have HE1:=Zaa hE1;have HE12:=Zaa hE12;have HB2:=Zaa hB2;have HW2:=Zaa hW2;have Hpop2:=Zaa hpop2;have Hnode:=Zaa hnode;have hws:w.heap.size<w1.heap.size:=by omega
 have hws1:w.heap.size+1<w1.heap.size:=by omega
 have hri:((r.length:Int)+1) - 1=(r.length:Int):=by omega
 have hdcap:r.length<=dcap:=by omega
 clear hrow ho hdb hdc x0 x1 x2 x3 x4 x5 hnode hpop hpop2 hE1 hE12 hB2 hW2 Htrim hBd
 go_wp2_with (at_builtin; rw [<- HW2.out]; refine Zdb _ rfl (.tmp 16) (.tmp 21) 149 rfl (w1.heap.size+1) 250 Tryz.infoDue Tryz.underlying149 rfl (by decide) _ 0 [] rfl (World.ownsRow_nil _ _ _ _) _ r.length (xs1.take (r.length * 6)) rfl HR.out ?_ ?_ ?_)
 ·omega
 ·omega
 intro v2 u2 hap2
 try simp only [Nat.zero_add,List.nil_append] at hap2
 obtain ⟨d2,c2,rfl⟩:=Zad hap2.owns;have hrow2:RowD (fun _=>False) u2 (w1.heap.size+1) (.slice d2 r.length c2) r.reverse (xs1.take (r.length * 6)):=Hpop2.out.on0 (by rw [List.length_reverse]; exact hap2);have hE22:Ext W2 u2:=hap2.kept.below (Nat.le_refl _) (fun k e=>by simp [Zas,Value.ownBlock] at e);have hs22:=hE22.size;have hE1u:Ext w1 u2:=HE12.out.trans (hE22.mono (by omega));have HBs:=Zaa ((HE1.out.block _ (by omega)).trans HB0.out);have HBr:=Zaa ((HE1.out.block _ (by omega)).trans HB1.out);obtain ⟨q0,q1,q2,q3,q4,q5,qf⟩:=box6 ((hE22.block _ (by omega)).trans HB2.out);have Hrow2:=Zaa hrow2;have HE22:=Zaa hE22;have HE1u:=Zaa hE1u;have Hown2:=Zaa hap2.owns;have Hnd2:=Zaa (Hnode.out.ext (Y:=fun _=>False) hE1u (fun _ _ h=>h));have hme2:w1.heap.size<u2.heap.size:=by omega
 clear hrow2 hE22 hE1u hap2 y0 y1 y2 y3 y4 y5 b0 b1 b2 b3 b4 b5 b6 b7 b8 b9 b10 bf Hpop2 HR
 go_wp2_with (at_builtin; refine Zak _ rfl (.tmp 23) (.tmp 30) 149 rfl (w1.heap.size+1) 250 Tryz.infoDue Tryz.underlying149 rfl (by decide) (.slice d2 r.length c2) r.length (xs1.take (r.length * 6)) rfl Hown2.out #[.slice g0a n.goals.length g0c,.slice g1a g1l g1c,.slice g2a g2l g2c,.slice g3a g3l g3c,.int .i64 g4,.int .i64 ((k:Int)+1)] rfl (by simp) rfl Yde ?_ ?_ ?_)
 ·omega
 ·omega
 intro v3 u3 hap3;obtain ⟨d3,c3,rfl⟩:=Zad hap3.owns;have hrow3:RowD (fun _=>False) u3 (w1.heap.size+1) (.slice d3 (r.length+1) c3) (r.reverse++[(n,k+1)]) _:=Hrow2.out.step (n:=n) (k:=k+1) Hnd2.out (by rw [List.length_reverse,show ((k+1:Nat):Int)=(k:Int)+1 by omega]; exact hap3);have hE23:Below (w1.heap.size+1) u2 u3:=hap3.kept.below (by omega) (fun k e=>(Hown2.out.lt k e).1);have hs23:=hE23.size;have hE13:Ext w1 u3:=HE1u.out.trans (hE23.mono (by omega));have hE2u3:Ext W2 u3:=HE22.out.trans (hE23.mono (by omega));have hEw3:Ext w u3:=HEw1.out.trans (hE13.mono HEw1.out.size);obtain ⟨q0,q1,q2,q3,q4,q5,qf⟩:=box6 ((hE2u3.block _ (by omega)).trans HB2.out);obtain ⟨b0,b1,b2,b3,b4,b5,b6,b7,b8,b9,b10,bf⟩:=Zfp ((hE13.block _ hws).trans HBs.out);have hme3:w1.heap.size<u3.heap.size:=by omega
 have hme4:w.heap.size<u3.heap.size:=by omega
 have HTy:=Zaa (Zwp u3 (fun _=>False) _ cs xs _ _ _ _ _ n k c (HC.out.ext (Y:=fun _=>False) hEw3 (fun _ _ h=>h)) Hcs.out hcl (Hnode.out.ext (Y:=fun _=>False) hE13 (fun _ _ h=>h)) (fun _ h=>h.elim) Hc.out Hg.out);have Hrow3:=Zaa hrow3;have HE13:=Zaa hE13;have HEw3:=Zaa hEw3;clear hrow3 hE23 hE13 hE2u3 hEw3 hap3 Hrow2 HE22 HE1u Hown2 Hnd2 HE12;go_wp2_with fail;refine HTy.out.mono ?_;rintro e w4 ⟨rv,rfl,hE4,p0,p1,p2,p3,p4,q,rfl,hval,hq,hkid⟩;obtain ⟨e0a,e0l,e0c,e1a,e1l,e1c,e2a,e2l,e2c,e3a,e3l,e3c,e4,hpe⟩:=hval;simp only [Value.agg.injEq,Array.mk.injEq,List.cons.injEq,and_true] at hpe;obtain ⟨rfl,rfl,rfl,rfl,rfl⟩:=hpe;have hs4:=hE4.size;obtain ⟨W5,hW5⟩:∃ W5,W5=w4.alloc (.cells #[.slice e0a e0l e0c,.slice e1a e1l e1c,.slice e2a e2l e2c,.slice e3a e3l e3c,.int .i64 e4] 152):=⟨_,rfl⟩;have hE45:Ext w4 W5:=by rw [hW5]; exact Mxt
 have hs5:W5.heap.size=w4.heap.size+1:=by rw [hW5]; simp
 have hB5:W5.heap[w4.heap.size]?=some (.cells #[.slice e0a e0l e0c,.slice e1a e1l e1c,.slice e2a e2l e2c,.slice e3a e3l e3c,.int .i64 e4] 152 (0,0)):=by rw [hW5]; exact heap_alloc_new w4 _
 have hE35:Ext u3 W5:=hE4.trans (hE45.mono hs4);have hE15:Ext w1 W5:=HE13.out.trans (hE35.mono (by omega));have hEw5:Ext w W5:=HEw3.out.trans (hE35.mono (by omega));have hrow5:=Hrow3.out.ext (Y:=fun _=>False) (B':=(w1.heap.size+1)) hE35 (fun _ _ h=>h) (Nat.le_refl _);have hBs5:=(hE15.block _ hws).trans HBs.out;have hBr5:=(hE15.block _ hws1).trans HBr.out;have hE14:Ext w1 w4:=HE13.out.trans (hE4.mono (by omega));have hE34:Ext u3 w4:=hE4;have HEw4:=Zaa (HEw3.out.trans (hE34.mono (by omega)));have HBs4:=Zaa ((hE14.block _ hws).trans HBs.out);have HBr4:=Zaa ((hE14.block _ hws1).trans HBr.out);have Hrow4:=Zaa (Hrow3.out.ext (Y:=fun _=>False) (B':=w1.heap.size+1) hE34 (fun _ _ h=>h) (Nat.le_refl _));have Hkid4:=Zaa hkid;obtain ⟨b0,b1,b2,b3,b4,b5,b6,b7,b8,b9,b10,bf⟩:=Zfp ((hE14.block _ hws).trans HBs.out);obtain ⟨z0,z1,z2,z3,z4,z5,z6,z7,z8,z9,z10,zf⟩:=Zfp ((hE14.block _ hws1).trans HBr.out);obtain ⟨n0',n1',n2',n3',n4',nf⟩:=box5 hB5;have Hrow5:=Zaa hrow5;have HE15:=Zaa hE15;have HEw5:=Zaa hEw5;have HBs5:=Zaa hBs5;have HBr5:=Zaa hBr5;have HB5:=Zaa hB5;have HW5:=Zaa hW5;have Hkid:=Zaa (fun hq=>(hkid hq).ext (Y:=fun _=>False) hE45 (fun _ _ h=>h));have Hq:=Zaa hq;have hme5:w.heap.size<w4.heap.size:=by omega
 have hme6:w.heap.size+1<w4.heap.size:=by omega
 have hkk:=Zkv n c k;rw [<- hq] at hkk;clear hE14 hE34 hE4 hE45 hE35 hE15 hEw5 hrow5 hBs5 hBr5 hB5 hW5 hkid hq Hrow3 HE13 HEw3 HTy q0 q1 q2 q3 q4 q5 qf;rcases hkk with rfl | rfl | rfl | rfl
 ·have hW:Zcj n c k r=(n,k+1)::r:=by unfold Zcj; rw [<- Hq.out]; rfl
  have hSt:Zck n c k=0:=by unfold Zck; rw [<- Hq.out]; rfl
  have Hfin:Hid (∀ w',Kept (fun k=>w.heap.size<=k/\k<=w.heap.size+1) w4 w'->∃ s':SC,(Ending.returned (.agg #[.slice la cs.length lc,.slice aa a.1.length ac,.slice na a.2.length nc,.slice d3 (r.length+1) c3,.int .i64 0,.int .i64 ((tr:Int)+1),.slice f0a f0l f0c,.slice f1a f1l f1c,.slice f2a f2l f2c,.slice f3a f3l f3c,.int .i64 f4])) = .returned (.agg #[.slice s'.la cs.length s'.lc,.slice s'.aa a.1.length s'.ac,.slice s'.na a.2.length s'.nc,.slice s'.da (Zcj n c k r).length s'.dc,.int .i64 (Zck n c k),.int .i64 ((tr+1:Nat):Int),.slice s'.f0a s'.f0l s'.f0c,.slice s'.f1a s'.f1l s'.f1c,.slice s'.f2a s'.f2l s'.f2c,.slice s'.f3a s'.f3l s'.f3c,.int .i64 s'.f4])/\Ext w w'/\SRef w' s' cs a (Zcj n c k r) (Zck n c k) (tryN n c k).1):=fun w' hk=>by
   rw [hW,hSt];obtain ⟨g1,g2⟩:=SRef.fin (s:=⟨la,lc,aa,ac,na,nc,d3,c3,f0a,f0l,f0c,f1a,f1l,f1c,f2a,f2l,f2c,f3a,f3l,f3c,f4⟩) (way:=(n,k+1)::r) (st:=0) (found:=(tryN n c k).1) (cs:=cs) (a:=a) HEw4.out HBs4.out HBr4.out ⟨⟨xs,HC.out.ext (Y:=fun _=>False) HEw4.out (fun _ _ h=>h)⟩,HA.out.ext HEw4.out,⟨_,by simpa [List.reverse_cons] using Hrow4.out.base⟩,fun h=>by simp at h⟩ hk;refine ⟨_,?_,g1,g2⟩;rw [show ((tr+1:Nat):Int)=(tr:Int)+1 by omega];rfl
  clear hW hSt Hrow5;clear Hq Hkid HE15 HEw5 HB5 Hnode HC HA Hc Hg Hcs Ht HE1 HE0 HB0 HB1 HB2 HW0 HW2 HEw1 HBs HBr hs5;go_wp2;refine bodyPost_ret (v := .agg #[.slice la cs.length lc,.slice aa a.1.length ac,.slice na a.2.length nc,.slice d3 (r.length+1) c3,.int .i64 0,.int .i64 ((tr:Int)+1),.slice f0a f0l f0c,.slice f1a f1l f1c,.slice f2a f2l f2c,.slice f3a f3l f3c,.int .i64 f4]) (by simp [results,Tryz.results113,go_sem,z0,z1,z2,z3,z4,z5,z6,z7,z8,z9,z10,zf,b0,b1,b2,b3,b4,b5,b6,b7,b8,b9,b10,bf,hme5,hme6]) rfl ?_;exact Hfin.out _ Mst
 ·have HO5:=Zaa Hrow5.out.owns;simp only [List.length_append,List.length_reverse,List.length_singleton] at HO5
  go_wp2_with (at_builtin; rw [<- HW5.out]; refine Zak W5 rfl (.tmp 45) (.tmp 48) 149 rfl (w1.heap.size+1) 250 Tryz.infoDue Tryz.underlying149 rfl (by decide) (.slice d3 (r.length+1) c3) (r.length+1) _ rfl HO5.out #[.slice e0a e0l e0c,.slice e1a e1l e1c,.slice e2a e2l e2c,.slice e3a e3l e3c,.int .i64 e4,.int .i64 0] rfl (by omega) rfl Yde ?_ ?_ ?_)
  ·omega
  ·omega
  intro v6 u6 hap6;obtain ⟨d6,c6,rfl⟩:=Zad hap6.owns;have hrow6:RowD (fun _=>False) u6 (w1.heap.size+1) (.slice d6 (r.length+1+1) c6) (r.reverse++[(n,k+1)]++[((tryN n c k).1,0)]) _:=Hrow5.out.step (n:=(tryN n c k).1) (k:=0) (Hkid.out (by simp)) (by simpa using hap6);have hE56:Below (w1.heap.size+1) W5 u6:=hap6.kept.below (by omega) (fun k e=>(HO5.out.lt k e).1);have hs56:=hE56.size;have hEw6:Ext w u6:=HEw5.out.trans (hE56.mono (by omega));have hBs6:=(hE56.block _ (by omega)).trans HBs5.out;have hBr6:=(hE56.block _ (by omega)).trans HBr5.out;obtain ⟨b0,b1,b2,b3,b4,b5,b6,b7,b8,b9,b10,bf⟩:=Zfp hBs6;obtain ⟨z0,z1,z2,z3,z4,z5,z6,z7,z8,z9,z10,zf⟩:=Zfp hBr6;have hme5:w.heap.size<u6.heap.size:=by omega
  have hme6:w.heap.size+1<u6.heap.size:=by omega
  have HEw6:=Zaa hEw6;have Hrow6:=Zaa hrow6;have HBs6:=Zaa hBs6;have HBr6:=Zaa hBr6;clear hrow6 hE56 hEw6 hBs6 hBr6 hap6 n0' n1' n2' n3' n4' nf;have hW:Zcj n c k r=((tryN n c k).1,0)::(n,k+1)::r:=by unfold Zcj; rw [<- Hq.out]; rfl
  have hSt:Zck n c k=0:=by unfold Zck; rw [<- Hq.out]; rfl
  have Hfin:Hid (∀ w',Kept (fun k=>w.heap.size<=k/\k<=w.heap.size+1) u6 w'->∃ s':SC,(Ending.returned (.agg #[.slice la cs.length lc,.slice aa a.1.length ac,.slice na a.2.length nc,.slice d6 (r.length+1+1) c6,.int .i64 0,.int .i64 ((tr:Int)+1),.slice f0a f0l f0c,.slice f1a f1l f1c,.slice f2a f2l f2c,.slice f3a f3l f3c,.int .i64 f4])) = .returned (.agg #[.slice s'.la cs.length s'.lc,.slice s'.aa a.1.length s'.ac,.slice s'.na a.2.length s'.nc,.slice s'.da (Zcj n c k r).length s'.dc,.int .i64 (Zck n c k),.int .i64 ((tr+1:Nat):Int),.slice s'.f0a s'.f0l s'.f0c,.slice s'.f1a s'.f1l s'.f1c,.slice s'.f2a s'.f2l s'.f2c,.slice s'.f3a s'.f3l s'.f3c,.int .i64 s'.f4])/\Ext w w'/\SRef w' s' cs a (Zcj n c k r) (Zck n c k) (tryN n c k).1):=fun w' hk=>by
   rw [hW,hSt];obtain ⟨g1,g2⟩:=SRef.fin (s:=⟨la,lc,aa,ac,na,nc,d6,c6,f0a,f0l,f0c,f1a,f1l,f1c,f2a,f2l,f2c,f3a,f3l,f3c,f4⟩) (way:=((tryN n c k).1,0)::(n,k+1)::r) (st:=0) (found:=(tryN n c k).1) (cs:=cs) (a:=a) HEw6.out HBs6.out HBr6.out ⟨⟨xs,HC.out.ext (Y:=fun _=>False) HEw6.out (fun _ _ h=>h)⟩,HA.out.ext HEw6.out,⟨_,by simpa [List.reverse_cons] using Hrow6.out.base⟩,fun h=>by simp at h⟩ hk;refine ⟨_,?_,g1,g2⟩;rw [show ((tr+1:Nat):Int)=(tr:Int)+1 by omega];rfl
  clear hW hSt Hrow6 Hrow5;go_wp2;refine bodyPost_ret (v := .agg #[.slice la cs.length lc,.slice aa a.1.length ac,.slice na a.2.length nc,.slice d6 (r.length+1+1) c6,.int .i64 0,.int .i64 ((tr:Int)+1),.slice f0a f0l f0c,.slice f1a f1l f1c,.slice f2a f2l f2c,.slice f3a f3l f3c,.int .i64 f4]) (by simp [results,Tryz.results113,go_sem,z0,z1,z2,z3,z4,z5,z6,z7,z8,z9,z10,zf,b0,b1,b2,b3,b4,b5,b6,b7,b8,b9,b10,bf,hme5,hme6]) rfl ?_;exact Hfin.out _ Mst
 ·have hW:Zcj n c k r=(n,k+1)::r:=by unfold Zcj; rw [<- Hq.out]; rfl
  have hSt:Zck n c k=1:=by unfold Zck; rw [<- Hq.out]; rfl
  have Hfin:Hid (∀ w',Kept (fun k=>w.heap.size<=k/\k<=w.heap.size+1) w4 w'->∃ s':SC,(Ending.returned (.agg #[.slice la cs.length lc,.slice aa a.1.length ac,.slice na a.2.length nc,.slice d3 (r.length+1) c3,.int .i64 1,.int .i64 ((tr:Int)+1),.slice e0a e0l e0c,.slice e1a e1l e1c,.slice e2a e2l e2c,.slice e3a e3l e3c,.int .i64 e4])) = .returned (.agg #[.slice s'.la cs.length s'.lc,.slice s'.aa a.1.length s'.ac,.slice s'.na a.2.length s'.nc,.slice s'.da (Zcj n c k r).length s'.dc,.int .i64 (Zck n c k),.int .i64 ((tr+1:Nat):Int),.slice s'.f0a s'.f0l s'.f0c,.slice s'.f1a s'.f1l s'.f1c,.slice s'.f2a s'.f2l s'.f2c,.slice s'.f3a s'.f3l s'.f3c,.int .i64 s'.f4])/\Ext w w'/\SRef w' s' cs a (Zcj n c k r) (Zck n c k) (tryN n c k).1):=fun w' hk=>by
   rw [hW,hSt];obtain ⟨g1,g2⟩:=SRef.fin (s:=⟨la,lc,aa,ac,na,nc,d3,c3,e0a,e0l,e0c,e1a,e1l,e1c,e2a,e2l,e2c,e3a,e3l,e3c,e4⟩) (way:=(n,k+1)::r) (st:=1) (found:=(tryN n c k).1) (cs:=cs) (a:=a) HEw4.out HBs4.out HBr4.out ⟨⟨xs,HC.out.ext (Y:=fun _=>False) HEw4.out (fun _ _ h=>h)⟩,HA.out.ext HEw4.out,⟨_,by simpa [List.reverse_cons] using Hrow4.out.base⟩,fun _=>Hkid4.out (by simp)⟩ hk;refine ⟨_,?_,g1,g2⟩;rw [show ((tr+1:Nat):Int)=(tr:Int)+1 by omega];rfl
  clear hW hSt Hrow5 hs5;go_wp2;refine bodyPost_ret (v := .agg #[.slice la cs.length lc,.slice aa a.1.length ac,.slice na a.2.length nc,.slice d3 (r.length+1) c3,.int .i64 1,.int .i64 ((tr:Int)+1),.slice e0a e0l e0c,.slice e1a e1l e1c,.slice e2a e2l e2c,.slice e3a e3l e3c,.int .i64 e4]) (by simp [results,Tryz.results113,go_sem,z0,z1,z2,z3,z4,z5,z6,z7,z8,z9,z10,zf,b0,b1,b2,b3,b4,b5,b6,b7,b8,b9,b10,bf,hme5,hme6]) rfl ?_;exact Hfin.out _ Mst
 ·have hW:Zcj n c k r=(n,k+1)::r:=by unfold Zcj; rw [<- Hq.out]; rfl
  have hSt:Zck n c k=3:=by unfold Zck; rw [<- Hq.out]; rfl
  have Hfin:Hid (∀ w',Kept (fun k=>w.heap.size<=k/\k<=w.heap.size+1) w4 w'->∃ s':SC,(Ending.returned (.agg #[.slice la cs.length lc,.slice aa a.1.length ac,.slice na a.2.length nc,.slice d3 (r.length+1) c3,.int .i64 3,.int .i64 ((tr:Int)+1),.slice f0a f0l f0c,.slice f1a f1l f1c,.slice f2a f2l f2c,.slice f3a f3l f3c,.int .i64 f4])) = .returned (.agg #[.slice s'.la cs.length s'.lc,.slice s'.aa a.1.length s'.ac,.slice s'.na a.2.length s'.nc,.slice s'.da (Zcj n c k r).length s'.dc,.int .i64 (Zck n c k),.int .i64 ((tr+1:Nat):Int),.slice s'.f0a s'.f0l s'.f0c,.slice s'.f1a s'.f1l s'.f1c,.slice s'.f2a s'.f2l s'.f2c,.slice s'.f3a s'.f3l s'.f3c,.int .i64 s'.f4])/\Ext w w'/\SRef w' s' cs a (Zcj n c k r) (Zck n c k) (tryN n c k).1):=fun w' hk=>by
   rw [hW,hSt];obtain ⟨g1,g2⟩:=SRef.fin (s:=⟨la,lc,aa,ac,na,nc,d3,c3,f0a,f0l,f0c,f1a,f1l,f1c,f2a,f2l,f2c,f3a,f3l,f3c,f4⟩) (way:=(n,k+1)::r) (st:=3) (found:=(tryN n c k).1) (cs:=cs) (a:=a) HEw4.out HBs4.out HBr4.out ⟨⟨xs,HC.out.ext (Y:=fun _=>False) HEw4.out (fun _ _ h=>h)⟩,HA.out.ext HEw4.out,⟨_,by simpa [List.reverse_cons] using Hrow4.out.base⟩,fun h=>by simp at h⟩ hk;refine ⟨_,?_,g1,g2⟩;rw [show ((tr+1:Nat):Int)=(tr:Int)+1 by omega];rfl
  clear hW hSt Hrow5 hs5;go_wp2;refine bodyPost_ret (v := .agg #[.slice la cs.length lc,.slice aa a.1.length ac,.slice na a.2.length nc,.slice d3 (r.length+1) c3,.int .i64 3,.int .i64 ((tr:Int)+1),.slice f0a f0l f0c,.slice f1a f1l f1c,.slice f2a f2l f2c,.slice f3a f3l f3c,.int .i64 f4]) (by simp [results,Tryz.results113,go_sem,z0,z1,z2,z3,z4,z5,z6,z7,z8,z9,z10,zf,b0,b1,b2,b3,b4,b5,b6,b7,b8,b9,b10,bf,hme5,hme6]) rfl ?_;exact Hfin.out _ Mst
theorem Zjb {n:ND} {c:Cls} {k:Nat} (h:(tryN n c k).2=1\/(tryN n c k).2=2):(tryN n c k).2=2↔(tryN n c k).1.goals=[]:=by
 by_cases hex:∃ r:ND × Nat,∃ m,NOk m/\Same m n/\Out m c k r.2 r.1
 ·have e:tryN n c k=Classical.choose hex:=by unfold tryN; rw [dif_pos hex]
  obtain ⟨m,_,hS,g,gs,_,ho⟩:=Classical.choose_spec hex;rw [e] at h ⊢;rcases ho with ⟨h0,_⟩ | ⟨h0,_⟩ | ⟨σ,_,_,h3,h4⟩
  ·omega
  ·omega
  ·rw [h3,<- h4] at h;rw [h3,<- h4];unfold Zcv at h ⊢;split at h
   ·omega
   ·rename_i ho;rw [if_neg ho];split
    ·rename_i hg; simp [hg]
    ·rename_i hg; simp [hg]
 ·have e:tryN n c k=(⟨[],[],[],[],0⟩,0):=by unfold tryN; rw [dif_neg hex]
  rw [e] at h;simp at h
def Zhg (way:List (ND × Nat)):List Nat:=(way.map (fun x=>x.2 - 1)).reverse
theorem Zpb (n:ND) (k:Nat) (r:List (ND × Nat)):Zhg ((n,k+1)::r)=Zhg r++[k]:=by simp [Zhg]
def UsedW:List (ND × Nat)->Prop
 | []=>True
 | x::r=>x.1.used=Zhg r/\(∀ y ∈ r,1<=y.2)/\UsedW r
theorem UsedW.trim {N:Nat}:∀ {way:List (ND × Nat)},UsedW way->UsedW (Zeo N way):=by
 intro way
 induction way with
 | nil=>intro h; exact h
 | cons x r ih =>
  intro h;simp only [Zeo];split
  ·exact ih h.2.2
  ·exact h
theorem Zsy {N:Nat}:∀ {way:List (ND × Nat)} {x:ND × Nat},x ∈ Zeo N way->x ∈ way:=by
 intro way
 induction way with
 | nil=>intro x h; exact h
 | cons y r ih =>
  intro x h;simp only [Zeo] at h;split at h
  ·exact List.mem_cons_of_mem _ (ih h)
  ·exact h
theorem Zpc (cs:List Cls):∀ (way:List (ND × Nat)) (t:List UInt8),(Zfn cs way t).2.length+(Zfn cs way t).1.length=t.length+way.length:=by
 intro way
 induction way with
 | nil=>intro t; rfl
 | cons x r ih =>
  obtain ⟨n,k⟩:=x;intro t;simp only [Zfn];split
  ·rw [ih]; simp; omega
  ·rfl
structure InvN (cs:List Cls) (a:List (List Sym) × Names) (s:SN):Prop where
 way:∀ x ∈ s.way,x.1.goals≠[]/\x.1.vals.length=a.2.length/\x.2<=cs.length/\∀ k ∈ x.1.used,k<cs.length
 used:UsedW s.way
 tree:s.status≠3->PW cs (topN a) s.way s.tree
 trim:Zeo cs.length s.way=s.way
 found:s.status=1->s.found.goals=[]/\s.found.vals.length=a.2.length/\∀ k ∈ s.found.used,k<cs.length
 len:s.tree.length+s.way.length<=2+26 * s.tries
 tries:s.tries<=3000
 no:s.status=2->s.way=[]
 st:s.status<=3
theorem Zft {cs:List Cls} {s:SN} {n:ND} {k:Nat} {r:List (ND × Nat)} {c:Cls} (hw:s.way=(n,k)::r) (hc:cs[k]?=some c) (h0:s.status=0) :
  (Zbd cs s).way=Zeo cs.length (Zcj n c k r)/\(Zbd cs s).status=Zck n c k/\(Zbd cs s).tries=s.tries+1/\(Zck n c k=1->(Zbd cs s).found=(tryN n c k).1):=by
 have hk:=Zkv n c k;unfold Zbd;rw [hw];simp only [hc]
 by_cases h3:(tryN n c k).2=3
 ·rw [if_pos h3];simp [Zev,Zeb,Zcj,Zck,h3]
 ·rw [if_neg h3]
  by_cases h12:(tryN n c k).2=1\/(tryN n c k).2=2
  ·rw [if_pos h12]
   by_cases hg:(tryN n c k).1.goals=[]
   ·have h2:=(Zjb h12).2 hg;simp [Zev,Zdd,hg,Zeb,Zcj,Zck,h2]
   ·have h2:(tryN n c k).2≠2:=fun h=>hg ((Zjb h12).1 h);have h1:(tryN n c k).2=1:=by omega
    simp [Zev,Zdd,hg,Zeb,Zcj,Zck,h1,h0]
  ·rw [if_neg h12];have h00:(tryN n c k).2=0:=by omega
   simp [Zev,Zeb,Zcj,Zck,h00,h0]
theorem Zsz {cs:List Cls} {s:SN} {n:ND} {k:Nat} {r:List (ND × Nat)} {c:Cls} (hw:s.way=(n,k)::r) (hc:cs[k]?=some c) (hk:k<24):(Zbd cs s).tree.length+(Zbd cs s).way.length<=s.tree.length+s.way.length+26:=by
 have hd:(Lib.decDigits k).length<=24:=by
  have:=Zgv k;omega
 unfold Zbd;rw [hw];simp only [hc,Zev,Zpc];split
 ·simp
 ·split
  ·unfold Zdd;split
   ·simp; omega
   ·simp; omega
  ·simp
theorem InvN.try' {cs:List Cls} {a:List (List Sym) × Names} {s:SN} (h:InvN cs a s) (hcl:cs.length<=24) (h0:s.status=0) {n:ND} {k:Nat} {r:List (ND × Nat)} {c:Cls} (hw:s.way=(n,k)::r) (hc:cs[k]?=some c) (ht:s.tries<3000):InvN cs a (Zbd cs s):=by
 obtain ⟨e1,e2,e3,e4⟩:=Zft hw hc h0;have hkk:=Zkv n c k;have hklt:=(List.getElem?_eq_some_iff.1 hc).1;obtain ⟨w1,w2,w3,w4⟩:=h.way (n,k) (by rw [hw]; simp);have hu:=h.used;rw [hw] at hu;have hr:∀ x ∈ r,x.1.goals≠[]/\x.1.vals.length=a.2.length/\x.2<=cs.length/\∀ k ∈ x.1.used,k<cs.length:=fun x hx=>h.way x (by rw [hw]; simp [hx]);have hchild:(tryN n c k).2=1\/(tryN n c k).2=2->(tryN n c k).1.vals.length=a.2.length/\∀ j ∈ (tryN n c k).1.used,j<cs.length:=fun hq=>by
  refine ⟨by rw [Ycw hq]; exact w2,fun j hj => ?_⟩;rw [Zne hq] at hj;rcases List.mem_append.1 hj with hj | hj
  ·exact w4 j hj
  ·simp at hj; omega
 refine ⟨?_,?_,?_,?_,?_,?_,?_,?_,?_⟩
 ·intro x hx;rw [e1] at hx;have hx:=Zsy hx;unfold Zcj at hx;split at hx
  ·rename_i h1;rcases List.mem_cons.1 hx with rfl | hx
   ·have h2:¬ (tryN n c k).1.goals=[]:=fun hg=>by have:=(Zjb (Or.inl h1)).2 hg; omega
    exact ⟨h2,(hchild (Or.inl h1)).1,Nat.zero_le _,(hchild (Or.inl h1)).2⟩
   ·rcases List.mem_cons.1 hx with rfl | hx
    ·exact ⟨w1,w2,by show k+1<=_; omega,w4⟩
    ·exact hr x hx
  ·rcases List.mem_cons.1 hx with rfl | hx
   ·exact ⟨w1,w2,by show k+1<=_; omega,w4⟩
   ·exact hr x hx
 ·rw [e1];apply UsedW.trim;unfold Zcj;split
  ·rename_i h1;exact ⟨by rw [Zpb,Zne (Or.inl h1),hu.1],fun y hy=>by
    rcases List.mem_cons.1 hy with rfl | hy
    ·exact Nat.succ_le_succ (Nat.zero_le _)
    ·exact hu.2.1 y hy,hu.1,hu.2⟩
  ·exact ⟨hu.1,hu.2⟩
 ·intro h3;exact PW.try' (h.tree (by omega)) h3
 ·rw [e1,Zpa]
 ·intro h1;rw [e2] at h1;rw [e4 h1];have hq2:(tryN n c k).2=2:=by
   unfold Zck at h1;split at h1
   ·assumption
   ·split at h1 <;> omega
  exact ⟨(Zjb (Or.inr hq2)).1 hq2,(hchild (Or.inr hq2)).1,(hchild (Or.inr hq2)).2⟩
 ·have:=Zsz hw hc (by omega);have:=h.len;omega
 ·omega
 ·intro h2;rw [e2] at h2;unfold Zck at h2;split at h2
  ·omega
  ·split at h2 <;> omega
 ·rw [e2];unfold Zck;split
  ·omega
  ·split <;> omega
noncomputable def Zfb (cs:List Cls):Nat->SN->SN × Nat
 | 0,s=>(s,0)
 | n+1,s=>open Classical in if s.status=0/\s.way≠[]/\s.tries<3000 then ((Zfb cs n (Zbd cs s)).1,(Zfb cs n (Zbd cs s)).2+1) else (s,0)
def Zkb (s:SN):SN := { s with way:=[],tree:=[],status:=3 }
noncomputable def endN (s:SN):SN:=open Classical in if s.status=3 then Zkb s else if s.status=0 then (if s.way=[] then { s with status:=2 } else if 3000<=s.tries then Zkb s else s) else s
noncomputable def Zdf (cs:List Cls) (n:Nat) (s:SN):SN × Nat:=if s.status=2\/s.status=3 then (s,0) else (endN (Zfb cs n { s with status:=0 }).1,(Zfb cs n { s with status:=0 }).2)
theorem InvN.full {cs:List Cls} {a:List (List Sym) × Names} {s:SN} (h:InvN cs a s):InvN cs a (Zkb s) :=
 ⟨fun x hx=>by simp [Zkb] at hx,trivial,fun h3=>absurd rfl h3,rfl,fun h1=>by simp [Zkb] at h1,by simp [Zkb],h.tries,fun _=>rfl,by simp [Zkb]⟩
theorem InvN.end' {cs:List Cls} {a:List (List Sym) × Names} {s:SN} (h:InvN cs a s):InvN cs a (endN s):=by
 unfold endN;split
 ·exact h.full
 ·split
  ·rename_i h3 h0;split
   ·rename_i hw;exact ⟨h.way,h.used,fun _=>h.tree (by omega),h.trim,fun h1=>by simp at h1,h.len,h.tries,fun _=>hw,by simp⟩
   ·split
    ·exact h.full
    ·exact h
  ·exact h
theorem InvN.seek {cs:List Cls} {a:List (List Sym) × Names} {s:SN} (h:InvN cs a s) (h3:s.status≠3):InvN cs a { s with status:=0 } :=
 ⟨h.way,h.used,fun _=>h.tree h3,h.trim,fun h1=>by simp at h1,h.len,h.tries,fun h2=>by simp at h2,by simp⟩
theorem InvN.head {cs:List Cls} {a:List (List Sym) × Names} {s:SN} (h:InvN cs a s) (hw:s.way≠[]):∃ n k r c,s.way=(n,k)::r/\cs[k]?=some c/\n.goals≠[]:=by
 cases e:s.way with
 | nil=>exact absurd e hw
 | cons x r =>
  obtain ⟨n,k⟩:=x;have ht:=h.trim;rw [e] at ht;have hk:=Zoz ht;exact ⟨n,k,r,_,rfl,List.getElem?_eq_getElem hk,(h.way (n,k) (by rw [e]; simp)).1⟩
theorem InvN.loop {cs:List Cls} {a:List (List Sym) × Names} (hcl:cs.length<=24):∀ {n:Nat} {s:SN},InvN cs a s->InvN cs a (Zfb cs n s).1:=by
 intro n
 induction n with
 | zero=>intro s h; exact h
 | succ n ih =>
  intro s h;unfold Zfb;split
  ·rename_i hc;obtain ⟨n',k,r,c,h1,h2,h3⟩:=h.head hc.2.1;exact ih (h.try' hcl hc.1 h1 h2 hc.2.2)
  ·exact h
theorem InvN.step {cs:List Cls} {a:List (List Sym) × Names} (hcl:cs.length<=24) {n:Nat} {s:SN} (h:InvN cs a s):InvN cs a (Zdf cs n s).1:=by
 unfold Zdf;split
 ·exact h
 ·rename_i h3;exact ((h.seek (by omega)).loop hcl).end'
noncomputable def newN (cs:List Cls) (a:List (List Sym) × Names):SN:=Zev cs (Zdd ⟨[],0,0,⟨[],[],[],[],0⟩,[]⟩ (topN a))
theorem Zjc {a:List (List Sym) × Names} (h:a.1≠[]):(topN a).goals≠[]:=by simpa [topN] using h
theorem InvN.new (cs:List Cls) {a:List (List Sym) × Names} (ha:a.1≠[]):InvN cs a (newN cs a):=by
 have hg:=Zjc ha;have hp:PW cs (topN a) [(topN a,0)] [40]:=⟨rfl,hg,Nat.zero_le _,[],.zero _,by simp⟩;unfold newN Zdd;rw [if_neg hg];refine ⟨?_,?_,?_,?_,?_,?_,?_,?_,?_⟩
 ·intro x hx;simp only [Zev,Zeb] at hx;have hx:=Zsy hx;simp at hx;subst hx;exact ⟨hg,by simp [topN],Nat.zero_le _,fun k hk=>by simp [topN] at hk⟩
 ·simp only [Zev,Zeb];exact UsedW.trim ⟨rfl,fun y hy=>by simp at hy,trivial⟩
 ·intro _;exact hp.leave
 ·simp only [Zev,Zeb];exact Zpa _ _
 ·intro h; simp [Zev] at h
 ·simp only [Zev,Zpc];simp
 ·simp [Zev]
 ·intro h; simp [Zev] at h
 ·simp [Zev]
def Zdr (t:TypeId):Prop:=t=133\/t=105\/t=107\/t=9\/t=3
def OffCode (S:Nat->Prop) (w:World):Prop:=∀ k,S k->∃ cl t fr,w.heap[k]?=some (.cells cl t fr)/\¬ Zdr t
theorem OffCode.own {S:Nat->Prop} {w w':World} {B:Nat} {e:TypeId} {size n:Nat} {v:Value} {xs:List Value} (hS:OffCode S w) (he:Zdr e) (hk:Kept S w w') (h:w.ownsRow B e size v n xs):w'.ownsRow B e size v n xs :=
 Zan h (fun k hj=>hk.block k (h.lt k hj).2 (fun hs=>by
  obtain ⟨cl,t,fr,h1,h2⟩:=hS k hs;rcases h.2 with ⟨rfl,_⟩ | ⟨g,cap,cur,rfl,_,hg,_⟩
  ·simp [Zas,Value.ownBlock] at hj
  ·simp [Zas,Value.ownBlock] at hj;subst hj;rw [hg] at h1;simp at h1;exact h2 (h1.2.1 ▸ he)))
theorem OffCode.terms {S:Nat->Prop} {w w':World} {v:Value} {ls:List (List Sym)} (hS:OffCode S w) (hk:Kept S w w') (h:TermsIn w v ls):TermsIn w' v ls:=by
 obtain ⟨vs,h⟩:=h;exact ⟨vs,hS.own (by simp [Zdr]) hk h.owns,fun i l hl=>by
  obtain ⟨x,h1,h2⟩:=h.all i l hl;exact ⟨x,h1,hS.own (by simp [Zdr]) hk h2⟩⟩
theorem OffCode.prog {S:Nat->Prop} {w w':World} {v:Value} {cs:List Cls} {xs:List (List Value)} (hS:OffCode S w) (hk:Kept S w w') (h:ProgIn w v cs xs):ProgIn w' v cs xs :=
 ⟨hS.own (by simp [Zdr]) hk h.owns,h.len,h.three,fun i c hc=>by
  obtain ⟨hv,bv,vv,h1,h2⟩:=h.all i c hc;exact ⟨hv,bv,vv,h1,hS.own (by simp [Zdr]) hk h2.head,hS.terms hk h2.body,hS.own (by simp [Zdr]) hk h2.names⟩⟩
def CNode (w:World) (gv vv rv uv:Value) (n0:ND):Prop:=∃ n,NodeIn w gv vv rv n/\uv = .int .i64 n.vars/\NOk n/\NNm n/\NFew n/\Same n n0
theorem CNode.ext {w w':World} {gv vv rv uv:Value} {n0:ND} (h:CNode w gv vv rv uv n0) (e:Ext w w'):CNode w' gv vv rv uv n0:=by
 obtain ⟨n,h1,h2⟩:=h;exact ⟨n,h1.ext e,h2⟩
theorem CNode.keep {S:Nat->Prop} {w w':World} {gv vv rv uv:Value} {n0:ND} (h:CNode w gv vv rv uv n0) (hk:Kept S w w') (hS:OffCode S w):CNode w' gv vv rv uv n0:=by
 obtain ⟨n,h1,h2⟩:=h;exact ⟨n,⟨hS.terms hk h1.goals,hS.terms hk h1.vals,hS.terms hk h1.done⟩,h2⟩
theorem CNode.shape {w:World} {gv vv rv uv:Value} {n0:ND} (h:CNode w gv vv rv uv n0):∃ ga gc va vl vc ra rl rc,∃ u:Nat,gv = .slice ga n0.goals.length gc/\vv = .slice va vl vc/\rv = .slice ra rl rc/\uv = .int .i64 u/\u<=101000:=by
 obtain ⟨n,h1,rfl,h3,_,_,hs⟩:=h;obtain ⟨ga,gcap,rfl⟩:=h1.goals.shape;obtain ⟨va,vcap,rfl⟩:=h1.vals.shape;obtain ⟨ra,rcap,rfl⟩:=h1.done.shape;exact ⟨ga,gcap,va,_,vcap,ra,_,rcap,n.vars,by rw [List.length_map,hs.gl],rfl,rfl,rfl,by have:=h3.vars; have:=h3.ul; omega⟩
structure RowL (w:World) (v:Value) (ds:List (ND × Nat)) (xs:List Value):Prop where
 owns:w.ownsRow 0 135 5 v ds.length xs
 all:∀ (i:Nat) (d:ND × Nat),ds[i]?=some d->∃ x0 x1 x2 x3,xs[i * 5]?=some x0/\xs[i * 5+1]?=some x1/\xs[i * 5+2]?=some x2/\xs[i * 5+3]?=some x3/\xs[i * 5+4]?=some (.int .i64 d.2)/\CNode w x0 x1 x2 x3 d.1
theorem RowL.nil (w:World):RowL w (.slice none 0 0) [] []:=⟨World.ownsRow_nil _ _ _ _,fun i d h=>by simp at h⟩
theorem RowL.ext {w w':World} {v:Value} {ds:List (ND × Nat)} {xs:List Value} (h:RowL w v ds xs) (e:Ext w w'):RowL w' v ds xs :=
 ⟨Zan h.owns (fun k hk=>e.block k (h.owns.lt k hk).2),fun i d hd=>by
  obtain ⟨x0,x1,x2,x3,y0,y1,y2,y3,y4,g⟩:=h.all i d hd;exact ⟨x0,x1,x2,x3,y0,y1,y2,y3,y4,g.ext e⟩⟩
theorem RowL.keep {S:Nat->Prop} {w w':World} {v:Value} {ds:List (ND × Nat)} {xs:List Value} (h:RowL w v ds xs) (hk:Kept S w w') (hS:OffCode S w) (ho:∀ k,v.ownBlock=some k->¬ S k):RowL w' v ds xs :=
 ⟨Zan h.owns (fun k hj=>hk.block k (h.owns.lt k hj).2 (ho k hj)),fun i d hd=>by
  obtain ⟨x0,x1,x2,x3,y0,y1,y2,y3,y4,g⟩:=h.all i d hd;exact ⟨x0,x1,x2,x3,y0,y1,y2,y3,y4,g.keep hk hS⟩⟩
theorem RowL.pop {w:World} {g n cap:Nat} {ds:List (ND × Nat)} {d:ND × Nat} {xs:List Value} (h:RowL w (.slice (some ⟨g,0,none⟩) (n+1) cap) (ds++[d]) xs) (hn:ds.length=n):RowL w (.slice (some ⟨g,0,none⟩) n cap) ds (xs.take (n * 5)):=by
 have ho:=h.owns;rw [List.length_append,List.length_singleton,hn] at ho;refine ⟨by rw [hn]; exact Zsv ho,fun i x hx => ?_⟩;have hi:=(List.getElem?_eq_some_iff.1 hx).1;obtain ⟨x0,x1,x2,x3,y0,y1,y2,y3,y4,g⟩:=h.all i x (by rw [List.getElem?_append_left hi]; exact hx);exact ⟨x0,x1,x2,x3,by rw [List.getElem?_take_of_lt (by omega)]; exact y0,by rw [List.getElem?_take_of_lt (by omega)]; exact y1,by rw [List.getElem?_take_of_lt (by omega)]; exact y2,by rw [List.getElem?_take_of_lt (by omega)]; exact y3,by rw [List.getElem?_take_of_lt (by omega)]; exact y4,g⟩
theorem Zkc {w:World} {B n size:Nat} {v:Value} {xs:List Value} (h:w.ownsRow B 135 size v n xs):OffCode (Zas v) w:=fun j hj=>by
 rcases h.2 with ⟨rfl,_⟩ | ⟨g,cap,cur,rfl,_,hg,_⟩
 ·simp [Zas,Value.ownBlock] at hj
 ·simp [Zas,Value.ownBlock] at hj;subst hj;exact ⟨_,_,_,hg,by simp [Zdr]⟩
theorem RowL.step {w w':World} {cv cv':Value} {ds:List (ND × Nat)} {xs:List Value} {x0 x1 x2 x3:Value} {n:ND} {k:Nat} (h:RowL w cv ds xs) (hn:CNode w x0 x1 x2 x3 n) (ha:Appended w 0 135 5 cv (ds.length+1) (xs++[x0,x1,x2,x3,.int .i64 k]) cv' w') :
  RowL w' cv' (ds++[(n,k)]) (xs++[x0,x1,x2,x3,.int .i64 k]):=by
 have hS:=Zkc h.owns;have hxl:=h.owns.1;refine ⟨by simpa using ha.owns,fun i d hd => ?_⟩;rcases Nat.lt_or_ge i ds.length with hi | hi
 ·rw [List.getElem?_append_left hi] at hd;obtain ⟨p0,p1,p2,p3,y0,y1,y2,y3,y4,g⟩:=h.all i d hd;exact ⟨p0,p1,p2,p3,by rw [List.getElem?_append_left (by omega)]; exact y0,by rw [List.getElem?_append_left (by omega)]; exact y1,by rw [List.getElem?_append_left (by omega)]; exact y2,by rw [List.getElem?_append_left (by omega)]; exact y3,by rw [List.getElem?_append_left (by omega)]; exact y4,g.keep ha.kept hS⟩
 ·have e:i=ds.length:=by
   have:=(List.getElem?_eq_some_iff.1 hd).1;simp at this; omega
  subst e;rw [List.getElem?_append_right (Nat.le_refl _)] at hd;simp at hd;subst hd;exact ⟨x0,x1,x2,x3,by rw [List.getElem?_append_right (by omega)]; simp [hxl],by rw [List.getElem?_append_right (by omega),show ds.length * 5+1 - xs.length=1 by omega]; rfl,by rw [List.getElem?_append_right (by omega),show ds.length * 5+2 - xs.length=2 by omega]; rfl,by rw [List.getElem?_append_right (by omega),show ds.length * 5+3 - xs.length=3 by omega]; rfl,by rw [List.getElem?_append_right (by omega),show ds.length * 5+4 - xs.length=4 by omega]; rfl,hn.keep ha.kept hS⟩
structure CX where
 ca:Option Addr
 cc:Nat
 na:Option Addr
 nc:Nat
 wa:Option Addr
 wc:Nat
 va:Option Addr
 vl:Nat
 vc:Nat
 fa:Option Addr
 fl:Nat
 fc:Nat
def CX.cells (x:CX) (cl nl wl tr st:Nat) (T:List UInt8):Array Value:=#[.slice x.ca cl x.cc,.slice x.na nl x.nc,.slice x.wa wl x.wc,.int .i64 tr,.int .i64 st,.slice x.va x.vl x.vc,.slice x.fa x.fl x.fc,.string ⟨T.toArray⟩]
structure CSr (w:World) (b:Nat) (x:CX) (cs:List Cls) (a:List (List Sym) × Names) (m:SN):Prop where
 box:w.heap[b]?=some (.cells (x.cells cs.length a.2.length m.way.length m.tries m.status m.tree) 112 (0,0))
 prog:∃ xs,ProgIn w (.slice x.ca cs.length x.cc) cs xs
 names:w.ownsRow 0 9 1 (.slice x.na a.2.length x.nc) a.2.length (strs a.2)
 way:∃ ys,RowL w (.slice x.wa m.way.length x.wc) m.way.reverse ys
 found:m.status=1->(∃ n,TermsIn w (.slice x.va x.vl x.vc) n.vals/\NOk n/\NNm n/\Same n m.found)/\w.ownsRow 0 3 1 (.slice x.fa x.fl x.fc) m.found.used.length (ints m.found.used)
theorem CSr.ext {w w':World} {b:Nat} {x:CX} {cs:List Cls} {a:List (List Sym) × Names} {m:SN} (h:CSr w b x cs a m) (e:Ext w w'):CSr w' b x cs a m:=by
 obtain ⟨xs,h1⟩:=h.prog;obtain ⟨ys,h2⟩:=h.way;refine ⟨(e.block _ (Zac h.box)).trans h.box,⟨xs,h1.ext e⟩,Zan h.names (fun k hk=>e.block k (h.names.lt k hk).2),⟨ys,h2.ext e⟩,fun hs => ?_⟩;obtain ⟨⟨n,g1,g2⟩,g3⟩:=h.found hs;exact ⟨⟨n,g1.ext e,g2⟩,Zan g3 (fun k hk=>e.block k (g3.lt k hk).2)⟩
def ownS (b:Nat) (x:CX):Nat->Prop:=fun k=>k=b\/(∃ a,x.wa=some a/\a.block=k)
theorem CSr.keep {S:Nat->Prop} {w w':World} {b:Nat} {x:CX} {cs:List Cls} {a:List (List Sym) × Names} {m:SN} (h:CSr w b x cs a m) (hk:Kept S w w') (hS:OffCode S w) (ho:∀ k,ownS b x k->¬ S k):CSr w' b x cs a m:=by
 obtain ⟨xs,h1⟩:=h.prog;obtain ⟨ys,h2⟩:=h.way;refine ⟨(hk.block _ (Zac h.box) (ho _ (Or.inl rfl))).trans h.box,⟨xs,hS.prog hk h1⟩,hS.own (by simp [Zdr]) hk h.names,⟨ys,h2.keep hk hS (fun k hj=>ho k (Or.inr ?_))⟩,fun hs => ?_⟩
 ·rcases h2.owns.2 with ⟨e,_⟩ | ⟨g,cap,cur,e,_⟩
  ·rw [e] at hj; simp [Value.ownBlock] at hj
  ·rw [e] at hj;simp [Value.ownBlock] at hj;simp at e;exact ⟨_,e.1,hj⟩
 ·obtain ⟨⟨n,g1,g2⟩,g3⟩:=h.found hs;exact ⟨⟨n,hS.terms hk g1,g2⟩,hS.own (by simp [Zdr]) hk g3⟩
theorem CSr.upd {w w':World} {b:Nat} {x x':CX} {cs:List Cls} {a:List (List Sym) × Names} {m m':SN} (h:CSr w b x cs a m) (hk:Kept (only b) w w') (hbox:w'.heap[b]?=some (.cells (x'.cells cs.length a.2.length m'.way.length m'.tries m'.status m'.tree) 112 (0,0))) (hx:x'.ca=x.ca/\x'.cc=x.cc/\x'.na=x.na/\x'.nc=x.nc)
  (hway:∃ ys,RowL w (.slice x'.wa m'.way.length x'.wc) m'.way.reverse ys) (hf:m'.status=1->(∃ n,TermsIn w (.slice x'.va x'.vl x'.vc) n.vals/\NOk n/\NNm n/\Same n m'.found)/\w.ownsRow 0 3 1 (.slice x'.fa x'.fl x'.fc) m'.found.used.length (ints m'.found.used)):CSr w' b x' cs a m':=by
 obtain ⟨xs,h1⟩:=h.prog;obtain ⟨ys,h2⟩:=hway;have hS:OffCode (only b) w:=fun k e=>by
  have e:k=b:=e;subst e;exact ⟨_,_,_,h.box,by simp [Zdr]⟩
 obtain ⟨e1,e2,e3,e4⟩:=hx;refine ⟨hbox,⟨xs,by rw [e1,e2]; exact hS.prog hk h1⟩,by rw [e3,e4]; exact hS.own (by simp [Zdr]) hk h.names,⟨ys,h2.keep hk hS (fun k hj e => ?_)⟩,fun hs => ?_⟩
 ·have e:k=b:=e;subst e;rcases h2.owns.2 with ⟨e,_⟩ | ⟨g,cap,cur,e,_,hg,_⟩
  ·rw [e] at hj; simp [Value.ownBlock] at hj
  ·rw [e] at hj;simp [Value.ownBlock] at hj;subst hj;rw [h.box] at hg;simp at hg
 ·obtain ⟨⟨n,g1,g2⟩,g3⟩:=hf hs;exact ⟨⟨n,hS.terms hk g1,g2⟩,hS.own (by simp [Zdr]) hk g3⟩
theorem CSr.off {w:World} {b:Nat} {x:CX} {cs:List Cls} {a:List (List Sym) × Names} {m:SN} (h:CSr w b x cs a m):OffCode (only b) w:=fun k e=>by
 have e:k=b:=e;subst e;exact ⟨_,_,_,h.box,by simp [Zdr]⟩
theorem CSr.upd' {w w':World} {b:Nat} {x x':CX} {cs:List Cls} {a:List (List Sym) × Names} {m m':SN} (h:CSr w b x cs a m) (hk:Kept (only b) w w') (hbox:w'.heap[b]?=some (.cells (x'.cells cs.length a.2.length m'.way.length m'.tries m'.status m'.tree) 112 (0,0))) (hx:x'.ca=x.ca/\x'.cc=x.cc/\x'.na=x.na/\x'.nc=x.nc)
  (hway:∃ ys,RowL w (.slice x'.wa m'.way.length x'.wc) m'.way.reverse ys) (hf:m'.status=1->(∃ n,TermsIn w' (.slice x'.va x'.vl x'.vc) n.vals/\NOk n/\NNm n/\Same n m'.found)/\w'.ownsRow 0 3 1 (.slice x'.fa x'.fl x'.fc) m'.found.used.length (ints m'.found.used)):CSr w' b x' cs a m':=by
 obtain ⟨xs,h1⟩:=h.prog;obtain ⟨ys,h2⟩:=hway;have hS:=h.off;obtain ⟨e1,e2,e3,e4⟩:=hx;refine ⟨hbox,⟨xs,by rw [e1,e2]; exact hS.prog hk h1⟩,by rw [e3,e4]; exact hS.own (by simp [Zdr]) hk h.names,⟨ys,h2.keep hk hS (fun k hj e => ?_)⟩,hf⟩;have e:k=b:=e;subst e;rcases h2.owns.2 with ⟨e,_⟩ | ⟨g,cap,cur,e,_,hg,_⟩
 ·rw [e] at hj; simp [Value.ownBlock] at hj
 ·rw [e] at hj;simp [Value.ownBlock] at hj;subst hj;rw [h.box] at hg;simp at hg
def Ziq (w:World) (x x':CX):Prop:=∀ k,(∃ p,x'.wa=some p/\p.block=k)->(∃ p,x.wa=some p/\p.block=k)\/w.heap.size<=k
theorem Zkd {wa:Option Addr} {n c k:Nat}:(Value.slice wa n c).ownBlock=some k↔∃ p,wa=some p/\p.block=k:=by
 cases wa <;> simp [Value.ownBlock]
theorem CSr.offS {w:World} {b:Nat} {x:CX} {cs:List Cls} {a:List (List Sym) × Names} {m:SN} (h:CSr w b x cs a m):OffCode (ownS b x) w:=fun k hk=>by
 rcases hk with rfl | hk
 ·exact ⟨_,_,_,h.box,by simp [Zdr]⟩
 ·obtain ⟨ys,h2⟩:=h.way;exact Zkc h2.owns k (Zkd.2 hk)
theorem box8 {w:World} {b:Nat} {u0 u1 u2 u3 u4 u5 u6 u7:Value} {t:TypeId} (h:w.heap[b]?=some (.cells #[u0,u1,u2,u3,u4,u5,u6,u7] t (0,0))) :
  w.cell? ⟨b,0,none⟩=some u0/\w.cell? ⟨b,1,none⟩=some u1/\w.cell? ⟨b,2,none⟩=some u2/\w.cell? ⟨b,3,none⟩=some u3/\w.cell? ⟨b,4,none⟩=some u4/\w.cell? ⟨b,5,none⟩=some u5/\w.cell? ⟨b,6,none⟩=some u6/\w.cell? ⟨b,7,none⟩=some u7/\∀ i,w.frozen? ⟨b,i,none⟩=false :=
 ⟨Zab h 0 _ rfl,Zab h 1 _ rfl,Zab h 2 _ rfl,Zab h 3 _ rfl,Zab h 4 _ rfl,Zab h 5 _ rfl,Zab h 6 _ rfl,Zab h 7 _ rfl,fun i=>Zae h i⟩
theorem Ydg {way:List (ND × Nat)} {i:Nat} {d:ND × Nat} (h:way.reverse[i]?=some d):(Zhg way)[i]?=some (d.2 - 1):=by
 unfold Zhg;rw [<- List.map_reverse,List.getElem?_map,h];rfl
theorem Zqs (w:World) (b:Nat) (wa:Option Addr) (wc:Nat) (way:List (ND × Nat)) (ys:List Value) (hb2:w.cell? ⟨b,2,none⟩=some (.slice wa way.length wc)) (hW:RowL w (.slice wa way.length wc) way.reverse ys) (hw:way.length<=200000) (hk:∀ y ∈ way,1<=y.2/\y.2<=4000) :
  Calls Tryz.prog 75 #[.pointer (some ⟨b,0,none⟩)] w fun e w'=>∃ fa fc,e = .returned (.slice fa way.length fc)/\Ext w w'/\w'.ownsRow w.heap.size 3 1 (.slice fa way.length fc) way.length (ints (Zhg way)):=by
 have hbl:b<w.heap.size:=World.block_lt_of_cell? w ⟨b,2,none⟩ hb2;obtain ⟨L,hL⟩:∃ L,L=way.length:=⟨_,rfl⟩;rw [<- hL] at hW hb2 hw ⊢;have hul:(Zhg way).length=L:=by rw [hL]; simp [Zhg]
 have HW:=Zaa hW;have Hul:=Zaa hul;have Hk:=Zaa hk;have HL:=Zaa hL;clear hW hul hk hL;go_enter Tryz.func75,Tryz.ntmps75;go_wp2
 go_loopg [3,11] (L+1) (fun gk nv iv wr=>∃ (i:Nat) (ga:Option Addr) (gc:Nat),nv = .slice ga i gc/\iv = .int .i64 i/\i<=L/\L - i<gk/\Ext w wr/\wr.ownsRow w.heap.size 3 1 (.slice ga i gc) i (ints ((Zhg way).take i)))
 case atStart=>exact ⟨0,none,0,rfl,by go_num,by omega,by omega,Ext.of (Kept.refl _ _),by simpa [ints] using World.ownsRow_nil w w.heap.size 3 1⟩
 case round =>
  obtain ⟨i,ga,gc,rfl,rfl,hi,hgk,hE,hrow⟩:=hrel;have hs:=hE.size;have HE:=Zaa hE;have Hrow:=Zaa hrow;clear hE hrow
  by_cases hlt:i<L
  ·obtain ⟨d,hd⟩:∃ d,way.reverse[i]?=some d:=⟨_,List.getElem?_eq_getElem (by rw [List.length_reverse,<- HL.out]; exact hlt)⟩;have hu:=Ydg hd;have hdm:d ∈ way:=List.mem_reverse.1 (List.mem_of_getElem? hd);obtain ⟨hd1,hd2⟩:=Hk.out d hdm;obtain ⟨x0,x1,x2,x3,y0,y1,y2,y3,y4,hnode⟩:=HW.out.all i d hd;obtain ⟨ga',gc',va',vl',vc',ra',rl',rc',u',rfl,rfl,rfl,rfl,hu'⟩:=hnode.shape;have ho:=HW.out.owns;rw [List.length_reverse,<- HL.out] at ho;obtain ⟨wb,wcap,wcur,hwe,_,hwb,_⟩:=Zal ho (by omega);simp only [Value.slice.injEq] at hwe;obtain ⟨rfl,_,rfl⟩:=hwe;have hwl:=Zac hwb;have c0:=(HE.out.cell (p:=⟨wb,i * 5,none⟩) hwl).trans (Zaf ho _ _ y0);have c1:=(HE.out.cell (p:=⟨wb,i * 5+1,none⟩) hwl).trans (Zaf ho _ _ y1);have c2:=(HE.out.cell (p:=⟨wb,i * 5+2,none⟩) hwl).trans (Zaf ho _ _ y2);have c3:=(HE.out.cell (p:=⟨wb,i * 5+3,none⟩) hwl).trans (Zaf ho _ _ y3);have c4:=(HE.out.cell (p:=⟨wb,i * 5+4,none⟩) hwl).trans (Zaf ho _ _ y4);obtain ⟨W1,hW1⟩:∃ W1,W1=wr.alloc (.cells #[.slice ga' d.1.goals.length gc',.slice va' vl' vc',.slice ra' rl' rc',.int .i64 u',.int .i64 d.2] 135):=⟨_,rfl⟩;have hE1:Ext wr W1:=by rw [hW1]; exact Mxt
   have Hrow1:=Zaa (Zan Hrow.out (fun k hk=>hE1.block k (Hrow.out.lt k hk).2));have hs1:W1.heap.size=wr.heap.size+1:=by rw [hW1]; simp
   have Htk:Hid (ints ((Zhg way).take (i+1))=ints ((Zhg way).take i)++[.int .i64 ((d.2:Int) - 1)]):=by
    show _=_;rw [List.take_add_one,hu];simp [ints];omega
   have HE1:=Zaa hE1;have HW1:=Zaa hW1;have hd3:(-(2:Int) ^ 63<=(d.2:Int) - 1):=by omega
   clear hd hu hdm y0 y1 y2 y3 y4 hnode ho hwb hE1 hW1
   go_wp2_with (at_builtin; rw [<- HW1.out]; go_loud (refine Zak W1 rfl (.tmp 15) (.tmp 19) 25 rfl w.heap.size 3 Tryz.infoInt Tryz.underlying25 rfl (by decide) (.slice ga i gc) i (ints ((Zhg way).take i)) rfl Hrow1.out #[.int .i64 ((d.2:Int) - 1)] rfl (by omega) rfl (Zif _) ?_ ?_ ?_))
   ·omega
   ·omega
   intro v' w2 hap;obtain ⟨ga2,gc2,rfl⟩:=Zad hap.owns;have Hap:=Zaa hap;clear hap;go_wp2
   go_roundg (L - i)
   case measure=>omega
   case rel =>
    refine ⟨i+1,ga2,gc2,rfl,by go_num,by omega,by omega,(HE.out.trans (HE1.out.mono hs)).trans (Hap.out.kept.below (by omega) (fun k e=>(Hrow1.out.lt k e).1)),?_⟩;rw [Htk.out];exact Hap.out.owns
  ·have he:i=L:=by omega
   subst he;have Hfin:Hid (ints ((Zhg way).take i)=ints (Zhg way)):=by
    show _=_;rw [List.take_of_length_le (by rw [Hul.out]; omega)]
   go_wp2;go_ret;exact ⟨ga,gc,rfl,HE.out,by rw [<- Hfin.out]; exact Hrow.out⟩
theorem Zta (w:World) (b:Nat) (x:CX) (cs:List Cls) (a:List (List Sym) × Names) (m:SN) (h:CSr w b x cs a m) (hw:m.way.length<=200000) (hk:∀ y ∈ m.way,y.2<=4000) (hcl:cs.length<=24) (hT:m.tree.length+m.way.length<=200000) :
  Calls Tryz.prog 53 #[.pointer (some ⟨b,0,none⟩)] w fun e w'=>e = .returned (.tuple #[])/\Kept (only b) w w'/\CSr w' b x cs a (Zev cs m):=by
 have hbx:=h.box;obtain ⟨ca,cc,na,nc,wa,wc,va,vl,vc,fa,fl,fc⟩:=x;simp only [CX.cells] at hbx;obtain ⟨b0,b1,b2,b3,b4,b5,b6,b7,bf⟩:=box8 hbx;have H:=Zaa h;have Hk:=Zaa hk;have HT:=Zaa hT;have hbl:=Zac hbx;clear h hbx hk hT;go_enter Tryz.func53,Tryz.ntmps53;go_wp2
 go_loopg [2] (m.way.length+1) (fun gk lv wr=>∃ (way':List (ND × Nat)) (T':List UInt8),way'.length<gk/\lv = .int .i64 ((way'.length:Int) - 1)/\Zfn cs way' T'=Zfn cs m.way m.tree/\T'.length+way'.length<=200000/\way'.length<=200000/\(∀ y ∈ way',y.2<=4000)/\Kept (only b) w wr/\CSr wr b ⟨ca,cc,na,nc,wa,wc,va,vl,vc,fa,fl,fc⟩ cs a { m with way:=way',tree:=T' })
 case atStart=>exact ⟨m.way,m.tree,by omega,rfl,rfl,HT.out,hw,Hk.out,Kept.refl _ _,H.out⟩
 case round =>
  clear b0 b1 b2 b3 b4 b5 b6 b7 bf;obtain ⟨way',T',hgk,hlv,hlw,hT,hwl,hk',hK,hC⟩:=hrel;have hbx:=hC.box;simp only [CX.cells] at hbx;obtain ⟨b0,b1,b2,b3,b4,b5,b6,b7,bf⟩:=box8 hbx;have hbl':=Zac hbx
  cases hw':way' with
  | nil =>
   have hlv':u2 = .int .i64 (-1):=by rw [hlv,hw']; rfl
   subst hlv';have Hfin:Hid (∀ u,Kept (only b) wr u->(∀ k,u.heap[k]?=wr.heap[k]?)->Kept (only b) w u/\CSr u b ⟨ca,cc,na,nc,wa,wc,va,vl,vc,fa,fl,fc⟩ cs a (Zev cs m)):=fun u hu he=>by
    refine ⟨hK.trans hu,?_⟩;have e:Zev cs m = { m with way:=way',tree:=T' }:=by
     unfold Zev;rw [<- hlw,hw'];rfl
    rw [e];exact hC.ext ⟨hu.os,hu.tape,hu.output,hu.size,fun k _=>he k⟩
   clear hC hbx hK hlw hk' hlv hw' hgk hwl hT;go_wp2_with fail;go_quiet (fail);go_wp2;go_end0;exact ⟨rfl,Hfin.out _ ((Kept.refl _ wr).drewN _) (fun _=>rfl)⟩
  | cons y r =>
   obtain ⟨yn,yk⟩:=y;have hlv':u2 = .int .i64 (r.length:Int):=by rw [hlv,hw']; simp
   subst hlv';subst hw';simp only [List.length_cons] at b2 hgk hwl hT;obtain ⟨ys,hrow⟩:=hC.way;simp only [List.reverse_cons,List.length_cons] at hrow;have ho:=hrow.owns;rw [List.length_append,List.length_reverse,List.length_singleton] at ho;obtain ⟨wb,wcap,wcur,hwe,_,hwb,_⟩:=Zal ho (by omega);simp only [Value.slice.injEq] at hwe;obtain ⟨rfl,_,rfl⟩:=hwe;obtain ⟨x0,x1,x2,x3,y0,y1,y2,y3,y4,hnode⟩:=hrow.all r.length (yn,yk) (by rw [List.getElem?_append_right (by simp)]; simp);have c4:=Zaf ho _ _ y4;simp only at c4;have hyk:=hk' (yn,yk) (by simp);simp only at hyk;have hwbl:=Zac hwb
   by_cases hN:cs.length<=yk
   ·have hN':(cs.length:Int)<=(yk:Int):=by omega
    have hpop:=hrow.pop List.length_reverse;have Hstr:=Zaa (Zbk T' [41]);have Hbx:=Zaa hbx;have Hnext:Hid (∀ u,Kept (only b) wr u->u.heap[b]?=some (.cells #[.slice ca cs.length cc,.slice na a.2.length nc,.slice (some ⟨wb,0,none⟩) r.length wc,.int .i64 m.tries,.int .i64 m.status,.slice va vl vc,.slice fa fl fc,.string ⟨(T'++[41]).toArray⟩] 112 (0,0))->Kept (only b) w u/\CSr u b ⟨ca,cc,na,nc,some ⟨wb,0,none⟩,wc,va,vl,vc,fa,fl,fc⟩ cs a { m with way:=r,tree:=T'++[41] }):=fun u hu hb=>⟨hK.trans hu,hC.upd hu hb ⟨rfl,rfl,rfl,rfl⟩ ⟨_,hpop⟩ hC.found⟩;have Hlw:Hid (Zfn cs r (T'++[41])=Zfn cs m.way m.tree):=by
     have h1:=hlw;simp only [Zfn] at h1;rw [if_pos hN] at h1;exact h1
    have Hk2:Hid (∀ y ∈ r,y.2<=4000):=fun y hy=>hk' y (by simp [hy]);clear hC hbx hK hlw hk' hlv hrow ho y0 y1 y2 y3 y4 hnode hwb hpop hN;go_wp2_with fail;go_quiet (fail);go_wp2
    go_roundg (r.length+1)
    case measure=>omega
    case rel =>
     obtain ⟨g1,g2⟩:=Hnext.out _ ((((Kept.refl (only b) wr).drewN _).put 7 _).put 2 _) (Zag (Zag (w:=wr.drewN _) Hbx.out 7 _) 2 _);exact ⟨r,T'++[41],by omega,rfl,Hlw.out,by simp; omega,by omega,Hk2.out,g1,g2⟩
   ·have hN':¬ (cs.length:Int)<=(yk:Int):=by omega
    have Hfin:Hid (∀ u,Kept (only b) wr u->(∀ k,u.heap[k]?=wr.heap[k]?)->Kept (only b) w u/\CSr u b ⟨ca,cc,na,nc,some ⟨wb,0,none⟩,wc,va,vl,vc,fa,fl,fc⟩ cs a (Zev cs m)):=fun u hu he=>by
     refine ⟨hK.trans hu,?_⟩;have e:Zev cs m = { m with way:=(yn,yk)::r,tree:=T' }:=by
      unfold Zev;rw [<- hlw];simp only [Zfn];rw [if_neg hN]
     rw [e];exact hC.ext ⟨hu.os,hu.tape,hu.output,hu.size,fun k _=>he k⟩
    clear hC hbx hK hlw hk' hlv hrow ho y0 y1 y2 y3 y4 hnode hwb hN;go_wp2_with fail;go_quiet (fail);go_wp2;go_end0;exact ⟨rfl,Hfin.out _ ((Kept.refl _ wr).drewN _) (fun _=>rfl)⟩
theorem Tryz.infoLevel:(Tryz.prog.info? 135).map (fun i=>(i.zero,i.size,i.bytes))=some (some (.agg #[.slice none 0 0,.slice none 0 0,.slice none 0 0,.int .i64 0,.int .i64 0]),5,88):=by kernel_rfl
theorem Ydh {a0 a1 a2:Option Addr} {l0 l1 l2 c0 c1 c2:Nat} {v k:Int}:∀ u ∈ (#[Value.slice a0 l0 c0,.slice a1 l1 c1,.slice a2 l2 c2,.int .i64 v,.int .i64 k]:Array Value).toList,u.oneCell'=true:=by
 intro u hu;simp at hu;rcases hu with rfl | rfl | rfl | rfl | rfl <;> rfl
theorem Zzm (w:World) (b:Nat) (x:CX) (cs:List Cls) (a:List (List Sym) × Names) (m:SN) (gv vv rv uv:Value) (n:ND) (h:CSr w b x cs a m) (hn:CNode w gv vv rv uv n) (hw:m.way.length<=200000) (hg:n.goals=[]) (hu:n.used=Zhg m.way) (hk:∀ y ∈ m.way,1<=y.2/\y.2<=4000) (hT:m.tree.length<=200000) :
  Calls Tryz.prog 52 #[.pointer (some ⟨b,0,none⟩),.agg #[gv,vv,rv,uv]] w fun e w'=>e = .returned (.tuple #[])/\∃ x',Kept (ownS b x) w w'/\CSr w' b x' cs a (Zdd m n)/\Ziq w x x':=by
 obtain ⟨n1,hN,hU,hOk,hNm,hFw,hS⟩:=hn;obtain ⟨ga,gc,va',vl',vc',ra,rl,rc,u,rfl,rfl,rfl,rfl,hu4⟩:=CNode.shape ⟨n1,hN,hU,hOk,hNm,hFw,hS⟩;have hbx:=h.box;obtain ⟨ca,cc,na,nc,wa,wc,va,vl,vc,fa,fl,fc⟩:=x;simp only [CX.cells] at hbx;obtain ⟨b0,b1,b2,b3,b4,b5,b6,b7,bf⟩:=box8 hbx;have hbl:=Zac hbx;obtain ⟨ys,hrow⟩:=h.way;have Hstr:=Zaa (Zbk m.tree [33]);have hen:Zdd m n = { m with tree:=m.tree++[33],status:=1,found:=n }:=by unfold Zdd; rw [if_pos hg]
 have HTL:Hid (∀ y,Kept (only b) w y->y.heap[b]?=some (.cells #[.slice ca cs.length cc,.slice na a.2.length nc,.slice wa m.way.length wc,.int .i64 m.tries,.int .i64 1,.slice va' vl' vc',.slice fa fl fc,.string ⟨(m.tree++[33]).toArray⟩] 112 (0,0))->Calls Tryz.prog 75 #[.pointer (some ⟨b,0,none⟩)] y fun e y'=>∃ fa' fc',e = .returned (.slice fa' m.way.length fc')/\Kept (only b) w y'/\y'.heap[b]?=some (.cells #[.slice ca cs.length cc,.slice na a.2.length nc,.slice wa m.way.length wc,.int .i64 m.tries,.int .i64 1,.slice va' vl' vc',.slice fa fl fc,.string ⟨(m.tree++[33]).toArray⟩] 112 (0,0))/\y'.ownsRow 0 3 1 (.slice fa' m.way.length fc') m.way.length (ints (Zhg m.way))):=fun y hy hb=>by
  refine (Zqs y b wa wc m.way ys (Zab hb 2 _ rfl) (hrow.keep hy h.off (fun k hj e => ?_)) hw hk).mono ?_
  ·have e:k=b:=e;subst e;rcases hrow.owns.2 with ⟨e,_⟩ | ⟨g,cap,cur,e,_,hg,_⟩
   ·rw [e] at hj; simp [Value.ownBlock] at hj
   ·rw [e] at hj;simp [Value.ownBlock] at hj;subst hj;rw [hbx] at hg;simp at hg
  ·rintro e y' ⟨fa',fc',rfl,hE,ho⟩;exact ⟨fa',fc',rfl,hy.then (Kept.of_below hE) (fun i hi h=>by have:=hy.size; omega),(hE.block _ (Zac hb)).trans hb,Zbe ho (Nat.zero_le _)⟩
 have Hfin:Hid (∀ y fa' fc',Kept (only b) w y->y.heap[b]?=some (.cells #[.slice ca cs.length cc,.slice na a.2.length nc,.slice wa m.way.length wc,.int .i64 m.tries,.int .i64 1,.slice va' vl' vc',.slice fa fl fc,.string ⟨(m.tree++[33]).toArray⟩] 112 (0,0))->y.ownsRow 0 3 1 (.slice fa' m.way.length fc') m.way.length (ints (Zhg m.way))->∃ x',Kept (ownS b ⟨ca,cc,na,nc,wa,wc,va,vl,vc,fa,fl,fc⟩) w (y.setCell ⟨b,6,none⟩ (.slice fa' m.way.length fc'))/\CSr (y.setCell ⟨b,6,none⟩ (.slice fa' m.way.length fc')) b x' cs a (Zdd m n)/\Ziq w ⟨ca,cc,na,nc,wa,wc,va,vl,vc,fa,fl,fc⟩ x'):=fun y fa' fc' hy hb ho=>by
  have hk2:Kept (only b) w (y.setCell ⟨b,6,none⟩ (.slice fa' m.way.length fc')):=hy.put 6 _;have hoff:OffCode (only b) y:=fun k e=>by
   have e:k=b:=e;subst e;exact ⟨_,_,_,hb,by simp [Zdr]⟩
  have hk3:Kept (only b) y (y.setCell ⟨b,6,none⟩ (.slice fa' m.way.length fc')):=(Kept.refl _ _).put 6 _;refine ⟨⟨ca,cc,na,nc,wa,wc,va',vl',vc',fa',m.way.length,fc'⟩,hk2.mono (fun i hi e=>Or.inl e),?_,fun k hk=>Or.inl hk⟩;rw [hen];refine h.upd' hk2 (Zag hb 6 _) ⟨rfl,rfl,rfl,rfl⟩ ⟨ys,hrow⟩ (fun _=>⟨⟨n1,h.off.terms hk2 hN.vals,hOk,hNm,hS⟩,?_⟩);have hl:n.used.length=m.way.length:=by rw [hu]; simp [Zhg]
  show World.ownsRow _ 0 _ 1 _ n.used.length (ints n.used);rw [hl,hu];exact hoff.own (by simp [Zdr]) hk3 ho
 have Hbx:=Zaa hbx;rw [hg];clear h hN hrow hbx hk hu hen hS hOk hNm hFw hU;go_enter Tryz.func52,Tryz.ntmps52;go_wp2_with fail;refine (HTL.out _ (by repeat (first | exact Kept.refl _ _ | apply Kept.alloc | apply Kept.put | apply Kept.drew)) (Zah (by rw [<- Hstr.out]; exact Zag (Zag (Zag Hbx.out 7 _) 4 _) 5 _) _)).mono ?_;rintro e w3 ⟨fa',fc',rfl,hK3,hb3,ho3⟩;have c6:=Zab hb3 6 _ rfl;have cf:=fun i=>Zae hb3 i;have H3:=Zaa (Hfin.out w3 fa' fc' hK3 hb3 ho3);have hbl3:=Zac hb3;clear hK3 hb3 ho3 b0 b1 b2 b3 b4 b5 b6 b7 bf;go_wp2;go_end0;exact ⟨rfl,H3.out⟩
theorem Zpd (w:World) (b:Nat) (x:CX) (cs:List Cls) (a:List (List Sym) × Names) (m:SN) (gv vv rv uv:Value) (n:ND) (h:CSr w b x cs a m) (hn:CNode w gv vv rv uv n) (hw:m.way.length<=200000) (hg:n.goals≠[]) (hT:m.tree.length<=200000) :
  Calls Tryz.prog 52 #[.pointer (some ⟨b,0,none⟩),.agg #[gv,vv,rv,uv]] w fun e w'=>e = .returned (.tuple #[])/\∃ x',Kept (ownS b x) w w'/\CSr w' b x' cs a (Zdd m n)/\Ziq w x x':=by
 obtain ⟨ga,gc,va',vl',vc',ra,rl,rc,u,rfl,rfl,rfl,rfl,hu4⟩:=hn.shape;have hgl:0<n.goals.length:=List.length_pos_iff.2 hg;obtain ⟨z,hz⟩:∃ z,z=n.goals.length:=⟨_,rfl⟩;rw [<- hz] at hgl hn ⊢;have hbx:=h.box;obtain ⟨ca,cc,na,nc,wa,wc,va,vl,vc,fa,fl,fc⟩:=x;simp only [CX.cells] at hbx;obtain ⟨b0,b1,b2,b3,b4,b5,b6,b7,bf⟩:=box8 hbx;have hbl:=Zac hbx;obtain ⟨ys,hrow⟩:=h.way;obtain ⟨L,hL⟩:∃ L,L=m.way.length:=⟨_,rfl⟩;have ho:=hrow.owns;rw [List.length_reverse] at ho;simp only [<- hL] at b2 ho hw;have Hstr:=Zaa (Zbk m.tree [40]);have hen:Zdd m n = { m with way:=(n,0)::m.way,tree:=m.tree++[40] }:=by unfold Zdd; rw [if_neg hg]
 have HL:=Zaa hL;have Hbx:=Zaa hbx;have H:=Zaa h;have Hn:=Zaa hn;have Hrow:=Zaa hrow;have Ho:=Zaa ho;have Hen:=Zaa hen;have hzi:(0:Int)<(z:Int):=by omega
 clear h hn hrow ho hbx hen hg hz hL;go_enter Tryz.func52,Tryz.ntmps52;go_wp2_with fail;obtain ⟨U,hU⟩:∃ U,U=(w.setCell ⟨b,7,none⟩ (.string (⟨m.tree.toArray⟩++⟨#[40]⟩))).alloc (.cells #[.slice ga z gc,.slice va' vl' vc',.slice ra rl rc,.int .i64 u] 87):=⟨_,rfl⟩;rw [<- hU];have hKU:Kept (only b) w U:=by rw [hU]; exact ((Kept.refl _ _).put 7 _).alloc _
 have hbU:U.heap[b]?=some (.cells #[.slice ca cs.length cc,.slice na a.2.length nc,.slice wa L wc,.int .i64 m.tries,.int .i64 m.status,.slice va vl vc,.slice fa fl fc,.string ⟨(m.tree++[40]).toArray⟩] 112 (0,0)):=by rw [hU,<- Hstr.out,HL.out]; exact Zah (Zag Hbx.out 7 _) _
 have hnU:U.heap[w.heap.size]?=some (.cells #[.slice ga z gc,.slice va' vl' vc',.slice ra rl rc,.int .i64 u] 87 (0,0)):=by rw [hU]; exact Zgt (by simp) _
 have hsU:U.heap.size=w.heap.size+1:=by rw [hU]; simp
 have hap0:∀ k,(Value.slice wa L wc).ownBlock=some k->k≠b:=fun k hj e=>by
  subst e;rcases Ho.out.2 with ⟨e,_⟩ | ⟨g,cap,cur,e,_,hg,_⟩
  ·rw [e] at hj; simp [Value.ownBlock] at hj
  ·rw [e] at hj;simp [Value.ownBlock] at hj;subst hj;rw [Hbx.out] at hg;simp at hg
 have hrU:=Hrow.out.keep hKU H.out.off (fun k hj e=>hap0 k (by rw [HL.out]; exact hj) e);have hoU:U.ownsRow 0 135 5 (.slice wa L wc) L ys:=by
  have:=hrU.owns;rw [List.length_reverse,<- HL.out] at this;exact this
 have Hfin:Hid (∀ w2 wa2 wc2,Appended (U.drewN 1) 0 135 5 (.slice wa L wc) (L+1) (ys++[.slice ga z gc,.slice va' vl' vc',.slice ra rl rc,.int .i64 u,.int .i64 0]) (.slice wa2 (L+1) wc2) w2->w2.heap[b]?=some (.cells #[.slice ca cs.length cc,.slice na a.2.length nc,.slice wa L wc,.int .i64 m.tries,.int .i64 m.status,.slice va vl vc,.slice fa fl fc,.string ⟨(m.tree++[40]).toArray⟩] 112 (0,0))/\∃ x',Kept (ownS b ⟨ca,cc,na,nc,wa,wc,va,vl,vc,fa,fl,fc⟩) w (w2.setCell ⟨b,2,none⟩ (.slice wa2 (L+1) wc2))/\CSr (w2.setCell ⟨b,2,none⟩ (.slice wa2 (L+1) wc2)) b x' cs a (Zdd m n)/\Ziq w ⟨ca,cc,na,nc,wa,wc,va,vl,vc,fa,fl,fc⟩ x'):=fun w2 wa2 wc2 hap=>by
  have hb2:w2.heap[b]?=_:=(hap.kept.block b (by show b<U.heap.size; omega) (fun e=>hap0 b e rfl)).trans hbU;refine ⟨hb2,?_⟩;have hK2:Kept (Zas (.slice wa L wc)) U w2:=⟨hap.kept.os,hap.kept.tape,hap.kept.output,hap.kept.size,hap.kept.block⟩;have hK3:Kept (only b) w2 (w2.setCell ⟨b,2,none⟩ (.slice wa2 (L+1) wc2)):=(Kept.refl _ _).put 2 _;have hK:Kept (ownS b ⟨ca,cc,na,nc,wa,wc,va,vl,vc,fa,fl,fc⟩) w (w2.setCell ⟨b,2,none⟩ (.slice wa2 (L+1) wc2)):=((hKU.mono (fun i _ e=>Or.inl e)).trans ((hK2.mono (fun i _ e=>Or.inr (Zkd.1 e))):Kept (ownS b ⟨ca,cc,na,nc,wa,wc,va,vl,vc,fa,fl,fc⟩) U w2)).trans (hK3.mono (fun i _ e=>Or.inl e));have hS:=H.out.offS;obtain ⟨xs,hP⟩:=H.out.prog;have hR2:RowL w2 (.slice wa2 (L+1) wc2) (m.way.reverse++[(n,0)]) _:=hrU.step (k:=0) (Hn.out.keep hKU H.out.off) ⟨by rw [List.length_reverse,<- HL.out]; exact hap.owns,by rw [<- HL.out]; exact hK2,by rw [<- HL.out]; exact hap.where_⟩;have hoff2:OffCode (only b) w2:=fun k e=>by
   have e:k=b:=e;subst e;exact ⟨_,_,_,hb2,by simp [Zdr]⟩
  have hR3:=hR2.keep hK3 hoff2 (fun k hj e=>by
   have e:k=b:=e;subst e;rcases hR2.owns.2 with ⟨e,_⟩ | ⟨g,cap,cur,e,_,hg,_⟩
   ·rw [e] at hj; simp [Value.ownBlock] at hj
   ·rw [e] at hj;simp [Value.ownBlock] at hj;subst hj;rw [hb2] at hg;simp at hg)
  refine ⟨⟨ca,cc,na,nc,wa2,wc2,va,vl,vc,fa,fl,fc⟩,hK,?_,fun k hk => ?_⟩
  ·rw [Hen.out];refine ⟨?_,⟨xs,hS.prog hK hP⟩,hS.own (by simp [Zdr]) hK H.out.names,⟨ys++[.slice ga z gc,.slice va' vl' vc',.slice ra rl rc,.int .i64 u,.int .i64 ((0:Nat):Int)],?_⟩,fun hs => ?_⟩
   ·simp only [CX.cells,List.length_cons];rw [<- HL.out];exact Zag hb2 2 _
   ·simp only [List.reverse_cons,List.length_cons];rw [<- HL.out];exact hR3
   ·obtain ⟨⟨n',g1,g2⟩,g3⟩:=H.out.found hs;exact ⟨⟨n',hS.terms hK g1,g2⟩,hS.own (by simp [Zdr]) hK g3⟩
  ·have hj:(Value.slice wa2 (L+1) wc2).ownBlock=some k:=Zkd.2 hk;rcases hap.where_ with e | ⟨g,e,hg⟩
   ·rw [e] at hj;exact Or.inl (Zkd.1 hj)
   ·rw [e] at hj;simp at hj;subst hj;exact Or.inr (by have:U.heap.size<=g:=hg; omega)
 have HoU:=Zaa hoU;have c2:=Zab hbU 2 _ rfl;have cf:=fun i=>Zae hbU i;have k0:=Zab hnU 0 _ rfl;have k1:=Zab hnU 1 _ rfl;have k2:=Zab hnU 2 _ rfl;have k3:=Zab hnU 3 _ rfl;clear hU hKU hbU hnU hap0 hrU hoU b0 b1 b2 b3 b4 b5 b6 b7 bf
 go_region_law (refine Zca (U.drewN 1) rfl (.tmp 19) (.tmp 22) 110 rfl 0 135 Tryz.infoLevel Tryz.underlying110 rfl (by decide) (.slice wa L wc) L ys rfl HoU.out #[.slice ga z gc,.slice va' vl' vc',.slice ra rl rc,.int .i64 u,.int .i64 0] rfl (by show _=U.heap.size; omega) rfl Ydh (by omega) (by omega) rfl ?_; intro v' w2 hap; obtain ⟨wa2,wc2,rfl⟩:=Zad hap.owns; obtain ⟨hb2,hfin⟩:=Hfin.out _ _ _ hap; have d2:=Zab hb2 2 _ rfl; have df:=fun i=>Zae hb2 i; have H2:=Zaa hfin; clear hap hb2 hfin)
 all_goals
  go_wp2
  (try simp only [Exit.inBlock,Exit.then])
  refine bodyPost_ret (results_none rfl _ _ _) rfl ?_;exact ⟨rfl,H2.out⟩
theorem RowL.bump {w:World} {wb cap:Nat} {ds:List (ND × Nat)} {n:ND} {k:Nat} {xs:List Value} (h:RowL w (.slice (some ⟨wb,0,none⟩) (ds.length+1) cap) (ds++[(n,k)]) xs) (k':Nat) :
  RowL (w.setCell ⟨wb,ds.length * 5+4,none⟩ (.int .i64 k')) (.slice (some ⟨wb,0,none⟩) (ds.length+1) cap) (ds++[(n,k')]) (xs.set (ds.length * 5+4) (.int .i64 k')):=by
 have ho:=h.owns;have hxl:=ho.1;rw [List.length_append,List.length_singleton] at ho hxl;have hS:=Zkc ho;have hk:=Zea w wb (ds.length+1) cap (ds.length * 5+4) (.int .i64 k');refine ⟨by rw [List.length_append,List.length_singleton]; exact Zcx ho _ _,fun i d hd => ?_⟩;rcases Nat.lt_or_ge i ds.length with hi | hi
 ·rw [List.getElem?_append_left hi] at hd;obtain ⟨p0,p1,p2,p3,y0,y1,y2,y3,y4,g⟩:=h.all i d (by rw [List.getElem?_append_left hi]; exact hd);exact ⟨p0,p1,p2,p3,by rw [List.getElem?_set_ne (by omega)]; exact y0,by rw [List.getElem?_set_ne (by omega)]; exact y1,by rw [List.getElem?_set_ne (by omega)]; exact y2,by rw [List.getElem?_set_ne (by omega)]; exact y3,by rw [List.getElem?_set_ne (by omega)]; exact y4,g.keep hk hS⟩
 ·have e:i=ds.length:=by
   have:=(List.getElem?_eq_some_iff.1 hd).1;simp at this; omega
  subst e;rw [List.getElem?_append_right (Nat.le_refl _)] at hd;simp at hd;subst hd;obtain ⟨p0,p1,p2,p3,y0,y1,y2,y3,y4,g⟩:=h.all ds.length (n,k) (by rw [List.getElem?_append_right (Nat.le_refl _)]; simp);exact ⟨p0,p1,p2,p3,by rw [List.getElem?_set_ne (by omega)]; exact y0,by rw [List.getElem?_set_ne (by omega)]; exact y1,by rw [List.getElem?_set_ne (by omega)]; exact y2,by rw [List.getElem?_set_ne (by omega)]; exact y3,by rw [List.getElem?_set_self (by omega)],g.keep hk hS⟩
theorem CSr.bump {w:World} {b wb:Nat} {x:CX} {cs:List Cls} {a:List (List Sym) × Names} {m:SN} {n:ND} {k:Nat} {r:List (ND × Nat)} (h:CSr w b x cs a m) (hw:m.way=(n,k)::r) (hx:x.wa=some ⟨wb,0,none⟩) :
  Kept (ownS b x) w ((w.setCell ⟨wb,r.length * 5+4,none⟩ (.int .i64 ((k+1:Nat):Int))).setCell ⟨b,3,none⟩ (.int .i64 ((m.tries+1:Nat):Int)))/\CSr ((w.setCell ⟨wb,r.length * 5+4,none⟩ (.int .i64 ((k+1:Nat):Int))).setCell ⟨b,3,none⟩ (.int .i64 ((m.tries+1:Nat):Int))) b x cs a { m with way:=(n,k+1)::r,tries:=m.tries+1 }:=by
 obtain ⟨ys,hrow⟩:=h.way;obtain ⟨xs,hP⟩:=h.prog;rw [hw,hx,List.length_cons,List.reverse_cons] at hrow;have hbx:=h.box;have hne:wb≠b:=fun e=>by
  subst e;rcases hrow.owns.2 with ⟨e,_⟩ | ⟨g,cap,cur,e,_,hg,_⟩
  ·simp at e
  ·simp at e;obtain ⟨rfl,_⟩:=e;rw [hbx] at hg;simp at hg
 have hK1:Kept (Zas (.slice (some ⟨wb,0,none⟩) (r.length+1) x.wc)) w (w.setCell ⟨wb,r.length * 5+4,none⟩ (.int .i64 ((k+1:Nat):Int))):=Zea w wb (r.length+1) x.wc _ _;have hb1:(w.setCell ⟨wb,r.length * 5+4,none⟩ (.int .i64 ((k+1:Nat):Int))).heap[b]?=_:=(hK1.block b (Zac hbx) (fun e=>hne (by simpa [Zas,Value.ownBlock] using e))).trans hbx;have hK2:Kept (only b) (w.setCell ⟨wb,r.length * 5+4,none⟩ (.int .i64 ((k+1:Nat):Int))) _:=(Kept.refl (only b) _).put 3 (.int .i64 ((m.tries+1:Nat):Int));have hK:Kept (ownS b x) w ((w.setCell ⟨wb,r.length * 5+4,none⟩ (.int .i64 ((k+1:Nat):Int))).setCell ⟨b,3,none⟩ (.int .i64 ((m.tries+1:Nat):Int))):=(hK1.mono (fun i _ e=>Or.inr (by rw [hx]; exact Zkd.1 e))).trans (hK2.mono (fun i _ e=>Or.inl e));have hS:=h.offS;have hR1:=RowL.bump (ds:=r.reverse) (n:=n) (k:=k) (xs:=ys) (by rw [List.length_reverse]; exact hrow) (k+1);rw [List.length_reverse] at hR1;have hoff1:OffCode (only b) (w.setCell ⟨wb,r.length * 5+4,none⟩ (.int .i64 ((k+1:Nat):Int))):=fun j e=>by
  have e:j=b:=e;subst e;exact ⟨_,_,_,hb1,by simp [Zdr]⟩
 have hR2:=hR1.keep hK2 hoff1 (fun j hj e=>by
  have e:j=b:=e;subst e;exact hne (by simpa [Value.ownBlock] using hj))
 refine ⟨hK,(by have:=Zag hb1 3 (.int .i64 ((m.tries+1:Nat):Int)); rw [hw] at this; exact this),⟨xs,hS.prog hK hP⟩,hS.own (by simp [Zdr]) hK h.names,⟨_,by rw [hx]; simp only [List.reverse_cons,List.length_cons]; exact hR2⟩,fun hs => ?_⟩;obtain ⟨⟨n',g1,g2⟩,g3⟩:=h.found hs;exact ⟨⟨n',hS.terms hK g1,g2⟩,hS.own (by simp [Zdr]) hK g3⟩
def TreePh (W:World) (b:Nat) (T X:List UInt8):List Value->World->Prop
 | [],y=>y=W
 | [v],y=>y=W/\v = .string ⟨X.toArray⟩
 | [v,_],y=>v = .string ⟨X.toArray⟩/\y=W.setCell ⟨b,7,none⟩ (.string ⟨(T++X).toArray⟩)
 | _,_=>False
theorem TreePh.at {W:World} {b:Nat} {T X:List UInt8} {vs:List Value} {y:World} (h:TreePh W b T X vs y):(vs.length<=1->y=W)/\(1<=vs.length->vs.getD 0 undef = .string ⟨X.toArray⟩):=by
 match vs,h with
 | [],h=>exact ⟨fun _=>h,fun h=>by simp at h⟩
 | [v],h=>exact ⟨fun _=>h.1,fun _=>by simpa using h.2⟩
 | [v,v'],h=>exact ⟨fun h=>by simp at h,fun _=>by simpa using h.1⟩
theorem Zve (w:World) (b:Nat) (x:CX) (cs:List Cls) (a:List (List Sym) × Names) (m:SN) (h:CSr w b x cs a m) (hI:InvN cs a m) (h0:m.status=0) (hw:m.way≠[]) (ht:m.tries<3000) (hcs:∀ c ∈ cs,COk c/\CNm c) (hcf:∀ c ∈ cs,CFew c) (hcl:cs.length<=24) :
  Calls Tryz.prog 76 #[.pointer (some ⟨b,0,none⟩)] w fun e w'=>e = .returned (.tuple #[])/\∃ x',Kept (ownS b x) w w'/\CSr w' b x' cs a (Zbd cs m)/\Ziq w x x':=by
 obtain ⟨n,k,r,c,hw1,hc,hg⟩:=hI.head hw;have hkl:=(List.getElem?_eq_some_iff.1 hc).1;have hlen:=hI.len;rw [hw1,List.length_cons] at hlen;have hrl:r.length+1<=100000:=by omega
 obtain ⟨xs,hP⟩:=h.prog;obtain ⟨ys,hrow⟩:=h.way;have hbx:=h.box;obtain ⟨ca,cc,na,nc,wa,wc,va,vl,vc,fa,fl,fc⟩:=x;simp only [CX.cells] at hbx hP hrow;rw [hw1,List.length_cons,List.reverse_cons] at hrow;rw [hw1,List.length_cons,h0] at hbx;have ho:=hrow.owns;rw [List.length_append,List.length_reverse,List.length_singleton] at ho;obtain ⟨wb,wcap,wcur,hwe,_,hwb,hwcap⟩:=Zal ho (by omega);simp only [Value.slice.injEq] at hwe;obtain ⟨rfl,_,rfl⟩:=hwe;obtain ⟨x0,x1,x2,x3,y0,y1,y2,y3,y4,hnode⟩:=hrow.all r.length (n,k) (by rw [List.getElem?_append_right (by simp)]; simp);obtain ⟨lb,lcap,lcur,hle,_,hlb,_⟩:=Zal hP.owns (by omega);simp only [Value.slice.injEq] at hle;obtain ⟨rfl,_,rfl⟩:=hle;obtain ⟨b0,b1,b2,b3,b4,b5,b6,b7,bf⟩:=box8 hbx;have c4:=Zaf ho _ _ y4;simp only at c4;have hwf:=fun i=>Zae hwb i;have hbl:=Zac hbx;have hwbl:=Zac hwb;have hne:wb≠b:=fun e=>by
  subst e;rw [hbx] at hwb;simp at hwb
 have hne':b≠wb:=fun e=>hne e.symm;have hki:¬ ((cs.length:Int)<=(k:Int)):=by omega
 have hgd:decide ((r.length:Int)<0)=false:=by rw [decide_eq_false_iff_not]; omega
 obtain ⟨tr,htr⟩:∃ x,x=m.tries:=⟨_,rfl⟩;rw [<- htr] at hbx b3;have htr3:tr<=3000:=by omega
 have HI:=Zaa hI;have H:=Zaa h;have Hcs:=Zaa hcs;have Hcf:=Zaa hcf;have Hw1:=Zaa hw1;have Hc:=Zaa hc;have Hg:=Zaa hg;have H0:=Zaa h0;have Htr:=Zaa htr;have Ht:=Zaa ht;clear h hI hcs hcf hw1 hc hg h0 hw hP hrow ho hwb hlb hbx y0 y1 y2 y3 y4 hnode htr ht hlen;go_enter Tryz.func76,Tryz.ntmps76;go_wp2_with fail;go_quiet (fail);go_wp2_with fail;obtain ⟨W4,hW4⟩:∃ W4,W4=((w.drewN nq).setCell ⟨wb,r.length * 5+4,none⟩ (.int .i64 ((k:Int)+1))).setCell ⟨b,3,none⟩ (.int .i64 ((tr:Int)+1)):=⟨_,rfl⟩;rw [<- hW4];have hE0:Ext w (w.drewN nq):=Ext.of ((Kept.refl _ w).drewN _);obtain ⟨hK4,hC4⟩:=(H.out.ext hE0).bump Hw1.out rfl;rw [show ((k+1:Nat):Int)=(k:Int)+1 by omega,<- Htr.out,show ((tr+1:Nat):Int)=(tr:Int)+1 by omega,<- hW4] at hK4 hC4;have hKw:Kept (ownS b ⟨some ⟨lb,0,none⟩,cc,na,nc,some ⟨wb,0,none⟩,wc,va,vl,vc,fa,fl,fc⟩) w W4:=((Kept.refl _ w).drewN nq).trans hK4;obtain ⟨M4,hM4⟩:∃ M4:SN,M4 = { m with way:=(n,k+1)::r,tries:=tr+1 }:=⟨_,rfl⟩;rw [<- hM4] at hC4;have hbx4:=hC4.box;rw [hM4] at hbx4;simp only [CX.cells,List.length_cons] at hbx4;rw [H0.out] at hbx4;clear b0 b1 b2 b3 b4 b5 b6 b7 bf c4 hwf;obtain ⟨b0,b1,b2,b3,b4,b5,b6,b7,bf⟩:=box8 hbx4;obtain ⟨ys4,hrow4⟩:=hC4.way;rw [hM4] at hrow4;simp only [List.length_cons,List.reverse_cons] at hrow4;have ho4:=hrow4.owns;rw [List.length_append,List.length_reverse,List.length_singleton] at ho4;obtain ⟨x0,x1,x2,x3,y0,y1,y2,y3,y4,hnode⟩:=hrow4.all r.length (n,k+1) (by rw [List.getElem?_append_right (by simp)]; simp);obtain ⟨n1,hN1,rfl,hOk,hNm,hFw,hSm⟩:=hnode;obtain ⟨ga,gcap,rfl⟩:=hN1.goals.shape;obtain ⟨va',vcap',rfl⟩:=hN1.vals.shape;obtain ⟨ra',rcap',rfl⟩:=hN1.done.shape;simp only [List.length_map] at hN1 y0 y1 y2;have c0:=Zaf ho4 _ _ y0;have c1:=Zaf ho4 _ _ y1;have c2:=Zaf ho4 _ _ y2;have c3:=Zaf ho4 _ _ y3;obtain ⟨xs4,hP4⟩:=hC4.prog;obtain ⟨cv0,cv1,cv2,l0,l1,l2,hcl2⟩:=hP4.cell Hc.out;obtain ⟨d0,d1,rfl⟩:=Zad hcl2.head;obtain ⟨d2,d3,rfl⟩:=hcl2.body.shape;obtain ⟨d4,d5,rfl⟩:=Zad hcl2.names;have hbl4:=Zac hbx4;have hwbl4:wb<W4.heap.size:=Nat.lt_of_lt_of_le hwbl hKw.size;have hlbl:lb<W4.heap.size:=World.block_lt_of_cell? W4 ⟨lb,k * 3,none⟩ l0;obtain ⟨hco,hcm⟩:=Hcs.out c (List.mem_of_getElem? Hc.out);have HIc:Hid (∀ Z u,Ext W4.drew u->(∀ k,Z k->W4.heap.size<=k/\k<u.heap.size)->Calls Tryz.prog 97 #[.agg #[.slice ga n1.goals.length gcap,.slice va' n1.vals.length vcap',.slice ra' n1.done.length rcap',.int .i64 n1.vars],.agg #[.slice d0 c.head.length d1,.slice d2 c.body.length d3,.slice d4 c.names.length d5]] u fun e u'=>∃ r,e = .returned r/\Ext u u'/\TryX n1 c k Z r u'):=fun Z u hu hZ=>by
  have hwu:Ext W4 u:=hu.undrew;refine (Yfd u _ _ _ _ _ _ n1 c k hOk hco (hN1.ext hwu) (hcl2.ext hwu)).mono ?_;intro e u' h;exact h.toX (fun j hj=>(hZ j hj).2)
 have Hco:=Zaa hco;have HOk:=Zaa hOk;have HNm:=Zaa hNm;have HFw:=Zaa hFw;have HSm:=Zaa hSm;have Hcm:=Zaa hcm;have HCf:Hid (CFew c):=Hcf.out c (List.mem_of_getElem? Hc.out);have HC4:=Zaa hC4;have HK4:=Zaa hKw;have HM4:=Zaa hM4;have hrlt:r.length<r.length+1:=by omega
 clear hW4 hE0 hK4 hC4 hKw hM4 hbx4 hrow4 ho4 y0 y1 y2 y3 y4 hN1 hP4 hcl2 hco hOk hNm hFw hSm hcm;refine Zho (by kernel_rfl) [.pur (.pointer (some ⟨b,0,none⟩)),.pur (.pointer (some ⟨b,0,none⟩)),.pur (.pointer (some ⟨b,2,none⟩)),.pur (.slice (some ⟨wb,0,none⟩) (r.length+1) wc),.pur (.int .i64 r.length),.pur (.pointer (some ⟨wb,r.length * 5,none⟩)),.pur (.pointer (some ⟨wb,r.length * 5,none⟩)),.pur (.agg #[.slice ga n1.goals.length gcap,.slice va' n1.vals.length vcap',.slice ra' n1.done.length rcap',.int .i64 n1.vars]),
  .pur (.pointer (some ⟨b,0,none⟩)),.pur (.pointer (some ⟨b,0,none⟩)),.pur (.pointer (some ⟨b,0,none⟩)),.pur (.slice (some ⟨lb,0,none⟩) cs.length cc),.pur (.int .i64 k),.pur (.pointer (some ⟨lb,k * 3,none⟩)),.pur (.agg #[.slice d0 c.head.length d1,.slice d2 c.body.length d3,.slice d4 c.names.length d5]),
  .cal,.post (fun v=>v),.post (Zdn 0),.post (Zdn 1),.alo 87 #[.slice none 0 0,.slice none 0 0,.slice none 0 0,.int .i64 0] 20 (fun v=>cellsOf (Zdn 0 v)),.sto 19,.post (Zdn 1)] 15 (by kernel_rfl) (TryX n1 c k) 97 _ TryX.stable HIc.out ?_ rfl (by decide) ?_
 ·refine ⟨fun vc β u hu => ?_,fun vc β u hu => ?_,fun vc β u hu => ?_,fun vc β u hu => ?_,fun vc β u hu => ?_,fun vc β u hu => ?_,fun vc β u hu => ?_,fun vc β u hu => ?_,fun vc β u hu => ?_,fun vc β u hu => ?_,fun vc β u hu => ?_,fun vc β u hu => ?_,fun vc β u hu => ?_,fun vc β u hu => ?_,fun vc β u hu => ?_,fun vc β u => ?_,?_,?_,?_,fun vc β u => ?_,?_,?_,trivial⟩
  all_goals try (simp [pa,Kd.val,go_sem,hu.up b0,hu.up b2,hu.up c0,hu.up c1,hu.up c2,hu.up c3,hu.up l0,hu.up l1,hu.up l2,hkl]; done)
  all_goals try (simp [pa,Kd.val,go_sem]; done)
  all_goals try (rintro vc β Z u ⟨g1,g2,g3,v1,v2,v3,q1,q2,q3,uu,qq,rfl,_⟩; simp [pa,Kd.val,go_sem,Zdn]; done)
  all_goals try (simp [pa,Kd.val,go_sem]; intro h; omega)
  rintro vc β Z u t z sx cl he ⟨g1,g2,g3,v1,v2,v3,q1,q2,q3,uu,qq,rfl,_⟩ hb;simp at he;obtain ⟨rfl,rfl,rfl,rfl⟩:=he;have z0:=Zab hb 0 _ rfl;have z1:=Zab hb 1 _ rfl;have z2:=Zab hb 2 _ rfl;have z3:=Zab hb 3 _ rfl;have zf:=fun i=>Zae hb i;refine ⟨_,?_,Zag (Zag (Zag (Zag hb 0 _) 1 _) 2 _) 3 _,((((Kept.refl (only (β 19)) u).put 0 _).put 1 _).put 2 _).put 3 _⟩;simp [pa,Kd.val,go_sem,z0,z1,z2,z3,zf,Zdn]
 rintro vc β w5 hext5 ⟨g1,g2,g3,v1,v2,v3,q1,q2,q3,uu,qq,rfl,hqq⟩ hbox _;have hext5:=hext5.undrew;have hs5:=hext5.size;obtain ⟨hb0,hbx⟩:=hbox 19 _ _ _ _ rfl;have hbx':w5.heap[β 19]?=some (.cells #[.slice g1 g2 g3,.slice v1 v2 v3,.slice q1 q2 q3,.int .i64 uu] 87 (0,0)):=hbx;generalize hbe:β 19=bt at *;have z0:=Zab hbx' 0 _ rfl;have z1:=Zab hbx' 1 _ rfl;have z2:=Zab hbx' 2 _ rfl;have z3:=Zab hbx' 3 _ rfl;have hC5:=HC4.out.ext hext5;have HK5:=Zaa (HK4.out.then (Kept.of_below hext5) (S':=fun j=>W4.heap.size<=j) (fun i hi hh=>by have:=HK4.out.size; omega));have hbx5:=hC5.box;rw [HM4.out] at hbx5;simp only [CX.cells,List.length_cons] at hbx5;rw [H0.out] at hbx5;clear b0 b1 b2 b3 b4 b5 b6 b7 bf c0 c1 c2 c3 l0 l1 l2;obtain ⟨b0,b1,b2,b3,b4,b5,b6,b7,bf⟩:=box8 hbx5;have hbl5:=Zac hbx5;have hbtl:=Zac hbx';have Hbx5:=Zaa hbx5;have HC5:=Zaa hC5;have hway4:M4.way=(n,k+1)::r:=by rw [HM4.out]
 have hlen4:M4.tree.length+M4.way.length<=100000:=by
  have h1:=HI.out.len;have h2:=Ht.out;rw [Hw1.out] at h1;rw [HM4.out];simp only [List.length_cons] at h1 ⊢;omega
 have hnx4:∀ y ∈ M4.way,1<=y.2/\y.2<=4000:=fun y hy=>by
  rw [hway4] at hy;rcases List.mem_cons.1 hy with rfl | hy
  ·exact ⟨Nat.succ_le_succ (Nat.zero_le _),by show k+1<=_; omega⟩
  ·have h1:=(HI.out.way y (by rw [Hw1.out]; simp [hy])).2.2.1;have h2:=HI.out.used;rw [Hw1.out] at h2;exact ⟨h2.2.1 y hy,by omega⟩
 have HL:Hid (∀ u (xx:CX) (mm:SN),CSr u b xx cs a mm->mm.way.length<=200000->(∀ y ∈ mm.way,y.2<=4000)->mm.tree.length+mm.way.length<=200000->Calls Tryz.prog 53 #[.pointer (some ⟨b,0,none⟩)] u fun e w'=>e = .returned (.tuple #[])/\Kept (only b) u w'/\CSr w' b xx cs a (Zev cs mm)):=fun u xx mm h1 h2 h3 h4=>Zta u b xx cs a mm h1 h2 h3 hcl h4;have Hlen4:=Zaa hlen4;have Hnx4:=Zaa hnx4;have Hway4:=Zaa hway4;clear hlen4 hnx4 hway4 hbx hbx' hbx5 hC5 hbox hext5;simp only [paAll,pa,Kd.val,if_true,Act.put,Zdn];rw [hbe];rcases hqq with ⟨rfl,hq⟩ | ⟨rfl,ch,hq⟩ | ⟨rfl,ch,q0,hq12,hq,rfl,rfl,hg',hv',hr'⟩
 ·have hq0:(tryN n c k).2=0:=by
   rcases hq with h | h
   ·exact absurd (List.eq_nil_of_length_eq_zero (by rw [<- HSm.out.gl,h]; rfl)) Hg.out
   ·exact (Zkz HOk.out HSm.out Hco.out h).1.symm
  have hmk:Zbd cs m=Zev cs M4:=by
   unfold Zbd;rw [Hw1.out];simp only [Hc.out];rw [if_neg (by omega),if_neg (by omega),HM4.out,Htr.out]
  have HL5:=Zaa (HL.out w5 _ M4 HC5.out (by have:=Hlen4.out; omega) (fun y hy=>(Hnx4.out y hy).2) (by have:=Hlen4.out; omega));have Hmk:=Zaa hmk;clear hq hq0 hmk HL;go_wp2_with fail;refine HL5.out.mono ?_;rintro e w6 ⟨rfl,hK6,hC6⟩;have H6:Hid (∃ x',Kept (ownS b ⟨some ⟨lb,0,none⟩,cc,na,nc,some ⟨wb,0,none⟩,wc,va,vl,vc,fa,fl,fc⟩) w w6/\CSr w6 b x' cs a (Zbd cs m)/\Ziq w ⟨some ⟨lb,0,none⟩,cc,na,nc,some ⟨wb,0,none⟩,wc,va,vl,vc,fa,fl,fc⟩ x'):=⟨_,HK5.out.trans (hK6.mono (fun i _ e=>Or.inl e)),by rw [Hmk.out]; exact hC6,fun j hj=>Or.inl hj⟩;clear hK6 hC6;go_wp2;go_end0;exact ⟨rfl,H6.out⟩
 ·have hq3:(tryN n c k).2=3:=(Zkz HOk.out HSm.out Hco.out hq).1.symm;obtain ⟨M5,hM5⟩:∃ M5:SN,M5 = { M4 with status:=3 }:=⟨_,rfl⟩;have hmk:Zbd cs m=Zev cs M5:=by
   unfold Zbd;rw [Hw1.out];simp only [Hc.out];rw [if_pos hq3,hM5,HM4.out,Htr.out]
  have hKs:Kept (only b) w5 (w5.setCell ⟨b,4,none⟩ (.int .i64 3)):=(Kept.refl _ _).put 4 _;have hC5':CSr (w5.setCell ⟨b,4,none⟩ (.int .i64 3)) b ⟨some ⟨lb,0,none⟩,cc,na,nc,some ⟨wb,0,none⟩,wc,va,vl,vc,fa,fl,fc⟩ cs a M5:=by
   refine HC5.out.upd hKs ?_ ⟨rfl,rfl,rfl,rfl⟩ (by rw [hM5]; exact HC5.out.way) (fun h=>by rw [hM5] at h; simp at h);have:=Zag HC5.out.box 4 (.int .i64 3);rw [hM5];exact this
  have hw5:M5.way=M4.way/\M5.tree=M4.tree:=by rw [hM5]; exact ⟨rfl,rfl⟩
  have HL5:=Zaa (HL.out _ _ M5 hC5' (by rw [hw5.1]; have:=Hlen4.out; omega) (fun y hy=>(Hnx4.out y (by rw [<- hw5.1]; exact hy)).2) (by rw [hw5.1,hw5.2]; have:=Hlen4.out; omega));have Hmk:=Zaa hmk;have HK5':=Zaa (HK5.out.trans (hKs.mono (fun i _ e=>Or.inl e)));clear hq hq3 hmk HL hC5' hKs hw5 hM5;go_wp2_with fail;refine HL5.out.mono ?_;rintro e w6 ⟨rfl,hK6,hC6⟩;have H6:Hid (∃ x',Kept (ownS b ⟨some ⟨lb,0,none⟩,cc,na,nc,some ⟨wb,0,none⟩,wc,va,vl,vc,fa,fl,fc⟩) w w6/\CSr w6 b x' cs a (Zbd cs m)/\Ziq w ⟨some ⟨lb,0,none⟩,cc,na,nc,some ⟨wb,0,none⟩,wc,va,vl,vc,fa,fl,fc⟩ x'):=⟨_,HK5'.out.trans (hK6.mono (fun i _ e=>Or.inl e)),by rw [Hmk.out]; exact hC6,fun j hj=>Or.inl hj⟩;clear hK6 hC6;go_wp2;go_end0;exact ⟨rfl,H6.out⟩
 ·obtain ⟨e1,e2⟩:=Zkz HOk.out HSm.out Hco.out hq;obtain ⟨hOk2,hSm2⟩:=e2 hq12;have hk12:(tryN n c k).2=1\/(tryN n c k).2=2:=by rw [<- e1]; exact hq12
  have hNm2:=Yfy hq hq12 HNm.out Hcm.out;have hFw2:=Yho hq hq12 HFw.out HCf.out;obtain ⟨vs1,hg1,_⟩:=hg';obtain ⟨vs2,hv1,_⟩:=hv';obtain ⟨vs3,hr1,_⟩:=hr';have hN5:NodeIn w5 (.slice g1 ch.goals.length g3) (.slice v1 v2 v3) (.slice q1 q2 q3) ch:=⟨⟨vs1,hg1⟩,⟨vs2,hv1⟩,⟨vs3,hr1⟩⟩;have hCN:CNode w5 (.slice g1 ch.goals.length g3) (.slice v1 v2 v3) (.slice q1 q2 q3) (.int .i64 ch.vars) (tryN n c k).1:=⟨ch,hN5,rfl,hOk2,hNm2,hFw2,hSm2⟩;obtain ⟨X,hX⟩:∃ X,X=Lib.decDigits k:=⟨_,rfl⟩;have hXl:X.length<=24:=by rw [hX]; have:=Zgv k; omega
  obtain ⟨T,hT⟩:∃ T,T=m.tree:=⟨_,rfl⟩;have hTl:T.length<=100000:=by
   have:=Hlen4.out;rw [HM4.out] at this;simp only at this;rw [hT]; omega
  obtain ⟨M5,hM5⟩:∃ M5:SN,M5 = { M4 with tree:=T++X }:=⟨_,rfl⟩;have hMt:M4.tree=T:=by rw [HM4.out,hT]
  have hmk:Zbd cs m=Zev cs (Zdd M5 (tryN n c k).1):=by
   unfold Zbd;rw [Hw1.out];simp only [Hc.out];rw [if_neg (by omega),if_pos hk12,hM5,HM4.out,Htr.out,hT,hX]
  obtain ⟨w6,hw6⟩:∃ w6,w6=w5.drew.setCell ⟨b,7,none⟩ (.string ⟨(T++X).toArray⟩):=⟨_,rfl⟩;have hK56:Kept (only b) w5 w6:=by rw [hw6]; exact ((Kept.refl _ _).drew).put 7 _
  have hC6:CSr w6 b ⟨some ⟨lb,0,none⟩,cc,na,nc,some ⟨wb,0,none⟩,wc,va,vl,vc,fa,fl,fc⟩ cs a M5:=by
   refine HC5.out.upd hK56 ?_ ⟨rfl,rfl,rfl,rfl⟩ (by rw [hM5]; exact HC5.out.way) (fun h=>by rw [hM5] at h ⊢; exact HC5.out.found h);have:=Zag (w:=w5.drew) HC5.out.box 7 (.string ⟨(T++X).toArray⟩);rw [hw6,hM5];exact this
  have hCN6:=hCN.keep hK56 HC5.out.off;have hw5:M5.way=M4.way/\M5.tree=T++X:=by rw [hM5]; exact ⟨rfl,rfl⟩
  have hlen5:M5.tree.length+M5.way.length<=150000:=by
   have:=Hlen4.out;rw [hw5.1,hw5.2,List.length_append];rw [hMt] at this;omega
  have hused:(tryN n c k).1.used=Zhg M5.way:=by
   have h2:=HI.out.used;rw [Hw1.out] at h2;rw [Zne hk12,hw5.1,Hway4.out,Zpb,h2.1]
  have hnx5:∀ y ∈ M5.way,1<=y.2/\y.2<=4000:=fun y hy=>Hnx4.out y (by rw [<- hw5.1]; exact hy);have HEn:Hid (Calls Tryz.prog 52 #[.pointer (some ⟨b,0,none⟩),.agg #[.slice g1 ch.goals.length g3,.slice v1 v2 v3,.slice q1 q2 q3,.int .i64 ch.vars]] w6 fun e w'=>e = .returned (.tuple #[])/\∃ x',Kept (ownS b ⟨some ⟨lb,0,none⟩,cc,na,nc,some ⟨wb,0,none⟩,wc,va,vl,vc,fa,fl,fc⟩) w6 w'/\CSr w' b x' cs a (Zdd M5 (tryN n c k).1)/\Ziq w6 ⟨some ⟨lb,0,none⟩,cc,na,nc,some ⟨wb,0,none⟩,wc,va,vl,vc,fa,fl,fc⟩ x'):=by
   by_cases hgl:(tryN n c k).1.goals=[]
   ·exact Zzm w6 b _ cs a M5 _ _ _ _ _ hC6 hCN6 (by omega) hgl hused hnx5 (by rw [hw5.2,List.length_append]; omega)
   ·exact Zpd w6 b _ cs a M5 _ _ _ _ _ hC6 hCN6 (by omega) hgl (by rw [hw5.2,List.length_append]; omega)
  have Hbd:Hid ((Zdd M5 (tryN n c k).1).way.length<=200000/\(∀ y ∈ (Zdd M5 (tryN n c k).1).way,y.2<=4000)/\(Zdd M5 (tryN n c k).1).tree.length+(Zdd M5 (tryN n c k).1).way.length<=200000):=by
   show _/\_/\_;unfold Zdd;split
   ·simp only [List.length_append,List.length_singleton];exact ⟨by omega,fun y hy=>(hnx5 y hy).2,by omega⟩
   ·simp only [List.length_append,List.length_nil,List.length_cons];refine ⟨by omega,fun y hy => ?_,by omega⟩;rcases List.mem_cons.1 hy with rfl | hy
    ·exact Nat.zero_le _
    ·exact (hnx5 y hy).2
  have HXt:=Zaa (Zpy k w5.drew (by omega));rw [<- hX] at HXt;have Hmk:=Zaa hmk;have HK56:=Zaa hK56;have hs6:=hK56.size;have Hw6:=Zaa hw6;have z6:∀ i v,w5.cell? ⟨bt,i,none⟩=some v->w6.cell? ⟨bt,i,none⟩=some v:=fun i v hv=>hK56.cell hv (fun e=>by
   have e:bt=b:=e;have:W4.heap.size<=bt:=hb0;omega)
  have z0:=z6 0 _ z0;have z1:=z6 1 _ z1;have z2:=z6 2 _ z2;have z3:=z6 3 _ z3;have b7':w5.drew.cell? ⟨b,7,none⟩=some (.string ⟨T.toArray⟩):=by rw [hT]; exact b7
  have bf':∀ i,w5.drew.frozen? ⟨b,i,none⟩=false:=bf;have hbt6:bt<w6.heap.size:=by omega
  clear hq e1 e2 hOk2 hSm2 hk12 hNm2 hFw2 hg1 hv1 hr1 hN5 hCN hX hT hM5 hMt hmk hC6 hCN6 hw5 hlen5 hused hnx5 hK56 hw6 z6 b0 b1 b2 b3 b4 b5 b6 b7 bf;go_wp2_with fail;refine Zen (by kernel_rfl) [.rd 0 2 (fun _ => .pointer (some ⟨b,0,none⟩)),.rd 0 2 (fun _ => .pointer (some ⟨b,0,none⟩)),.rd 0 2 (fun _ => .pointer (some ⟨b,7,none⟩)),.rd 0 1 (fun _ => .string ⟨T.toArray⟩),.rd 0 2 (fun _ => .int .i64 k),.st 0,.rd 1 2 (fun _ => .string ⟨(T++X).toArray⟩),.rd 0 2 (fun _ => .pointer (some ⟨b,0,none⟩)),.rd 0 2 (fun _ => .pointer (some ⟨b,7,none⟩)),.st 1] 2 7 (by kernel_rfl) (TreePh w5.drew b T X) rfl ?_ ?_
  ·refine ⟨⟨trivial,fun vs y _ hl hS => ?_⟩,⟨trivial,fun vs y _ hl hS => ?_⟩,⟨trivial,fun vs y _ hl hS => ?_⟩,⟨trivial,fun vs y _ hl hS => ?_⟩,⟨trivial,fun vs y _ hl hS => ?_⟩,⟨trivial,fun vs y hl hS => ?_⟩,⟨trivial,fun vs y hl0 hl hS => ?_⟩,⟨trivial,fun vs y _ hl hS => ?_⟩,⟨trivial,fun vs y _ hl hS => ?_⟩,⟨trivial,fun vs y hl hS => ?_⟩,trivial⟩
   ·simp [phAll,phA,pa,Ph.kd,Ph.val,Kd.val,go_sem]
   ·simp [phAll,phA,pa,Ph.kd,Ph.val,Kd.val,go_sem]
   ·simp [phAll,phA,pa,Ph.kd,Ph.val,Kd.val,go_sem]
   ·obtain rfl:=hS.at.1 hl;simp [phAll,phA,pa,Ph.kd,Ph.val,Kd.val,go_sem,b7']
   ·simp [phAll,phA,pa,Ph.kd,Ph.val,Kd.val,go_sem]
   ·obtain rfl:=List.length_eq_zero_iff.1 hl;obtain rfl:y=w5.drew:=hS;refine .call 41 #[.int .i64 k] _ (by simp [phAll,phA,pa,Ph.kd,Ph.val,Kd.val,go_sem]) (HXt.out.mono ?_);rintro e u ⟨rfl,rfl⟩;exact ⟨_,rfl,rfl,rfl⟩
   ·have h0:=hS.at.2 hl0;rw [List.getD_eq_getElem?_getD] at h0;simp [phAll,phA,pa,Ph.kd,Ph.val,Kd.val,go_sem,h0,Zbk,show ¬ 9223372036854775807<T.length+X.length by omega]
   ·simp [phAll,phA,pa,Ph.kd,Ph.val,Kd.val,go_sem]
   ·simp [phAll,phA,pa,Ph.kd,Ph.val,Kd.val,go_sem]
   ·obtain ⟨v,rfl⟩:=List.length_eq_one_iff.1 hl;obtain ⟨rfl,hv⟩:=hS;exact .skip _ (by simp [phAll,phA,pa,Ph.kd,Ph.val,Kd.val,go_sem,b7',bf']) ⟨hv,rfl⟩
  rintro vs y hl hS;obtain ⟨v,v',rfl⟩:∃ v v',vs=[v,v']:=by
   match vs,hl with
   | [v,v'],_=>exact ⟨v,v',rfl⟩
  obtain ⟨hv,hy⟩:=hS;rw [<- Hw6.out] at hy;subst hy;simp only [phAll,phA,paAll,pa,Ph.kd,Ph.val,Kd.val,List.map_cons,List.map_nil,if_true,Act.put,List.setIfInBounds_toArray,List.set_cons_succ,List.set_cons_zero];clear hv b7' bf';go_wp2_with fail;refine HEn.out.mono ?_;rintro e w7 ⟨rfl,x7,hK7,hC7,hN7⟩;have HL7:=Zaa (HL.out w7 x7 _ hC7 Hbd.out.1 Hbd.out.2.1 Hbd.out.2.2);have HK7:=Zaa hK7;have HN7:=Zaa hN7;clear hK7 hC7 hN7 HL HEn;go_wp2_with fail;refine HL7.out.mono ?_;rintro e w8 ⟨rfl,hK8,hC8⟩;have H8:Hid (∃ x',Kept (ownS b ⟨some ⟨lb,0,none⟩,cc,na,nc,some ⟨wb,0,none⟩,wc,va,vl,vc,fa,fl,fc⟩) w w8/\CSr w8 b x' cs a (Zbd cs m)/\Ziq w ⟨some ⟨lb,0,none⟩,cc,na,nc,some ⟨wb,0,none⟩,wc,va,vl,vc,fa,fl,fc⟩ x'):=⟨x7,((HK5.out.trans (HK56.out.mono (fun i _ e=>Or.inl e))).trans HK7.out).trans (hK8.mono (fun i _ e=>Or.inl e)),by rw [Hmk.out]; exact hC8,fun j hj=>by
   rcases HN7.out j hj with h | h
   ·exact Or.inl h
   ·have:=HK5.out.size;have:=HK56.out.size;exact Or.inr (by omega)⟩
  clear hK8 hC8;go_wp2;go_end0;exact ⟨rfl,H8.out⟩
end Go.Proofs.YtlmjilpjmgjjcaaGreatDoor
