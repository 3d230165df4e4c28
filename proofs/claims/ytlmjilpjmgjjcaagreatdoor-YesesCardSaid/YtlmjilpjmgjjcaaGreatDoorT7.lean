/-
  PROVED HERE: what the program's 'markEnds' does to cells that lie in memory (the conditions stand in each statement).
-/
import Derived.Test.YtlmjilpjmgjjcaaGreatDoorT6
namespace Go.Proofs.YtlmjilpjmgjjcaaGreatDoor
open Go.RowKit
set_option linter.unusedSimpArgs false
set_option linter.unusedVariables false
def RD (X:Nat→Prop) (l m:List Sym):(Nat→Prop)→Value→World→Prop:=fun Z r u=>∃ (s:ByteArray) (n:Nat) (ca:Option Addr) (cl cc:Nat) (s':ByteArray) (n':Nat) (ca':Option Addr) (cl' cc':Nat) (q:Bool),
 r = .tuple #[.agg #[.string s,.int .i64 n,.slice ca cl cc],.agg #[.string s',.int .i64 n',.slice ca' cl' cc'],.bool q]∧(q=false→l=m) ∧
 (q=true→∃ x y,Rep (fun k=>X k∨Z k) u (.string s) (.int .i64 n) (.slice ca cl cc) x∧Rep (fun k=>X k∨Z k) u (.string s') (.int .i64 n') (.slice ca' cl' cc') y∧Parts l m x y)
theorem RD.stable {Y:Nat→Prop} {l m:List Sym}:∀ X X' v u u',RD Y l m X v u→(∀ k,k<u.heap.size→¬ X k→u'.heap[k]?=u.heap[k]?)→u.heap.size≤u'.heap.size→(∀ k,k<u.heap.size→X' k→X k)→RD Y l m X' v u':=by
 rintro X X' v u u' ⟨s,n,ca,cl,cc,s',n',ca',cl',cc',q,rfl,h1,h2⟩ hs _ hx
 refine ⟨s,n,ca,cl,cc,s',n',ca',cl',cc',q,rfl,h1,fun hq => ?_⟩
 obtain ⟨x,y,h3,h4,h5⟩:=h2 hq
 exact ⟨x,y,h3.plan hs hx,h4.plan hs hx,h5⟩
def DifferSaid (n:Nat):Prop:=∀ (w:World) (X:Nat→Prop) (a b c a' b' c':Value) (l m:List Sym),l.length≤n→l.length≤4000→m.length≤4000→Rep X w a b c l→Rep X w a' b' c' m→(∀ k,X k→k<w.heap.size) →
 Calls Tryz.prog 202 #[.agg #[a,b,c],.agg #[a',b',c']] w fun e w'=>∃ r,e = .returned r∧Ext w w'∧RD X l m (fun _=>False) r w'
theorem parts_now {l m:List Sym} (h1:Wf 1 l) (h2:Wf 1 m) (h:l.head?≠m.head?):Parts l m l m:=⟨⟨[],[],[],by simp,by simp⟩,h1,h2,h⟩
set_option maxRecDepth 10000 in
set_option maxHeartbeats 1000000 in
theorem differ_now (w:World) (X:Nat→Prop) (s s':ByteArray) (n n':Nat) (ca ca':Option Addr) (cl cl' cc cc':Nat) (l m:List Sym) (h1:Rep X w (.string s) (.int .i64 n) (.slice ca cl cc) l) (h2:Rep X w (.string s') (.int .i64 n') (.slice ca' cl' cc') m)
  (hp:Parts l m l m) (hc:(¬ s.toList=s'.toList)∨(s.toList=s'.toList∧¬ (cl:Int)=cl')∨(s.toList=s'.toList∧(cl:Int)=cl'∧s'.toList=[]∧((n:Int) != (n':Int))=true)) :
  Calls Tryz.prog 202 #[.agg #[.string s,.int .i64 n,.slice ca cl cc],.agg #[.string s',.int .i64 n',.slice ca' cl' cc']] w fun e w'=>∃ r,e = .returned r∧Ext w w'∧RD X l m (fun _=>False) r w':=by
 have H1:=hide' h1
 have H2:=hide' h2
 have Hp:=hide' hp
 clear h1 h2 hp
 rcases hc with c1 | ⟨c1,c2⟩ | ⟨c1,c2,c3,c4⟩
 ·go_enter Tryz.func202,Tryz.ntmps202
  go_wp2
  go_region
  go_wp2
  refine bodyPost_ret (v := .tuple #[.agg #[.string s,.int .i64 n,.slice ca cl cc],.agg #[.string s',.int .i64 n',.slice ca' cl' cc'],.bool true]) (by simp [results,Tryz.results202,go_sem]) rfl ?_
  refine ⟨_,rfl,(Ext.of (by repeat' (first | with_reducible exact Kept.refl _ _ | with_reducible apply Kept.drew | with_reducible apply Kept.drewN | with_reducible apply Kept.alloc | with_reducible refine Kept.setCell ?_ ?_ _ | exact fun h=>absurd h (by simp <;> omega)))),s,n,ca,cl,cc,s',n',ca',cl',cc',true,rfl,by simp,fun _=>⟨l,m,H1.out.ext (Ext.of (by repeat' (first | with_reducible exact Kept.refl _ _ | with_reducible apply Kept.drew | with_reducible apply Kept.drewN | with_reducible apply Kept.alloc | with_reducible refine Kept.setCell ?_ ?_ _ | exact fun h=>absurd h (by simp <;> omega)))) (fun k _ h=>by simpa using h),H2.out.ext (Ext.of (by repeat' (first | with_reducible exact Kept.refl _ _ | with_reducible apply Kept.drew | with_reducible apply Kept.drewN | with_reducible apply Kept.alloc | with_reducible refine Kept.setCell ?_ ?_ _ | exact fun h=>absurd h (by simp <;> omega)))) (fun k _ h=>by simpa using h),Hp.out⟩⟩
 ·go_enter Tryz.func202,Tryz.ntmps202
  go_wp2
  go_region
  go_wp2
  refine bodyPost_ret (v := .tuple #[.agg #[.string s,.int .i64 n,.slice ca cl cc],.agg #[.string s',.int .i64 n',.slice ca' cl' cc'],.bool true]) (by simp [results,Tryz.results202,go_sem]) rfl ?_
  refine ⟨_,rfl,(Ext.of (by repeat' (first | with_reducible exact Kept.refl _ _ | with_reducible apply Kept.drew | with_reducible apply Kept.drewN | with_reducible apply Kept.alloc | with_reducible refine Kept.setCell ?_ ?_ _ | exact fun h=>absurd h (by simp <;> omega)))),s,n,ca,cl,cc,s',n',ca',cl',cc',true,rfl,by simp,fun _=>⟨l,m,H1.out.ext (Ext.of (by repeat' (first | with_reducible exact Kept.refl _ _ | with_reducible apply Kept.drew | with_reducible apply Kept.drewN | with_reducible apply Kept.alloc | with_reducible refine Kept.setCell ?_ ?_ _ | exact fun h=>absurd h (by simp <;> omega)))) (fun k _ h=>by simpa using h),H2.out.ext (Ext.of (by repeat' (first | with_reducible exact Kept.refl _ _ | with_reducible apply Kept.drew | with_reducible apply Kept.drewN | with_reducible apply Kept.alloc | with_reducible refine Kept.setCell ?_ ?_ _ | exact fun h=>absurd h (by simp <;> omega)))) (fun k _ h=>by simpa using h),Hp.out⟩⟩
 ·go_enter Tryz.func202,Tryz.ntmps202
  go_wp2
  go_region
  go_wp2
  refine bodyPost_ret (v := .tuple #[.agg #[.string s,.int .i64 n,.slice ca cl cc],.agg #[.string s',.int .i64 n',.slice ca' cl' cc'],.bool true]) (by simp [results,Tryz.results202,go_sem]) rfl ?_
  refine ⟨_,rfl,(Ext.of (by repeat' (first | with_reducible exact Kept.refl _ _ | with_reducible apply Kept.drew | with_reducible apply Kept.drewN | with_reducible apply Kept.alloc | with_reducible refine Kept.setCell ?_ ?_ _ | exact fun h=>absurd h (by simp <;> omega)))),s,n,ca,cl,cc,s',n',ca',cl',cc',true,rfl,by simp,fun _=>⟨l,m,H1.out.ext (Ext.of (by repeat' (first | with_reducible exact Kept.refl _ _ | with_reducible apply Kept.drew | with_reducible apply Kept.drewN | with_reducible apply Kept.alloc | with_reducible refine Kept.setCell ?_ ?_ _ | exact fun h=>absurd h (by simp <;> omega)))) (fun k _ h=>by simpa using h),H2.out.ext (Ext.of (by repeat' (first | with_reducible exact Kept.refl _ _ | with_reducible apply Kept.drew | with_reducible apply Kept.drewN | with_reducible apply Kept.alloc | with_reducible refine Kept.setCell ?_ ?_ _ | exact fun h=>absurd h (by simp <;> omega)))) (fun k _ h=>by simpa using h),Hp.out⟩⟩
theorem ba_toList (l:List UInt8):(⟨l.toArray⟩:ByteArray).toList=l:=by simp
def tupAt (i:Nat):Value→Value
 | .tuple xs=>xs.getD i undef
 | _=>undef
theorem Rep.boxes {X Z:Nat→Prop} {B n:Nat} {w w':World} {a b c:Value} {l:List Sym} (h:Rep (fun k=>boxed X B n k∨Z k) w a b c l) (hk:Kept (fun k=>B≤k∧k<B+n) w w'):Rep (fun k=>X k∨False) w' a b c l :=
 h.on (fun k hk' hn _=>⟨hk.block k hk' (fun e=>hn (Or.inl (Or.inr e))),fun hx=>hn (Or.inl (Or.inl (by simpa using hx)))⟩)
theorem Parts.under {l m x y:List Sym} (h:Parts l m x y) (p ra rb:List Sym):Parts (p++l++ra) (p++m++rb) x y:=by
 obtain ⟨q,r1,r2,h1,h2⟩:=h.ex
 refine ⟨⟨p++q,r1++ra,r2++rb,?_,?_⟩,h.wx,h.wy,h.ne⟩
 ·rw [h1]; simp
 ·rw [h2]; simp
set_option maxRecDepth 10000 in
set_option maxHeartbeats 2000000 in
theorem differ_row (n:Nat) (IH:DifferSaid n) (w:World) (X:Nat→Prop) (s s':ByteArray) (nv nv':Nat) (c c':Value) (ls ms:List (List Sym)) (xs ys:List Value) (hd:Sym) (h1:RowT X w c ls xs) (h2:RowT X w c' ms ys) (hX:∀ k,X k→k<w.heap.size)
  (hlen:ls.length=ms.length) (hn:ls.flatten.length≤n) (hl:ls.flatten.length≤3999) (hl2:ms.flatten.length≤3999) (c1:s.toList=s'.toList) (c3:¬ s'.toList=[]) :
  Calls Tryz.prog 202 #[.agg #[.string s,.int .i64 nv,c],.agg #[.string s',.int .i64 nv',c']] w fun e w'=>∃ r,e = .returned r∧Ext w w'∧RD X (hd::ls.flatten) (hd::ms.flatten) (fun _=>False) r w':=by
 obtain ⟨ca,ccap,rfl⟩:=owns_slice h1.1
 obtain ⟨ca',ccap',rfl⟩:=owns_slice h2.1
 rw [← hlen] at h2 ⊢
 have hwf:=h1.wf
 have hwf2:=h2.wf
 have hll:ls.length≤ls.flatten.length:=wf_len (wf_flatten hwf)
 have H1:=hide' h1
 have H2:=hide' h2
 have Hih:=hide' IH
 have HX:=hide' hX
 have Hlen:=hide' hlen
 clear h1 h2 IH hX hlen
 go_enter Tryz.func202,Tryz.ntmps202
 go_wp2
 go_loopg [7] (ls.length+1) (fun gk i wr=>∃ (k:Nat),i = .int .i64 k∧k≤ls.length∧ls.length - k<gk∧Ext w wr∧ls.take k=ms.take k ∧
   wr.heap[w.heap.size]?=some (.cells #[.string s,.int .i64 nv,.slice ca ls.length ccap] 183 (0,0)) ∧
   wr.heap[w.heap.size+1]?=some (.cells #[.string s',.int .i64 nv',.slice ca' ls.length ccap'] 183 (0,0)) ∧
   wr.heap[w.heap.size+1+1]?=some (.cells #[.string ⟨#[]⟩,.int .i64 0,.slice none 0 0] 183 (0,0)) ∧
   wr.heap[w.heap.size+1+1+1]?=some (.cells #[.string ⟨#[]⟩,.int .i64 0,.slice none 0 0] 183 (0,0)))
 case atStart =>
  refine ⟨0,by go_num,Nat.zero_le _,by omega,(Ext.of (by repeat' (first | with_reducible exact Kept.refl _ _ | with_reducible apply Kept.drew | with_reducible apply Kept.drewN | with_reducible apply Kept.alloc | with_reducible refine Kept.setCell ?_ ?_ _ | exact fun h=>absurd h (by simp <;> omega)))),rfl,?_,?_,?_,?_⟩
  ·exact block_alloc (block_alloc (block_alloc (heap_alloc_new w _) _) _) _
  ·simpa using block_alloc (block_alloc (heap_alloc_new (w.alloc _) _) _) _
  ·simpa using block_alloc (heap_alloc_new ((w.alloc _).alloc _) _) _
  ·simpa using heap_alloc_new (((w.alloc _).alloc _).alloc _) _
 case round =>
  obtain ⟨k,rfl,hk,hg,hext,htk,h0,h1,h2,h3⟩:=hrel
  obtain ⟨c0,c1',c2,cf⟩:=box3 h0
  obtain ⟨d0,d1,d2,df⟩:=box3 h1
  obtain ⟨e0,e1,e2,ef⟩:=box3 h2
  obtain ⟨f0,f1,f2,ff⟩:=box3 h3
  have hsz:=lt_of_block h3
  have Hext:=hide' hext
  have B0:=hide' h0
  have B1:=hide' h1
  have B2:=hide' h2
  have B3:=hide' h3
  have Htk:=hide' htk
  clear hext h0 h1 h2 h3 htk
  by_cases hlt:k<ls.length
  ·obtain ⟨l',hl'⟩:∃ l',ls[k]?=some l':=⟨_,List.getElem?_eq_getElem hlt⟩
   obtain ⟨m',hm'⟩:∃ m',ms[k]?=some m':=⟨_,List.getElem?_eq_getElem (Hlen.out ▸ hlt)⟩
   obtain ⟨_,hdl,hlf,_⟩:=flat_at hl' hwf
   obtain ⟨_,hdm,hmf,_⟩:=flat_at hm' hwf2
   obtain ⟨a',b',c',x0,x1,x2,hrep⟩:=H1.out.2.2 k l' hl'
   obtain ⟨s1,n1,c1a,c1l,c1c,rfl,rfl,rfl⟩:=hrep.shape
   obtain ⟨a',b',c',z0,z1,z2,hrep2⟩:=H2.out.2.2 k m' hm'
   obtain ⟨s2,n2,c2a,c2l,c2c,rfl,rfl,rfl⟩:=hrep2.shape
   have hrow1:=H1.out.ext (Y:=X) Hext.out (fun _ _ h=>h)
   have hrow2:=H2.out.ext (Y:=X) Hext.out (fun _ _ h=>h)
   have ho2:=hrow2.1
   rw [← Hlen.out] at ho2
   obtain ⟨g,cap',cur,hge,hBg,hgb,hcp⟩:=owns_some hrow1.1 (by omega)
   simp only [Value.slice.injEq] at hge
   obtain ⟨rfl,_,rfl⟩:=hge
   obtain ⟨g',cap'',cur',hge',hBg',hgb',hcp'⟩:=owns_some ho2 (by omega)
   simp only [Value.slice.injEq] at hge'
   obtain ⟨rfl,_,rfl⟩:=hge'
   have y0:wr.cell? ⟨g,k * 3,none⟩=some (.string s1):=owns_cell hrow1.1 _ _ x0
   have y1:wr.cell? ⟨g,k * 3+1,none⟩=some (.int .i64 n1):=owns_cell hrow1.1 _ _ x1
   have y2:wr.cell? ⟨g,k * 3+2,none⟩=some (.slice c1a c1l c1c):=owns_cell hrow1.1 _ _ x2
   have v0:wr.cell? ⟨g',k * 3,none⟩=some (.string s2):=owns_cell ho2 _ _ z0
   have v1:wr.cell? ⟨g',k * 3+1,none⟩=some (.int .i64 n2):=owns_cell ho2 _ _ z1
   have v2:wr.cell? ⟨g',k * 3+2,none⟩=some (.slice c2a c2l c2c):=owns_cell ho2 _ _ z2
   have HI:Hid (∀ Z u,Ext wr.drew u→(∀ k,Z k→wr.heap.size≤k∧k<u.heap.size)→Calls Tryz.prog 202 #[.agg #[.string s1,.int .i64 n1,.slice c1a c1l c1c],.agg #[.string s2,.int .i64 n2,.slice c2a c2l c2c]] u fun e u' =>
     ∃ r,e = .returned r∧Ext u u'∧RD (boxed X w.heap.size 4) l' m' Z r u'):=fun Z u hu hZ=>by
    have hwu:Ext w u:=Hext.out.trans (hu.undrew.mono Hext.out.size)
    have hz:∀ k,k<w.heap.size→(boxed X w.heap.size 4 k∨Z k)→X k:=fun k hk h=>by
     rcases h with (h | h) | h
     ·exact h
     ·omega
     ·have:=(hZ k h).1; omega
    refine (Hih.out u (fun k=>boxed X w.heap.size 4 k∨Z k) _ _ _ _ _ _ l' m' (by omega) (by omega) (by omega) (hrep.ext hwu hz) (hrep2.ext hwu hz) ?_).mono ?_
    ·rintro j (h | h)
     ·have:=boxed_lt HX.out j h; have:=hu.size; simp only [World.drew] at this; omega
     ·exact (hZ j h).2
    ·rintro e u' ⟨r,rfl,he,s,n,ca,cl,cc,s',n',ca',cl',cc',q,rfl,h3,h4⟩
     refine ⟨_,rfl,he,s,n,ca,cl,cc,s',n',ca',cl',cc',q,rfl,h3,fun hq => ?_⟩
     obtain ⟨x,y,h5,h6,h7⟩:=h4 hq
     exact ⟨x,y,h5.ext (Below.refl _ _) (fun j _ h=>Or.inl h),h6.ext (Below.refl _ _) (fun j _ h=>Or.inl h),h7⟩
   have Hpt:Hid (∀ x y,Parts l' m' x y→Parts (hd::ls.flatten) (hd::ms.flatten) x y):=fun x y h=>by
    have e1:hd::ls.flatten=(hd::(ls.take k).flatten)++l'++(ls.drop (k+1)).flatten:=by
     have:ls.flatten=(ls.take k).flatten++(ls.drop k).flatten:=by rw [← List.flatten_append,List.take_append_drop]
     rw [this,hdl]; simp
    have e2:hd::ms.flatten=(hd::(ls.take k).flatten)++m'++(ms.drop (k+1)).flatten:=by
     have:ms.flatten=(ms.take k).flatten++(ms.drop k).flatten:=by rw [← List.flatten_append,List.take_append_drop]
     rw [this,hdm,Htk.out]; simp
    rw [e1,e2]
    exact h.under _ _ _
   have Hnx:Hid (l'=m'→ls.take (k+1)=ms.take (k+1)):=fun e=>by
    rw [List.take_add_one,List.take_add_one,hl',hm',Htk.out,e]
   clear hgb hgb' hrow1 hrow2 ho2 hrep hrep2 x0 x1 x2 z0 z1 z2 hl' hm' hdl hdm
   go_wp2_with fail
   refine region_plan (by kernel_rfl) [.pur (.pointer (some ⟨w.heap.size,2,none⟩)),.pur (.slice (some ⟨g,0,none⟩) ls.length ccap),.pur (.int .i64 k),.pur (.pointer (some ⟨g,k * 3,none⟩)),.pur (.agg #[.string s1,.int .i64 n1,.slice c1a c1l c1c]),
    .pur (.pointer (some ⟨w.heap.size+1,2,none⟩)),.pur (.slice (some ⟨g',0,none⟩) ls.length ccap'),.pur (.int .i64 k),.pur (.pointer (some ⟨g',k * 3,none⟩)),.pur (.agg #[.string s2,.int .i64 n2,.slice c2a c2l c2c]),
    .cal,.post (fun v=>v),.post (tupAt 0),.post (tupAt 1),.post (tupAt 2),.alo 183 #[.string ⟨#[]⟩,.int .i64 0,.slice none 0 0] 17 (fun v=>cellsOf (tupAt 0 v)),.alo 183 #[.string ⟨#[]⟩,.int .i64 0,.slice none 0 0] 18 (fun v=>cellsOf (tupAt 1 v)),.sto 15,.sto 16,.post (tupAt 2)] 10 (by kernel_rfl)
    (RD (boxed X w.heap.size 4) l' m') 202 _ RD.stable HI.out ?_ rfl (by decide) ?_
   ·refine ⟨fun vc β u hu => ?_,fun vc β u hu => ?_,fun vc β u hu => ?_,fun vc β u hu => ?_,fun vc β u hu => ?_,fun vc β u hu => ?_,fun vc β u hu => ?_,fun vc β u hu => ?_,fun vc β u hu => ?_,fun vc β u hu => ?_,fun vc β u => ?_,?_,?_,?_,?_,fun vc β u => ?_,fun vc β u => ?_,?_,?_,?_,trivial⟩
    all_goals try simp [pa,Kd.val,go_sem,hu.up c2,hu.up y0,hu.up y1,hu.up y2,hu.up d2,hu.up v0,hu.up v1,hu.up v2,hlt]
    all_goals try (simp [pa,Kd.val,go_sem]; done)
    all_goals try (rintro vc β Z u ⟨s,n,ca,cl,cc,s',n',ca',cl',cc',q,rfl,_,_⟩; simp [pa,Kd.val,go_sem,tupAt]; done)
    ·rintro vc β Z u t z sx cs he ⟨s,n,ca,cl,cc,s',n',ca',cl',cc',q,rfl,_,_⟩ hb
     simp at he
     obtain ⟨rfl,rfl,rfl,rfl⟩:=he
     obtain ⟨q0,q1,q2,qf⟩:=box3 hb
     refine ⟨_,?_,store3 hb (.string s) (.int .i64 n) (.slice ca cl cc)⟩
     simp [pa,Kd.val,go_sem,q0,q1,q2,qf,tupAt]
    ·rintro vc β Z u t z sx cs he ⟨s,n,ca,cl,cc,s',n',ca',cl',cc',q,rfl,_,_⟩ hb
     simp at he
     obtain ⟨rfl,rfl,rfl,rfl⟩:=he
     obtain ⟨q0,q1,q2,qf⟩:=box3 hb
     refine ⟨_,?_,store3 hb (.string s') (.int .i64 n') (.slice ca' cl' cc')⟩
     simp [pa,Kd.val,go_sem,q0,q1,q2,qf,tupAt]
   rintro vc β w1 hext1 ⟨s3,n3,c3a,c3l,c3c,s4,n4,c4a,c4l,c4c,q,rfl,hq1,hq2⟩ hbox _
   have hext1:=hext1.undrew
   obtain ⟨hb0,hbx⟩:=hbox 15 _ _ _ _ rfl
   obtain ⟨hb0',hbx'⟩:=hbox 16 _ _ _ _ rfl
   obtain ⟨q0,q1,q2,_⟩:=box3 hbx
   obtain ⟨r0,r1,r2,_⟩:=box3 hbx'
   have hs1:=hext1.size
   have Hext1:=hide' hext1
   have Hq1:=hide' hq1
   have Hq2:=hide' hq2
   clear hext1 hbox hbx hbx' hq1 hq2 y0 y1 y2 v0 v1 v2
   simp only [paAll,pa,Kd.val,if_true,Act.put,tupAt]
   cases q
   ·go_wp2
    go_roundg (ls.length - k)
    case measure=>omega
    case rel =>
     exact ⟨k+1,by go_num,by omega,by omega,Hext.out.trans (Hext1.out.mono Hext.out.size),Hnx.out (Hq1.out trivial),(Hext1.out.block _ (by omega)).trans B0.out,(Hext1.out.block _ (by omega)).trans B1.out,(Hext1.out.block _ (by omega)).trans B2.out,(Hext1.out.block _ (by omega)).trans B3.out⟩
   ·obtain ⟨x,y,g1,g2,g3⟩:=Hq2.out rfl
    have G1:=hide' g1
    have G2:=hide' g2
    have G3:=hide' (Hpt.out x y g3)
    obtain ⟨p0,p1,p2,pf⟩:=box3 ((Hext1.out.block _ (by omega)).trans B2.out)
    obtain ⟨o0,o1,o2,of'⟩:=box3 ((Hext1.out.block _ (by omega)).trans B3.out)
    clear g1 g2 g3 Hq2
    go_wp2
    go_region
    go_wp2
    refine bodyPost_ret (v := .tuple #[.agg #[.string s3,.int .i64 n3,.slice c3a c3l c3c],.agg #[.string s4,.int .i64 n4,.slice c4a c4l c4c],.bool true]) (by simp [results,Tryz.results202,go_sem,p0,p1,p2,pf,o0,o1,o2,of']) rfl ?_
    refine ⟨_,rfl,(Hext.out.trans (Hext1.out.mono Hext.out.size)).trans (Kept.below (S:=fun k=>w.heap.size≤k∧k<w.heap.size+4) (by repeat' (first | with_reducible exact Kept.refl _ _ | with_reducible apply Kept.drew | with_reducible apply Kept.drewN | with_reducible apply Kept.alloc | with_reducible refine Kept.setCell ?_ ?_ _ | (intro _; simp only; omega))) (by omega) (fun j h=>h.1)),s3,n3,c3a,c3l,c3c,s4,n4,c4a,c4l,c4c,true,rfl,by simp,fun _=>⟨x,y,G1.out.boxes (by repeat' (first | with_reducible exact Kept.refl _ _ | with_reducible apply Kept.drew | with_reducible apply Kept.drewN | with_reducible apply Kept.alloc | with_reducible refine Kept.setCell ?_ ?_ _ | (intro _; simp only; omega))),G2.out.boxes (by repeat' (first | with_reducible exact Kept.refl _ _ | with_reducible apply Kept.drew | with_reducible apply Kept.drewN | with_reducible apply Kept.alloc | with_reducible refine Kept.setCell ?_ ?_ _ | (intro _; simp only; omega))),G3.out⟩⟩
  ·have hek:k=ls.length:=by omega
   subst hek
   have He:Hid (ls=ms):=by have:=Htk.out; rw [List.take_length,Hlen.out,List.take_length] at this; exact this
   have q0:=c0
   go_wp2
   go_region
   go_wp2
   refine bodyPost_ret (v := .tuple #[.agg #[.string s,.int .i64 nv,.slice ca ls.length ccap],.agg #[.string s',.int .i64 nv',.slice ca' ls.length ccap'],.bool false]) (by simp [results,Tryz.results202,go_sem,e0,e1,e2,ef,f0,f1,f2,ff]) rfl ?_
   refine ⟨_,rfl,Hext.out.trans (Kept.below (S:=fun k=>w.heap.size≤k∧k<w.heap.size+4) (by repeat' (first | with_reducible exact Kept.refl _ _ | with_reducible apply Kept.drew | with_reducible apply Kept.drewN | with_reducible apply Kept.alloc | with_reducible refine Kept.setCell ?_ ?_ _ | (intro _; simp only; omega))) (by omega) (fun j h=>h.1)),s,nv,ca,_,ccap,s',nv',ca',_,ccap',false,rfl,fun _=>by rw [He.out],by simp⟩
set_option maxRecDepth 10000 in
set_option maxHeartbeats 1000000 in
theorem differ_same (w:World) (X:Nat→Prop) (n:Nat) :
  Calls Tryz.prog 202 #[.agg #[.string ⟨#[]⟩,.int .i64 n,.slice none 0 0],.agg #[.string ⟨#[]⟩,.int .i64 n,.slice none 0 0]] w fun e w'=>∃ r,e = .returned r∧Ext w w'∧RD X (vr n) (vr n) (fun _=>False) r w':=by
 go_enter Tryz.func202,Tryz.ntmps202
 go_wp2
 go_loopg [7] 1 (fun gk i wr=>i = .int .i64 0∧0<gk∧Ext w wr ∧
   wr.heap[w.heap.size]?=some (.cells #[.string ⟨#[]⟩,.int .i64 n,.slice none 0 0] 183 (0,0)) ∧
   wr.heap[w.heap.size+1]?=some (.cells #[.string ⟨#[]⟩,.int .i64 n,.slice none 0 0] 183 (0,0)) ∧
   wr.heap[w.heap.size+1+1]?=some (.cells #[.string ⟨#[]⟩,.int .i64 0,.slice none 0 0] 183 (0,0)) ∧
   wr.heap[w.heap.size+1+1+1]?=some (.cells #[.string ⟨#[]⟩,.int .i64 0,.slice none 0 0] 183 (0,0)))
 case atStart =>
  refine ⟨rfl,by omega,(Ext.of (by repeat' (first | with_reducible exact Kept.refl _ _ | with_reducible apply Kept.drew | with_reducible apply Kept.drewN | with_reducible apply Kept.alloc | with_reducible refine Kept.setCell ?_ ?_ _ | exact fun h=>absurd h (by simp <;> omega)))),?_,?_,?_,?_⟩
  ·exact block_alloc (block_alloc (block_alloc (heap_alloc_new w _) _) _) _
  ·simpa using block_alloc (block_alloc (heap_alloc_new (w.alloc _) _) _) _
  ·simpa using block_alloc (heap_alloc_new ((w.alloc _).alloc _) _) _
  ·simpa using heap_alloc_new (((w.alloc _).alloc _).alloc _) _
 case round =>
  obtain ⟨rfl,hg,hext,h0,h1,h2,h3⟩:=hrel
  obtain ⟨c0,c1,c2,cf⟩:=box3 h0
  obtain ⟨d0,d1,d2,df⟩:=box3 h1
  obtain ⟨e0,e1,e2,ef⟩:=box3 h2
  obtain ⟨f0,f1,f2,ff⟩:=box3 h3
  have Hext:=hide' hext
  have hs:=hext.size
  clear hext h0 h1 h2 h3
  go_wp2
  go_region
  go_wp2
  refine bodyPost_ret (v := .tuple #[.agg #[.string ⟨#[]⟩,.int .i64 n,.slice none 0 0],.agg #[.string ⟨#[]⟩,.int .i64 n,.slice none 0 0],.bool false]) (by simp [results,Tryz.results202,go_sem,e0,e1,e2,ef,f0,f1,f2,ff]) rfl ?_
  refine ⟨_,rfl,Hext.out.trans (Kept.below (S:=fun k=>w.heap.size≤k∧k<w.heap.size+4) (by repeat' (first | with_reducible exact Kept.refl _ _ | with_reducible apply Kept.drew | with_reducible apply Kept.drewN | with_reducible apply Kept.alloc | with_reducible refine Kept.setCell ?_ ?_ _ | (intro _; simp only; omega))) (by omega) (fun j h=>h.1)),⟨#[]⟩,n,none,0,0,⟨#[]⟩,n,none,0,0,false,rfl,fun _=>rfl,by simp⟩
theorem differ_any:∀ n,DifferSaid n:=by
 intro n
 induction n with
 | zero =>
  intro w X a b c a' b' c' l m hl _ _ h
  have:=wf_len (h.wf _ (Nat.le_refl _))
  omega
 | succ n ih =>
  intro w X a b c a' b' c' l m hl hl4 hm4 h h' hX
  have w1:=h.wf _ (Nat.le_refl _)
  have w2:=h'.wf _ (Nat.le_refl _)
  rcases h.out with ⟨k,rfl,rfl,rfl,rfl⟩ | ⟨nm,ls,xs,h1,rfl,rfl,rfl,h5⟩
  ·rcases h'.out with ⟨k',rfl,rfl,rfl,rfl⟩ | ⟨nm',ls',xs',h1',rfl,rfl,rfl,h5'⟩
   ·by_cases hk:k=k'
    ·subst hk; exact differ_same w X k
    ·exact differ_now w X _ _ k k' _ _ _ _ _ _ _ _ h h' (parts_now w1 w2 (by simp; exact hk)) (Or.inr (Or.inr ⟨rfl,rfl,ba_toList [],by rw [bne_iff_ne]; omega⟩))
   ·obtain ⟨ca,ccap,rfl⟩:=owns_slice h5'.1
    refine differ_now w X _ _ k 0 _ _ _ _ _ _ _ _ h h' (parts_now w1 w2 (by simp; intro e; exact absurd e h1')) (Or.inl ?_)
    intro e
    have e2:([]:List UInt8)=nm':=(ba_toList []).symm.trans (e.trans (ba_toList nm'))
    exact h1' e2.symm
  ·obtain ⟨ca,ccap,rfl⟩:=owns_slice h5.1
   rcases h'.out with ⟨k',rfl,rfl,rfl,rfl⟩ | ⟨nm',ls',xs',h1',rfl,rfl,rfl,h5'⟩
   ·refine differ_now w X _ _ 0 k' _ _ _ _ _ _ _ _ h h' (parts_now w1 w2 (by simp; intro e; exact absurd e h1)) (Or.inl ?_)
    intro e
    exact h1 ((ba_toList nm).symm.trans (e.trans (ba_toList [])))
   ·obtain ⟨ca',ccap',rfl⟩:=owns_slice h5'.1
    by_cases hn:nm=nm'
    ·subst hn
     by_cases hlen:ls.length=ls'.length
     ·have:=differ_row n ih w X ⟨nm.toArray⟩ ⟨nm.toArray⟩ 0 0 _ _ ls ls' xs xs' ⟨nm,0,ls.length⟩ h5 h5' hX hlen (by simp only [List.length_cons] at hl; omega) (by simp only [List.length_cons] at hl4; omega) (by simp only [List.length_cons] at hm4; omega) rfl (by rw [ba_toList]; exact h1)
      have e:(⟨nm,0,ls'.length⟩:Sym)=⟨nm,0,ls.length⟩:=by rw [hlen]
      rw [e]
      exact this
     ·exact differ_now w X _ _ 0 0 _ _ _ _ _ _ _ _ h h' (parts_now w1 w2 (by simp; exact hlen)) (Or.inr (Or.inl ⟨rfl,by omega⟩))
    ·refine differ_now w X _ _ 0 0 _ _ _ _ _ _ _ _ h h' (parts_now w1 w2 (by simp; intro e; exact absurd e hn)) (Or.inl ?_)
     rw [ba_toList,ba_toList]
     exact hn
def isPur:Kd→Bool
 | .pur _=>true
 | .cal=>true
 | _=>false
def fitsLast (ops:List Oper) (kd:List Kd) (ic fi:Nat):Bool :=
 ops.length == kd.length &&
 (List.range ops.length).all fun i=>match ops[i]?,kd[i]? with
  | some o,some q =>
   o.guard.isNone && (match o.op with | .select .. => false | _=>true) &&
   (o.after.all fun e => !Region.binds .any e || e.on<i) &&
   ((List.range ops.length).all fun j=>match ops[j]? with
    | some p=>match p.dst with
     | some d=>((j == i) || (o.dst != some d)) && (!(o.looksAt ops.toArray).contains d || waits o j)
     | none=>true
    | none=>true) &&
   (match q with
    | .pur _=>(List.range ops.length).any fun j=>i<j && (match ops[j]?,kd[j]? with | some p,some r=>waits p i && isPur r | _,_=>false)
    | .cal=>i == ic
    | .post _=>(List.range i).any fun j=>waits o j && (match kd[j]? with | some r=>fromCall r | none=>false)
    | .alo .. => false
    | .sto _=>i == fi && o.dst.isNone && ((List.range i).any fun j=>waits o j && (match kd[j]? with | some r=>fromCall r | none=>false)))
  | _,_=>false
structure LastAt (ops:List Oper) (kd:List Kd) (ic fi i:Nat) (o:Oper) (q:Kd):Prop where
 gd:o.guard=none
 sel:∀ cs b,o.op ≠ .select cs b
 low:∀ e ∈ o.after,Region.binds .any e=true→e.on<i
 dst:∀ j p d,ops[j]?=some p→p.dst=some d→j=i∨o.dst≠some d
 look:∀ j p d,ops[j]?=some p→p.dst=some d→d ∈ o.looksAt ops.toArray→waits o j=true
 pur:∀ c,q = .pur c→∃ j p r,i<j∧ops[j]?=some p∧kd[j]?=some r∧waits p i=true∧isPur r=true
 cal:q = .cal→i=ic
 post:postLike q=true→∃ j r,waits o j=true∧kd[j]?=some r∧fromCall r=true
 alo:∀ t z s cs,q ≠ .alo t z s cs
 sto:∀ k,q = .sto k→i=fi∧o.dst=none
theorem last_at {ops:List Oper} {kd:List Kd} {ic fi:Nat} (h:fitsLast ops kd ic fi=true) {i:Nat} {o:Oper} (ho:ops[i]?=some o):∃ q,kd[i]?=some q∧LastAt ops kd ic fi i o q:=by
 unfold fitsLast at h
 simp only [Bool.and_eq_true,List.all_eq_true,List.mem_range,beq_iff_eq] at h
 obtain ⟨hl,h⟩:=h
 have hi:=(List.getElem?_eq_some_iff.1 ho).1
 have h:=h i hi
 rw [ho] at h
 cases hq:kd[i]? with
 | none=>rw [hq] at h; simp at h
 | some q =>
  rw [hq] at h
  simp only [Bool.and_eq_true,List.all_eq_true,List.mem_range] at h
  obtain ⟨⟨⟨⟨h1,h2⟩,h3⟩,h4⟩,h5⟩:=h
  have hpost:∀ (b:Bool),((List.range i).any fun j=>waits o j && (match kd[j]? with | some r=>fromCall r | none=>false))=true→∃ j r,waits o j=true∧kd[j]?=some r∧fromCall r=true:=by
   intro _ h
   simp only [List.any_eq_true,List.mem_range,Bool.and_eq_true] at h
   obtain ⟨j,_,h6,h7⟩:=h
   cases hr:kd[j]? with
   | none=>rw [hr] at h7; simp at h7
   | some r=>rw [hr] at h7; exact ⟨j,r,h6,hr,h7⟩
  refine ⟨q,rfl,?_,?_,?_,?_,?_,?_,?_,?_,?_,?_⟩
  ·simpa using h1
  ·intro cs b e; rw [e] at h2; simp at h2
  ·intro e he hb
   have:=Array.all_eq_true_iff_forall_mem.1 h3 e he
   simpa [hb] using this
  ·intro j p d hp hd
   have:=h4 j (List.getElem?_eq_some_iff.1 hp).1
   rw [hp] at this
   simp only [hd,Bool.and_eq_true,Bool.or_eq_true,beq_iff_eq,bne_iff_ne] at this
   exact this.1
  ·intro j p d hp hd hm
   have:=h4 j (List.getElem?_eq_some_iff.1 hp).1
   rw [hp] at this
   simp only [hd,Bool.and_eq_true,Bool.or_eq_true,beq_iff_eq,bne_iff_ne] at this
   rcases this.2 with h | h
   ·simp [hm] at h
   ·exact h
  ·intro c e
   subst e
   simp only [List.any_eq_true,List.mem_range,Bool.and_eq_true] at h5
   obtain ⟨j,hj,h6,h7⟩:=h5
   have hp:ops[j]?=some ops[j]:=List.getElem?_eq_getElem hj
   cases hr:kd[j]? with
   | none=>rw [hp,hr] at h7; simp at h7
   | some r =>
    rw [hp,hr] at h7
    simp only [Bool.and_eq_true] at h7
    exact ⟨j,_,r,by simpa using h6,hp,hr,h7.1,h7.2⟩
  ·intro e; subst e; simpa using h5
  ·intro hp
   cases q with
   | post g=>exact hpost true h5
   | sto k =>
    simp only [Bool.and_eq_true] at h5
    exact hpost true h5.2
   | _=>simp [postLike] at hp
  ·intro t z s cs e; subst e; simp at h5
  ·intro k e
   subst e
   simp only [Bool.and_eq_true,beq_iff_eq] at h5
   exact ⟨h5.1.1,by simpa using h5.1.2⟩
def ObL (P:Program) (w0:World) (FA:Value→Act) (R R':Value→World→Prop) (f:FuncId) (args:Array Value) (o:Oper):Kd→Prop
 | .pur c=>∀ vc,(execOp (FA vc).eval o).run P w0 = .ok (.value c) w0
 | .post g=>∀ vc w,R vc w∨R' vc w→(execOp (FA vc).eval o).run P w = .ok (.value (g vc)) w
 | .cal=>∀ vc,(execOp (FA vc).eval o).run P w0 = .ok (.enter f args) w0
 | .alo .. => True
 | .sto _=>∀ vc w,R vc w→∃ w',(execOp (FA vc).eval o).run P w = .ok .skip w'∧R' vc w'
def AllObL (P:Program) (w0:World) (FA:Value→Act) (R R':Value→World→Prop) (f:FuncId) (args:Array Value):List Oper→List Kd→Prop
 | o::os,q::qs=>ObL P w0 FA R R' f args o q∧AllObL P w0 FA R R' f args os qs
 | _,_=>True
theorem AllObL.at {P:Program} {w0:World} {FA:Value→Act} {R R':Value→World→Prop} {f:FuncId} {args:Array Value}:∀ {ops:List Oper} {ks:List Kd},AllObL P w0 FA R R' f args ops ks →
  ∀ {i:Nat} {o:Oper} {q:Kd},ops[i]?=some o→ks[i]?=some q→ObL P w0 FA R R' f args o q:=by
 intro ops
 induction ops with
 | nil=>intro ks _ i o q h; simp at h
 | cons p os ih =>
  intro ks h i o q ho hq
  cases ks with
  | nil=>simp at hq
  | cons r qs =>
   cases i with
   | zero=>simp at ho hq; subst ho hq; exact h.1
   | succ i=>exact ih h.2 (by simpa using ho) (by simpa using hq)
abbrev noB:Nat→Nat:=fun _=>0
structure LastPlan (ops:List Oper) (kd:List Kd) (ic fi:Nat) (a0:Act) (w0:World) (R R':Value→World→Prop) (L:Array Bool) (a:Act) (w:World):Prop where
 size:L.size=ops.length
 closed:∀ (i:Nat) o,ops[i]?=some o→L.getD i false=true→∀ j,waits o j=true→L.getD j false=true
 st:∃ vc,a=pa a0 vc noB (fun j=>L.getD j false) 0 ops kd∧(L.getD ic false=false→w=w0)∧(L.getD ic false=true→(L.getD fi false=false→R vc w)∧(L.getD fi false=true→R vc w∨R' vc w)∧(L.getD fi false=true→(∃ k,kd[fi]?=some (.sto k))→R' vc w)) ∧
  (∀ (i:Nat) q,kd[i]?=some q→L.getD i false=true→postLike q=true→L.getD ic false=true)
theorem region_last {P:Program} {ops:List Oper} {id:Nat} {Q:Exit→Act→World→Prop} {a0:Act} {w:World} (hm:P.follows .mixedOrders=true) (kd:List Kd) (ic fi:Nat) (hfit:fitsLast ops kd ic fi=true)
  (R R':Value→World→Prop) (f:FuncId) (args:Array Value)
  (hC:Calls P f args w.drew (fun e u'=>∃ v,e = .returned v∧R v u'))
  (hob:AllObL P w.drew (fun vc=>paAll a0 ops kd vc noB) R R' f args ops kd)
  (hcal:kd[ic]?=some .cal) (hil:ic<ops.length) (hfi:(∃ k,kd[fi]?=some (.sto k))∨(ops.length≤fi∧∀ v u,R v u→R' v u))
  (hQ:∀ vc u,R' vc u→Q .normal (paAll a0 ops kd vc noB) u) :
  (Code.region id ops.toArray true).wp P Q a0 w:=by
 have hlen:ops.length=kd.length:=by
  unfold fitsLast at hfit
  simp only [Bool.and_eq_true,beq_iff_eq] at hfit
  exact hfit.1
 have hkat:∀ {i':Nat} {q':Kd},kd[i']?=some q'→∃ o',ops[i']?=some o'∧LastAt ops kd ic fi i' o' q':=fun {i' q'} h1=>by
  have ho:=List.getElem?_eq_getElem (l:=ops) (i:=i') (by have:=(List.getElem?_eq_some_iff.1 h1).1; omega)
  obtain ⟨q2,hq2,hF2⟩:=last_at hfit ho
  rw [h1] at hq2; simp at hq2; subst hq2
  exact ⟨_,ho,hF2⟩
 refine wp_region_any hm (wpAny_inv (J:=LastPlan ops kd ic fi a0 w.drew R R') ?_ ?_ _ _ _ _ ?_ ?_)
 ·intro L a u i hr hJ
  obtain ⟨hsz,hcl,vc,rfl,hw0,hcR,hpost⟩:=hJ
  obtain ⟨h0,o,ho',_⟩:=mem_ready.1 hr
  have ho:ops[i]?=some o:=by simpa using ho'
  have hi:i<ops.length:=(List.getElem?_eq_some_iff.1 ho).1
  have hil:i<L.size:=by omega
  have hun:L.getD i false=false:=by simp [hil] at h0 ⊢; exact h0
  obtain ⟨q,hq,hF⟩:=last_at hfit ho
  have hOb:=hob.at ho hq
  have hexec:execOp (pa a0 vc noB (fun j=>L.getD j false) 0 ops kd).eval o=execOp (paAll a0 ops kd vc noB).eval o:=by
   refine execOp_congr o hF.sel (fun x hx=>pa_eval (fun j p hp hl d hd e => ?_))
   subst e
   have hw:=hF.look j p d hp hd (List.mem_append_left _ (List.mem_filterMap.2 ⟨.tmp d,by simpa using hx,rfl⟩))
   have:=waits_listed hr ho hw
   simp only [Nat.zero_add] at hl
   rw [hl] at this
   simp at this
  have hwant:Region.wanted o (yielded ops.toArray (pa a0 vc noB (fun j=>L.getD j false) 0 ops kd).tmps)=true:=by simp [Region.wanted,hF.gd]
  have hL:=getD_set_or hil
  have hput:∀ vc',(∀ j r,kd[j]?=some r→L.getD j false=true→r.val vc noB j=r.val vc' noB j) →
    (pa a0 vc noB (fun j=>L.getD j false) 0 ops kd).put o.dst (q.val vc' noB i)=pa a0 vc' noB (fun j=>(L.setIfInBounds i true).getD j false) 0 ops kd:=by
   intro vc' hv
   have e1:pa a0 vc noB (fun j=>L.getD j false) 0 ops kd=pa a0 vc' noB (fun j=>L.getD j false) 0 ops kd:=pa_congr (fun j r hr'=>by
    simp only [Nat.zero_add]
    exact ⟨trivial,fun hl=>hv j r hr' hl⟩)
   rw [e1]
   have e2:=pa_set (a0:=a0) (vc:=vc') (β:=noB) (lst:=fun j=>L.getD j false) (k:=0) ho hq (by simpa using hun) hF.dst
   simp only [Nat.zero_add] at e2
   rw [← e2]
   exact pa_congr (fun j r hr'=>⟨by simp only [Nat.zero_add,hL],fun _=>rfl⟩)
  have hold:∀ j,L.getD j false=true→(L.setIfInBounds i true).getD j false=true:=fun j h=>by rw [hL,h]; rfl
  have hnew:∀ j,j≠i→(L.setIfInBounds i true).getD j false=L.getD j false:=fun j h=>by
   rw [hL]
   have:(j == i)=false:=by rw [beq_eq_false_iff_ne]; exact h
   simp [this]
  have hne:∀ {i':Nat} {q':Kd},kd[i']?=some q'→q'≠q→i'≠i:=fun {i' q'} h1 h2 e=>by
   subst e; rw [hq] at h1; exact h2 (Option.some.inj h1).symm
  have hcl':∀ (i':Nat) o',ops[i']?=some o'→(L.setIfInBounds i true).getD i' false=true→∀ j,waits o' j=true→(L.setIfInBounds i true).getD j false=true:=by
   intro i' o' h1 h2 j hj
   by_cases e:i'=i
   ·subst e
    rw [ho] at h1; simp at h1; subst h1
    exact hold _ (waits_listed hr ho hj)
   ·exact hold _ (hcl i' o' h1 ((hnew i' e).symm.trans h2) j hj)
  have hpost':postLike q=false→∀ (i':Nat) q',kd[i']?=some q'→(L.setIfInBounds i true).getD i' false=true→postLike q'=true→(L.setIfInBounds i true).getD ic false=true:=fun hp i' q' h1 h2 h3 =>
   hold _ (hpost i' q' h1 ((hnew i' (hne h1 (fun e=>by rw [e,hp] at h3; simp at h3))).symm.trans h2) h3)
  have hcall:postLike q=true→L.getD ic false=true:=fun hp=>by
   obtain ⟨j,r,h1,h2,h3⟩:=hF.post hp
   have hj:=waits_listed hr ho h1
   cases r with
   | post g=>exact hpost j _ h2 hj rfl
   | cal =>
    obtain ⟨o',_,hF'⟩:=hkat h2
    have:=hF'.cal rfl
    rw [← this]; exact hj
   | _=>simp [fromCall] at h3
  -- the reads stand ahead of the call
  have hahead:∀ (n:Nat) (i':Nat) c,ops.length - i'≤n→kd[i']?=some (.pur c)→L.getD ic false=true→L.getD i' false=true:=by
   intro n
   induction n with
   | zero =>
    intro i' c hn h1 _
    have:=(List.getElem?_eq_some_iff.1 h1).1
    omega
   | succ n ih =>
    intro i' c hn h1 h2
    obtain ⟨o',_,hF'⟩:=hkat h1
    obtain ⟨j,p,r,h3,h4,h5,h6,h7⟩:=hF'.pur c rfl
    have hjl:L.getD j false=true:=by
     cases r with
     | pur c'=>exact ih j c' (by omega) h5 h2
     | cal =>
      obtain ⟨o2,_,hF2⟩:=hkat h5
      rw [hF2.cal rfl]; exact h2
     | _=>simp [isPur] at h7
    exact hcl j p h4 hjl i' h6
  unfold wpOp
  simp only [ho']
  rw [if_pos hwant]
  refine Or.inl ?_
  unfold Oper.wp
  rw [hexec]
  cases q with
  | pur c =>
   have hnc:L.getD ic false=false:=by
    cases h:L.getD ic false with
    | false=>rfl
    | true =>
     have:=hahead _ i c (Nat.le_refl _) hq h
     rw [hun] at this; simp at this
   have hic:ic≠i:=hne hcal (by simp)
   have hu:=hw0 hnc
   subst hu
   rw [hOb vc]
   refine ⟨by simpa using hsz,hcl',vc,hput vc (fun _ _ _ _=>rfl),fun _=>rfl,?_,hpost' rfl⟩
   intro h
   rw [hnew ic hic,hnc] at h
   simp at h
  | post g =>
   have hic:=hcall rfl
   have hfn:fi≠i:=by
    rcases hfi with ⟨k,hk⟩ | ⟨hk,_⟩
    ·exact hne hk (by simp)
    ·omega
   have hS:R vc u∨R' vc u:=by
    cases h:L.getD fi false with
    | false=>exact Or.inl ((hcR hic).1 h)
    | true=>exact (hcR hic).2.1 h
   rw [hOb vc u hS]
   refine ⟨by simpa using hsz,hcl',vc,hput vc (fun _ _ _ _=>rfl),?_,?_,fun i' q' _ _ _=>hold _ hic⟩
   ·intro h
    have:=hold _ hic
    rw [h] at this; simp at this
   ·intro _
    rw [hnew fi hfn]
    exact hcR hic
  | cal =>
   have hie:=hF.cal rfl
   have hnc:L.getD ic false=false:=by rw [← hie]; exact hun
   have hu:=hw0 hnc
   subst hu
   rw [hOb vc]
   refine hC.mono ?_
   rintro e u' ⟨v,rfl,hr'⟩
   have hff:L.getD fi false=false:=by
    rcases hfi with ⟨k,hk⟩ | ⟨hk,_⟩
    ·cases h:L.getD fi false with
     | false=>rfl
     | true =>
      have:=hpost fi _ hk h rfl
      rw [hnc] at this; simp at this
    ·have:¬ fi<L.size:=by omega
     simp [this]
   have hfn:fi≠i:=by
    rcases hfi with ⟨k,hk⟩ | ⟨hk,_⟩
    ·exact hne hk (by simp)
    ·omega
   refine ⟨by simpa using hsz,hcl',v,hput v ?_,?_,?_,?_⟩
   ·intro j r h1 h2
    cases r with
    | post g =>
     have:=hpost j _ h1 h2 rfl
     rw [hnc] at this; simp at this
    | cal =>
     obtain ⟨o',_,hF'⟩:=hkat h1
     have:=hF'.cal rfl
     rw [this,hnc] at h2; simp at h2
    | _=>rfl
   ·intro h
    rw [← hie,hL] at h
    simp at h
   ·intro _
    rw [hnew fi hfn,hff]
    exact ⟨fun _=>hr',fun h=>by simp at h,fun h=>by simp at h⟩
   ·intro i' q' _ _ _
    rw [← hie,hL]; simp
  | alo t z s cs=>exact absurd rfl (hF.alo t z s cs)
  | sto k =>
   have hic:=hcall rfl
   obtain ⟨hif,hdn⟩:=hF.sto k rfl
   obtain ⟨w',hrun,hR'⟩:=hOb vc u ((hcR hic).1 (by rw [← hif]; exact hun))
   rw [hrun]
   refine ⟨by simpa using hsz,hcl',vc,hput vc (fun _ _ _ _=>rfl),?_,?_,fun i' q' _ _ _=>hold _ hic⟩
   ·intro h
    have:=hold _ hic
    rw [h] at this; simp at this
   ·intro _
    refine ⟨fun h => ?_,fun _=>Or.inr hR',fun _ _=>hR'⟩
    rw [← hif,hL] at h
    simp at h
 ·intro L a u hr hJ
  obtain ⟨hsz,hcl,vc,rfl,hw0,hcR,hpost⟩:=hJ
  have hall:∀ i,i<ops.length→L.getD i false=true:=by
   intro i
   induction i using Nat.strongRecOn with
   | _ i ih =>
    intro hi
    cases hl:L.getD i false with
    | true=>rfl
    | false =>
     exfalso
     have ho:ops[i]?=some ops[i]:=List.getElem?_eq_getElem hi
     obtain ⟨q,hq,hF⟩:=last_at hfit ho
     have:i ∈ Region.ready .any ops.toArray L:=by
      refine mem_ready.2 ⟨?_,ops[i],by simp,fun e he hb=>ih e.on (hF.low e he hb) (by have:=hF.low e he hb; omega)⟩
      have hi':i<L.size:=by omega
      simp [hi'] at hl ⊢
      exact hl
     rw [hr] at this
     simp at this
  have e:pa a0 vc noB (fun j=>L.getD j false) 0 ops kd=paAll a0 ops kd vc noB:=pa_congr (fun j r hr'=>⟨by
   simp only [Nat.zero_add]
   exact hall j (by have:=(List.getElem?_eq_some_iff.1 hr').1; omega),fun _=>rfl⟩)
  rw [e]
  have hR:=hcR (hall ic hil)
  refine hQ vc u ?_
  rcases hfi with ⟨k,hk⟩ | ⟨hk,hRR⟩
  ·exact hR.2.2 (hall fi (by have:=(List.getElem?_eq_some_iff.1 hk).1; omega)) ⟨k,hk⟩
  ·refine hRR _ _ (hR.1 ?_)
   have:¬ fi<L.size:=by omega
   simp [this]
 ·have:(ops.toArray).size=ops.length:=by simp
  unfold unl
  exact Nat.le_trans (List.length_filter_le _ _) (by simp)
 ·have hz:∀ j,(Array.replicate ops.toArray.size false).getD j false=false:=fun j=>by
   simp only [Array.getD_eq_getD_getElem?,Array.getElem?_replicate]
   split <;> rfl
  refine ⟨by simp,?_,undef,?_,fun _=>rfl,?_,?_⟩
  ·intro i o _ h; rw [hz] at h; simp at h
  ·have:∀ (k:Nat) (os:List Oper) (qs:List Kd),pa a0 undef noB (fun j=>(Array.replicate ops.toArray.size false).getD j false) k os qs=a0:=by
    intro k os
    induction os generalizing k with
    | nil=>intro qs; simp [pa]
    | cons o os ih =>
     intro qs
     cases qs with
     | nil=>simp [pa]
     | cons q qs=>rw [pa,hz]; simp only [Bool.false_eq_true,if_false]; exact ih _ _
   exact (this _ _ _).symm
  ·intro h; rw [hz] at h; simp at h
  ·intro i q _ h; rw [hz] at h; simp at h
structure CellS where
 sym:Sym
 kids:List Nat
 up:Nat
def cellV (c:CellS) (v:Value):List Value:=[.string ⟨c.sym.name.toArray⟩,.int .i64 c.sym.num,v,.int .i64 c.up]
def cellsV:List CellS→List Value→List Value
 | c::cs,v::vs=>cellV c v++cellsV cs vs
 | _,_=>[]
structure CellsAt (w:World) (B:Nat) (lv:Value) (cs:List CellS) (vs:List Value):Prop where
 len:vs.length=cs.length
 owns:w.ownsRow B 314 4 lv cs.length (cellsV cs vs)
 kids:∀ (i:Nat) c v,cs[i]?=some c→vs[i]?=some v→w.ownsRow B 3 1 v c.kids.length (ints c.kids)
theorem cellsV_at:∀ {cs:List CellS} {vs:List Value} {i:Nat} {c:CellS} {v:Value},cs[i]?=some c→vs[i]?=some v →
  (cellsV cs vs)[i * 4]?=some (.string ⟨c.sym.name.toArray⟩)∧(cellsV cs vs)[i * 4+1]?=some (.int .i64 c.sym.num)∧(cellsV cs vs)[i * 4+2]?=some v∧(cellsV cs vs)[i * 4+3]?=some (.int .i64 c.up):=by
 intro cs
 induction cs with
 | nil=>intro vs i c v h; simp at h
 | cons d cs ih =>
  intro vs i c v h1 h2
  cases vs with
  | nil=>simp at h2
  | cons u vs =>
   cases i with
   | zero =>
    simp at h1 h2
    subst h1 h2
    simp [cellsV,cellV]
   | succ i =>
    have:=ih (i:=i) (by simpa using h1) (by simpa using h2)
    have hl:(cellV d u).length=4:=rfl
    rw [cellsV]
    have e:∀ j,(cellV d u++cellsV cs vs)[(i+1) * 4+j]?=(cellsV cs vs)[i * 4+j]?:=fun j=>by
     rw [List.getElem?_append_right (by rw [hl]; omega),hl]
     congr 1; omega
    have e0:=e 0
    simp only [Nat.add_zero] at e0
    rw [e0,e 1,e 2,e 3]
    exact this
theorem CellsAt.at {w:World} {B:Nat} {lv:Value} {cs:List CellS} {vs:List Value} (h:CellsAt w B lv cs vs) {i:Nat} (hi:i<cs.length) :
  ∃ g cap c v,lv = .slice (some ⟨g,0,none⟩) cs.length cap∧cs[i]?=some c∧vs[i]?=some v∧B≤g∧g<w.heap.size∧cs.length≤cap∧w.cell? ⟨g,i * 4,none⟩=some (.string ⟨c.sym.name.toArray⟩)∧w.cell? ⟨g,i * 4+1,none⟩=some (.int .i64 c.sym.num) ∧
   w.cell? ⟨g,i * 4+2,none⟩=some v∧w.cell? ⟨g,i * 4+3,none⟩=some (.int .i64 c.up)∧(∀ j,w.frozen? ⟨g,j,none⟩=false)∧w.ownsRow B 3 1 v c.kids.length (ints c.kids):=by
 obtain ⟨g,cap,cur,rfl,hB,hb,hc⟩:=owns_some h.owns (by omega)
 have hv:i<vs.length:=by rw [h.len]; exact hi
 have h1:cs[i]?=some cs[i]:=List.getElem?_eq_getElem hi
 have h2:vs[i]?=some vs[i]:=List.getElem?_eq_getElem hv
 obtain ⟨a,b,c,d⟩:=cellsV_at h1 h2
 exact ⟨g,cap,cs[i],vs[i],rfl,h1,h2,hB,lt_of_block hb,hc,owns_cell h.owns _ _ a,owns_cell h.owns _ _ b,owns_cell h.owns _ _ c,owns_cell h.owns _ _ d,fun j=>thawed_of_block hb j,h.kids i _ _ h1 h2⟩
theorem CellsAt.ext {w w':World} {B:Nat} {lv:Value} {cs:List CellS} {vs:List Value} (h:CellsAt w B lv cs vs) (hk:∀ k,k<w.heap.size→w'.heap[k]?=w.heap[k]?):CellsAt w' B lv cs vs :=
 ⟨h.len,owns_same h.owns (fun k e=>hk k (h.owns.lt k e).2),fun i c v h1 h2=>owns_same (h.kids i c v h1 h2) (fun k e=>hk k ((h.kids i c v h1 h2).lt k e).2)⟩
def turn (cs:List CellS) (x y:Nat):List CellS:=cs.modify x (fun c => { c with up:=y })
theorem turn_len (cs:List CellS) (x y:Nat):(turn cs x y).length=cs.length:=by simp [turn]
theorem turn_at (cs:List CellS) (x y i:Nat):(turn cs x y)[i]?=(cs[i]?).map (fun c=>if x=i then { c with up:=y } else c):=by
 simp only [turn,List.getElem?_modify]
 cases cs[i]? with
 | none=>rfl
 | some c=>simp
theorem cellsV_turn:∀ {cs:List CellS} {vs:List Value} {x y:Nat},vs.length=cs.length→x<cs.length→cellsV (turn cs x y) vs=(cellsV cs vs).set (x * 4+3) (.int .i64 y):=by
 intro cs
 induction cs with
 | nil=>intro vs x y _ h; simp at h
 | cons d cs ih =>
  intro vs x y hl hx
  cases vs with
  | nil=>simp at hl
  | cons u vs =>
   cases x with
   | zero=>simp [turn,cellsV,cellV]
   | succ x =>
    have e:=ih (vs:=vs) (x:=x) (y:=y) (by simpa using hl) (by simpa using hx)
    have e2:turn (d::cs) (x+1) y=d::turn cs x y:=by simp [turn]
    rw [e2,cellsV,cellsV,e,List.set_append_right _ _ (by simp [cellV]; omega)]
    congr 2
    simp [cellV]
    try omega
theorem CellsAt.turn {w:World} {B g cap:Nat} {cs:List CellS} {vs:List Value} (h:CellsAt w B (.slice (some ⟨g,0,none⟩) cs.length cap) cs vs) {x:Nat} (hx:x<cs.length) (y:Nat) :
  CellsAt (w.setCell ⟨g,x * 4+3,none⟩ (.int .i64 y)) B (.slice (some ⟨g,0,none⟩) cs.length cap) (YtlmjilpjmgjjcaaGreatDoor.turn cs x y) vs:=by
 refine ⟨by rw [turn_len]; exact h.len,?_,?_⟩
 ·rw [turn_len,cellsV_turn h.len hx]
  have ho:=h.owns
  refine ⟨by simpa using ho.1,?_⟩
  rcases ho.2 with ⟨h1,_⟩ | ⟨g',cap',cur,h1,hb,hg,hn,hc,hs,ht⟩
  ·simp at h1
  ·simp at h1
   obtain ⟨rfl,rfl⟩:=h1
   refine .inr ⟨g,cap,cur.setIfInBounds (x * 4+3) (.int .i64 y),rfl,hb,block_set hg _ _,hn,hc,by simpa using hs,?_⟩
   rw [← ht]
   simp [List.take_set]
 ·intro i c v h1 h2
  rw [turn_at] at h1
  cases hc:cs[i]? with
  | none=>rw [hc] at h1; simp at h1
  | some c' =>
   rw [hc] at h1
   simp only [Option.map_some,Option.some.injEq] at h1
   have hk:=h.kids i c' v hc h2
   have hne:∀ k,v.ownBlock=some k→k≠g:=fun k e e'=>by
    subst e'
    obtain ⟨cur,hcur⟩:=owns_terms hk k e
    obtain ⟨cur',hcur'⟩:=owns_terms h.owns k rfl
    rw [hcur] at hcur'
    simp at hcur'
   have:c.kids=c'.kids:=by rw [← h1]; split <;> rfl
   rw [this]
   exact owns_same hk (fun k e=>Below.heap_setCell _ _ _ _ (hne k e))
def UpOk (cs:List CellS) (ρ rk:Nat→Nat):Prop:=∀ (i:Nat) c,cs[i]?=some c→c.up<cs.length∧ρ c.up=ρ i∧(c.up=i→ρ i=i)∧(c.up≠i→rk c.up<rk i)
theorem UpOk.root {cs:List CellS} {ρ rk:Nat→Nat} (h:UpOk cs ρ rk):∀ (n i:Nat) c,rk i≤n→cs[i]?=some c→∃ c',cs[ρ i]?=some c'∧c'.up=ρ i∧ρ (ρ i)=ρ i:=by
 intro n
 induction n with
 | zero =>
  intro i c hn hc
  obtain ⟨h1,h2,h3,h4⟩:=h i c hc
  by_cases e:c.up=i
  ·rw [h3 e]; exact ⟨c,hc,e,h3 e⟩
  ·have:=h4 e; omega
 | succ n ih =>
  intro i c hn hc
  obtain ⟨h1,h2,h3,h4⟩:=h i c hc
  by_cases e:c.up=i
  ·rw [h3 e]; exact ⟨c,hc,e,h3 e⟩
  ·have:=h4 e
   rw [← h2]
   exact ih c.up _ (by omega) (List.getElem?_eq_getElem h1)
theorem UpOk.rt {cs:List CellS} {ρ rk:Nat→Nat} (h:UpOk cs ρ rk):Rt cs.length ρ:=by
 refine ⟨fun i hi => ?_,fun i hi => ?_⟩
 ·obtain ⟨c',h1,_,_⟩:=h.root _ i _ (Nat.le_refl _) (List.getElem?_eq_getElem hi)
  exact (List.getElem?_eq_some_iff.1 h1).1
 ·obtain ⟨c',_,_,h3⟩:=h.root _ i _ (Nat.le_refl _) (List.getElem?_eq_getElem hi)
  exact h3
def rootsOf (cs:List CellS):Nat:=((List.range cs.length).filter (fun i=>((cs[i]?).map (fun c=>c.up == i)).getD false)).length
theorem rootsOf_turn {cs:List CellS} {x y:Nat} {c:CellS} (hx:cs[x]?=some c) (hr:c.up=x) (hne:x≠y):rootsOf (turn cs x y)<rootsOf cs:=by
 unfold rootsOf
 rw [turn_len]
 refine filter_lt (x:=x) (fun i _ hi => ?_) (List.mem_range.2 (List.getElem?_eq_some_iff.1 hx).1) (by simp [hx,hr]) ?_
 ·rw [turn_at] at hi
  cases hc:cs[i]? with
  | none=>rw [hc] at hi; simp at hi
  | some d =>
   rw [hc] at hi
   simp only [Option.map_some,Option.getD_some,beq_iff_eq] at hi ⊢
   split at hi
   ·rename_i e; subst e; simp at hi; exact absurd hi.symm hne
   ·exact hi
 ·rw [turn_at,hx]
  simp
  exact fun e=>hne e.symm
theorem UpOk.turn {cs:List CellS} {ρ rk:Nat→Nat} (h:UpOk cs ρ rk) {x y:Nat} (hx:x<cs.length) (hy:y<cs.length) (rx:ρ x=x) (ry:ρ y=y) (hne:x≠y) :
  UpOk (YtlmjilpjmgjjcaaGreatDoor.turn cs x y) (mg ρ x y) (fun i=>if ρ i=x then rk i+rk y+1 else rk i):=by
 intro i c hc
 rw [turn_at] at hc
 cases hd:cs[i]? with
 | none=>rw [hd] at hc; simp at hc
 | some d =>
  rw [hd] at hc
  simp only [Option.map_some,Option.some.injEq] at hc
  obtain ⟨h1,h2,h3,h4⟩:=h i d hd
  rw [turn_len]
  by_cases e:x=i
  ·subst e
   rw [if_pos rfl] at hc
   subst hc
   refine ⟨hy,?_,fun e=>absurd e.symm hne,fun _ => ?_⟩
   ·unfold mg
    rw [rx,ry,if_pos rfl,if_neg (fun e=>hne e.symm)]
   ·simp only [rx,ry,if_true]
    rw [if_neg (fun e=>hne e.symm)]; omega
  ·rw [if_neg e] at hc
   subst hc
   refine ⟨h1,?_,fun e' => ?_,fun e' => ?_⟩
   ·unfold mg; rw [h2]
   ·have:=h3 e'
    unfold mg
    rw [this,if_neg (fun e''=>e e''.symm)]
   ·have:=h4 e'
    simp only [h2]
    split <;> omega
set_option maxRecDepth 10000 in
set_option maxHeartbeats 1000000 in
theorem root_any (w:World) (B:Nat) (lv:Value) (cs:List CellS) (vs:List Value) (ρ rk:Nat→Nat) (i:Nat) (h:CellsAt w B lv cs vs) (hu:UpOk cs ρ rk) (hi:i<cs.length) (hl:cs.length≤4000) :
  Calls Tryz.prog 214 #[lv,.int .i64 i] w fun e w'=>e = .returned (.int .i64 (ρ i))∧w'=w:=by
 obtain ⟨g,cap,_,_,rfl,_,_,_,_,hcap,_⟩:=h.at hi
 have H:=hide' h
 have Hu:=hide' hu
 clear h hu
 go_enter Tryz.func214,Tryz.ntmps214
 go_wp2
 go_loopg [1] (rk i+1) (fun gk iv wr=>∃ (k:Nat),iv = .int .i64 k∧k<cs.length∧rk k<gk∧ρ k=ρ i∧wr=w)
 case atStart=>exact ⟨i,rfl,hi,by omega,rfl,rfl⟩
 case round =>
  obtain ⟨k,rfl,hk,hg,hρ,rfl⟩:=hrel
  obtain ⟨g',cap',c,v,he,hc,hv,hB,hgl,hcp,c0,c1,c2,c3,cf,hkid⟩:=H.out.at hk
  simp only [Value.slice.injEq,Option.some.injEq,Addr.mk.injEq] at he
  obtain ⟨⟨rfl,_⟩,_,rfl⟩:=he
  obtain ⟨h1,h2,h3,h4⟩:=Hu.out k c hc
  by_cases e:c.up=k
  ·have e':((c.up:Int) != (k:Int))=false:=by rw [e]; simp
   have Hr:=hide' (h3 e)
   have Hρ:=hide' hρ
   clear hc hv hkid h2 h3 h4 hρ
   go_wp2
   go_ret
   exact ⟨by rw [← Hρ.out,Hr.out]; rfl,rfl⟩
  ·have e':((c.up:Int) != (k:Int))=true:=by rw [bne_iff_ne]; omega
   have Hr:=hide' (h2.trans hρ)
   have h4':=h4 e
   clear hc hv hkid h2 h3 h4 hρ
   go_wp2
   go_roundg (rk k)
   case measure=>omega
   case rel=>exact ⟨c.up,rfl,h1,h4',Hr.out,rfl⟩
end Go.Proofs.YtlmjilpjmgjjcaaGreatDoor
namespace Go.Proofs.YtlmjilpjmgjjcaaGreatDoor
set_option linter.unusedSimpArgs false
set_option linter.unusedVariables false
def skip:Nat→List Sym→Nat
 | 0,_=>0
 | _+1,[]=>0
 | k+1,s::r=>skip (k+s.args) r+1
theorem skip_wf:∀ {a:List Sym} {j:Nat} (r:List Sym),Wf j a→skip j (a++r)=a.length:=by
 intro a
 induction a with
 | nil=>intro j r h; have h:j=0:=h; subst h; simp [skip]
 | cons s a ih =>
  intro j r h
  obtain ⟨h1,_,_,h2⟩:=h
  obtain ⟨k,rfl⟩:∃ k,j=k+1:=⟨j - 1,by omega⟩
  simp only [List.cons_append,skip,List.length_cons]
  rw [ih r (by simpa using h2)]
theorem wf_drop:∀ {l:List Sym} {k:Nat} (i:Nat),Wf k l→i≤l.length→∃ k',Wf k' (l.drop i):=by
 intro l
 induction l with
 | nil=>intro k i h hi; simp at hi; subst hi; exact ⟨k,h⟩
 | cons s l ih =>
  intro k i h hi
  cases i with
  | zero=>exact ⟨k,h⟩
  | succ i =>
   obtain ⟨_,_,_,h2⟩:=h
   simp only [List.drop_succ_cons]
   exact ih i h2 (by simpa using hi)
def behindL (l:List Sym) (i:Nat):Nat:=i+skip 1 (l.drop i)
def tmAt (l:List Sym) (i:Nat):List Sym:=(l.drop i).take (skip 1 (l.drop i))
def kidsFrom (l:List Sym):Nat→Nat→List Nat
 | _,0=>[]
 | p,m+1=>p::kidsFrom l (behindL l p) m
def behindN (l:List Sym):Nat→Nat→Nat
 | p,0=>p
 | p,m+1=>behindN l (behindL l p) m
theorem kidsFrom_length (l:List Sym) (p m:Nat):(kidsFrom l p m).length=m:=by
 induction m generalizing p with
 | zero=>rfl
 | succ m ih=>simp [kidsFrom,ih]
theorem behindN_snoc (l:List Sym) (p m:Nat):behindN l p (m+1)=behindL l (behindN l p m):=by
 induction m generalizing p with
 | zero=>rfl
 | succ m ih=>rw [behindN,ih]; rfl
theorem kidsFrom_at (l:List Sym) (p m i:Nat) (hi:i<m):(kidsFrom l p m)[i]?=some (behindN l p i):=by
 induction m generalizing p i with
 | zero=>omega
 | succ m ih =>
  cases i with
  | zero=>rfl
  | succ i=>simp only [kidsFrom,List.getElem?_cons_succ,behindN]; exact ih _ _ (by omega)
theorem term_at {l:List Sym} {k i:Nat} (h:Wf k l) (hi:i<l.length):Wf 1 (tmAt l i)∧∃ r,l.drop i=tmAt l i++r∧r=l.drop (behindL l i)∧i<behindL l i∧behindL l i≤l.length∧(tmAt l i).length=skip 1 (l.drop i):=by
 obtain ⟨k',hk⟩:=wf_drop i h (by omega)
 have hpos:0<k':=by
  rcases Nat.eq_zero_or_pos k' with rfl | hp
  ·cases hd:l.drop i with
   | nil=>have:=congrArg List.length hd; simp at this; omega
   | cons s r=>rw [hd] at hk; obtain ⟨h1,_⟩:=hk; omega
  ·exact hp
 obtain ⟨a,b,e,ha,hb⟩:=wf_split (j:=1) (k:=k' - 1) (l:=l.drop i) (by rw [show 1+(k' - 1)=k' by omega]; exact hk)
 have hs:skip 1 (l.drop i)=a.length:=by rw [e]; exact skip_wf b ha
 have ht:tmAt l i=a:=by unfold tmAt; rw [hs,e]; simp
 have hl:a.length+b.length=l.length - i:=by
  have:=congrArg List.length e
  simp at this; omega
 have ha1:=wf_len ha
 refine ⟨by rw [ht]; exact ha,b,by rw [ht]; exact e,?_,by unfold behindL; omega,by unfold behindL; omega,by rw [ht,hs]⟩
 unfold behindL
 rw [hs,← List.drop_drop,e]; simp
theorem kids_of {l:List Sym} {k0:Nat} (h:Wf k0 l):∀ (m:Nat) {p:Nat} {a b:List Sym},l.drop p=a++b→Wf m a→p≤l.length →
  a=((kidsFrom l p m).map (tmAt l)).flatten∧(∀ x ∈ kidsFrom l p m,p≤x∧x<p+a.length)∧behindN l p m=p+a.length:=by
 intro m
 induction m with
 | zero =>
  intro p a b e hw _
  have:a=[]:=by
   cases a with
   | nil=>rfl
   | cons s a=>obtain ⟨h1,_⟩:=hw; omega
  subst this
  exact ⟨rfl,by simp [kidsFrom],rfl⟩
 | succ m ih =>
  intro p a b e hw hp
  obtain ⟨a1,a2,rfl,h1,h2⟩:=wf_split (j:=1) (k:=m) (l:=a) (by rw [Nat.add_comm]; exact hw)
  have hl1:=wf_len h1
  have hpl:p<l.length:=by
   have:=congrArg List.length e
   simp at this; omega
  have hs:skip 1 (l.drop p)=a1.length:=by rw [e,List.append_assoc]; exact skip_wf _ h1
  have ht:tmAt l p=a1:=by unfold tmAt; rw [hs,e]; simp
  have hb:behindL l p=p+a1.length:=by unfold behindL; rw [hs]
  have e2:l.drop (behindL l p)=a2++b:=by rw [hb,← List.drop_drop,e]; simp
  have hbl:behindL l p≤l.length:=by
   have:=congrArg List.length e
   simp at this; omega
  obtain ⟨g1,g2,g3⟩:=ih e2 h2 hbl
  refine ⟨?_,?_,?_⟩
  ·simp only [kidsFrom,List.map_cons,List.flatten_cons,ht]
   rw [← g1]
  ·intro x hx
   simp only [kidsFrom,List.mem_cons] at hx
   simp only [List.length_append]
   rcases hx with rfl | hx
   ·omega
   ·have:=g2 x hx; omega
  ·rw [behindN,g3,hb,List.length_append]; omega
theorem syms_wf:∀ {l:List Sym} {k i:Nat} {s:Sym},Wf k l→l[i]?=some s→(s.name=[]→s.args=0)∧(s.name≠[]→s.num=0):=by
 intro l
 induction l with
 | nil=>intro k i s _ hs; simp at hs
 | cons t l ih =>
  intro k i s h hs
  obtain ⟨_,h1,h2,h3⟩:=h
  cases i with
  | zero=>simp at hs; subst hs; exact ⟨h1,h2⟩
  | succ i=>exact ih h3 (by simpa using hs)
def symAt (l:List Sym) (i:Nat):Sym:=l.getD i ⟨[],0,0⟩
def grOf (l:List Sym):Gr:=⟨l.length,symAt l,fun i=>kidsFrom l (i+1) (symAt l i).args⟩
theorem cell_at {l:List Sym} {k i:Nat} (h:Wf k l) (hi:i<l.length):tmAt l i=symAt l i::((kidsFrom l (i+1) (symAt l i).args).map (tmAt l)).flatten∧(∀ x ∈ kidsFrom l (i+1) (symAt l i).args,i<x∧x<behindL l i)∧behindN l (i+1) (symAt l i).args=behindL l i:=by
 obtain ⟨hw,r,e,hr,hb1,hb2,hb3⟩:=term_at h hi
 obtain ⟨s,q,e2,hq,_⟩:=wf_one hw
 have hd:l.drop i=l[i]::l.drop (i+1):=List.drop_eq_getElem_cons hi
 rw [e2] at e
 rw [hd] at e
 simp only [List.cons_append,List.cons.injEq] at e
 have hs:symAt l i=s:=by unfold symAt; simp [hi,e.1]
 obtain ⟨g1,g2,g3⟩:=kids_of h s.args e.2 hq (by omega)
 rw [e2] at hb3
 have hlen:behindL l i=i+1+q.length:=by unfold behindL; rw [← hb3]; simp; omega
 rw [hs]
 refine ⟨by rw [e2,← g1],fun x hx => ?_,by rw [g3,hlen]⟩
 have:=g2 x hx
 omega
theorem tmAt_front {a b:List Sym} (h:Wf 1 a):tmAt (a++b) 0=a:=by
 unfold tmAt; rw [List.drop_zero,skip_wf b h]; simp
theorem tmAt_behind {a b:List Sym} (h:Wf 1 b):tmAt (a++b) a.length=b:=by
 unfold tmAt
 have e:(a++b).drop a.length=b++[]:=by simp
 rw [e,skip_wf [] h]; simp
theorem lay_of {a b:List Sym} (ha:Wf 1 a) (hb:Wf 1 b):Lay (grOf (a++b)) (tmAt (a++b)) a b:=by
 have hw:Wf 2 (a++b):=wf_append ha hb
 refine ⟨⟨?_,?_,?_,?_⟩,?_,?_⟩
 ·intro i hi x hx
  have:=(cell_at hw hi).2.1 x hx
  obtain ⟨_,_,_,_,_,h2,_⟩:=term_at hw hi
  show x<(a++b).length
  omega
 ·intro i hi; exact (kidsFrom_length _ _ _).symm
 ·intro i hi hn
  have hs:(a++b)[i]?=some (symAt (a++b) i):=by
   have hi:i<(a++b).length:=hi
   unfold symAt; simp only [List.getD_eq_getElem?_getD]; rw [List.getElem?_eq_getElem hi]; rfl
  have:=(syms_wf hw hs).1 hn
  show kidsFrom _ _ (symAt (a++b) i).args=[]
  rw [this]; rfl
 ·intro i hi hn
  have hs:(a++b)[i]?=some (symAt (a++b) i):=by
   have hi:i<(a++b).length:=hi
   unfold symAt; simp only [List.getD_eq_getElem?_getD]; rw [List.getElem?_eq_getElem hi]; rfl
  exact (syms_wf hw hs).2 hn
 ·intro i hi; exact (cell_at hw hi).1
 ·intro i hi hn
  have hi:i<(a++b).length:=hi
  have hm:symAt (a++b) i ∈ a++b:=by
   unfold symAt; simp only [List.getD_eq_getElem?_getD]; rw [List.getElem?_eq_getElem hi]; exact List.getElem_mem hi
  rcases List.mem_append.1 hm with hm | hm
  ·exact Or.inl ⟨_,hm,hn,rfl⟩
  ·exact Or.inr ⟨_,hm,hn,rfl⟩
def firstAt (l:List Sym) (i:Nat):Nat:=if (symAt l i).name=[] then l.findIdx (fun s=>s.name.isEmpty && s.num == (symAt l i).num) else i
theorem firsts_of (l:List Sym) {k:Nat} (hw:Wf k l):Firsts (grOf l) (firstAt l):=by
 have key:∀ i,i<l.length→(symAt l i).name=[]→firstAt l i<l.length∧(symAt l (firstAt l i)).name=[]∧(symAt l (firstAt l i)).num=(symAt l i).num:=by
  intro i hi hn
  unfold firstAt
  rw [if_pos hn]
  have hex:∃ x ∈ l,(x.name.isEmpty && x.num == (symAt l i).num)=true:=by
   refine ⟨symAt l i,?_,by simp [hn]⟩
   unfold symAt; simp only [List.getD_eq_getElem?_getD]; rw [List.getElem?_eq_getElem hi]; exact List.getElem_mem hi
  have hlt:=List.findIdx_lt_length_of_exists hex
  refine ⟨hlt,?_⟩
  have:=List.findIdx_getElem (w:=hlt)
  have e:symAt l (l.findIdx (fun s=>s.name.isEmpty && s.num == (symAt l i).num))=l[l.findIdx (fun s=>s.name.isEmpty && s.num == (symAt l i).num)]:=by
   generalize l.findIdx (fun s=>s.name.isEmpty && s.num == (symAt l i).num)=z at hlt
   unfold symAt; simp only [List.getD_eq_getElem?_getD]; rw [List.getElem?_eq_getElem hlt]; rfl
  rw [e]
  simpa using this
 refine ⟨⟨?_,?_⟩,?_,?_,?_⟩
 ·intro i hi
  by_cases hn:(symAt l i).name=[]
  ·exact (key i hi hn).1
  ·show firstAt l i<_
   unfold firstAt; rw [if_neg hn]; exact hi
 ·intro i hi
  by_cases hn:(symAt l i).name=[]
  ·obtain ⟨h1,h2,h3⟩:=key i hi hn
   show firstAt l (firstAt l i)=firstAt l i
   have e1:firstAt l (firstAt l i)=l.findIdx (fun s=>s.name.isEmpty && s.num == (symAt l (firstAt l i)).num):=by
    generalize firstAt l i=z at h2
    unfold firstAt; rw [if_pos h2]
   have e2:firstAt l i=l.findIdx (fun s=>s.name.isEmpty && s.num == (symAt l i).num):=by unfold firstAt; rw [if_pos hn]
   rw [e1,h3,← e2]
  ·have e:firstAt l i=i:=by unfold firstAt; rw [if_neg hn]
   rw [e,e]
 ·intro i j hi hj h1 h2 e
  show firstAt l i=firstAt l j
  have h1:(symAt l i).name=[]:=h1
  have h2:(symAt l j).name=[]:=h2
  have e:(symAt l i).num=(symAt l j).num:=e
  unfold firstAt; rw [if_pos h1,if_pos h2,e]
 ·intro i hi hn
  have hn:(symAt l i).name≠[]:=hn
  show firstAt l i=i
  unfold firstAt; rw [if_neg hn]
 ·intro i hi hn
  exact (key i hi hn).2
end Go.Proofs.YtlmjilpjmgjjcaaGreatDoor
namespace Go.Proofs.YtlmjilpjmgjjcaaGreatDoor
open Go.RowKit
set_option linter.unusedSimpArgs false
set_option linter.unusedVariables false
structure GC where
 sym:Sym
 behind:Nat
 leader:Nat
 size:Int
def gcV (c:GC):List Value:=[.string ⟨c.sym.name.toArray⟩,.int .i64 c.sym.num,.int .i64 c.sym.args,.int .i64 c.behind,.int .i64 c.leader,.int .i64 c.size]
def gcs (l:List GC):List Value:=l.flatMap gcV
theorem gcs_at {l:List GC} {i:Nat} {c:GC} (h:l[i]?=some c) (j:Nat) (hj:j<6):(gcs l)[i * 6+j]?=(gcV c)[j]?:=by
 induction l generalizing i with
 | nil=>simp at h
 | cons a l ih =>
  have hl:(gcV a).length=6:=rfl
  cases i with
  | zero =>
   simp at h; subst h
   show (gcV a++gcs l)[_]?=_
   rw [List.getElem?_append_left (by omega)]
   simp
  | succ i =>
   show (gcV a++gcs l)[_]?=_
   rw [List.getElem?_append_right (by omega),← ih (by simpa using h),hl]
   congr 1; omega
theorem gcs_snoc (l:List GC) (c:GC):gcs (l++[c])=gcs l++gcV c:=by simp [gcs]
theorem gcs_modify {l:List GC} {x:Nat} {c:GC} {f:GC→GC} {j:Nat} {u:Value} (h:l[x]?=some c) (hj:j<6) (hf:gcV (f c)=(gcV c).set j u):gcs (l.modify x f)=(gcs l).set (x * 6+j) u:=by
 induction l generalizing x with
 | nil=>simp at h
 | cons a l ih =>
  have hl:(gcV a).length=6:=rfl
  cases x with
  | zero =>
   simp at h; subst h
   show gcV (f a)++gcs l=(gcV a++gcs l).set _ _
   rw [List.set_append_left _ _ (by omega),hf]
   simp
  | succ x =>
   show gcV a++gcs (l.modify x f)=(gcV a++gcs l).set _ _
   rw [List.set_append_right _ _ (by omega),ih (by simpa using h),hl]
   congr 2; omega
structure GAt (w:World) (gb:Nat) (v:Value) (gs:List GC):Prop where
 box:w.heap[gb]?=some (.cells #[v] 266 (0,0))
 owns:w.ownsRow 0 292 6 v gs.length (gcs gs)
theorem owns_put {w:World} {B:Nat} {e:TypeId} {size n g cap:Nat} {xs:List Value} (h:w.ownsRow B e size (.slice (some ⟨g,0,none⟩) n cap) n xs) (i:Nat) (u:Value):(w.setCell ⟨g,i,none⟩ u).ownsRow B e size (.slice (some ⟨g,0,none⟩) n cap) n (xs.set i u):=by
 refine ⟨by simpa using h.1,?_⟩
 rcases h.2 with ⟨h1,_⟩ | ⟨g',cap',cur,h1,hb,hg,hn,hc,hs,ht⟩
 ·simp at h1
 ·simp at h1
  obtain ⟨rfl,rfl⟩:=h1
  refine .inr ⟨g,cap,cur.setIfInBounds i u,rfl,hb,block_set hg _ _,hn,hc,by simpa using hs,?_⟩
  rw [← ht]
  simp [List.take_set]
theorem GAt.shape {w:World} {gb:Nat} {v:Value} {gs:List GC} (h:GAt w gb v gs) (hi:0<gs.length):∃ cb cap,v = .slice (some ⟨cb,0,none⟩) gs.length cap∧cb<w.heap.size∧gs.length≤cap∧cb≠gb∧(∀ j,w.frozen? ⟨cb,j,none⟩=false):=by
 obtain ⟨g,cap,cur,rfl,hB,hb,hc⟩:=owns_some h.owns hi
 refine ⟨g,cap,rfl,lt_of_block hb,hc,fun e => ?_,fun j=>thawed_of_block hb j⟩
 subst e
 rw [h.box] at hb
 simp at hb
theorem GAt.cell {w:World} {gb cb cap:Nat} {gs:List GC} (h:GAt w gb (.slice (some ⟨cb,0,none⟩) gs.length cap) gs) {i:Nat} {c:GC} (hc:gs[i]?=some c) :
  w.cell? ⟨cb,i * 6,none⟩=some (.string ⟨c.sym.name.toArray⟩)∧w.cell? ⟨cb,i * 6+1,none⟩=some (.int .i64 c.sym.num)∧w.cell? ⟨cb,i * 6+2,none⟩=some (.int .i64 c.sym.args)∧w.cell? ⟨cb,i * 6+3,none⟩=some (.int .i64 c.behind)∧w.cell? ⟨cb,i * 6+4,none⟩=some (.int .i64 c.leader)∧w.cell? ⟨cb,i * 6+5,none⟩=some (.int .i64 c.size):=by
 have e:=fun j hj=>gcs_at hc j hj
 refine ⟨owns_cell h.owns _ _ ?_,owns_cell h.owns _ _ (by rw [e 1 (by omega)]; rfl),owns_cell h.owns _ _ (by rw [e 2 (by omega)]; rfl),owns_cell h.owns _ _ (by rw [e 3 (by omega)]; rfl),owns_cell h.owns _ _ (by rw [e 4 (by omega)]; rfl),owns_cell h.owns _ _ (by rw [e 5 (by omega)]; rfl)⟩
 have:=e 0 (by omega)
 simp only [Nat.add_zero] at this
 rw [this]; rfl
theorem GAt.on {w w':World} {gb:Nat} {v:Value} {gs:List GC} (h:GAt w gb v gs) (hk:∀ k,k<w.heap.size→w'.heap[k]?=w.heap[k]?):GAt w' gb v gs :=
 ⟨(hk gb (lt_of_block h.box)).trans h.box,owns_same h.owns (fun k e=>hk k (h.owns.lt k e).2)⟩
theorem GAt.ext {w w':World} {gb:Nat} {v:Value} {gs:List GC} (h:GAt w gb v gs) (e:Ext w w'):GAt w' gb v gs:=h.on (fun k hk=>e.block k hk)
theorem GAt.put {w:World} {gb cb cap:Nat} {gs:List GC} (h:GAt w gb (.slice (some ⟨cb,0,none⟩) gs.length cap) gs) {x:Nat} {c:GC} (hc:gs[x]?=some c) {f:GC→GC} {j:Nat} {u:Value} (hj:j<6) (hf:gcV (f c)=(gcV c).set j u) :
  GAt (w.setCell ⟨cb,x * 6+j,none⟩ u) gb (.slice (some ⟨cb,0,none⟩) gs.length cap) (gs.modify x f):=by
 have hne:cb≠gb:=by
  obtain ⟨cb',cap',e,_,_,hne,_⟩:=h.shape (by have:=(List.getElem?_eq_some_iff.1 hc).1; omega)
  simp at e
  rw [e.1]; exact hne
 refine ⟨(Below.heap_setCell _ _ _ _ (fun e=>hne e.symm)).trans h.box,?_⟩
 rw [gcs_modify hc hj hf,List.length_modify]
 exact owns_put h.owns _ _
def GC.up (c:GC):CellS:=⟨c.sym,[],c.leader⟩
def leadG (gs:List GC) (x y:Nat):List GC:=gs.modify x (fun c => { c with leader:=y })
theorem leadG_up (gs:List GC) (x y:Nat):(leadG gs x y).map GC.up=turn (gs.map GC.up) x y:=by
 apply List.ext_getElem?
 intro i
 rw [turn_at,List.getElem?_map,leadG,List.getElem?_modify,List.getElem?_map]
 cases gs[i]? with
 | none=>rfl
 | some c=>simp; split <;> simp_all [GC.up]
theorem leadG_len (gs:List GC) (x y:Nat):(leadG gs x y).length=gs.length:=by simp [leadG]
structure CellsOf (gs:List GC) (l:List Sym):Prop where
 len:gs.length=l.length
 all:∀ i c,gs[i]?=some c→c.sym=symAt l i∧c.behind=behindL l i
theorem CellsOf.lead {gs:List GC} {l:List Sym} (h:CellsOf gs l) (x y:Nat):CellsOf (leadG gs x y) l :=
 ⟨by rw [leadG_len]; exact h.len,fun i c hc=>by
  rw [leadG,List.getElem?_modify] at hc
  cases hd:gs[i]? with
  | none=>rw [hd] at hc; simp at hc
  | some d =>
   rw [hd] at hc
   obtain ⟨h1,h2⟩:=h.all i d hd
   simp only [Option.map_eq_map,Option.map_some,Option.some.injEq] at hc
   subst hc
   split <;> exact ⟨h1,h2⟩⟩
set_option maxRecDepth 10000 in
set_option maxHeartbeats 1000000 in
theorem leaderOf_any (w:World) (gb:Nat) (v:Value) (gs:List GC) (ρ rk:Nat→Nat) (i:Nat) (h:GAt w gb v gs) (hu:UpOk (gs.map GC.up) ρ rk) (hi:i<gs.length) (hl:gs.length≤4000) :
  Calls Tryz.prog 189 #[.pointer (some ⟨gb,0,none⟩),.int .i64 i] w fun e w'=>e = .returned (.int .i64 (ρ i))∧w'=w:=by
 obtain ⟨cb,cap,rfl,hcb,hcap,_,_⟩:=h.shape (by omega)
 have b0:w.cell? ⟨gb,0,none⟩=some (.slice (some ⟨cb,0,none⟩) gs.length cap):=cell_of_block h.box 0 _ rfl
 have hgb:=lt_of_block h.box
 have H:=hide' h
 have Hu:=hide' hu
 clear h hu
 go_enter Tryz.func189,Tryz.ntmps189
 go_wp2
 go_loopg [1] (rk i+1) (fun gk iv wr=>∃ (k:Nat),iv = .int .i64 k∧k<gs.length∧rk k<gk∧ρ k=ρ i∧wr=w)
 case atStart=>exact ⟨i,rfl,hi,by omega,rfl,rfl⟩
 case round =>
  obtain ⟨k,rfl,hk,hg,hρ,rfl⟩:=hrel
  obtain ⟨c,hc⟩:∃ c,gs[k]?=some c:=⟨_,List.getElem?_eq_getElem hk⟩
  obtain ⟨c0,c1,c2,c3,c4,c5⟩:=H.out.cell hc
  obtain ⟨h1,h2,h3,h4⟩:=Hu.out k c.up (by rw [List.getElem?_map,hc]; rfl)
  have h1:c.leader<gs.length:=by simpa [GC.up] using h1
  have h2:ρ c.leader=ρ k:=h2
  by_cases e:c.leader=k
  ·have e':((c.leader:Int) != (k:Int))=false:=by rw [e]; simp
   have Hr:=hide' (h3 e)
   have Hρ:=hide' hρ
   clear hc h2 h3 h4 hρ
   go_wp2
   go_ret
   exact ⟨by rw [← Hρ.out,Hr.out]; rfl,rfl⟩
  ·have e':((c.leader:Int) != (k:Int))=true:=by rw [bne_iff_ne]; omega
   have Hr:=hide' (h2.trans hρ)
   have h4':=h4 e
   clear hc h2 h3 h4 hρ
   go_wp2
   go_roundg (rk k)
   case measure=>omega
   case rel=>exact ⟨c.leader,rfl,h1,h4',Hr.out,rfl⟩
set_option maxRecDepth 10000 in
set_option maxHeartbeats 1000000 in
theorem isVariable_any (w:World) (gb:Nat) (v:Value) (gs:List GC) (i:Nat) (c:GC) (h:GAt w gb v gs) (hc:gs[i]?=some c) (hl:gs.length≤4000) :
  Calls Tryz.prog 190 #[.pointer (some ⟨gb,0,none⟩),.int .i64 i] w fun e w'=>e = .returned (.bool c.sym.name.isEmpty)∧w'=w:=by
 have hi:=(List.getElem?_eq_some_iff.1 hc).1
 obtain ⟨cb,cap,rfl,hcb,hcap,_,_⟩:=h.shape (by omega)
 have b0:w.cell? ⟨gb,0,none⟩=some (.slice (some ⟨cb,0,none⟩) gs.length cap):=cell_of_block h.box 0 _ rfl
 have hgb:=lt_of_block h.box
 obtain ⟨c0,c1,c2,c3,c4,c5⟩:=h.cell hc
 clear h hc
 go_enter Tryz.func190,Tryz.ntmps190
 go_wp2
 go_ret
 exact ⟨by simp,rfl⟩
def sameVar (s t:Sym):Bool:=s.name.isEmpty && (t.name.isEmpty && s.num == t.num)
set_option maxRecDepth 10000 in
set_option maxHeartbeats 1000000 in
theorem isSame_any (w:World) (s t:Sym) :
  Calls Tryz.prog 207 #[.agg #[.string ⟨s.name.toArray⟩,.int .i64 s.num,.int .i64 s.args],.agg #[.string ⟨t.name.toArray⟩,.int .i64 t.num,.int .i64 t.args]] w fun e w'=>e = .returned (.bool (sameVar s t))∧Ext w w':=by
 have Hs:Hid (∀ a b c,a=s.name.isEmpty→b=t.name.isEmpty→c=(s.num == t.num)→sameVar s t=(a && (b && c))):=fun a b c h1 h2 h3=>by rw [h1,h2,h3]; rfl
 cases h1:s.name.isEmpty with
 | false =>
  go_enter Tryz.func207,Tryz.ntmps207
  go_wp2
  go_ret
  refine ⟨?_,(Ext.of (by repeat' (first | with_reducible exact Kept.refl _ _ | with_reducible apply Kept.drew | with_reducible apply Kept.drewN | with_reducible apply Kept.alloc | with_reducible refine Kept.setCell ?_ ?_ _ | exact fun h=>absurd h (by simp <;> omega))))⟩
  rw [Hs.out false _ _ h1.symm rfl rfl]; rfl
 | true =>
  cases h2:t.name.isEmpty with
  | false =>
   go_enter Tryz.func207,Tryz.ntmps207
   go_wp2
   go_ret
   refine ⟨?_,(Ext.of (by repeat' (first | with_reducible exact Kept.refl _ _ | with_reducible apply Kept.drew | with_reducible apply Kept.drewN | with_reducible apply Kept.alloc | with_reducible refine Kept.setCell ?_ ?_ _ | exact fun h=>absurd h (by simp <;> omega))))⟩
   rw [Hs.out true false _ h1.symm h2.symm rfl]; rfl
  | true =>
   have Hn:Hid (((s.num:Int) == (t.num:Int))=(s.num == t.num)):=by
    show _=_
    rw [Bool.eq_iff_iff,beq_iff_eq,beq_iff_eq]; omega
   go_enter Tryz.func207,Tryz.ntmps207
   go_wp2
   go_ret
   refine ⟨?_,(Ext.of (by repeat' (first | with_reducible exact Kept.refl _ _ | with_reducible apply Kept.drew | with_reducible apply Kept.drewN | with_reducible apply Kept.alloc | with_reducible refine Kept.setCell ?_ ?_ _ | exact fun h=>absurd h (by simp <;> omega))))⟩
   rw [Hs.out true true _ h1.symm h2.symm rfl,← Hn.out]; rfl
theorem Joined.swap {G:Gr} {ρ ρ':Nat→Nat} {xs ys:List Nat} (h:Joined G ρ ρ' xs ys):Joined G ρ ρ' ys xs:=⟨h.rt,h.grow,h.eq.symm,h.cg,fun val hv hc e=>h.con val hv hc e.symm⟩
theorem Clash.swap {G:Gr} {ρ:Nat→Nat} {xs ys:List Nat} (h:Clash G ρ xs ys):Clash G ρ ys xs:=fun val hv hc e=>h val hv hc e.symm
theorem lay_of' {l:List Sym} (hw:Wf 2 l):∃ a b,l=a++b∧Wf 1 a∧Wf 1 b∧Lay (grOf l) (tmAt l) a b:=by
  obtain ⟨a,b,e,ha,hb⟩:=wf_split (j:=1) (k:=1) hw
  exact ⟨a,b,e,ha,hb,by rw [e]; exact lay_of ha hb⟩
theorem gr_ok {l:List Sym} (hw:Wf 2 l):(grOf l).Ok:=by
  obtain ⟨a,b,_,_,_,h⟩:=lay_of' hw
  exact h.ok
structure JoinLeft (gb:Nat) (v:Value) (gs:List GC) (l:List Sym) (w w':World) (gs':List GC):Prop where
  at':GAt w' gb v gs'
  cells:CellsOf gs' l
  sizes:gs'.map (·.size)=gs.map (·.size)
  kept:Kept (ownOf v) w w'
  roots:rootsOf (gs'.map GC.up)≤rootsOf (gs.map GC.up)
def JoinOut (gb:Nat) (v:Value) (gs:List GC) (l:List Sym) (ρ:Nat→Nat) (a b:Nat) (w:World) (e:Ending) (w':World):Prop:=∃ gs',JoinLeft gb v gs l w w' gs'∧∃ ρ' rk',UpOk (gs'.map GC.up) ρ' rk' ∧
  ((e = .returned (.bool true)∧Joined (grOf l) ρ ρ' [a] [b])∨(e = .returned (.bool false)∧Clash (grOf l) ρ [a] [b]))
def JoinSaid (m:Nat):Prop:=∀ (w:World) (gb:Nat) (v:Value) (gs:List GC) (l:List Sym) (ρ rk:Nat→Nat) (a b:Nat),GAt w gb v gs→CellsOf gs l→Wf 2 l→UpOk (gs.map GC.up) ρ rk→rootsOf (gs.map GC.up)≤m→a<gs.length→b<gs.length→gs.length≤4000 →
  Calls Tryz.prog 158 #[.pointer (some ⟨gb,0,none⟩),.int .i64 a,.int .i64 b] w fun e w'=>JoinOut gb v gs l ρ a b w e w'
abbrev kidsAt (l:List Sym) (x:Nat):List Nat:=(grOf l).kids x
def InsideOut (gb:Nat) (v:Value) (gs:List GC) (l:List Sym) (ρ:Nat→Nat) (x y:Nat) (w:World) (e:Ending) (w':World):Prop:=∃ gs',JoinLeft gb v gs l w w' gs'∧∃ ρ' rk',UpOk (gs'.map GC.up) ρ' rk' ∧
    ((e = .returned (.bool true)∧(symAt l x).name=(symAt l y).name∧(symAt l x).args=(symAt l y).args∧Joined (grOf l) ρ ρ' (kidsAt l x) (kidsAt l y)) ∨
     (e = .returned (.bool false)∧((symAt l x).name≠(symAt l y).name∨(symAt l x).args≠(symAt l y).args∨Clash (grOf l) ρ (kidsAt l x) (kidsAt l y))))
def InsideSaid (m:Nat):Prop:=∀ (w:World) (gb:Nat) (v:Value) (gs:List GC) (l:List Sym) (ρ rk:Nat→Nat) (x y:Nat),GAt w gb v gs→CellsOf gs l→Wf 2 l→UpOk (gs.map GC.up) ρ rk→rootsOf (gs.map GC.up)≤m→x<gs.length→y<gs.length→gs.length≤4000 →
  Calls Tryz.prog 191 #[.pointer (some ⟨gb,0,none⟩),.int .i64 x,.int .i64 y] w fun e w'=>InsideOut gb v gs l ρ x y w e w'
theorem JoinLeft.trans {gb:Nat} {v:Value} {gs gs1 gs2:List GC} {l:List Sym} {w w1 w2:World} (h:JoinLeft gb v gs l w w1 gs1) (k:JoinLeft gb v gs1 l w1 w2 gs2):JoinLeft gb v gs l w w2 gs2 :=
  ⟨k.at',k.cells,k.sizes.trans h.sizes,h.kept.trans k.kept,Nat.le_trans k.roots h.roots⟩
theorem JoinLeft.len {gb:Nat} {v:Value} {gs:List GC} {l:List Sym} {w w':World} {gs':List GC} (h:JoinLeft gb v gs l w w' gs'):gs'.length=gs.length:=by simpa using congrArg List.length h.sizes
theorem kids_take {l:List Sym} {x k m:Nat} (h:k≤m):(kidsFrom l x m).take k=kidsFrom l x k:=by
  induction m generalizing x k with
  | zero =>
    have:k=0:=by omega
    subst this; rfl
  | succ m ih =>
    cases k with
    | zero=>rfl
    | succ k=>simp only [kidsFrom,List.take_succ_cons]; rw [ih (by omega)]
theorem kids_next (l:List Sym) (x k:Nat):kidsFrom l x (k+1)=kidsFrom l x k++[behindN l x k]:=by
  induction k generalizing x with
  | zero=>rfl
  | succ k ih =>
    have e:kidsFrom l x (k+1+1)=x::kidsFrom l (behindL l x) (k+1):=rfl
    rw [e,ih]
    rfl
theorem take_drop_next' {l:List Nat} {k n:Nat} (h:l[k]?=some n):l=l.take k++n::l.drop (k+1):=by
  obtain ⟨hk,e⟩:=List.getElem?_eq_some_iff.1 h
  have:=List.drop_eq_getElem_cons hk
  rw [e] at this
  rw [← this,List.take_append_drop]
theorem kids_split {l:List Sym} {x k m:Nat} (h:k<m):kidsFrom l x m=kidsFrom l x k++behindN l x k::(kidsFrom l x m).drop (k+1):=by
  have h2:=kidsFrom_at l x m k h
  have:=take_drop_next' h2
  rw [kids_take (by omega)] at this
  exact this
set_option maxRecDepth 10000 in
set_option maxHeartbeats 4000000 in
theorem inside_step (m:Nat) (IH:JoinSaid m):InsideSaid m:=by
  intro w gb v gs l ρ rk x y h hc hw hu hm hx hy hl
  obtain ⟨cx,hcx⟩:∃ c,gs[x]?=some c:=⟨_,List.getElem?_eq_getElem hx⟩
  obtain ⟨cy,hcy⟩:∃ c,gs[y]?=some c:=⟨_,List.getElem?_eq_getElem hy⟩
  obtain ⟨cb,cap,rfl,hcb,hcap,hne,hfz⟩:=h.shape (by omega)
  have b0:w.cell? ⟨gb,0,none⟩=some (.slice (some ⟨cb,0,none⟩) gs.length cap):=cell_of_block h.box 0 _ rfl
  have hgb:=lt_of_block h.box
  obtain ⟨x0,x1,x2,_,_,_⟩:=h.cell hcx
  obtain ⟨y0,y1,y2,_,_,_⟩:=h.cell hcy
  obtain ⟨sx,_⟩:=hc.all x cx hcx
  obtain ⟨sy,_⟩:=hc.all y cy hcy
  have hlen:=hc.len
  obtain ⟨ex1,ex2,ex3⟩:=cell_at hw (i:=x) (by omega)
  obtain ⟨ey1,ey2,ey3⟩:=cell_at hw (i:=y) (by omega)
  obtain ⟨_,_,_,_,_,hbx,_⟩:=term_at hw (i:=x) (by omega)
  obtain ⟨_,_,_,_,_,hby,_⟩:=term_at hw (i:=y) (by omega)
  have hkl:∀ k,k<(symAt l x).args→behindN l (x+1) k<gs.length:=fun k hk=>by
    have:=ex2 _ (List.mem_of_getElem? (kidsFrom_at l (x+1) _ k hk))
    omega
  have hkr:∀ k,k<(symAt l y).args→behindN l (y+1) k<gs.length:=fun k hk=>by
    have:=ey2 _ (List.mem_of_getElem? (kidsFrom_at l (y+1) _ k hk))
    omega
  have hargs:(symAt l x).args≤4000:=by
    have h1:=congrArg List.length ex1
    have h2:=kidsFrom_length l (x+1) (symAt l x).args
    rcases Nat.lt_or_ge 4000 (symAt l x).args with h3 | h3
    · exfalso
      have h4:=hkl 4000 h3
      have mono:∀ k,k≤(symAt l x).args→x+1+k≤behindN l (x+1) k:=by
        intro k
        induction k with
        | zero=>intro _; simp [behindN]
        | succ k ih =>
          intro hk
          have:=ih (by omega)
          rw [behindN_snoc]
          have:=hkl k (by omega)
          obtain ⟨_,_,_,_,h6,_⟩:=term_at hw (i:=behindN l (x+1) k) (by omega)
          omega
      have:=mono 4000 (by omega)
      omega
    · exact h3
  rw [sx] at x0 x1 x2
  rw [sy] at y0 y1 y2
  obtain ⟨s,hs⟩:∃ s,s=symAt l x:=⟨_,rfl⟩
  obtain ⟨t,ht⟩:∃ t,t=symAt l y:=⟨_,rfl⟩
  rw [← hs] at x0 x1 x2 hkl hargs
  rw [← ht] at y0 y1 y2 hkr
  have Hs:=hide' hs
  have Ht:=hide' ht
  have H:=hide' h
  have Hc:=hide' hc
  have Hw:=hide' hw
  have Hu:=hide' hu
  have Hm:=hide' hm
  have Hih:=hide' IH
  have Hkl:=hide' hkl
  have Hkr:=hide' hkr
  have Hkx:Hid (kidsAt l x=kidsFrom l (x+1) s.args):=by show _=_; rw [hs]; rfl
  have Hky:Hid (kidsAt l y=kidsFrom l (y+1) t.args):=by show _=_; rw [ht]; rfl
  have hxl:x<l.length:=by omega
  have hyl:y<l.length:=by omega
  clear h hc hw hu hm IH hkl hkr hcx hcy sx sy ex1 ex2 ex3 ey1 ey2 ey3 hbx hby hlen hs ht
  have Hno:Hid (∀ w',Kept noBlock w w'→(s.name≠t.name∨s.args≠t.args)→InsideOut gb (.slice (some ⟨cb,0,none⟩) gs.length cap) gs l ρ x y w (.returned (.bool false)) w'):=fun w' hk hd=>by
    refine ⟨gs,⟨H.out.on (fun k hk'=>hk.block k hk' (fun h=>h)),Hc.out,rfl,hk.mono (fun _ _ h=>h.elim),Nat.le_refl _⟩,ρ,rk,Hu.out,Or.inr ⟨rfl,?_⟩⟩
    rw [← Hs.out,← Ht.out]
    rcases hd with hd | hd
    · exact Or.inl hd
    · exact Or.inr (Or.inl hd)
  by_cases hnm:s.name=t.name
  · by_cases har:s.args=t.args
    · have hnb:(s.name != t.name)=false:=by rw [hnm]; simp
      have hab:((s.args:Int) != (t.args:Int))=false:=by rw [har]; simp
      have Hnm:=hide' hnm
      have Har:=hide' har
      clear hnm har
      go_enter Tryz.func191,Tryz.ntmps191
      go_wp2
      go_loopg [9,10,11] (s.args+1) (fun gk av bv nv wr=>∃ (k:Nat) (gs':List GC) (ρ' rk':Nat→Nat),av = .int .i64 (behindN l (x+1) k:Nat)∧bv = .int .i64 (behindN l (y+1) k:Nat)∧nv = .int .i64 k∧k≤s.args∧s.args - k<gk∧JoinLeft gb (.slice (some ⟨cb,0,none⟩) gs.length cap) gs l w wr gs'∧UpOk (gs'.map GC.up) ρ' rk' ∧
        Joined (grOf l) ρ ρ' (kidsFrom l (x+1) k) (kidsFrom l (y+1) k)∧wr.heap[w.heap.size]?=some (.cells #[.string ⟨t.name.toArray⟩,.int .i64 s.num,.int .i64 s.args] 133 (0,0)))
      case atStart =>
        have hrt:=Hu.out.rt
        rw [List.length_map,Hc.out.len] at hrt
        refine ⟨0,gs,ρ,rk,by simp [behindN],by simp [behindN],by go_num,Nat.zero_le _,by omega,⟨H.out.ext (Ext.of (by repeat' (first | with_reducible exact Kept.refl _ _ | with_reducible apply Kept.drew | with_reducible apply Kept.drewN | with_reducible apply Kept.alloc | with_reducible refine Kept.setCell ?_ ?_ _ | exact fun h=>absurd h (by simp <;> omega)))),Hc.out,rfl,((Kept.refl _ w).alloc _).alloc _,Nat.le_refl _⟩,Hu.out,Joined.nil hrt,?_⟩
        have:=block_alloc (heap_alloc_new w (.cells #[.string ⟨t.name.toArray⟩,.int .i64 s.num,.int .i64 s.args] 133)) (.cells #[.string ⟨t.name.toArray⟩,.int .i64 t.num,.int .i64 t.args] 133)
        simpa using this
      case round =>
        obtain ⟨k,gs',ρ',rk',rfl,rfl,rfl,hk,hgk,hJ,hup,hj,hbox⟩:=hrel
        obtain ⟨s0,s1,s2,sf⟩:=box3 hbox
        have hsr:=hJ.kept.size
        have hl':=hJ.len
        have b0:wr.cell? ⟨gb,0,none⟩=some (.slice (some ⟨cb,0,none⟩) gs.length cap):=cell_of_block hJ.at'.box 0 _ rfl
        have hgb':=lt_of_block hJ.at'.box
        have hwb:=lt_of_block hbox
        have HJ:=hide' hJ
        have Hup:=hide' hup
        have Hj:=hide' hj
        have Hbox:=hide' hbox
        clear hJ hup hj hbox
        by_cases hlt:k<s.args
        · have ha:=Hkl.out k hlt
          have hb:=Hkr.out k (by have:=Har.out; omega)
          obtain ⟨ak,hak⟩:∃ a,a=behindN l (x+1) k:=⟨_,rfl⟩
          obtain ⟨bk,hbk⟩:∃ b,b=behindN l (y+1) k:=⟨_,rfl⟩
          rw [← hak] at ha ⊢
          rw [← hbk] at hb ⊢
          have hna:¬ ((gs.length:Int)≤(ak:Int)):=by omega
          have hnb2:¬ ((gs.length:Int)≤(bk:Int)):=by omega
          have HI:=hide' (Hih.out wr gb (.slice (some ⟨cb,0,none⟩) gs.length cap) gs' l ρ' rk' ak bk HJ.out.at' HJ.out.cells Hw.out Hup.out (Nat.le_trans HJ.out.roots Hm.out) (by omega) (by omega) (by omega))
          have Hak:=hide' hak
          have Hbk:=hide' hbk
          clear hak hbk
          go_wp2_with fail
          refine HI.out.mono ?_
          rintro e w1 ⟨gs2,hJ2,ρ2,rk2,hup2,hres⟩
          have hl2:=hJ2.len
          have hbox2:=(hJ2.kept.block _ hwb (fun e=>by
            have e:cb=w.heap.size:=by simpa [ownOf,Value.ownBlock] using e
            omega)).trans Hbox.out
          have b0:w1.cell? ⟨gb,0,none⟩=some (.slice (some ⟨cb,0,none⟩) gs.length cap):=cell_of_block hJ2.at'.box 0 _ rfl
          have hgb2:=lt_of_block hJ2.at'.box
          have hs2:=hJ2.kept.size
          obtain ⟨ca,hca⟩:∃ c,gs2[ak]?=some c:=⟨_,List.getElem?_eq_getElem (by omega)⟩
          obtain ⟨cb2,hcb2⟩:∃ c,gs2[bk]?=some c:=⟨_,List.getElem?_eq_getElem (by omega)⟩
          have hat2:GAt w1 gb (.slice (some ⟨cb,0,none⟩) gs2.length cap) gs2:=by rw [hl2,hl']; exact hJ2.at'
          obtain ⟨_,_,_,a3,_,_⟩:=hat2.cell hca
          obtain ⟨_,_,_,b3,_,_⟩:=hat2.cell hcb2
          rw [(hJ2.cells.all _ _ hca).2] at a3
          rw [(hJ2.cells.all _ _ hcb2).2] at b3
          have HJ2:=hide' hJ2
          have Hup2:=hide' hup2
          have Hbox2:=hide' hbox2
          clear hJ2 hup2 hbox2 hat2 hca hcb2
          rcases hres with ⟨rfl,hj2⟩ | ⟨rfl,hcl⟩
          · have Hj2:=hide' hj2
            clear hj2
            go_wp2
            go_roundg (s.args - k)
            case measure=>omega
            case rel =>
              refine ⟨k+1,gs2,ρ2,rk2,by rw [behindN_snoc,← Hak.out],by rw [behindN_snoc,← Hbk.out],by go_num,by omega,by omega,HJ.out.trans HJ2.out,Hup2.out,?_,Hbox2.out⟩
              rw [kids_next,kids_next,← Hak.out,← Hbk.out]
              have hG:=gr_ok Hw.out
              refine Joined.snoc hG Hj.out Hj2.out (fun j hj => ?_) (fun j hj => ?_)
              · obtain ⟨i,hi⟩:=List.mem_iff_getElem?.1 hj
                have hi2:=(List.getElem?_eq_some_iff.1 hi).1
                rw [kidsFrom_length] at hi2
                rw [kidsFrom_at l (x+1) k i hi2] at hi
                simp at hi
                subst hi
                have:=Hkl.out i (by omega)
                show _<l.length
                have:=Hc.out.len; omega
              · obtain ⟨i,hi⟩:=List.mem_iff_getElem?.1 hj
                have hi2:=(List.getElem?_eq_some_iff.1 hi).1
                rw [kidsFrom_length] at hi2
                rw [kidsFrom_at l (y+1) k i hi2] at hi
                simp at hi
                subst hi
                have:=Hkr.out i (by have:=Har.out; omega)
                show _<l.length
                have:=Hc.out.len; omega
          · have Hcl:=hide' hcl
            clear hcl
            go_wp2
            go_ret
            refine ⟨gs2,HJ.out.trans HJ2.out,ρ2,rk2,Hup2.out,Or.inr ⟨rfl,Or.inr (Or.inr ?_)⟩⟩
            have hc1:=Hcl.out
            rw [Hak.out,Hbk.out] at hc1
            have:=Clash.snoc Hj.out hc1 ((kidsFrom l (x+1) s.args).drop (k+1)) ((kidsFrom l (y+1) t.args).drop (k+1))
            rw [← kids_split hlt,← kids_split (by have:=Har.out; omega)] at this
            rw [Hkx.out,Hky.out]; exact this
        · have hek:k=s.args:=by omega
          subst hek
          go_wp2
          go_ret
          refine ⟨gs',HJ.out,ρ',rk',Hup.out,Or.inl ⟨rfl,?_,?_,?_⟩⟩
          · rw [← Hs.out,← Ht.out]; exact Hnm.out
          · rw [← Hs.out,← Ht.out]; exact Har.out
          · rw [Hkx.out,Hky.out,← Har.out]; exact Hj.out
    · have hnb:(s.name != t.name)=false:=by rw [hnm]; simp
      have hab:((s.args:Int) != (t.args:Int))=true:=by rw [bne_iff_ne]; omega
      have Hd:=hide' har
      clear hnm har
      go_enter Tryz.func191,Tryz.ntmps191
      go_wp2
      all_goals
        go_ret
        exact Hno.out _ (((Kept.refl _ w).alloc _).alloc _) (Or.inr Hd.out)
  · have hnb:(s.name == t.name)=false:=by simpa using hnm
    have Hd:=hide' hnm
    clear hnm
    go_enter Tryz.func191,Tryz.ntmps191
    go_wp2
    all_goals
      go_ret
      exact Hno.out _ (((Kept.refl _ w).alloc _).alloc _) (Or.inl Hd.out)
set_option maxRecDepth 10000 in
set_option maxHeartbeats 4000000 in
theorem join_step (m:Nat) (IH:∀ k,k<m→InsideSaid k):JoinSaid m:=by
  intro w gb v gs l ρ rk a b h hc hw hu hm ha hb hl
  have hrt:=hu.rt
  rw [List.length_map] at hrt
  have hx:=hrt.lt a ha
  have hy:=hrt.lt b hb
  have rx:=hrt.idem a ha
  have ry:=hrt.idem b hb
  obtain ⟨x,hxe⟩:∃ x,x=ρ a:=⟨_,rfl⟩
  obtain ⟨y,hye⟩:∃ y,y=ρ b:=⟨_,rfl⟩
  rw [← hxe] at hx rx
  rw [← hye] at hy ry
  obtain ⟨cx,hcx⟩:∃ c,gs[x]?=some c:=⟨_,List.getElem?_eq_getElem hx⟩
  obtain ⟨cy,hcy⟩:∃ c,gs[y]?=some c:=⟨_,List.getElem?_eq_getElem hy⟩
  obtain ⟨cb,cap,rfl,hcb,hcap,hne,hfz⟩:=h.shape (by omega)
  have b0:w.cell? ⟨gb,0,none⟩=some (.slice (some ⟨cb,0,none⟩) gs.length cap):=cell_of_block h.box 0 _ rfl
  have hgb:=lt_of_block h.box
  have x4:=(h.cell hcx).2.2.2.2.1
  have y4:=(h.cell hcy).2.2.2.2.1
  obtain ⟨sx,_⟩:=hc.all x cx hcx
  obtain ⟨sy,_⟩:=hc.all y cy hcy
  have hlen:=hc.len
  rw [hlen] at hrt
  have hG:=gr_ok hw
  have Hra:=hide' (leaderOf_any w gb _ gs ρ rk a h hu ha hl)
  have Hrb:=hide' (leaderOf_any w gb _ gs ρ rk b h hu hb hl)
  rw [← hxe] at Hra
  rw [← hye] at Hrb
  have HVx:=hide' (isVariable_any w gb _ gs x cx h hcx hl)
  have hax:a<(grOf l).n:=by show a<l.length; omega
  have hbx:b<(grOf l).n:=by show b<l.length; omega
  have hul:∀ x y,x<gs.length→y<gs.length→ρ x=x→ρ y=y→x≠y→UpOk ((leadG gs x y).map GC.up) (mg ρ x y) (fun i=>if ρ i=x then rk i+rk y+1 else rk i):=fun x y h1 h2 h3 h4 h5=>by
    rw [leadG_up]
    exact hu.turn (by simpa using h1) (by simpa using h2) h3 h4 h5
  have hro:∀ x y,x<gs.length→ρ x=x→x≠y→rootsOf ((leadG gs x y).map GC.up)<rootsOf (gs.map GC.up):=fun x y h1 h3 h5=>by
    rw [leadG_up]
    obtain ⟨c',e1,e2,_⟩:=hu.root _ x _ (Nat.le_refl _) (List.getElem?_eq_getElem (by simpa using h1))
    rw [h3] at e1 e2
    exact rootsOf_turn e1 e2 h5
  have hla:∀ (x y:Nat) c,gs[x]?=some c→GAt (w.setCell ⟨cb,x * 6+4,none⟩ (.int .i64 y)) gb (.slice (some ⟨cb,0,none⟩) gs.length cap) (leadG gs x y):=fun x y c h1=>h.put h1 (f:=fun c => { c with leader:=y }) (by omega) rfl
  have hsz:∀ x y,(leadG gs x y).map (·.size)=gs.map (·.size):=fun x y=>by
    apply List.ext_getElem?
    intro i
    rw [List.getElem?_map,List.getElem?_map,leadG,List.getElem?_modify]
    cases gs[i]? with
    | none=>rfl
    | some c=>simp; split <;> rfl
  have hkp:∀ i u,Kept (ownOf (.slice (some ⟨cb,0,none⟩) gs.length cap)) w (w.setCell ⟨cb,i,none⟩ u):=fun i u=>(Kept.refl _ w).setCell (p:=⟨cb,i,none⟩) (fun _=>(rfl:some cb=some cb)) u
  have H:=hide' h
  have Hc:=hide' hc
  have Hw:=hide' hw
  have Hu:=hide' hu
  have Hm:=hide' hm
  have Hrt:=hide' hrt
  have HG:=hide' hG
  have Hih:=hide' IH
  have Hxe:=hide' hxe
  have Hye:=hide' hye
  have Hrx:=hide' rx
  have Hry:=hide' ry
  have Hcx:=hide' hcx
  have Hcy:=hide' hcy
  have Hul:=hide' hul
  have Hro:=hide' hro
  have Hla:=hide' hla
  have Hsz:=hide' hsz
  have Hkp:=hide' hkp
  have Hsx:=hide' sx
  have Hsy:=hide' sy
  clear h hc hw hu hm hrt hG IH hxe hye rx ry hcx hcy hul hro hla hsz hkp sx sy
  by_cases hxy:x=y
  · have hxy':((x:Int) == (y:Int))=true:=by rw [beq_iff_eq]; omega
    have Hxy:=hide' hxy
    clear hxy
    go_enter Tryz.func158,Tryz.ntmps158
    go_wp2_with fail
    refine Hra.out.mono ?_
    rintro e w1 ⟨rfl,rfl⟩
    go_wp2_with fail
    refine Hrb.out.mono ?_
    rintro e w1 ⟨rfl,rfl⟩
    go_wp2
    go_ret
    exact ⟨gs,⟨H.out,Hc.out,rfl,Kept.refl _ _,Nat.le_refl _⟩,ρ,rk,Hu.out,Or.inl ⟨rfl,Joined.same Hrt.out (Hxe.out.symm.trans (Hxy.out.trans Hye.out))⟩⟩
  · have hxy':((x:Int) == (y:Int))=false:=by rw [beq_eq_false_iff_ne]; omega
    have Hxy:=hide' hxy
    clear hxy
    by_cases hvx:cx.sym.name=[]
    · have hv:cx.sym.name.isEmpty=true:=by simpa using hvx
      rw [hv] at HVx
      go_enter Tryz.func158,Tryz.ntmps158
      go_wp2_with fail
      refine Hra.out.mono ?_
      rintro e w1 ⟨rfl,rfl⟩
      go_wp2_with fail
      refine Hrb.out.mono ?_
      rintro e w1 ⟨rfl,rfl⟩
      go_wp2_with fail
      refine HVx.out.mono ?_
      rintro e w1 ⟨rfl,rfl⟩
      go_wp2
      go_ret
      exact ⟨leadG gs x y,⟨Hla.out x y cx Hcx.out,Hc.out.lead _ _,Hsz.out _ _,Hkp.out _ _,Nat.le_of_lt (Hro.out x y hx Hrx.out Hxy.out)⟩,_,_,Hul.out x y hx hy Hrx.out Hry.out Hxy.out,
        Or.inl ⟨rfl,Joined.var Hrt.out hax hbx (Or.inl ⟨Hxe.out,Hye.out⟩) Hxy.out (by show (symAt l x).name=[]; rw [← Hsx.out]; exact hvx)⟩⟩
    · have hv:cx.sym.name.isEmpty=false:=by simpa using hvx
      rw [hv] at HVx
      obtain ⟨W1,hW1⟩:∃ W,W=w.setCell ⟨cb,y * 6+4,none⟩ (.int .i64 x):=⟨_,rfl⟩
      have hA1:=Hla.out y x cy Hcy.out
      rw [← hW1] at hA1
      have hyx:y≠x:=fun e=>Hxy.out e.symm
      have hcy1:(leadG gs y x)[y]?=some { cy with leader:=x }:=by
        rw [leadG,List.getElem?_modify,Hcy.out]; simp
      have HVy:=hide' (isVariable_any W1 gb _ (leadG gs y x) y _ hA1 hcy1 (by rw [leadG_len]; exact hl))
      have HK1:Hid (Kept (ownOf (.slice (some ⟨cb,0,none⟩) gs.length cap)) w W1):=by rw [hW1]; exact Hkp.out _ _
      have HA1:=hide' hA1
      have HW1:=hide' hW1
      clear hA1 hW1 hcy1
      by_cases hvy:cy.sym.name=[]
      · have hv2:cy.sym.name.isEmpty=true:=by simpa using hvy
        rw [hv2] at HVy
        go_enter Tryz.func158,Tryz.ntmps158
        go_wp2_with fail
        refine Hra.out.mono ?_
        rintro e w1 ⟨rfl,rfl⟩
        go_wp2_with fail
        refine Hrb.out.mono ?_
        rintro e w1 ⟨rfl,rfl⟩
        go_wp2_with fail
        refine HVx.out.mono ?_
        rintro e w1 ⟨rfl,rfl⟩
        go_wp2_with fail
        rw [← HW1.out]
        refine HVy.out.mono ?_
        rintro e w2 ⟨rfl,rfl⟩
        go_wp2
        go_ret
        exact ⟨leadG gs y x,⟨HA1.out,Hc.out.lead _ _,Hsz.out _ _,HK1.out,Nat.le_of_lt (Hro.out y x hy Hry.out hyx)⟩,_,_,Hul.out y x hy hx Hry.out Hrx.out hyx,
          Or.inl ⟨rfl,Joined.var Hrt.out hax hbx (Or.inr ⟨Hye.out,Hxe.out⟩) hyx (by show (symAt l y).name=[]; rw [← Hsy.out]; exact hvy)⟩⟩
      · have hv2:cy.sym.name.isEmpty=false:=by simpa using hvy
        rw [hv2] at HVy
        have hro1:=Hro.out y x hy Hry.out hyx
        have HI:=hide' (Hih.out (rootsOf ((leadG gs y x).map GC.up)) (by have:=Hm.out; omega) W1 gb (.slice (some ⟨cb,0,none⟩) gs.length cap) (leadG gs y x) l (mg ρ y x) _ x y HA1.out (Hc.out.lead _ _) Hw.out (Hul.out y x hy hx Hry.out Hrx.out hyx) (Nat.le_refl _) (by rw [leadG_len]; exact hx) (by rw [leadG_len]; exact hy) (by rw [leadG_len]; exact hl))
        have Hnx:Hid ((symAt l x).name≠[]):=by show _≠_; rw [← Hsx.out]; exact hvx
        have Hny:Hid ((symAt l y).name≠[]):=by show _≠_; rw [← Hsy.out]; exact hvy
        have Hrl:=hide' hro1
        clear hvx hvy hro1
        go_enter Tryz.func158,Tryz.ntmps158
        go_wp2_with fail
        refine Hra.out.mono ?_
        rintro e w1 ⟨rfl,rfl⟩
        go_wp2_with fail
        refine Hrb.out.mono ?_
        rintro e w1 ⟨rfl,rfl⟩
        go_wp2_with fail
        refine HVx.out.mono ?_
        rintro e w1 ⟨rfl,rfl⟩
        go_wp2_with fail
        rw [← HW1.out]
        refine HVy.out.mono ?_
        rintro e w2 ⟨rfl,rfl⟩
        go_wp2_with fail
        refine HI.out.mono ?_
        rintro e w2 ⟨gs2,hJ2,ρ2,rk2,hup2,hres⟩
        have Hout:Hid (JoinLeft gb (.slice (some ⟨cb,0,none⟩) gs.length cap) gs l w1 w2 gs2):=⟨hJ2.at',hJ2.cells,hJ2.sizes.trans (Hsz.out _ _),HK1.out.trans hJ2.kept,Nat.le_trans hJ2.roots (Nat.le_of_lt Hrl.out)⟩
        have Hup2:=hide' hup2
        clear hJ2 hup2
        rcases hres with ⟨rfl,h1,h2,h3⟩ | ⟨rfl,h1⟩
        · have Hj:Hid (Joined (grOf l) ρ ρ2 [a] [b]):=Joined.name HG.out Hrt.out hax hbx (Or.inr ⟨Hye.out,Hxe.out⟩) hyx Hny.out h1.symm h3.swap
          clear h1 h2 h3
          go_wp2
          go_ret
          exact ⟨gs2,Hout.out,ρ2,rk2,Hup2.out,Or.inl ⟨rfl,Hj.out⟩⟩
        · have Hcl:Hid (Clash (grOf l) ρ [a] [b]):=by
            by_cases hn:(symAt l x).name=(symAt l y).name
            · rcases h1 with h1 | h1 | h1
              · exact absurd hn h1
              · exact clash_names HG.out Hrt.out hax hbx (Or.inr ⟨Hye.out,Hxe.out⟩) Hny.out Hnx.out (Or.inr (fun e=>h1 e.symm))
              · exact clash_kids HG.out Hrt.out hax hbx (Or.inr ⟨Hye.out,Hxe.out⟩) Hny.out hn.symm h1.swap
            · exact clash_names HG.out Hrt.out hax hbx (Or.inr ⟨Hye.out,Hxe.out⟩) Hny.out Hnx.out (Or.inl (fun e=>hn e.symm))
          clear h1
          go_wp2
          go_ret
          exact ⟨gs2,Hout.out,ρ2,rk2,Hup2.out,Or.inr ⟨rfl,Hcl.out⟩⟩
theorem join_any (m:Nat):JoinSaid m:=by
  induction m using Nat.strongRecOn with
  | _ m ih=>exact join_step m (fun k hk=>inside_step k (ih k hk))
def markG (l:List Sym) (gs:List GC) (p:Nat):List GC:=gs.mapIdx (fun i c=>if p≤i then { c with behind:=behindL l i } else c)
theorem markG_at (l:List Sym) (gs:List GC) (p i:Nat):(markG l gs p)[i]?=(gs[i]?).map (fun c=>if p≤i then { c with behind:=behindL l i } else c):=by
 unfold markG; rw [List.getElem?_mapIdx]
theorem markG_len (l:List Sym) (gs:List GC) (p:Nat):(markG l gs p).length=gs.length:=by simp [markG]
theorem markG_next {l:List Sym} {gs:List GC} {p:Nat}:(markG l gs (p+1)).modify p (fun c => { c with behind:=behindL l p })=markG l gs p:=by
 apply List.ext_getElem?
 intro i
 rw [List.getElem?_modify,markG_at,markG_at]
 cases gs[i]? with
 | none=>rfl
 | some c =>
  simp
  by_cases e:p=i
  ·subst e
   have h1:¬ p+1≤p:=by omega
   simp [h1]
  ·rw [if_neg e]
   by_cases h:p+1≤i
   ·rw [if_pos h,if_pos (by omega)]
   ·rw [if_neg h,if_neg (by omega)]
theorem markG_end (l:List Sym) (gs:List GC) (p:Nat) (h:gs.length≤p):markG l gs p=gs:=by
 apply List.ext_getElem?
 intro i
 rw [markG_at]
 cases hc:gs[i]? with
 | none=>rfl
 | some c =>
  have:=(List.getElem?_eq_some_iff.1 hc).1
  simp
  omega
set_option maxRecDepth 10000 in
set_option maxHeartbeats 4000000 in
theorem markEnds_any (w:World) (gb:Nat) (v:Value) (gs:List GC) (l:List Sym) (h:GAt w gb v gs) (hlen:gs.length=l.length) (hs:∀ i c,gs[i]?=some c→c.sym=symAt l i) (hw:Wf 2 l) (hl:gs.length≤4000) :
  Calls Tryz.prog 188 #[.pointer (some ⟨gb,0,none⟩)] w fun e w'=>e = .returned (.tuple #[])∧GAt w' gb v (markG l gs 0)∧Kept (ownOf v) w w':=by
 have hpos:0<gs.length:=by have:=wf_len hw; omega
 obtain ⟨cb,cap,rfl,hcb,hcap,hne,hfz⟩:=h.shape hpos
 have b0:w.cell? ⟨gb,0,none⟩=some (.slice (some ⟨cb,0,none⟩) gs.length cap):=cell_of_block h.box 0 _ rfl
 have hgb:=lt_of_block h.box
 have H:=hide' h
 have Hs:=hide' hs
 have Hw:=hide' hw
 have Hlen:=hide' hlen
 clear h hs hw hlen
 go_enter Tryz.func188,Tryz.ntmps188
 go_wp2
 go_loopg [2] (gs.length+1) (fun gk iv wr=>∃ (p:Nat),iv = .int .i64 ((p:Int) - 1)∧p≤gs.length∧p<gk∧GAt wr gb (.slice (some ⟨cb,0,none⟩) gs.length cap) (markG l gs p)∧Kept (ownOf (.slice (some ⟨cb,0,none⟩) gs.length cap)) w wr)
 case atStart=>exact ⟨gs.length,rfl,Nat.le_refl _,by omega,by rw [markG_end _ _ _ (Nat.le_refl _)]; exact H.out,Kept.refl _ _⟩
 case round =>
  obtain ⟨p,rfl,hp,hgk,hG,hkp⟩:=hrel
  have hsr:=hkp.size
  have b0:wr.cell? ⟨gb,0,none⟩=some (.slice (some ⟨cb,0,none⟩) gs.length cap):=cell_of_block hG.box 0 _ rfl
  have hgb':=lt_of_block hG.box
  have hcb':cb<wr.heap.size:=by omega
  have hfz':∀ j,wr.frozen? ⟨cb,j,none⟩=false:=by
   obtain ⟨cb',cap',e,_,_,_,hf⟩:=hG.shape (by rw [markG_len]; exact hpos)
   simp at e
   obtain ⟨rfl,_⟩:=e
   exact hf
  have HG:=hide' hG
  have Hkp:=hide' hkp
  clear hG hkp
  cases p with
  | zero =>
   have hneg:¬ ((0:Int)≤((0:Nat):Int) - 1):=by omega
   go_wp2
   go_end0
   exact ⟨rfl,HG.out,Hkp.out⟩
  | succ p =>
   have hpi:(((p+1:Nat):Int) - 1)=(p:Int):=by omega
   have hpos':(0:Int)≤(p:Int):=by omega
   have hpl:p<gs.length:=by omega
   obtain ⟨c,hc⟩:∃ c,gs[p]?=some c:=⟨_,List.getElem?_eq_getElem hpl⟩
   have hcm:(markG l gs (p+1))[p]?=some c:=by rw [markG_at,hc]; simp; intro h; omega
   have hG':GAt wr gb (.slice (some ⟨cb,0,none⟩) (markG l gs (p+1)).length cap) (markG l gs (p+1)):=by rw [markG_len]; exact HG.out
   obtain ⟨_,_,c2,c3,_,_⟩:=hG'.cell hcm
   have hsy:=Hs.out p c hc
   have hlen:=Hlen.out
   obtain ⟨ex1,ex2,ex3⟩:=cell_at Hw.out (i:=p) (by omega)
   obtain ⟨_,_,_,_,_,hbx,_⟩:=term_at Hw.out (i:=p) (by omega)
   rw [← hsy] at ex1 ex2 ex3
   have hkl:∀ k,k<c.sym.args→p<behindN l (p+1) k∧behindN l (p+1) k<gs.length:=fun k hk=>by
    have:=ex2 _ (List.mem_of_getElem? (kidsFrom_at l (p+1) _ k hk))
    omega
   have hargs:c.sym.args≤4000:=by
    rcases Nat.lt_or_ge 4000 c.sym.args with h3 | h3
    ·exfalso
     have mono:∀ k,k≤c.sym.args→p+1+k≤behindN l (p+1) k:=by
      intro k
      induction k with
      | zero=>intro _; simp [behindN]
      | succ k ih =>
       intro hk
       have:=ih (by omega)
       rw [behindN_snoc]
       have:=hkl k (by omega)
       obtain ⟨_,_,_,_,h6,_⟩:=term_at Hw.out (i:=behindN l (p+1) k) (by omega)
       omega
     have:=mono 4000 (by omega)
     have:=hkl 4000 h3
     omega
    ·exact h3
   have Hkl:=hide' hkl
   have Hex3:=hide' ex3
   have Hcm:=hide' hcm
   have Hg':=hide' hG'
   have Hbx:=hide' hbx
   clear hkl ex1 ex2 ex3 hcm hG' hbx hsy hc hlen
   obtain ⟨wo,hwo⟩:∃ x,x=wr:=⟨_,rfl⟩
   subst hwo
   rw [hpi]
   go_wp2
   go_loopg [3,4] (c.sym.args+1) (fun gk ev nv wr=>∃ (k:Nat),ev = .int .i64 (behindN l (p+1) k:Nat)∧nv = .int .i64 k∧k≤c.sym.args∧c.sym.args - k<gk∧wr=wo)
   case atStart=>exact ⟨0,by simp [behindN],by go_num,Nat.zero_le _,by omega,rfl⟩
   case round =>
    obtain ⟨k,rfl,rfl,hk,hgk2,rfl⟩:=hrel
    by_cases hlt:k<c.sym.args
    ·obtain ⟨h1,h2⟩:=Hkl.out k hlt
     obtain ⟨q,hq⟩:∃ q,q=behindN l (p+1) k:=⟨_,rfl⟩
     rw [← hq] at h1 h2 ⊢
     obtain ⟨cq,hcq⟩:∃ c,(markG l gs (p+1))[q]?=some c:=⟨_,List.getElem?_eq_getElem (by rw [markG_len]; exact h2)⟩
     obtain ⟨_,_,_,q3,_,_⟩:=Hg'.out.cell hcq
     have hbq:cq.behind=behindL l q:=by
      rw [markG_at] at hcq
      cases hd:gs[q]? with
      | none=>rw [hd] at hcq; simp at hcq
      | some d =>
       rw [hd] at hcq
       simp at hcq
       rw [if_pos (by omega)] at hcq
       rw [← hcq]
     rw [hbq] at q3
     have Hq:=hide' hq
     clear hcq hbq hq
     go_wp2
     go_roundg (c.sym.args - k)
     case measure=>omega
     case rel=>exact ⟨k+1,by rw [behindN_snoc,← Hq.out],by go_num,by omega,by omega,rfl⟩
    ·have hek:k=c.sym.args:=by omega
     subst hek
     obtain ⟨q,hq⟩:∃ q,q=behindN l (p+1) c.sym.args:=⟨_,rfl⟩
     rw [← hq]
     have Hq:=hide' hq
     clear hq
     go_wp2
     go_roundg (p+1)
     case measure=>omega
     case rel =>
      refine ⟨p,by rfl,by omega,by omega,?_,Hkp.out.trans ((Kept.refl _ wr).setCell (p:=⟨cb,p * 6+3,none⟩) (fun _=>(rfl:some cb=some cb)) _)⟩
      have:=Hg'.out.put Hcm.out (f:=fun c => { c with behind:=behindL l p }) (j:=3) (u := .int .i64 (behindL l p:Nat)) (by omega) rfl
      rw [markG_next,markG_len] at this
      rw [Hq.out,Hex3.out]
      exact this
end Go.Proofs.YtlmjilpjmgjjcaaGreatDoor
