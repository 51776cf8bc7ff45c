import Derived.Test.YtjafgnohlkkopaaGreatDoorPart19
import Derived.Test.YtjafgnohlkkopaaGreatDoorPart20
import Derived.Test.YtjafgnohlkkopaaGreatDoorPart21
import Derived.Test.YtjafgnohlkkopaaGreatDoorPart17
import Derived.Deep.AppendLies
import Derived.Test.YtjafgnohlkkopaaGreatDoorPart18
import Derived.Test.YtjafgnohlkkopaaGreatDoorPart10
set_option linter.unusedVariables false
set_option maxHeartbeats 8000000
set_option maxRecDepth 100000
namespace Go.Proofs.YtjafgnohlkkopaaGreatDoor
open Go.RowKit
theorem Two.next {base:Nat}{L:Nat->Prop}{w w':World}{ob yb g n:Nat}{B:Nat->Blk}{v v':cB}{x y:aK}{ms ms':List aZ}(h:Two base L w ob yb g n B v x ms)(on:Only (Mine yb v) w w')(hS:nL base (fun b=>L b\/w.heap.size<=b) w' yb v' y ms')(hm:∀ b,v'.mine b->v.mine b\/w.heap.size<=b):
 Two base (fun b=>L b\/w.heap.size<=b) w' ob yb g n B v' y ms':=by
 have hol:=h.box.lt
 have hgl:=h.own.lt
 have hog:¬Mine yb v ob:=by
  rintro (e | e)
  ·exact h.no.1 e
  ·exact h.no.2.1 e
 have hgg:¬Mine yb v g:=by
  rintro (e | e)
  ·exact h.ng.1 e
  ·exact h.ng.2.1 e
 have hnew:∀ b,b<w.heap.size->¬v.mine b->¬v'.mine b:=fun b hb hn f=>by
  rcases hm b f with f | f
  ·exact hn f
  ·omega
 have hb:dO (fun b=>g<b/\(b≠yb/\¬v.mine b/\b≠ob)) w g 0 n B:=by
  intro i hi
  obtain⟨ka,kn,kc,ba,bn,bc,h1⟩:=h.own.blocks i hi
  obtain⟨ka', kn', kc', ba', bn', bc', h2⟩:=h.lists i hi
  have e1:Value.slice ka kn kc=.slice ka' kn' kc':=Option.some.inj (h1.c2.symm.trans h2.c2)
  have e2:Value.slice ba bn bc=.slice ba' bn' bc':=Option.some.inj (h1.c3.symm.trans h2.c3)
  simp only[Value.slice.injEq] at e1 e2
  obtain⟨rfl,rfl,rfl⟩:=e1
  obtain⟨rfl,rfl,rfl⟩:=e2
  exact⟨ka,kn,kc,ba,bn,bc,h1.c0,h1.c1,h1.c2,h1.c3,nC h1.kids h2.kids,nC h1.bytes h2.bytes,h1.refs,h1.level,h1.caps⟩
 have hb2:dO (fun b=>(g<b/\(b≠yb/\¬v'.mine b/\b≠ob))/\¬Mine yb v b) w g 0 n B:=hb.weaken (fun b hl q=>⟨⟨q.1,q.2.1,hnew b hl q.2.2.1,q.2.2.2⟩,fun e=>by
  rcases e with e | e
  ·exact q.2.1 e
  ·exact q.2.2.1 e⟩)
 have hb3:=on.blocks hb2 hgg h.own.lt (fun k q e=>q.2 e)
 refine⟨⟨Nat.lt_of_lt_of_le h.own.lt on.size,hb3.weaken (fun b _ q=>q.1.1),fun i hi=>(World.frozen?_of_block (w:=w) (on.block g h.own.lt hgg)).trans (h.own.free i hi)⟩,on.cells h.box hog,hS,⟨h.no.1,hnew ob hol h.no.2.1,?_,h.no.2.2.2⟩,⟨h.ng.1,hnew g hgl h.ng.2.1,?_,h.ng.2.2.2⟩,hb3.weaken (fun b _ q=>q.1.2),?_⟩
 ·rintro (e | e)
  ·exact h.no.2.2.1 e
  ·omega
 ·rintro (e | e)
  ·exact h.ng.2.2.1 e
  ·omega
 ·rintro b (e | e)
  ·exact h.lb b e
  ·have:=h.ng.2.2.2; omega
def bE5 (base:Nat)(w:World)(ob yb n:Nat)(B:Nat->Blk)(key:Int)(v:cB)(x:aK)(a:aP)(cc:Int)(e:Ending)(w':World):Prop:=
 ∃ made e':Int,e=.returned (.tuple #[.int .i64 made,.int .i64 e'])/\Only (fun b=>b=ob\/Mine yb v b) w w'/\
  ((e'≠0/\zN n B key x a/\lQ n B key e' x a)\/(e'=0/\∃ (g:Nat) (C:Nat->Blk) (L:Nat->Prop) (v':cB) (y:aK) (ms:List aZ),kV n B C key x a made y cc/\Two base L w' ob yb g n C v' y ms))
theorem zM.int {base:Nat}{L:Nat->Prop}{w w':World}{yb:Nat}{v:cB}{ok:Prop}{bad:Int->Prop}{R:aK->Prop}{e:Ending}(h:zM base L w yb v ok bad R e w'):∃ e':Int,e=.returned (.int .i64 e'):=by
 rcases h.2 with⟨e', h,_⟩ | ⟨h,_⟩
 ·exact⟨e', h⟩
 ·exact⟨0,h⟩
theorem nR {base:Nat}{L:Nat->Prop}{w w0 w':World}{ob yb g n:Nat}{B:Nat->Blk}{key:Int}{v:cB}{x:aK}{ms:List aZ}{a:aP}{cc e':Int}{ok:Prop}{bad:Int->Prop}{R:aK->Prop}(b0:Below w.heap.size w w0)(hT:Two base L w0 ob yb g n B v x ms)(h:zM base L w0 yb v ok bad R (.returned (.int .i64 e')) w')(hE:¬ok->bad e'->lQ n B key e' x a)(hno:¬ok->zN n B key x a)(hyes:∀ y,ok->R y->Plain x a y):
 bE5 base w ob yb n B key v x a cc (.returned (.tuple #[.int .i64 0,.int .i64 e'])) w':=by
 obtain⟨on,h⟩:=h
 refine⟨0,e', rfl,(Only.of_below b0).trans (on.mono (fun b _ h=>.inr h)),?_⟩
 rcases h with⟨e1,he,h1,h2,h3⟩ | ⟨he,h1,v', y,ms', hR,hP,hm⟩
 ·simp only[Ending.returned.injEq,Value.int.injEq,true_and] at he
  exact .inl ⟨he▸h1,hno h2,hE h2 (he▸h3)⟩
 ·simp only[Ending.returned.injEq,Value.int.injEq,true_and] at he
  exact .inr ⟨he,g,B,_,v', y,ms', .inr (.inr ⟨hyes y h1 hR,rfl,rfl⟩),hT.next on hP hm⟩
theorem uJ {base:Nat}{w w0 w':World}{ob yb n:Nat}{B:Nat->Blk}{key:Int}{v:cB}{x:aK}{a:aP}{cc:Int}{e:Ending}(b0:Below w.heap.size w w0)(hk:a.kind=3)(h:pO base w0 ob yb n B key v x a.file (0<=a.pos/\a.pos+(a.bytes.length:Int)<=256) (fun e=>e=pK a.pos (a.bytes.length:Int)) (fun root size=>gN ((aR key (aH B 3 root)).take size.toNat) a.pos.toNat a.bytes) cc e w'):
 bE5 base w ob yb n B key v x a cc e w':=by
 obtain⟨made,e', he,on,h⟩:=h
 refine⟨made,e', he,(Only.of_below b0).trans on,?_⟩
 rcases h with⟨h1,h2⟩ | ⟨h1,h2,h3,root,size,h4,g,C,L,v', y,ms,h5,h6,h7⟩
 ·exact .inl ⟨h1,⟨fun _ f1 f2 f3=>(bX4.room h2 f1 f2 f3).2,fun h=>absurd (hk.symm.trans h) (by decide),fun h=>absurd (hk.symm.trans h) (by decide),fun h=>absurd (hk.symm.trans h) (by decide),fun h=>absurd (hk.symm.trans h) (by decide)⟩,cQ4 hk h2⟩
 ·exact .inr ⟨h1,g,C,L,v', y,ms,.inl ⟨hk,h2,h3,root,size,h4,h5,h6⟩,h7⟩
theorem bG4 {base:Nat}{w w0 w':World}{ob yb n:Nat}{B:Nat->Blk}{key:Int}{v:cB}{x:aK}{a:aP}{cc:Int}{e:Ending}(b0:Below w.heap.size w w0)(hk:a.kind=4)(h:pO base w0 ob yb n B key v x a.file ((0<=a.num/\a.num<=256)/\∃ f∈x.files,f.nm=a.file.data.toList) (aR1 x a.file) (fun root _=>(aR key (aH B 3 root)).take a.num.toNat) cc e w'):
 bE5 base w ob yb n B key v x a cc e w':=by
 obtain⟨made,e', he,on,h⟩:=h
 refine⟨made,e', he,(Only.of_below b0).trans on,?_⟩
 rcases h with⟨h1,h2⟩ | ⟨h1,h2,h3,root,size,h4,g,C,L,v', y,ms,h5,h6,h7⟩
 ·exact .inl ⟨h1,⟨fun h=>absurd (hk.symm.trans h) (by decide),fun h=>absurd (hk.symm.trans h) (by decide),fun h=>absurd (hk.symm.trans h) (by decide),fun h=>absurd (hk.symm.trans h) (by decide),fun h=>absurd (hk.symm.trans h) (by decide)⟩,cQ3 hk h2⟩
 ·exact .inr ⟨h1,g,C,L,v', y,ms,.inr (.inl ⟨hk,h2,h3,root,size,h4,h5,h6⟩),h7⟩
theorem pF {n:Nat}{B:Nat->Blk}{key:Int}{x:aK}{a:aP}(h3:a.kind≠3)(h6:a.kind=6->¬oH x a)(h7:a.kind=7->¬yZ x a)(h8:a.kind=8->¬oG x a)(h9:a.kind=9->¬oG x a):zN n B key x a:=⟨fun h=>absurd h h3,h6,h7,h8,h9⟩
theorem bK1 (base:Nat)(L:Nat->Prop)(ob yb g n:Nat)(B:Nat->Blk)(key:Int)(v:cB)(x:aK)(ms:List aZ)(a:aP)(ba:Option Addr)(bn bc:Nat)(cc:Int)(w:World)(hT:Two base L w ob yb g n B v x ms)(hx:aV n B key x)(hB:aI (fun _=>True) .u8 w ba bn a.bytes)(hao:a.ok)(h64:64<=cc)(hcm:(a.kind=3\/a.kind=4)->cc<=999936)(hc:∀ k,k<n->(B k).refs<=cc)(hbw:base<=w.heap.size):
 Calls Tryz.prog 97 #[.pointer (some ⟨ob,0,none⟩),.int .i64 key,.pointer (some ⟨yb,0,none⟩),a.val ba bn bc] w fun e w'=>bE5 base w ob yb n B key v x a cc e w':=by
 have b0:=aA w (.cells #[.int .i64 a.kind,.string a.set,.string a.file,.string a.to,.int .i64 a.pos,.int .i64 a.num,.slice ba bn bc] 30)
 have hT0:=hid (hT.below b0)
 have hB0:=hid (hB.below b0)
 have hbw0:=Nat.le_trans hbw b0.size
 have hsh:=hid hx.shape
 have hfs:a.file.size<=maxLen:=hao.1.2.1
 have hts:a.to.size<=maxLen:=hao.1.2.2
 replace hx:=hid hx
 replace hc:=hid hc
 replace hcm:=hid hcm
 replace hao:=hid hao
 replace hbw0:=hid hbw0
 clear hT hB
 unfold aP.val
 by_cases hk3:a.kind=3
 ·have e3:(a.kind == 3)=true:=by simp[hk3]
  have hk:Hid (a.kind=3):=hid hk3
  clear hk3
  go_enter Tryz.func97,Tryz.ntmps97
  go_wp2_with fail
  by_cases hth:∃ f∈x.files,f.nm=a.file.data.toList
  ·refine(aR3 base L ob yb g n B key v x ms a ba bn bc cc _ hT0.out hx.out hB0.out hao.out h64 (hcm.out (.inl hk.out)) hc.out hbw0.out hth).mono ?_
   rintro e w' h
   have J:=hid (uJ b0 hk.out h)
   obtain⟨made,e', rfl,_⟩:=h
   clear hth
   go_wp2_with fail
   go_ret2
   exact J.out
  ·refine(bL9 base L ob yb g n B key v x ms a ba bn bc cc _ hT0.out hx.out hB0.out hao.out h64 (hcm.out (.inl hk.out)) hc.out hbw0.out hth).mono ?_
   rintro e w' h
   have J:=hid (uJ b0 hk.out h)
   obtain⟨made,e', rfl,_⟩:=h
   clear hth
   go_wp2_with fail
   go_ret2
   exact J.out
 have e3:(a.kind == 3)=false:=by simp[hk3]
 replace hk3:=hid hk3
 by_cases hk4:a.kind=4
 ·have e4:(a.kind == 4)=true:=by simp[hk4]
  have hk:Hid (a.kind=4):=hid hk4
  clear hk4
  go_enter Tryz.func97,Tryz.ntmps97
  go_wp2_with fail
  refine(cL0 base L ob yb g n B key v x ms a ba bn bc cc _ hT0.out hx.out hao.out h64 (hcm.out (.inr hk.out)) hc.out hbw0.out).mono ?_
  rintro e w' h
  have J:=hid (bG4 b0 hk.out h)
  obtain⟨made,e', rfl,_⟩:=h
  go_wp2_with fail
  go_ret2
  exact J.out
 have e4:(a.kind == 4)=false:=by simp[hk4]
 replace hk4:=hid hk4
 by_cases hk5:a.kind=5
 ·have e5:(a.kind == 5)=true:=by simp[hk5]
  have hk:Hid (a.kind=5):=hid hk5
  clear hk5
  go_enter Tryz.func97,Tryz.ntmps97
  go_wp2_with fail
  refine(bG6 base L yb v x ms a.file _ hT0.out.set hsh.out).mono ?_
  rintro e w' h
  obtain⟨e', rfl⟩:=h.int
  have J:=hid (nR (key:=key) (a:=a) (cc:=cc) b0 hT0.out h (fun h1 h2=>cQ2 hk.out ⟨h2,h1⟩) (fun h=>pF (fun f=>absurd (hk.out.symm.trans f) (by decide)) (fun f=>absurd (hk.out.symm.trans f) (by decide)) (fun f=>absurd (hk.out.symm.trans f) (by decide)) (fun f=>absurd (hk.out.symm.trans f) (by decide)) (fun f=>absurd (hk.out.symm.trans f) (by decide))) (fun y h hR=>.inl ⟨hk.out,hR⟩))
  clear h
  go_wp2_with fail
  go_ret2
  exact J.out
 have e5:(a.kind == 5)=false:=by simp[hk5]
 replace hk5:=hid hk5
 by_cases hk6:a.kind=6
 ·have e6:(a.kind == 6)=true:=by simp[hk6]
  have hk:Hid (a.kind=6):=hid hk6
  clear hk6
  go_enter Tryz.func97,Tryz.ntmps97
  go_wp2_with fail
  refine(bG5 base L yb v x ms a.file a.to _ hT0.out.set hsh.out hts hbw0.out).mono ?_
  rintro e w' h
  obtain⟨e', rfl⟩:=h.int
  have J:=hid (nR (key:=key) (a:=a) (cc:=cc) b0 hT0.out h (fun _ h2=>cQ1 hk.out h2) (fun h=>pF (fun f=>absurd (hk.out.symm.trans f) (by decide)) (fun _=>h) (fun f=>absurd (hk.out.symm.trans f) (by decide)) (fun f=>absurd (hk.out.symm.trans f) (by decide)) (fun f=>absurd (hk.out.symm.trans f) (by decide))) (fun y h hR=>.inr (.inl ⟨hk.out,h,hR⟩)))
  clear h
  go_wp2_with fail
  go_ret2
  exact J.out
 have e6:(a.kind == 6)=false:=by simp[hk6]
 replace hk6:=hid hk6
 by_cases hk7:a.kind=7
 ·have e7:(a.kind == 7)=true:=by simp[hk7]
  have hk:Hid (a.kind=7):=hid hk7
  clear hk7
  go_enter Tryz.func97,Tryz.ntmps97
  go_wp2_with fail
  refine(aJ9 base L yb v x ms a.to _ hT0.out.set hsh.out hts hbw0.out).mono ?_
  rintro e w' h
  obtain⟨e', rfl⟩:=h.int
  have J:=hid (nR (key:=key) (a:=a) (cc:=cc) b0 hT0.out h (fun _ h2=>cQ0 hk.out h2) (fun h=>pF (fun f=>absurd (hk.out.symm.trans f) (by decide)) (fun f=>absurd (hk.out.symm.trans f) (by decide)) (fun _=>h) (fun f=>absurd (hk.out.symm.trans f) (by decide)) (fun f=>absurd (hk.out.symm.trans f) (by decide))) (fun y h hR=>.inr (.inr (.inl ⟨hk.out,h,hR⟩))))
  clear h
  go_wp2_with fail
  go_ret2
  exact J.out
 have e7:(a.kind == 7)=false:=by simp[hk7]
 replace hk7:=hid hk7
 by_cases hk8:a.kind=8
 ·have e8:(a.kind == 8)=true:=by simp[hk8]
  have hk:Hid (a.kind=8):=hid hk8
  clear hk8
  go_enter Tryz.func97,Tryz.ntmps97
  go_wp2_with fail
  refine(bJ2 base L yb v x ms a.to _ hT0.out.set hsh.out hts).mono ?_
  rintro e w' h
  obtain⟨e', rfl⟩:=h.int
  have J:=hid (nR (key:=key) (a:=a) (cc:=cc) b0 hT0.out h (fun _ h2=>cH8 (.inl hk.out) h2) (fun h=>pF (fun f=>absurd (hk.out.symm.trans f) (by decide)) (fun f=>absurd (hk.out.symm.trans f) (by decide)) (fun f=>absurd (hk.out.symm.trans f) (by decide)) (fun _=>h) (fun f=>absurd (hk.out.symm.trans f) (by decide))) (fun y h hR=>.inr (.inr (.inr (.inl ⟨hk.out,h,hR⟩)))))
  clear h
  go_wp2_with fail
  go_ret2
  exact J.out
 have e8:(a.kind == 8)=false:=by simp[hk8]
 replace hk8:=hid hk8
 by_cases hk9:a.kind=9
 ·have e9:(a.kind == 9)=true:=by simp[hk9]
  have hk:Hid (a.kind=9):=hid hk9
  clear hk9
  go_enter Tryz.func97,Tryz.ntmps97
  go_wp2_with fail
  refine(cF2 base L yb v x ms a.to _ hT0.out.set hsh.out hts hbw0.out).mono ?_
  rintro e w' h
  obtain⟨e', rfl⟩:=h.int
  have J:=hid (nR (key:=key) (a:=a) (cc:=cc) b0 hT0.out h (fun _ h2=>cH8 (.inr hk.out) h2) (fun h=>pF (fun f=>absurd (hk.out.symm.trans f) (by decide)) (fun f=>absurd (hk.out.symm.trans f) (by decide)) (fun f=>absurd (hk.out.symm.trans f) (by decide)) (fun f=>absurd (hk.out.symm.trans f) (by decide)) (fun _=>h)) (fun y h hR=>.inr (.inr (.inr (.inr ⟨hk.out,h,hR⟩)))))
  clear h
  go_wp2_with fail
  go_ret2
  exact J.out
 have e9:(a.kind == 9)=false:=by simp[hk9]
 replace hk9:=hid hk9
 go_enter Tryz.func97,Tryz.ntmps97
 go_wp2_with fail
 go_ret2
 exact⟨0,4,rfl,Only.of_below b0,.inl ⟨by omega,pF hk3.out (fun f=>absurd f hk6.out) (fun f=>absurd f hk7.out) (fun f=>absurd f hk8.out) (fun f=>absurd f hk9.out),cP9 (by have h3:=hk3.out; have h4:=hk4.out; have h5:=hk5.out; have h6:=hk6.out; have h7:=hk7.out; have h8:=hk8.out; have h9:=hk9.out; omega)⟩⟩
structure Cop (W:World)(P:Nat->Prop)(w:World)(n:Nat)(B:Nat->Blk)(x:aK)(g:Nat)(v:cB)(ms:List aZ):Prop where
 own:Own w g n B
 lists:dO (fun b=>g<b/\P b/\¬v.mine b) w g 0 n B
 set:fQ W.heap.size (fun b=>P b/\b≠g) w v x ms
 pg:P g
 ng:¬v.mine g
 mine:∀ b,v.mine b->P b
 new:∀ b,P b->W.heap.size<=b
theorem Cop.only {W:World}{P M:Nat->Prop}{w w':World}{n:Nat}{B:Nat->Blk}{x:aK}{g:Nat}{v:cB}{ms:List aZ}(h:Cop W P w n B x g v ms)(on:Only M w w')(hM:∀ b,M b->¬P b):Cop W P w' n B x g v ms:=by
 have hg:¬M g:=fun m=>hM g m h.pg
 have hl:=on.blocks h.lists hg h.own.lt (fun k q e=>hM k e q.2.1)
 exact⟨⟨Nat.lt_of_lt_of_le h.own.lt on.size,hl.weaken (fun b _ q=>q.1),fun i hi=>(World.frozen?_of_block (w:=w) (on.block g h.own.lt hg)).trans (h.own.free i hi)⟩,hl,h.set.only on (fun b hb m=>hM b m (h.mine b hb)) (fun b hb m=>hM b m hb.1),h.pg,h.ng,h.mine,h.new⟩
theorem Cop.two {W:World}{P:Nat->Prop}{w:World}{n:Nat}{B:Nat->Blk}{x:aK}{g ob yb:Nat}{v:cB}{ms:List aZ}(h:Cop W P w n B x g v ms)(ho:aC w ob #[.slice (some ⟨g,0,none⟩) n n] 24)(hy:aC w yb #[.string v.name,.slice v.fa v.fn v.fc,.slice v.sa v.sn v.sc] 84)(hne:ob≠yb)(po:¬P ob)(py:¬P yb):Two W.heap.size (fun b=>P b/\b≠g) w ob yb g n B v x ms:=
 ⟨h.own,ho,⟨by rw[<-h.set.name]; exact hy,h.set,fun f=>py (h.mine _ f),fun f=>py f.1⟩,⟨hne,fun f=>po (h.mine _ f),fun f=>po f.1,fun e=>po (e▸h.pg)⟩,⟨fun e=>py (e▸h.pg),h.ng,fun f=>f.2 rfl,h.new g h.pg⟩,h.lists.weaken (fun b _ q=>⟨fun e=>py (e▸q.2.1),q.2.2,fun e=>po (e▸q.2.1)⟩),fun b h1=>h.new b h1.1⟩
theorem bD5 {W wO wS w:World}{n:Nat}{B:Nat->Blk}{x:aK}{g lo:Nat}{v:cB}{ms:List aZ}(hO:Own wO g n B)(hg:W.heap.size<=g)(bO:Below wO.heap.size wO w)(hS:fQ lo (fun b=>lo<=b) wS v x ms)(hlo:W.heap.size<=lo)(bS:Below wS.heap.size wS w)(hap:wO.heap.size<=lo\/wS.heap.size<=g):
 Cop W (fun b=>(g<=b/\b<wO.heap.size)\/(lo<=b/\b<wS.heap.size)) w n B x g v ms:=by
 have hgl:=hO.lt
 have hm:∀ b,v.mine b->lo<=b/\b<wS.heap.size:=fun b hb=>hS.mine_ge hb
 have hl:dO (fun b=>g<b/\((g<=b/\b<wO.heap.size)\/(lo<=b/\b<wS.heap.size))/\¬v.mine b) wO g 0 n B:=hO.blocks.weaken (fun b hb q=>⟨q,.inl ⟨by omega,hb⟩,fun f=>by have:=hm b f; omega⟩)
 have hs:fQ lo (fun b=>((g<=b/\b<wO.heap.size)\/(lo<=b/\b<wS.heap.size))/\b≠g) wS v x ms:=hS.weaken (fun b hb q=>⟨.inr ⟨q,hb⟩,by omega⟩)
 have hs2:=hs.below bS
 exact⟨hO.below bO,hl.below bO,⟨hs2.name,hs2.small,dE hlo hs2.files,dE hlo hs2.snaps,hs2.eq,hs2.ok,hs2.lists,hs2.apart⟩,.inl ⟨Nat.le_refl _,hgl⟩,fun f=>by have:=hm g f; omega,fun b f=>.inr (hm b f),fun b f=>by omega⟩
def cI8 (W wc:World)(n:Nat)(B:Nat->Blk)(x:aK)(v12 v13:Value):Prop:=
 ∃ (ob yb g:Nat) (v:cB) (ms:List aZ) (P:Nat->Prop),v12=.pointer (some ⟨ob,0,none⟩)/\v13=.pointer (some ⟨yb,0,none⟩)/\Two W.heap.size P wc ob yb g n B v x ms/\Below W.heap.size W wc/\W.heap.size<=ob/\W.heap.size<=yb/\W.heap.size<=g
theorem yD {W w7 wc:World}{P M:Nat->Prop}{n:Nat}{B:Nat->Blk}{x:aK}{g ob yb:Nat}{v:cB}{ms:List aZ}(h:Cop W P w7 n B x g v ms)(on:Only M w7 wc)(hM:∀ b,M b->¬P b)(bb:Below W.heap.size W wc)(ho:aC wc ob #[.slice (some ⟨g,0,none⟩) n n] 24)(hy:aC wc yb #[.string v.name,.slice v.fa v.fn v.fc,.slice v.sa v.sn v.sc] 84)(hne:ob≠yb)(po:¬P ob)(py:¬P yb)(lo:W.heap.size<=ob)(ly:W.heap.size<=yb):
 cI8 W wc n B x (.pointer (some ⟨ob,0,none⟩)) (.pointer (some ⟨yb,0,none⟩)):=
 ⟨ob,yb,g,v,ms,_,rfl,rfl,(h.only on hM).two ho hy hne po py,bb,lo,ly,h.new g h.pg⟩
abbrev cH3 (v:cB):Obj:=.cells #[.string v.name,.slice v.fa v.fn v.fc,.slice v.sa v.sn v.sc] 84
abbrev iF:Obj:=.cells #[.string (ByteArray.mk #[]),.slice none 0 0,.slice none 0 0] 84
abbrev bA5 (w:World)(yb:Nat)(v:cB):World:=((w.setCell ⟨yb,0,none⟩ (.string v.name)).setCell ⟨yb,1,none⟩ (.slice v.fa v.fn v.fc)).setCell ⟨yb,2,none⟩ (.slice v.sa v.sn v.sc)
theorem jF (w:World)(yb:Nat)(v:cB):Kept yb w (bA5 w yb v):=Kept.setCell (g:=yb) (Kept.setCell (g:=yb) (Kept.setCell (g:=yb) (Kept.refl _ _) (p:=⟨yb,0,none⟩) rfl _) (p:=⟨yb,1,none⟩) rfl _) (p:=⟨yb,2,none⟩) rfl _
theorem pG {w:World}{yb:Nat}{v:cB}{c0 c1 c2:Value}(h:aC w yb #[c0,c1,c2] 84):aC (bA5 w yb v) yb #[.string v.name,.slice v.fa v.fn v.fc,.slice v.sa v.sn v.sc] 84:=by
 have k2:=((h.set 0 (.string v.name)).set 1 (.slice v.fa v.fn v.fc)).set 2 (.slice v.sa v.sn v.sc)
 simp only[List.setIfInBounds_toArray,List.set_cons_zero,List.set_cons_succ] at k2
 exact k2
theorem gT (w:World)(ob:Nat)(s:Value):Kept ob w (w.setCell ⟨ob,0,none⟩ s):=Kept.setCell (g:=ob) (Kept.refl _ _) (p:=⟨ob,0,none⟩) rfl _
theorem pI {w:World}{ob:Nat}{s c0:Value}(h:aC w ob #[c0] 24):aC (w.setCell ⟨ob,0,none⟩ s) ob #[s] 24:=by
 have k2:=h.set 0 s
 simp only[List.setIfInBounds_toArray,List.set_cons_zero] at k2
 exact k2
section
variable {W w7:World} {P:Nat->Prop} {n:Nat} {B:Nat->Blk} {x:aK} {g:Nat} {v:cB} {ms:List aZ}
theorem bC9 (h:Cop W P w7 n B x g v ms)(hP:∀ b,P b->b<w7.heap.size)(bb:Below W.heap.size W w7):cI8 W ((w7.alloc (bL5 (some ⟨g,0,none⟩) n n)).alloc (cH3 v)) n B x (.pointer (some ⟨w7.heap.size,0,none⟩)) (.pointer (some ⟨w7.heap.size+1,0,none⟩)):=
 yD h (Only.of_below (M:=fun _=>False) (aW _ _ _)) (fun _ m=>m.elim) (Below.tr bb (aW _ _ _)) ((aB w7 _ _).below (aA _ _)) (aF w7 _ _ _) (by omega) (fun f=>by have:=hP _ f; omega) (fun f=>by have:=hP _ f; omega) bb.size (by have:=bb.size; omega)
theorem bC8 (h:Cop W P w7 n B x g v ms)(hP:∀ b,P b->b<w7.heap.size)(bb:Below W.heap.size W w7):cI8 W ((w7.alloc (cH3 v)).alloc (bL5 (some ⟨g,0,none⟩) n n)) n B x (.pointer (some ⟨w7.heap.size+1,0,none⟩)) (.pointer (some ⟨w7.heap.size,0,none⟩)):=
 yD h (Only.of_below (M:=fun _=>False) (aW _ _ _)) (fun _ m=>m.elim) (Below.tr bb (aW _ _ _)) (aF w7 _ _ _) ((aB w7 _ _).below (aA _ _)) (by omega) (fun f=>by have:=hP _ f; omega) (fun f=>by have:=hP _ f; omega) (by have:=bb.size; omega) bb.size
theorem vQ {a:Nat}{c0:Value}(ha:W.heap.size<=a)(pa:¬P a)(ka:aC w7 a #[c0] 24)(h:Cop W P w7 n B x g v ms)(hP:∀ b,P b->b<w7.heap.size)(bb:Below W.heap.size W w7):cI8 W ((w7.setCell ⟨a,0,none⟩ (.slice (some ⟨g,0,none⟩) n n)).alloc (cH3 v)) n B x (.pointer (some ⟨a,0,none⟩)) (.pointer (some ⟨w7.heap.size,0,none⟩)):=by
 have kk:=gT w7 a (.slice (some ⟨g,0,none⟩) n n)
 have k3:aC ((w7.setCell ⟨a,0,none⟩ (.slice (some ⟨g,0,none⟩) n n)).alloc (cH3 v)) w7.heap.size #[.string v.name,.slice v.fa v.fn v.fc,.slice v.sa v.sn v.sc] 84:=by
  have:=aB (w7.setCell ⟨a,0,none⟩ (.slice (some ⟨g,0,none⟩) n n)) #[.string v.name,.slice v.fa v.fn v.fc,.slice v.sa v.sn v.sc] 84
  rwa [kk.size] at this
 have hal:=ka.lt
 exact yD h ((Only.of_kept (M:=fun b=>b=a) kk rfl).trans (Only.of_below (aA _ _))) (fun b m f=>pa (m▸f)) (Below.tr (bb.trans (kk.below ha)) (aA _ _)) ((pI ka).below (aA _ _)) k3 (by omega) pa (fun f=>by have:=hP _ f; omega) ha bb.size
theorem vP {a:Nat}{c0 c1 c2:Value}(ha:W.heap.size<=a)(pa:¬P a)(ka:aC w7 a #[c0,c1,c2] 84)(h:Cop W P w7 n B x g v ms)(hP:∀ b,P b->b<w7.heap.size)(bb:Below W.heap.size W w7):cI8 W ((bA5 w7 a v).alloc (bL5 (some ⟨g,0,none⟩) n n)) n B x (.pointer (some ⟨w7.heap.size,0,none⟩)) (.pointer (some ⟨a,0,none⟩)):=by
 have kk:=jF w7 a v
 have k3:aC ((bA5 w7 a v).alloc (bL5 (some ⟨g,0,none⟩) n n)) w7.heap.size #[.slice (some ⟨g,0,none⟩) n n] 24:=by
  have:=aB (bA5 w7 a v) #[.slice (some ⟨g,0,none⟩) n n] 24
  rwa [kk.size] at this
 have hal:=ka.lt
 exact yD h ((Only.of_kept (M:=fun b=>b=a) kk rfl).trans (Only.of_below (aA _ _))) (fun b m f=>pa (m▸f)) (Below.tr (bb.trans (kk.below ha)) (aA _ _)) k3 ((pG ka).below (aA _ _)) (by omega) (fun f=>by have:=hP _ f; omega) pa bb.size ha
theorem vR {a b:Nat}{c0 d0 d1 d2:Value}(ha:W.heap.size<=a)(hb:W.heap.size<=b)(hne:a≠b)(pa:¬P a)(pb:¬P b)(ka:aC w7 a #[c0] 24)(kb:aC w7 b #[d0,d1,d2] 84)(h:Cop W P w7 n B x g v ms)(bb:Below W.heap.size W w7):cI8 W (bA5 (w7.setCell ⟨a,0,none⟩ (.slice (some ⟨g,0,none⟩) n n)) b v) n B x (.pointer (some ⟨a,0,none⟩)) (.pointer (some ⟨b,0,none⟩)):=by
 have k1:=gT w7 a (.slice (some ⟨g,0,none⟩) n n)
 have k2:=jF (w7.setCell ⟨a,0,none⟩ (.slice (some ⟨g,0,none⟩) n n)) b v
 have o1:=Only.of_kept (M:=fun k=>k=a\/k=b) k1 (.inl rfl)
 have o2:=Only.of_kept (M:=fun k=>k=a\/k=b) k2 (.inr rfl)
 exact yD h (o1.trans o2) (fun k m f=>by
  rcases m with m | m
  ·exact pa (m▸f)
  ·exact pb (m▸f)) ((bb.trans (k1.below ha)).trans (k2.below hb)) ((Only.of_kept (M:=fun k=>k=b) k2 rfl).cells (pI ka) hne) (pG ((Only.of_kept (M:=fun k=>k=a) k1 rfl).cells kb hne.symm)) hne pa pb ha hb
end
def Did (n:Nat)(B:Nat->Blk)(key:Int)(x:aK)(a:aP)(cc:Int)(D:Nat->Blk)(y:aK):Prop:=∃ C made,kV n B C key x a made y cc/\Right n D/\iU n (eX C (aG y)) D (aG x++[made])
def uV (w:World)(n:Nat)(B:Nat->Blk)(key:Int)(x:aK)(a:aP)(cc:Int)(e:Ending)(w':World):Prop:=
 Below w.heap.size w w'/\((∃ e':Int,e=.returned (.tuple #[.agg #[.slice none 0 0],.agg #[.string (ByteArray.mk #[]),.slice none 0 0,.slice none 0 0],.int .i64 e'])/\e'≠0/\(aV n B key x->dY n B (aG x)->zN n B key x a)/\(aV n B key x->dY n B (aG x)->lQ n B key e' x a))\/
  (∃ (g:Nat) (D:Nat->Blk) (v:cB) (y:aK),e=.returned (.tuple #[.agg #[.slice (some ⟨g,0,none⟩) n n],.agg #[.string v.name,.slice v.fa v.fn v.fc,.slice v.sa v.sn v.sc],.int .i64 0])/\aV n B key x/\dY n B (aG x)/\Did n B key x a cc D y/\(w.heap.size<=g/\Own w' g n D)/\dK (fun b=>w.heap.size<=b) w' v y))
theorem dB {A C:Prop}(h:A)(k:A->C):C:=k h
theorem dS {a b:World}{k:Nat}(h:Below a.heap.size a b)(hk:b.heap.size<=k):a.heap.size<=k:=Nat.le_trans h.size hk
theorem aD8 (w:World):w.drew.heap.size=w.heap.size:=rfl
theorem mQ (w:World)(o:Obj):(w.alloc o).heap.size=w.heap.size+1:=by simp
theorem aN.drew {w:World}{a:Option Addr}{n:Nat}{B:Nat->Blk}(h:aN w a n B):aN w.drew a n B:=h.below (aD _ _)
theorem uV.drew {w w':World}{n:Nat}{B:Nat->Blk}{key:Int}{x:aK}{a:aP}{cc:Int}{e:Ending}(h:uV w n B key x a cc e w'):uV w n B key x a cc e w'.drew:=by
 obtain⟨b,h⟩:=h
 refine⟨b.trans (aD _ _),?_⟩
 rcases h with h | ⟨g,D,v,y,h1,h2,h3,h4,h5,h6⟩
 ·exact .inl h
 ·exact .inr ⟨g,D,v,y,h1,h2,h3,h4,⟨h5.1,h5.2.below (aD _ _)⟩,h6.below (aD _ _)⟩
structure DB (W wr:World)(sa:Option Addr)(n sc:Nat)(v:cB)(a:aP)(ba:Option Addr)(bn bc:Nat):Prop where
 bel:Below W.heap.size W wr
 sz:W.heap.size+5<=wr.heap.size
 bS:aC wr W.heap.size #[.slice sa n sc] 24
 bX:aC wr (W.heap.size+1) #[.string v.name,.slice v.fa v.fn v.fc,.slice v.sa v.sn v.sc] 84
 bA:aC wr (W.heap.size+1+1) #[.int .i64 a.kind,.string a.set,.string a.file,.string a.to,.int .i64 a.pos,.int .i64 a.num,.slice ba bn bc] 30
 r8:aC wr (W.heap.size+1+1+1) #[.slice none 0 0] 24
 r9:aC wr (W.heap.size+1+1+1+1) #[.string (ByteArray.mk #[]),.slice none 0 0,.slice none 0 0] 84
theorem DB.below {W wr w':World}{sa:Option Addr}{n sc:Nat}{v:cB}{a:aP}{ba:Option Addr}{bn bc:Nat}(h:DB W wr sa n sc v a ba bn bc)(b:Below wr.heap.size wr w'):DB W w' sa n sc v a ba bn bc:=⟨Below.tr h.bel b,Nat.le_trans h.sz b.size,h.bS.below b,h.bX.below b,h.bA.below b,h.r8.below b,h.r9.below b⟩
abbrev cI0 (w:World)(sa:Option Addr)(n sc:Nat)(v:cB)(a:aP)(ba:Option Addr)(bn bc:Nat):World:=
 ((((w.alloc (.cells #[.slice sa n sc] 24)).alloc (.cells #[.string v.name,.slice v.fa v.fn v.fc,.slice v.sa v.sn v.sc] 84)).alloc (.cells #[.int .i64 a.kind,.string a.set,.string a.file,.string a.to,.int .i64 a.pos,.int .i64 a.num,.slice ba bn bc] 30)).alloc (.cells #[.slice none 0 0] 24)).alloc (.cells #[.string (ByteArray.mk #[]),.slice none 0 0,.slice none 0 0] 84)
theorem cD7 (w:World)(sa:Option Addr)(n sc:Nat)(v:cB)(a:aP)(ba:Option Addr)(bn bc:Nat):DB w (cI0 w sa n sc v a ba bn bc) sa n sc v a ba bn bc:=by
 have h1:=aB w #[.slice sa n sc] 24
 have h2:=aB (w.alloc (.cells #[.slice sa n sc] 24)) #[.string v.name,.slice v.fa v.fn v.fc,.slice v.sa v.sn v.sc] 84
 have h3:=aB ((w.alloc (.cells #[.slice sa n sc] 24)).alloc (.cells #[.string v.name,.slice v.fa v.fn v.fc,.slice v.sa v.sn v.sc] 84)) #[.int .i64 a.kind,.string a.set,.string a.file,.string a.to,.int .i64 a.pos,.int .i64 a.num,.slice ba bn bc] 30
 have h4:=aB (((w.alloc (.cells #[.slice sa n sc] 24)).alloc (.cells #[.string v.name,.slice v.fa v.fn v.fc,.slice v.sa v.sn v.sc] 84)).alloc (.cells #[.int .i64 a.kind,.string a.set,.string a.file,.string a.to,.int .i64 a.pos,.int .i64 a.num,.slice ba bn bc] 30)) #[.slice none 0 0] 24
 have h5:=aB ((((w.alloc (.cells #[.slice sa n sc] 24)).alloc (.cells #[.string v.name,.slice v.fa v.fn v.fc,.slice v.sa v.sn v.sc] 84)).alloc (.cells #[.int .i64 a.kind,.string a.set,.string a.file,.string a.to,.int .i64 a.pos,.int .i64 a.num,.slice ba bn bc] 30)).alloc (.cells #[.slice none 0 0] 24)) #[.string (ByteArray.mk #[]),.slice none 0 0,.slice none 0 0] 84
 simp only[mQ] at h2 h3 h4 h5
 exact⟨bAl (bAl (bAl (bAl (bAl (Below.refl _ w) _) _) _) _) _,by simp,(((h1.below (aA _ _)).below (aA _ _)).below (aA _ _)).below (aA _ _),((h2.below (aA _ _)).below (aA _ _)).below (aA _ _),(h3.below (aA _ _)).below (aA _ _),h4.below (aA _ _),h5⟩
theorem DB.put {W wr:World}{sa:Option Addr}{n sc:Nat}{v:cB}{a:aP}{ba:Option Addr}{bn bc:Nat}(h:DB W wr sa n sc v a ba bn bc)(s:Value)(u:cB):Below W.heap.size W (bA5 (wr.setCell ⟨W.heap.size+1+1+1,0,none⟩ s) (W.heap.size+1+1+1+1) u):=
 (h.bel.trans ((gT wr (W.heap.size+1+1+1) s).below (by omega))).trans ((jF _ _ u).below (by omega))
theorem aC5 (Q:Nat->Prop)(v:cB)(x:aK)(w:World)(hX:dK Q w v x)(hs:Shape x):
 Calls Tryz.prog 33 #[.agg #[.string v.name,.slice v.fa v.fn v.fc,.slice v.sa v.sn v.sc]] w fun e w'=>(∃ (u:cB) (ms:List aZ) (lo:Nat),e=.returned (.agg #[.string u.name,.slice u.fa u.fn u.fc,.slice u.sa u.sn u.sc])/\w.heap.size<=lo/\fQ lo (fun b=>lo<=b) w' u x ms)/\Below w.heap.size w w':=by
 refine(aX4 Q v x w hX hs.few hs.fewS (fun s h=>(hs.filesS s h).1)).mono ?_
 rintro e w' ⟨⟨u,ms,rfl,hn⟩,b⟩
 exact⟨⟨u,ms,w.heap.size+2,rfl,by omega,hn⟩,b⟩
theorem vJ (Q:Nat->Prop)(v:cB)(x:aK)(nm:ByteArray)(w:World)(hX:dK Q w v x)(hs:Shape x)(hnm:v.name=nm):
 Calls Tryz.prog 84 #[.agg #[.string nm,.slice v.fa v.fn v.fc,.slice v.sa v.sn v.sc]] w fun e w'=>(∃ (a:Option Addr) (c lo:Nat),e=.returned (.slice a (aG x).length c)/\w.heap.size<=lo/\w'.ownsRow lo 3 1 (.slice a (aG x).length c) (aG x).length ((aG x).map (Value.int .i64))/\(∀ r∈aG x,(Lit.int .i64 r).wf=true)/\lo<=w'.heap.size)/\Below w.heap.size w w':=by
 subst hnm
 refine(wR Q v x w hX hs.few hs.fewS (fun s h=>(hs.filesS s h).1)).mono ?_
 rintro e w' ⟨⟨a,c,h1,h2,h3⟩,b⟩
 exact⟨⟨a,c,w.heap.size,h1,Nat.le_refl _,h2,h3,b.size⟩,b⟩
theorem kV.made {n:Nat}{B C:Nat->Blk}{key:Int}{x y:aK}{a:aP}{made cc:Int}(h:kV n B C key x a made y cc)(hB:Right n B):(made=0\/(1<=made/\made<=n))/\n<=400:=by
 have h4:=hB.small
 have ht:∀ {C:Nat->Blk} {c:Int},Turned n B C made c->(made=0\/(1<=made/\made<=n)):=fun h=>by
  rcases h.root with h | ⟨⟨h1,h2,_⟩,_⟩
  ·exact .inl h
  ·exact .inr ⟨h1,h2⟩
 rcases h with⟨_,_,_,_,_,_,h,_⟩ | ⟨_,_,_,_,_,_,h,_⟩ | ⟨_,_,h⟩
 ·exact⟨ht h.turned,h4⟩
 ·exact⟨ht h.turned,h4⟩
 ·exact⟨.inl h,h4⟩
theorem sG {w5 cur wA:World}{lo n:Nat}{v:Value}{xs:List Value}(bb:Below w5.heap.size w5 cur)(hr:cur.ownsRow lo 3 1 v n xs)(hlo:w5.heap.size<=lo)(hg:cur.grownBy wA v.ownBlock):Below w5.heap.size w5 wA:=bb.grown hg bb.size (fun i hi=>Nat.le_trans hlo (hr.lt i hi).1)
theorem vV {cur wA:World}{lo n hi:Nat}{v:Value}{xs:List Value}(hr:cur.ownsRow lo 3 1 v n xs)(hhi:∀ b,v.ownBlock=some b->b<hi)(hg:cur.grownBy wA v.ownBlock){ya:Option Addr}{yn l h:Nat}{R:List Int}(hN:aI (fun b=>l<=b/\b<h) .i64 cur ya yn R)(hap:h<=lo\/hi<=l):aI (fun b=>l<=b/\b<h) .i64 wA ya yn R:=
 (⟨hg.os,hg.tape,hg.output,hg.size,fun k hk hm=>hg.block k hk (fun e=>hm e.symm)⟩:Only (fun b=>v.ownBlock=some b) cur wA).nums hN (fun k q e=>by have h1:=(hr.lt k e).1; have h2:=hhi k e; omega)
theorem rJ {w:World}{A:Nat}{c:Value}{t:TypeId}(h:aC w A #[c] t):∀ j u,[c][j]? =some u->w.cell? ((⟨A,0,none⟩:Addr).add j)=some u:=fun j u hu=>by
 match j,hu with
 | 0,hu=>
   have:=h.cell 0
   simp at this hu
   subst hu
   have hadd:(⟨A,0,none⟩:Addr).add 0=⟨A,0,none⟩:=by unfold Addr.add; split<;>simp_all
   rw[hadd]
   exact this
 | k+1,hu=>simp at hu
theorem vL {w:World}{lo g gA cap:Nat}{R:List Int}{m:Int}(hr:w.ownsRow lo 3 1 (.slice (some ⟨gA,0,none⟩) (R.length+1) cap) (R.length+1) (R.map (Value.int .i64)++[.int .i64 m]))(hw:∀ r∈R,(Lit.int .i64 r).wf=true)(hm:-9223372036854775808<=m/\m<=9223372036854775807)(hg:g<lo):aI (fun b=>b≠g) .i64 w (some ⟨gA,0,none⟩) (R.length+1) (R++[m]):=by
 have e:R.map (Value.int .i64)++[.int .i64 m]=(R++[m]).map (Value.int .i64):=by simp
 rw[e] at hr
 obtain⟨a,c,hv,_,hN⟩:=gH (fun r hr=>by
  rcases List.mem_append.1 hr with h | h
  ·exact hw r h
  ·simp at h; subst h; exact WalkArith.wf_i64 hm) hr
 simp only[Value.slice.injEq] at hv
 obtain⟨rfl,_,rfl⟩:=hv
 exact hN.weaken (fun b _ h=>by omega)
theorem aF3 {w:World}{lo:Nat}{a:Option Addr}{c:Nat}{R:List Int}(hr:w.ownsRow lo 3 1 (.slice a R.length c) R.length (R.map (Value.int .i64)))(hw:∀ r∈R,(Lit.int .i64 r).wf=true):aI (fun b=>lo<=b/\b<w.heap.size) .i64 w a R.length R:=by
 obtain⟨a', c', hv,_,hN⟩:=gH hw hr
 simp only[Value.slice.injEq] at hv
 obtain⟨rfl,_,rfl⟩:=hv
 exact hN.weaken (fun b hb h=>⟨h,hb⟩)
def bX9 (w2 wc:World)(n ob yb g:Nat)(C:Nat->Blk)(v:cB)(x y:aK)(made:Int):Prop:=
 ∃ (D:Nat->Blk) (L:Nat->Prop) (ms:List aZ),Right n D/\iU n (eX C (aG y)) D (aG x++[made])/\Own wc g n D/\wc.cell? ⟨ob,0,none⟩=some (.slice (some ⟨g,0,none⟩) n n)/\aC wc yb #[.string y.name,.slice v.fa v.fn v.fc,.slice v.sa v.sn v.sc] 84/\fQ w2.heap.size L wc v y ms/\(∀ b,L b->w2.heap.size<=b)/\Below w2.heap.size w2 wc/\ob<wc.heap.size
theorem cP6 {w2 w5 cur w8:World}{L:Nat->Prop}{n ob yb g:Nat}{C D:Nat->Blk}{v:cB}{x y:aK}{ms:List aZ}{made:Int}(b5:Below w2.heap.size w2 w5)(hT:Two w2.heap.size L w5 ob yb g n C v y ms)(bb:Below w5.heap.size w5 cur)(ho:Out g cur w8)(hP:dF w8 ⟨ob,0,none⟩ g n D)(hR:Right n D)(hF:iU n (eX C (aG y)) D (aG x++[made])):bX9 w2 w8 n ob yb g C v x y made:=by
 have on:Only (fun b=>b=g) cur w8:=Only.of_out ho rfl
 exact⟨D,L,ms,hR,hF,hP.own,hP.cell,on.cells (hT.set.box.below bb) (fun e=>hT.ng.1 e.symm),(hT.set.new.below bb).only on (fun b hb e=>hT.ng.2.1 (e▸hb)) (fun b hb e=>hT.ng.2.2.1 (e▸hb)),hT.lb,(Below.tr b5 bb).trans (ho.below hT.ng.2.2.2 (Nat.le_trans b5.size bb.size)),hP.lt⟩
theorem bX9.keep {w2 wc:World}{n ob yb g:Nat}{C:Nat->Blk}{v:cB}{x y:aK}{made:Int}(h:bX9 w2 wc n ob yb g C v x y made):Below w2.heap.size w2 wc:=by
 obtain⟨_,_,_,_,_,_,_,_,_,_,h,_⟩:=h
 exact h
theorem bX9.y0 {w2 wc:World}{n ob yb g:Nat}{C:Nat->Blk}{v:cB}{x y:aK}{made:Int}(h:bX9 w2 wc n ob yb g C v x y made):wc.cell? ⟨yb,0,none⟩=some (.string y.name):=by
 obtain⟨_,_,_,_,_,_,_,h,_⟩:=h
 exact h.cell 0
theorem bX9.y1 {w2 wc:World}{n ob yb g:Nat}{C:Nat->Blk}{v:cB}{x y:aK}{made:Int}(h:bX9 w2 wc n ob yb g C v x y made):wc.cell? ⟨yb,1,none⟩=some (.slice v.fa v.fn v.fc):=by
 obtain⟨_,_,_,_,_,_,_,h,_⟩:=h
 exact h.cell 1
theorem bX9.y2 {w2 wc:World}{n ob yb g:Nat}{C:Nat->Blk}{v:cB}{x y:aK}{made:Int}(h:bX9 w2 wc n ob yb g C v x y made):wc.cell? ⟨yb,2,none⟩=some (.slice v.sa v.sn v.sc):=by
 obtain⟨_,_,_,_,_,_,_,h,_⟩:=h
 exact h.cell 2
theorem cK8 {w w2 WC:World}{sa:Option Addr}{n sc:Nat}{B C D:Nat->Blk}{key:Int}{v v3:cB}{x y:aK}{a:aP}{ba:Option Addr}{bn bc g':Nat}{cc made:Int}{L:Nat->Prop}{ms:List aZ}(hdb:DB w WC sa n sc v a ba bn bc)(hsz2:w.heap.size+5<=w2.heap.size)(g8:w2.heap.size<=g')(hx:aV n B key x)(hh:dY n B (aG x))(hYes:kV n B C key x a made y cc)(hRD:Right n D)(hFD:iU n (eX C (aG y)) D (aG x++[made]))(hOD:Own WC g' n D)(hSN:fQ w2.heap.size L WC v3 y ms)(hL:∀ b,L b->w2.heap.size<=b):
 uV w n B key x a cc (.returned (.tuple #[.agg #[.slice (some ⟨g', 0,none⟩) n n],.agg #[.string y.name,.slice v3.fa v3.fn v3.fc,.slice v3.sa v3.sn v3.sc],.int .i64 0])) (bA5 (WC.setCell ⟨w.heap.size+1+1+1,0,none⟩ (.slice (some ⟨g', 0,none⟩) n n)) (w.heap.size+1+1+1+1) ⟨y.name,v3.fa,v3.fn,v3.fc,v3.sa,v3.sn,v3.sc⟩):=by
 have k1:=gT WC (w.heap.size+1+1+1) (.slice (some ⟨g', 0,none⟩) n n)
 have k2:=jF (WC.setCell ⟨w.heap.size+1+1+1,0,none⟩ (.slice (some ⟨g', 0,none⟩) n n)) (w.heap.size+1+1+1+1) ⟨y.name,v3.fa,v3.fn,v3.fc,v3.sa,v3.sn,v3.sc⟩
 have o1:=Only.of_kept (M:=fun k=>k=w.heap.size+1+1+1\/k=w.heap.size+1+1+1+1) k1 (.inl rfl)
 have o2:=Only.of_kept (M:=fun k=>k=w.heap.size+1+1+1\/k=w.heap.size+1+1+1+1) k2 (.inr rfl)
 have on:=o1.trans o2
 have hS2:=(hSN.only on (fun b hb m=>by have:=(hSN.mine_ge hb).1; omega) (fun b hb m=>by have:=hL b hb; omega)).at
 refine⟨hdb.put _ _,.inr ⟨g', D,⟨y.name,v3.fa,v3.fn,v3.fc,v3.sa,v3.sn,v3.sc⟩,y,rfl,hx,hh,⟨C,made,hYes,hRD,hFD⟩,⟨by omega,rG hOD on (fun b _ m=>by omega)⟩,?_⟩⟩
 exact⟨rfl,hS2.small,hS2.files.weaken (fun b _ h=>by rcases h with h | h; (· omega); have:=hL b h; omega),hS2.snaps.weaken (fun b _ h=>by rcases h with h | h; (· omega); have:=hL b h; omega),hS2.caps⟩
theorem cL5 {n:Nat}{B C D E:Nat->Blk}{key cc made made':Int}{x y y':aK}{a:aP}{f:Int->Int}{R:List Int}(hB:Right n B)(hD:Right n D)(hcc:0<=cc/\cc<=999936)(rB:bE n B R)(rD:bE n D (R.map f))(hI:Iso f B R D)(hx:Shape x)(hR:∀ r∈aG x,r∈R)
 (h:kV n B C key x a made y cc) (k:kV n D E key (fA f x) a made' y' cc):
 ∃ g,Iso g C (made::R) E/\g made=made'/\(∀ r,r=0\/Clo B R r->g r=f r)/\y'=fA g y:=by
 have hP:∀ {x y:aK},Plain x a y->5<=a.kind:=fun h=>by
  rcases h with⟨e,_⟩ | ⟨e,_⟩ | ⟨e,_⟩ | ⟨e,_⟩ | ⟨e,_⟩<;>omega
 have hl:∀ root,root=0\/Clo B R root->aH D 3 (f root)=aH B 3 root:=fun root hr=>funext fun i=>hI.leaf 3 root hr i
 rcases h with⟨hk,_,_,h⟩ | ⟨hk,_,_,h⟩ | ⟨h,rfl,rfl⟩
 ·rcases k with⟨_,_,_,k⟩ | ⟨e,_⟩ | ⟨k,_⟩
  ·refine aI6 hB hD hcc rB rD hI hx hR (fun root size hr=>?_) h k
   unfold pJ; rw[hl root hr]
  ·omega
  ·have:=hP k; omega
 ·rcases k with⟨e,_⟩ | ⟨_,_,_,k⟩ | ⟨k,_⟩
  ·omega
  ·refine aI6 hB hD hcc rB rD hI hx hR (fun root size hr=>?_) h k
   unfold cL1; rw[hl root hr]
  ·have:=hP k; omega
 ·rcases k with⟨e,_⟩ | ⟨e,_⟩ | ⟨k,rfl,rfl⟩
  ·have:=hP h; omega
  ·have:=hP h; omega
  ·exact⟨f,hI.more (.inl rfl),hI.zero,fun _ _=>rfl,bP5 hx h k⟩
theorem aA7 {x:aK}{r:Int}:r∈aG x↔∃ e∈kK x,e.root=r:=by rw[gL]; exact bV
theorem bW4 {n:Nat}{B C:Nat->Blk}{key cc made:Int}{x y:aK}{a:aP}(hx:aV n B key x)(hb:Bytes a.bytes)(h:kV n B C key x a made y cc):∀ r∈aG y,r=made\/r∈aG x:=by
 have hcount:(∀ r:Int,(aG y).count r<=(aG x).count r+[made].count r)->∀ r∈aG y,r=made\/r∈aG x:=fun h r hr=>by
  have h1:=List.count_pos_iff.2 hr
  have h2:=h r
  by_cases e:r=made
  ·exact .inl e
  ·right
   rw[List.count_cons_of_ne (fun f=>e f.symm)] at h2
   simp only[List.count_nil,Nat.add_zero] at h2
   exact List.count_pos_iff.1 (by omega)
 rcases h with⟨_,hn,ho,h⟩ | ⟨_,hn,ho,h⟩ | ⟨h,_,_⟩
 ·obtain⟨_,_,_,_,h5,_⟩:=mP hx hn (sQ hb ho) h
  exact hcount h5
 ·obtain⟨_,_,_,_,h5,_⟩:=mP hx hn (aP4 ho) h
  exact hcount h5
 ·intro r hr
  right
  obtain⟨e,he,rfl⟩:=aA7.1 hr
  have fin:∀ e'∈kK x,e'.root=e.root->e.root∈aG x:=fun e' h1 h2=>aA7.2 ⟨e', h1,h2⟩
  rcases h with⟨_,p,hp,_,rfl⟩ | ⟨_,_,p,q,hp,_,_,_,rfl⟩ | ⟨_,_,q,_,_,rfl⟩ | ⟨_,_,q,hq,_,rfl⟩ | ⟨_,_,q,hq,_,rfl⟩
  ·rcases List.mem_append.1 he with he | he
   ·exact fin e (List.mem_append_left _ (List.mem_of_mem_eraseIdx he)) rfl
   ·exact fin e (List.mem_append_right _ he) rfl
  ·rcases List.mem_append.1 he with he | he
   ·rcases List.mem_append.1 he with he | he
    ·exact fin e (List.mem_append_left _ (List.mem_of_mem_eraseIdx (List.mem_of_mem_take he))) rfl
    ·rcases List.mem_cons.1 he with rfl | he
     ·exact fin x.files[p] (List.mem_append_left _ (List.getElem_mem hp)) rfl
     ·exact fin e (List.mem_append_left _ (List.mem_of_mem_eraseIdx (List.mem_of_mem_drop he))) rfl
   ·exact fin e (List.mem_append_right _ he) rfl
  ·rcases List.mem_append.1 he with he | he
   ·exact fin e (List.mem_append_left _ he) rfl
   ·obtain⟨s,hs,he⟩:=List.mem_flatMap.1 he
    rcases List.mem_append.1 hs with hs | hs
    ·exact fin e (List.mem_append_right _ (List.mem_flatMap.2 ⟨s,List.mem_of_mem_take hs,he⟩)) rfl
    ·rcases List.mem_cons.1 hs with rfl | hs
     ·exact fin e (List.mem_append_left _ he) rfl
     ·exact fin e (List.mem_append_right _ (List.mem_flatMap.2 ⟨s,List.mem_of_mem_drop hs,he⟩)) rfl
  ·rcases List.mem_append.1 he with he | he
   ·exact fin e (List.mem_append_left _ he) rfl
   ·obtain⟨s,hs,he⟩:=List.mem_flatMap.1 he
    exact fin e (List.mem_append_right _ (List.mem_flatMap.2 ⟨s,List.mem_of_mem_eraseIdx hs,he⟩)) rfl
  ·rcases List.mem_append.1 he with he | he
   ·exact fin e (List.mem_append_right _ (List.mem_flatMap.2 ⟨x.snaps[q],List.getElem_mem hq,he⟩)) rfl
   ·exact fin e (List.mem_append_right _ he) rfl
theorem cK9 {n:Nat}{B D B' D':Nat->Blk}{key cc:Int}{x y y':aK}{a:aP}{f:Int->Int}{R0:List Int}(hx:aV n B key x)(hD:Right n D)(hb:Bytes a.bytes)(hcc:0<=cc/\cc<=999936)(rB:bE n B (aG x++R0))(rD:bE n D ((aG x++R0).map f))(hI:Iso f B (aG x++R0) D)
 (h:Did n B key x a cc B' y) (k:Did n D key (fA f x) a cc D' y') (rB':bE n B' (aG y++R0)) (rD':bE n D' (aG y'++R0.map f)):
 ∃ g,Iso g B' (aG y++R0) D'/\y'=fA g y/\∀ r∈R0,g r=f r:=by
 obtain⟨C,made,hy,hR', hF⟩:=h
 obtain⟨E,made', ky,kR', kF⟩:=k
 obtain⟨g,g1,g2,g3,g4⟩:=cL5 hx.right hD hcc rB rD hI hx.shape (fun r hr=>List.mem_append_left _ hr) hy ky
 have g0:∀ r∈R0,g r=f r:=fun r hr=>g3 r (bB3 (List.mem_append_right _ hr))
 have hm:(aG y++R0).map g=aG y'++R0.map f:=by
  rw[List.map_append,g4,zW,List.map_congr_left g0]
 have hsub:Iso g C (aG y++R0) E:=g1.sub fun r hr h0=>by
  rcases List.mem_append.1 hr with hr | hr
  ·rcases bW4 hx hb hy r hr with rfl | hr
   ·exact Clo.root List.mem_cons_self h0
   ·exact Clo.root (List.mem_cons_of_mem _ (List.mem_append_left _ hr)) h0
  ·exact Clo.root (List.mem_cons_of_mem _ (List.mem_append_right _ hr)) h0
 have hmore:∀ (B:Nat->Blk) (K S:List Int),eH B (eX B K) S:=fun B K S x _=>⟨rfl,rfl,rfl⟩
 refine⟨g,hsub.keep ((hmore C _ _).trans (hF.sameOn hR' rB')) ((hmore E (aG y') _).trans (kF.sameOn kR' ?_)),g4,g0⟩
 rw[hm]; exact rD'
end Go.Proofs.YtjafgnohlkkopaaGreatDoor
namespace Go.Proofs.YtjafgnohlkkopaaGreatDoor
theorem aQ4 {B:Nat->Blk}:∀ (l:List aO),(∀ t∈l,∃ m,qU B (aL t) m/\m<=t.quota)->∃ U:List Int,(∀ t∈l,∀ x,Clo B (aL t) x->x∈U)/\(U.length:Int)<=nK l
 | [],_=>⟨[],fun t ht=>absurd ht (by simp),by simp[nK]⟩
 | t::l,h=>by
   obtain⟨U,h1,h2⟩:=aQ4 l fun u hu=>h u (List.mem_cons_of_mem _ hu)
   obtain⟨m,⟨L,_,h3,rfl⟩,h4⟩:=h t List.mem_cons_self
   refine⟨L++U,fun u hu x hx=>?_,?_⟩
   ·rcases List.mem_cons.1 hu with rfl | hu
    ·exact List.mem_append_left _ ((h3 x).2 hx)
    ·exact List.mem_append_right _ (h1 u hu x hx)
   ·have e:nK (t::l)=t.quota+nK l:=by simp[nK]
    rw[e,List.length_append]
    omega
theorem zP:∀ n,cO (fun _=>Blk.zero) n=0
 | 0=>rfl
 | n+1=>by rw[dW,zP n]; rfl
theorem aQ.used {n:Nat}{B:Nat->Blk}{l:List aO}(h:aQ n B l):(cO B n:Int)<=nK l:=by
 obtain⟨U,h1,h2⟩:=aQ4 l h.uses
 have key:∀ k,k<n->0<(B k).refs->0<((fun _=>Blk.zero) k:Blk).refs\/((k:Int)+1)∈U:=by
  intro k hk h0
  right
  have hc:=qR h.right (l:=gM l) (fun i hi ho=>by
   rw[h.held i hi] at ho
   exact List.count_pos_iff.1 (by omega)) k hk (by omega)
  obtain⟨t,ht,hx⟩:∃ t∈l,Clo B (aL t) ((k:Int)+1):=by
   refine hc (fun y=>∃ t∈l,Clo B (aL t) y) (fun r hr hr0=>?_) fun y hy z hz hz0=>?_
   ·obtain⟨t,ht,hr⟩:=List.mem_flatMap.1 hr
    exact⟨t,ht,Clo.root hr hr0⟩
   ·obtain⟨t,ht,hy⟩:=hy
    exact⟨t,ht,hy.kid hz hz0⟩
  exact h1 t ht _ hx
 have a:=qC key
 have b:=xU (jO (L:=U) n) (M:=U) fun x hx=>(kG hx).1
 rw[zP] at a
 omega
theorem aQ.roomy {n:Nat}{B:Nat->Blk}{l:List aO}(h:aQ n B l)(h0:0<l.length)(c:Nat):¬sH n B c:=fun⟨_,ht⟩=>by
 have:=h.used
 have:=h.room h0
 omega
theorem Iso.uses {f:Int->Int}{B D:Nat->Blk}{R:List Int}(h:Iso f B R D){m k:Int}(hm:qU B R m)(hk:qU D (R.map f) k):m=k:=by
 obtain⟨L,h1,h2,rfl⟩:=hm
 obtain⟨M,k1,k2,rfl⟩:=hk
 rw[h.many h1 h2 k1 k2]
def aM2 (f:Int->Int)(t:aO):aO:=⟨t.key,t.quota,t.sets.map (fA f)⟩
theorem oM (f:Int->Int):∀ l:List aK,cZ (l.map (fA f))=(cZ l).map f
 | []=>rfl
 | x::l=>by
   have h:=oM f l
   unfold cZ at h ⊢
   rw[List.map_cons,List.flatMap_cons,List.flatMap_cons,List.map_append,h,zW]
theorem jT (f:Int->Int)(t:aO):aL (aM2 f t)=(aL t).map f:=oM f t.sets
theorem bI3 {f g:Int->Int}{l:List aK}(h:∀ r∈cZ l,g r=f r):l.map (fA g)=l.map (fA f):=List.map_congr_left fun x hx=>aA8 fun r hr=>h r (List.mem_flatMap.2 ⟨x,hx,hr⟩)
theorem gJ.sameOn {n:Nat}{B C:Nat->Blk}{l:List Int}(h:gJ n B C l):eH B C l:=fun x hx=>(h x hx).2
end Go.Proofs.YtjafgnohlkkopaaGreatDoor
namespace Go.Proofs.YtjafgnohlkkopaaGreatDoor
open Go.RowKit
def aY4 (x:aK)(a:aP):Prop:=
 (a.kind=3/\aM a.file/\okW a/\((∃ f∈x.files,f.nm=a.file.data.toList)\/x.files.length<6))\/(a.kind=4/\aM a.file/\okC x a)\/(a.kind=5/\∃ f∈x.files,f.nm=a.file.data.toList)\/(a.kind=6/\oH x a)\/(a.kind=7/\yZ x a)\/((a.kind=8\/a.kind=9)/\oG x a)
theorem cP5 {f:Int->Int}{x:aK}{t:List UInt8}:(∃ e∈(fA f x).files,e.nm=t)↔∃ e∈x.files,e.nm=t:=aG6
theorem cT0 {f:Int->Int}{x:aK}{t:List UInt8}:(∃ e∈(fA f x).snaps,e.nm=t)↔∃ e∈x.snaps,e.nm=t:=cC8
theorem cV8 {f:Int->Int}{x:aK}:(fA f x).files.length=x.files.length:=rQ f x.files
theorem cV7 {f:Int->Int}{x:aK}:(fA f x).snaps.length=x.snaps.length:=bB4 f x.snaps
theorem yN {f:Int->Int}{x:aK}{a:aP}:aY4 (fA f x) a↔aY4 x a:=by
 unfold aY4 okC oH yZ oG
 rw[cP5,cP5,cT0,cV8,cV7]
theorem kV.can {n:Nat}{B C:Nat->Blk}{key cc made:Int}{x y:aK}{a:aP}(h:kV n B C key x a made y cc):aY4 x a:=by
 rcases h with⟨hk,hn,ho,root,size,_,_,p,ht⟩ | ⟨hk,hn,ho,_⟩ | ⟨h,_,_⟩
 ·refine .inl ⟨hk,hn,ho,?_⟩
  rcases ht with⟨hp,h1,_⟩ | ⟨_,_,_,h6,_⟩
  ·exact .inl ⟨_,List.getElem_mem hp,h1⟩
  ·exact .inr h6
 ·exact .inr (.inl ⟨hk,hn,ho⟩)
 ·rcases h with⟨hk,p,hp,h1,_⟩ | ⟨hk,h,_⟩ | ⟨hk,h,_⟩ | ⟨hk,h,_⟩ | ⟨hk,h,_⟩
  ·exact .inr (.inr (.inl ⟨hk,_,List.getElem_mem hp,h1⟩))
  ·exact .inr (.inr (.inr (.inl ⟨hk,h⟩)))
  ·exact .inr (.inr (.inr (.inr (.inl ⟨hk,h⟩))))
  ·exact .inr (.inr (.inr (.inr (.inr ⟨.inl hk,h⟩))))
  ·exact .inr (.inr (.inr (.inr (.inr ⟨.inr hk,h⟩))))
theorem NoRoom.no {n:Nat}{B:Nat->Blk}{key:Int}{x:aK}{nm:ByteArray}{N:Int->Int->List Int}(ht:∀ c,¬sH n B c)(h:NoRoom n B key x nm N):False:=by
 obtain⟨_,_,_,h⟩:=h
 exact ht _ h
theorem lQ.cannot {n:Nat}{B:Nat->Blk}{key e:Int}{x:aK}{a:aP}(ht:∀ c,¬sH n B c)(h:lQ n B key e x a)(hno:zN n B key x a):¬aY4 x a:=by
 rintro (⟨hk,h1,h2,h3⟩ | ⟨hk,h1,h2⟩ | ⟨hk,h1⟩ | ⟨hk,h1⟩ | ⟨hk,h1⟩ | ⟨hk,h1⟩)
 ·exact((h.write hk).room h1 h2 h3).2.no ht
 ·exact((h.cut hk).room h1 h2 (.inl h2.2)).2.no ht
 ·exact(h.remove hk).2 h1
 ·exact hno.2.1 hk h1
 ·exact hno.2.2.1 hk h1
 ·rcases hk with hk | hk
  ·exact hno.2.2.2.1 hk h1
  ·exact hno.2.2.2.2 hk h1
theorem bX4.same {n:Nat}{B D:Nat->Blk}{key:Int}{x x':aK}{nm:ByteArray}{ok ok':Prop}{bad bad':Int->Prop}{N N':Int->Int->List Int}{e e':Int}(hB:∀ c,¬sH n B c)(hD:∀ c,¬sH n D c)(hok:ok↔ok')(hbad:bad e->bad' e'->e=e')(h:bX4 n B key x nm ok bad N e)(k:bX4 n D key x' nm ok' bad' N' e'):e=e':=by
 by_cases hn:aM nm
 ·by_cases ho:ok
  ·have h1:=(h.2.2 hn ho).resolve_left fun f=>NoRoom.no (key:=key) (x:=x) (nm:=nm) (N:=N) hB f.2
   have k1:=(k.2.2 hn (hok.1 ho)).resolve_left fun f=>NoRoom.no (key:=key) (x:=x') (nm:=nm) (N:=N') hD f.2
   rw[h1.1,k1.1]
  ·exact hbad (h.2.1 hn ho) (k.2.1 hn fun f=>ho (hok.2 f))
 ·rw[h.1 hn,k.1 hn]
theorem lQ.same {n:Nat}{B D:Nat->Blk}{key e e':Int}{x:aK}{a:aP}{f:Int->Int}(hB:∀ c,¬sH n B c)(hD:∀ c,¬sH n D c)(h:lQ n B key e x a)(k:lQ n D key e' (fA f x) a):e=e':=by
 by_cases h3:a.kind=3
 ·exact(h.write h3).same hB hD Iff.rfl (fun e1 e2=>by rw[e1,e2]) (k.write h3)
 by_cases h4:a.kind=4
 ·refine(h.cut h4).same hB hD (by unfold okC; rw[cP5]) (fun e1 e2=>?_) (k.cut h4)
  unfold aR1 at e1 e2
  rw[cP5] at e2
  rcases e1 with⟨p,rfl⟩ | ⟨p,rfl⟩
  ·rcases e2 with⟨_,rfl⟩ | ⟨q,rfl⟩
   ·rfl
   ·exact absurd p q
  ·rcases e2 with⟨q,rfl⟩ | ⟨_,rfl⟩
   ·exact absurd q p
   ·rfl
 by_cases h5:a.kind=5
 ·rw[(h.remove h5).1,(k.remove h5).1]
 by_cases h6:a.kind=6
 ·have e1:=h.rename h6
  have e2:=k.rename h6
  unfold cG3 at e1 e2
  rw[cP5] at e2
  rcases e1 with⟨p,rfl⟩ | ⟨p,p', rfl⟩ | ⟨p,p', rfl⟩<;>rcases e2 with⟨q,rfl⟩ | ⟨q,q', rfl⟩ | ⟨q,q', rfl⟩<;>first | rfl | exact absurd p q | exact absurd q p | exact absurd p' q' | exact absurd q' p'
 by_cases h7:a.kind=7
 ·have e1:=h.snap h7
  have e2:=k.snap h7
  unfold bE3 at e1 e2
  rw[cT0] at e2
  rcases e1 with⟨p,rfl⟩ | ⟨p,p', rfl⟩ | ⟨p,p', rfl⟩<;>rcases e2 with⟨q,rfl⟩ | ⟨q,q', rfl⟩ | ⟨q,q', rfl⟩<;>first | rfl | exact absurd p q | exact absurd q p | exact absurd p' q' | exact absurd q' p'
 by_cases h8:a.kind=8\/a.kind=9
 ·have e1:=h.old h8
  have e2:=k.old h8
  unfold aQ9 at e1 e2
  rcases e1 with⟨p,rfl⟩ | ⟨p,rfl⟩<;>rcases e2 with⟨q,rfl⟩ | ⟨q,rfl⟩<;>first | rfl | exact absurd p q | exact absurd q p
 ·rw[h.other (by omega),k.other (by omega)]
theorem bQ.rootOk {n:Nat}{B:Nat->Blk}{key r s:Int}(h:bQ n B key r s):r=0\/There n B r:=by
 rcases h.rooted with h | h
 ·exact .inl h
 ·exact .inr h.1
theorem aV.rootsOk {n:Nat}{B:Nat->Blk}{key:Int}{x:aK}(h:aV n B key x):bE n B (aG x):=fun r hr=>by
 rw[gL] at hr
 obtain⟨e,he,rfl⟩:=bV.1 hr
 exact(h.ents e he).rootOk
theorem jK.rootsOk {n:Nat}{B:Nat->Blk}{t:aO}(h:jK n B t):bE n B (aL t):=fun r hr=>by
 obtain⟨x,hx,hr⟩:=List.mem_flatMap.1 hr
 exact(h.sets x hx).rootsOk r hr
def cU5 (base:Nat)(e:Ending)(w:World)(B:Nat->Blk)(R:List Int):Prop:=∃ (a:Option Addr) (ln c:Nat) (L:List Int),e=.returned (.slice a ln c)/\aI (fun b=>base<=b) .i64 w a ln L/\jH L/\∀ x,x∈L↔Clo B R x
theorem mW (Q:Nat->Prop)(a:Option Addr)(n c:Nat)(B:Nat->Blk)(t:aO)(sa:Option Addr)(sn sc:Nat)(w:World)(h:aN w a n B)(hT:sI Q w t sa sn sc)(hR:Right n B)(hok:jK n B t):
 Calls Tryz.prog 26 #[.agg #[.slice a n c],t.val sa sn sc] w fun e w'=>cU5 w.heap.size e w' B (aL t)/\Below w.heap.size w w':=by
 have b0:=aW w (.cells #[.slice a n c] 24) (.cells #[.int .i64 t.key,.int .i64 t.quota,.slice sa sn sc] 64)
 have k0:aC _ w.heap.size #[.slice a n c] 24:=(aB w _ _).below (aA _ (.cells #[.int .i64 t.key,.int .i64 t.quota,.slice sa sn sc] 64))
 have k1:=aF w (.cells #[.slice a n c] 24) #[.int .i64 t.key,.int .i64 t.quota,.slice sa sn sc] 64
 replace h:=hid (h.below b0)
 replace hT:=hid (hT.below b0)
 have hsh:=hid hok.shapes
 have h3:=hid hok.few
 have h72:=hid (sN hok)
 have hro:=hid hok.rootsOk
 replace hR:=hid hR
 replace hok:=hid hok
 replace k0:=hid k0
 replace k1:=hid k1
 unfold aO.val
 go_enter Tryz.func26,Tryz.ntmps26
 go_wp2_with fail
 generalize (w.alloc (.cells #[.slice a n c] 24)).alloc (.cells #[.int .i64 t.key,.int .i64 t.quota,.slice sa sn sc] 64)=w0 at *
 have s0:=k0.out.cell 0
 have x0:=k1.out.cell 0
 have x1:=k1.out.cell 1
 have x2:=k1.out.cell 2
 simp at s0 x0 x1 x2
 go_region_with (first | (go_at_call 54; refine Calls.mono (rA Q t sa sn sc _ ?_ hsh.out h3.out) ?_; exact hT.out.below (aD _ _); rintro e w2 ⟨⟨ra,rc,rfl,hrow,hrw⟩,b2⟩; have b12:=hid (Below.tr (aD _ w0) b2); have s2:=(b12.out.cell (p:=⟨w.heap.size,0,none⟩) k0.out.lt).trans s0; have hN2:=hid (bA3 hrow hrw); clear b2 hrow hrw) | (go_at_call 53; refine Calls.mono (zC a n c B ra _ rc (aL t) _ ?_ ?_ ?_) ?_; exact h.out.below b12.out; exact hN2.out.weaken (fun _ _ _=>trivial); (have:=h72.out; omega); rintro e w3 ⟨hRR,b3⟩; have b13:=hid (Below.tr b12.out b3); rcases hRR with⟨e', rfl,he,hno⟩ | ⟨_,v,L,rfl,hL,hri,hm⟩; (exact absurd ⟨hR.out,hro.out⟩ hno); obtain⟨la,lc,rfl,_,hNL⟩:=gH hL.2 hL.1; replace hNL:=hid hNL; replace hri:=hid hri; replace hm:=hid hm; clear hL b3))
 all_goals (clear s0 x0 x1 x2; go_wp2_with fail; go_ret; exact⟨⟨la,_,lc,L,rfl,hNL.out.weaken (fun b _ q=>by have:=b0.size; have:=b12.out.size; omega),hri.out,hm.out⟩,Below.tr b0 b13.out⟩)
structure aD0 (n:Nat)(B:Nat->Blk)(key:Int)(l:List aK)(j:Nat):Prop where
 sets:∀ x∈l.take j,aV n B key x
 order:(l.take j).Pairwise fun a b=>a.nm<b.nm
theorem aD0.next {n:Nat}{B:Nat->Blk}{key:Int}{l:List aK}{j:Nat}{x:aK}{s:List UInt8}(h:aD0 n B key l j)(hx:l[j]? =some x)(ha:Ahead aK.nm l j s)(hs:aV n B key x)(hn:s<x.nm):aD0 n B key l (j+1):=by
 refine⟨fun y hy=>?_,sS hx h.order ha hn⟩
 rw[eF hx] at hy
 rcases List.mem_append.1 hy with hy | hy
 ·exact h.sets y hy
 ·rw[List.mem_singleton.1 hy]; exact hs
def cJ3 (n:Nat)(B:Nat->Blk)(key:Int)(s:List UInt8)(x:aK)(c:Int):Prop:=¬aV n B key x/\cO4 n B key x c\/c=6/\aV n B key x/\¬s<x.nm
def cO1 (n:Nat)(B:Nat->Blk)(t:aO)(c:Int):Prop:=c=3/\¬((0<=t.key/\t.key<=1000)/\0<=t.quota/\t.quota<=400)\/((0<=t.key/\t.key<=1000)/\0<=t.quota/\t.quota<=400)/\(c=2/\¬t.sets.length<=3\/t.sets.length<=3/\nE aK.nm t.sets (aV n B t.key) (cJ3 n B t.key) c)
theorem aD0.first {n:Nat}{B:Nat->Blk}{key quota:Int}{l:List aK}{j:Nat}{x:aK}{s:List UInt8}{c:Int}(h:aD0 n B key l j)(hx:l[j]? =some x)(ha:Ahead aK.nm l j s)(h3:l.length<=3)(hk:(0<=key/\key<=1000)/\0<=quota/\quota<=400)(t:cJ3 n B key s x c):cO1 n B ⟨key,quota,l⟩ c:=.inr ⟨hk,.inr ⟨h3,j,x,s,hx,ha,h.sets,h.order,t⟩⟩
theorem aH6 (Q:Nat->Prop)(a:Option Addr)(n c:Nat)(B:Nat->Blk)(t:aO)(sa:Option Addr)(sn sc:Nat)(w:World)(h:aN w a n B)(hT:sI Q w t sa sn sc):
 Calls Tryz.prog 25 #[.agg #[.slice a n c],t.val sa sn sc] w fun e w'=>zB e (jK n B t) (cO1 n B t)/\Below w.heap.size w w':=by
 unfold aO.val
 have b0:=aW w (.cells #[.slice a n c] 24) (.cells #[.int .i64 t.key,.int .i64 t.quota,.slice sa sn sc] 64)
 have k0:aC _ w.heap.size #[.slice a n c] 24:=(aB w _ _).below (aA _ (.cells #[.int .i64 t.key,.int .i64 t.quota,.slice sa sn sc] 64))
 have k1:=aF w (.cells #[.slice a n c] 24) #[.int .i64 t.key,.int .i64 t.quota,.slice sa sn sc] 64
 have hsl:=hid hT.sets.1
 replace h:=hid (h.below b0)
 have hqb:=hT.qb
 have hS:=hid (hT.sets.below b0)
 clear hT
 replace k0:=hid k0
 replace k1:=hid k1
 obtain⟨key,quota,sets⟩:=t
 simp only at *
 go_enter Tryz.func25,Tryz.ntmps25
 go_wp2_with fail
 generalize (w.alloc (.cells #[.slice a n c] 24)).alloc (.cells #[.int .i64 key,.int .i64 quota,.slice sa sn sc] 64)=w0 at *
 have s0:=k0.out.cell 0
 have x0:=k1.out.cell 0
 have x1:=k1.out.cell 1
 have x2:=k1.out.cell 2
 simp at s0 x0 x1 x2
 by_cases hk:aI4 key 0=true
 ·have hkb:=lZ hk
  refine(rZ key 0 w0 hk).mono ?_
  rintro e w1 ⟨rfl,rfl⟩
  clear hk
  by_cases hq1:quota<0
  ·go_wp2_with fail
   go_ret
   exact⟨aU 3 (by omega) (fun f=>by have:=f.qb.1; simp only at this; omega) (.inl ⟨rfl,by simp only; omega⟩),b0⟩
  ·by_cases hq2:400<quota
   ·go_wp2_with fail
    go_ret
    exact⟨aU 3 (by omega) (fun f=>by have:=f.qb.2; simp only at this; omega) (.inl ⟨rfl,by simp only; omega⟩),b0⟩
   ·by_cases h3:(3:Int)<(sn:Int)
    ·go_wp2_with fail
     go_ret
     exact⟨aU 2 (by omega) (fun f=>by have:=f.few; simp only at this; rw[hsl.out] at this; omega) (.inr ⟨⟨⟨hkb.1,hkb.2.1⟩,by simp only; omega⟩,.inl ⟨rfl,by simp only; rw[hsl.out]; omega⟩⟩),b0⟩
    ·go_wp2_with fail
     clear x1 x2
     have hl3:Hid (sets.length<=3):=hid (by rw[hsl.out]; omega)
     have hkq:Hid ((0<=key/\key<=1000)/\0<=quota/\quota<=400):=hid ⟨⟨hkb.1,hkb.2.1⟩,by omega⟩
     go_loopw [6,31] (fun u v wr=>∃ (j:Nat) (s:ByteArray),j<=sn/\v=.int .i64 j/\u=.string s/\Below w1.heap.size w1 wr/\Ahead aK.nm sets j s.data.toList/\aD0 n B key sets j) (fun _ v _=>sn-(Go.RowKit.intOf v).toNat)
     case atStart=>exact⟨0,⟨#[]⟩,Nat.zero_le _,rfl,rfl,Below.refl _ _,.inl ⟨rfl,rfl⟩,by simp,by simp⟩
     case round=>
      obtain⟨j,s,hj,rfl,rfl,hb,ha,hF⟩:=hrel
      replace ha:=hid ha
      replace hF:=hid hF
      by_cases hlt:j<sn
      ·have hjl:j<sets.length:=by rw[hsl.out]; exact hlt
       have hE':=hS.out.below hb
       obtain⟨eb,off,rfl⟩:∃ b off,sa=some ⟨b,off,none⟩:=by
            obtain⟨b,off,e,_⟩:=hE'.2 (by omega)
            exact⟨b,off,e⟩
       have hx:sets[j]? =some (sets.getD j aK.zero):=by rw[List.getElem?_eq_getElem hjl]; simp[List.getD,hjl]
       obtain⟨v,hA⟩:=hE'.set hlt
       have c0:=hA.c0
       have c1:=hA.c1
       have c2:=hA.c2
       have hXa:=hid hA.ok
       replace hx:=hid hx
       clear hA hE' hjl
       generalize sets.getD j aK.zero=y at *
       have x0':=(hb.cell (p:=⟨w.heap.size+1,0,none⟩) k1.out.lt).trans x0
       have s0':=(hb.cell (p:=⟨w.heap.size,0,none⟩) k0.out.lt).trans s0
       have lt1:=Nat.lt_of_lt_of_le k1.out.lt hb.size
       have lt0:=Nat.lt_of_lt_of_le k0.out.lt hb.size
       have b1:=aA wr (.cells #[.string v.name,.slice v.fa v.fn v.fc,.slice v.sa v.sn v.sc] 84)
       have k2:aC _ wr.heap.size #[.string v.name,.slice v.fa v.fn v.fc,.slice v.sa v.sn v.sc] 84:=aB wr _ _
       have hbA:=Below.tr hb b1
       have x0A:=(b1.cell (p:=⟨w.heap.size+1,0,none⟩) lt1).trans x0'
       have s0A:=(b1.cell (p:=⟨w.heap.size,0,none⟩) lt0).trans s0'
       replace hXa:=hid (hXa.out.below b1)
       replace hb:=hid hb
       replace k2:=hid k2
       replace b1:=hid b1
       go_upto_region 12 with fail
       clear c0 c1 c2 x0' s0'
       generalize wr.alloc (.cells #[.string v.name,.slice v.fa v.fn v.fc,.slice v.sa v.sn v.sc] 84)=w5 at *
       have q0:=k2.out.cell 0
       have q1:=k2.out.cell 1
       have q2:=k2.out.cell 2
       simp at q0 q1 q2
       go_wp2_with fail
       refine(zU Q a n c B key v y w5 (h.out.below hbA) hXa.out).mono ?_
       rintro e w6 ⟨⟨e3,rfl,he3,hss⟩,b6⟩
       have q3:=(b6.cell (p:=⟨wr.heap.size,0,none⟩) k2.out.lt).trans q0
       replace he3:=hid he3
       replace hss:=hid hss
       have hb6:=hid (Below.tr hbA b6)
       have hnm:=hid hXa.out.name
       clear q0 q1 q2 x0A s0A b6 hbA
       by_cases h5:e3=0
       ·have h5':(e3 == 0)=true:=by simp[h5]
        have hOk:=hid (he3.out.1 h5)
        have hle:=fun w=>bN2 (P:=Tryz.prog) 9 v.name s w
        by_cases hls:s.data.toList<v.name.data.toList
        ·have hd:decide (s.data.toList<v.name.data.toList)=true:=by simp[hls]
         rw[hd] at hle
         have hls':Hid (s.data.toList<y.nm):=hid (by unfold aK.nm; rw[<-hnm.out]; exact hls)
         clear hd hls
         go_wp2_with fail
         go_roundw
         case rel=>exact⟨j+1,v.name,by omega,by go_num,rfl,hb6.out,(by rw[hnm.out]; exact tV (f:=aK.nm) hx.out),hF.out.next hx.out ha.out hOk.out hls'.out⟩
         case measure=>simp[Go.RowKit.intOf]; omega
        ·have hd:decide (s.data.toList<v.name.data.toList)=false:=by simp[hls]
         rw[hd] at hle
         have hls':Hid (¬s.data.toList<y.nm):=hid (by unfold aK.nm; rw[<-hnm.out]; exact hls)
         clear hd hls
         go_wp2_with fail
         go_ret
         exact⟨aU 6 (by omega) (fun f=>hls'.out (mZ (f:=aK.nm) hx.out f.order ha.out hOk.out.name.1)) (hF.out.first hx.out ha.out hl3.out hkq.out (.inr ⟨rfl,hOk.out,hls'.out⟩)),Below.tr b0 hb6.out⟩
       ·have h5':(e3 == 0)=false:=by simp[h5]
        go_wp2_with fail
        go_ret
        exact⟨aU e3 h5 (fun f=>h5 (he3.out.2 (f.sets y (List.mem_of_getElem? hx.out)))) (hF.out.first hx.out ha.out hl3.out hkq.out (.inl ⟨fun f=>h5 (he3.out.2 f),hss.out h5⟩)),Below.tr b0 hb6.out⟩
      ·obtain rfl:j=sn:=by omega
       have e1:sets.take j=sets:=List.take_of_length_le (by rw[hsl.out]; exact Nat.le_refl _)
       have hTo:=hF.out
       go_wp2_with fail
       go_ret
       refine⟨gV ⟨⟨hkb.1,hkb.2.1⟩,⟨by simp only; omega,by simp only; omega⟩,by simp only; rw[hsl.out]; omega,?_,?_⟩,Below.tr b0 hb⟩
       ·have:=hTo.sets; rwa [e1] at this
       ·have:=hTo.order; rwa [e1] at this
 ·have hk':aI4 key 0=false:=by simpa using hk
  have hno:=oU hk'
  refine(aH5 key 0 w0 hk').mono ?_
  rintro e w1 ⟨rfl,rfl⟩
  replace hno:=hid hno
  clear hk hk'
  go_wp2_with fail
  go_ret
  exact⟨aU 3 (by omega) (fun f=>hno.out ⟨f.kb.1,f.kb.2,by omega,by omega⟩) (.inl ⟨rfl,fun f=>hno.out ⟨f.1.1,f.1.2,by omega,by omega⟩⟩),b0⟩
end Go.Proofs.YtjafgnohlkkopaaGreatDoor
