/-
  ViewLikeWalk in one text. Nothing here is trusted.
-/
import Derived.Test.YtjafgnohlkkopaaGreatDoorPart38
set_option linter.unusedVariables false
namespace Go.Proofs.YtjafgnohlkkopaaGreatDoor
open Go.RowKit
theorem atL_any (k n:Int) (w:World) (h0:1≤n) (h1:n≤1000000):
 Calls Tryz.prog 12 #[.int .i64 k,.int .i64 n] w fun e w'=>(∃ r:Nat,e=.returned (.int .i64 r)∧(r:Int)<n)∧w'=w:=by
 have t1:=Int.tmod_lt_of_pos k (show 0<n by omega)
 have t2:-n<k.tmod n:=by have:=Int.tmod_lt_of_pos (-k) (show 0<n by omega); rw[Int.neg_tmod] at this; omega
 have hnz:(n == 0)=false:=by simp; omega
 generalize ht:k.tmod n=t at t1 t2
 by_cases hneg:t<0
 ·go_enter Tryz.func12,Tryz.ntmps12
  go_wp2
  go_ret
  exact⟨⟨(t+n).toNat,congrArg (fun z=>Ending.returned (.int .i64 z)) (show t+n=((t+n).toNat:Int) by omega),by omega⟩,rfl⟩
 ·go_enter Tryz.func12,Tryz.ntmps12
  go_wp2
  go_ret
  exact⟨⟨t.toNat,congrArg (fun z=>Ending.returned (.int .i64 z)) (show t=(t.toNat:Int) by omega),by omega⟩,rfl⟩
theorem usesW_uni {B:Nat→Blk} {R:List Int} {a b:Int} (h1:Uses B R a) (h2:Uses B R b):a=b:=by
 obtain⟨L,l1,l2,rfl⟩:=h1
 obtain⟨M,m1,m2,rfl⟩:=h2
 rw[rising_eq l1 m1 (fun x=>(l2 x).trans (m2 x).symm)]
structure VB (W w:World) (pa:Option Addr) (n c:Nat) (ta:Option Addr) (tn tc:Nat) (qa:Option Addr) (n' c':Nat) (ua:Option Addr) (un uc:Nat) (a:AskE) (ba:Option Addr) (bn bc:Nat):Prop where
 bel:Below W.heap.size W w
 bP:CellsAt w W.heap.size #[.slice pa n c,.slice ta tn tc] 27
 bQ:CellsAt w (W.heap.size+1) #[.slice qa n' c', .slice ua un uc] 27
 bA:CellsAt w (W.heap.size+1+1) #[.int .i64 a.kind,.string a.set,.string a.file,.string a.to,.int .i64 a.pos,.int .i64 a.num,.slice ba bn bc] 30
theorem VB.below {W w w':World} {pa:Option Addr} {n c:Nat} {ta:Option Addr} {tn tc:Nat} {qa:Option Addr} {n' c':Nat} {ua:Option Addr} {un uc:Nat} {a:AskE} {ba:Option Addr} {bn bc:Nat} (h:VB W w pa n c ta tn tc qa n' c' ua un uc a ba bn bc) (b:Below w.heap.size w w'):VB W w' pa n c ta tn tc qa n' c' ua un uc a ba bn bc:=⟨Below.tr h.bel b,h.bP.below b,h.bQ.below b,h.bA.below b⟩
theorem vb_enter (w:World) (pa:Option Addr) (n c:Nat) (ta:Option Addr) (tn tc:Nat) (qa:Option Addr) (n' c':Nat) (ua:Option Addr) (un uc:Nat) (a:AskE) (ba:Option Addr) (bn bc:Nat):VB w (((w.alloc (.cells #[.slice pa n c,.slice ta tn tc] 27)).alloc (.cells #[.slice qa n' c', .slice ua un uc] 27)).alloc (objA a ba bn bc)) pa n c ta tn tc qa n' c' ua un uc a ba bn bc:=by
 have h1:=cellsAt_alloc w #[.slice pa n c,.slice ta tn tc] 27
 have h2:=cellsAt_alloc (w.alloc (.cells #[.slice pa n c,.slice ta tn tc] 27)) #[.slice qa n' c', .slice ua un uc] 27
 have h3:=cellsAt_alloc ((w.alloc (.cells #[.slice pa n c,.slice ta tn tc] 27)).alloc (.cells #[.slice qa n' c', .slice ua un uc] 27)) #[.int .i64 a.kind,.string a.set,.string a.file,.string a.to,.int .i64 a.pos,.int .i64 a.num,.slice ba bn bc] 30
 simp only[szB] at h2 h3
 exact⟨Below.tr (Below.tr (below_alloc _ _) (below_alloc _ _)) (below_alloc _ _),(h1.below (below_alloc _ _)).below (below_alloc _ _),h2.below (below_alloc _ _),h3⟩
def Both (e1 e2:Int) (x y:Bool):Prop:=x=y∧(e1 == 0)=(e2 == 0)
theorem both_of {e e2:Ending} {n:Nat} {B:Nat→Blk} {tn:Nat} {l:List TenE} {n':Nat} {D:Nat→Blk} {un:Nat} {m:List TenE} {i:Int} (h:RetAl e n B tn l n' D un m i) (k:RetAl e2 n' D un m n B tn l i):∃ x y e1' e2', e=.returned (.tuple #[.bool x,.int .i64 e1'])∧e2=.returned (.tuple #[.bool y,.int .i64 e2'])∧Both e1' e2' x y:=by
 rcases h with⟨e1', rfl,h1,h2⟩ | ⟨k1,t,u,N,M,hi,ht,hu,h1,h2,hN,hM,rfl⟩
 ·rcases k with⟨e2', rfl,k1,k2⟩ | ⟨_,_,_,_,_,_,_,_,k1,k2,_⟩
  ·exact⟨_,_,_,_,rfl,rfl,rfl,by rw[beq_false_of_ne h1,beq_false_of_ne k1]⟩
  ·exact absurd ⟨k2,k1⟩ h2
 ·rcases k with⟨e2', rfl,k1,k2⟩ | ⟨k2,t2,u2,N2,M2,hi2,ht2,hu2,_,_,hN2,hM2,rfl⟩
  ·exact absurd ⟨h2,h1⟩ k2
  ·obtain rfl:k1=k2:=by omega
   rw[hu] at ht2
   rw[ht] at hu2
   simp only[Option.some.injEq] at ht2 hu2
   subst ht2
   subst hu2
   obtain rfl:=usesW_uni hN hM2
   obtain rfl:=usesW_uni hM hN2
   refine⟨_,_,_,_,rfl,rfl,?_,rfl⟩
   by_cases e:printL B t N=printL D u M
   ·rw[decide_eq_true e,decide_eq_true e.symm]
   ·rw[decide_eq_false e,decide_eq_false (fun f=>e f.symm)]
set_option maxHeartbeats 8000000 in
set_option maxRecDepth 100000 in
theorem viewLike_of (Q R:Nat→Prop) (pa:Option Addr) (n c:Nat) (B:Nat→Blk) (ta:Option Addr) (tn tc:Nat) (l:List TenE) (qa:Option Addr) (n' c':Nat) (D:Nat→Blk) (ua:Option Addr) (un uc:Nat) (m:List TenE) (i:Int) (a:AskE) (ba:Option Addr) (bn bc:Nat) (w:World) (hP:PoolAt Q w pa n B ta tn l) (hD:PoolAt R w qa n' D ua un m) (hao:a.ok) (hB:NumsAt (fun _=>True) .u8 w ba bn a.bytes) (htab:Lib.TabIs Tryz.prog w tabN .u64 Lib.pow10Tab):
 Calls Tryz.prog 4 #[.agg #[.slice pa n c,.slice ta tn tc],.agg #[.slice qa n' c', .slice ua un uc],.int .i64 i,.agg #[.int .i64 a.kind,.string a.set,.string a.file,.string a.to,.int .i64 a.pos,.int .i64 a.num,.slice ba bn bc]] w fun e w'=>e=.returned (.bool true)∧Below w.heap.size w w':=by
 have hvb:=vb_enter w pa n c ta tn tc qa n' c' ua un uc a ba bn bc
 unfold objA at hvb
 replace hP:=hid hP
 replace hD:=hid hD
 replace htab:=hid htab
 have hby:Hid (Bytes a.bytes):=hid hB.bytes
 replace hB:=hid hB
 replace hvb:=hid hvb
 replace hao:=hid hao
 go_enter Tryz.func4,Tryz.ntmps4
 go_upto_region 1 with fail
 generalize ((w.alloc (.cells #[.slice pa n c,.slice ta tn tc] 27)).alloc (.cells #[.slice qa n' c', .slice ua un uc] 27)).alloc (.cells #[.int .i64 a.kind,.string a.set,.string a.file,.string a.to,.int .i64 a.pos,.int .i64 a.num,.slice ba bn bc] 30)=w0 at *
 have p0:=hvb.out.bP.cell 0
 have p1:=hvb.out.bP.cell 1
 have q0:=hvb.out.bQ.cell 0
 have q1:=hvb.out.bQ.cell 1
 simp only[List.getElem?_toArray,List.getElem?_cons_zero,List.getElem?_cons_succ] at p0 p1 q0 q1
 go_wp2_with fail
 refine(alike_any Q R pa n c B ta tn tc l qa n' c' D ua un uc m i w0 (hP.out.below hvb.out.bel) (hD.out.below hvb.out.bel) (tab_below htab.out hvb.out.bel)).mono ?_
 rintro e w1 ⟨hr1,b1⟩
 clear p0 p1 q0 q1
 replace hvb:=hid (hvb.out.below b1)
 clear b1
 have hr1':=hid hr1
 have hun:∃ x e', e=.returned (.tuple #[.bool x,.int .i64 e']):=by
  rcases hr1 with⟨e1', rfl,_⟩ | ⟨_,_,_,_,_,_,_,_,_,_,_,_,rfl⟩
  ·exact⟨_,_,rfl⟩
  ·exact⟨_,_,rfl⟩
 obtain⟨x,e1,rfl⟩:=hun
 clear hr1
 have p0:=hvb.out.bP.cell 0
 have p1:=hvb.out.bP.cell 1
 have q0:=hvb.out.bQ.cell 0
 have q1:=hvb.out.bQ.cell 1
 simp only[List.getElem?_toArray,List.getElem?_cons_zero,List.getElem?_cons_succ] at p0 p1 q0 q1
 go_wp2_with fail
 refine(alike_any R Q qa n' c' D ua un uc m pa n c B ta tn tc l i w1 (hD.out.below hvb.out.bel) (hP.out.below hvb.out.bel) (tab_below htab.out hvb.out.bel)).mono ?_
 rintro e w2 ⟨hr2,b2⟩
 clear p0 p1 q0 q1
 replace hvb:=hid (hvb.out.below b2)
 clear b2
 obtain⟨x', y,e1', e2,he,rfl,hxy,hee⟩:=both_of hr1'.out hr2
 simp only[Ending.returned.injEq,Value.tuple.injEq,Array.mk.injEq,List.cons.injEq,Value.bool.injEq,Value.int.injEq,true_and,and_true] at he
 obtain⟨rfl,rfl⟩:=he
 subst hxy
 clear hr1' hr2
 go_wp2_with fail
 refine(viewed_any w2 (tab_below htab.out hvb.out.bel)).mono ?_
 rintro e w3 ⟨rfl,b3⟩
 replace hvb:=hid (hvb.out.below b3)
 clear b3
 have p0:=hvb.out.bP.cell 0
 have p1:=hvb.out.bP.cell 1
 simp only[List.getElem?_toArray,List.getElem?_cons_zero,List.getElem?_cons_succ] at p0 p1
 go_wp2_with fail
 refine(alike_any Q Q pa n c B ta tn tc l pa n c B ta tn tc l i w3 (hP.out.below hvb.out.bel) (hP.out.below hvb.out.bel) (tab_below htab.out hvb.out.bel)).mono ?_
 rintro e w4 ⟨hr3,b4⟩
 clear p0 p1
 replace hvb:=hid (hvb.out.below b4)
 clear b4
 unfold RetAl at hr3
 rcases hr3 with⟨e', rfl,hne,_⟩ | ⟨k,t,u,N,M,rfl,ht,hu,hH,_,hN,hM,rfl⟩
 ·have hbe:(e' == 0)=false:=by simp[hne]
  go_wp2_with fail
  go_ret
  exact⟨rfl,hvb.out.bel⟩
 rw[ht] at hu
 simp only[Option.some.injEq] at hu
 subst hu
 obtain rfl:=usesW_uni hN hM
 have hd:decide (printL B t N=printL B t N)=true:=decide_eq_true rfl
 rw[hd]
 replace hH:=hid hH
 replace ht:=hid ht
 replace hN:=hid hN
 clear hd hM hee
 have bz:=hid (below_alloc w4 (.cells #[.int .i64 11,.int .i64 12,.int .i64 13] 3))
 have kz:=hid (cellsAt_alloc w4 #[.int .i64 11,.int .i64 12,.int .i64 13] 3)
 have a0:=(hvb.out.bA.below bz.out).cell 0
 simp only[List.getElem?_toArray,List.getElem?_cons_zero] at a0
 have laz:Hid (w.heap.size+1+1<w4.heap.size):=hid hvb.out.bA.lt
 go_upto_region 8 with fail
 have n2:=Nat.ne_of_lt laz.out
 have n2':=n2.symm
 go_wp2_with fail
 refine(atL_any a.kind 3 _ (by decide) (by decide)).mono ?_
 rintro e w5 ⟨⟨r,rfl,hr⟩,rfl⟩
 generalize w4.alloc (.cells #[.int .i64 11,.int .i64 12,.int .i64 13] 3)=w5 at *
 have hr0:(0:Int)≤(r:Int):=by omega
 obtain⟨kd,hkd,hkd2⟩:∃ kd:Int,w5.cell? ⟨w4.heap.size,r,none⟩=some (.int .i64 kd)∧(kd=11∨kd=12∨kd=13):=by
  have h3:r<3:=by omega
  match r,h3 with
  | 0,_=>exact⟨11,kz.out.cell 0,.inl rfl⟩
  | 1,_=>exact⟨12,kz.out.cell 1,.inr (.inl rfl)⟩
  | 2,_=>exact⟨13,kz.out.cell 2,.inr (.inr rfl)⟩
 replace hvb:=hid (hvb.out.below bz.out)
 clear a0
 have a0:=hvb.out.bA.cell 0
 have af:=hvb.out.bA.frozen 0
 simp only[List.getElem?_toArray,List.getElem?_cons_zero] at a0
 replace hkd2:=hid hkd2
 go_upto_region 9 with fail
 clear a0 af hkd
 have kk:Kept (w.heap.size+1+1) w5 (w5.setCell ⟨w.heap.size+1+1,0,none⟩ (.int .i64 kd)):=Kept.setCell (g:=w.heap.size+1+1) (Kept.refl _ _) (p:=⟨w.heap.size+1+1,0,none⟩) rfl _
 have hvb6:Hid (VB w (w5.setCell ⟨w.heap.size+1+1,0,none⟩ (.int .i64 kd)) pa n c ta tn tc qa n' c' ua un uc { a with kind:=kd } ba bn bc):=hid (by
  have on:=Only.of_kept (M:=fun b=>b=w.heap.size+1+1) kk rfl
  have k:=hvb.out.bA.set 0 (.int .i64 kd)
  simp only[List.setIfInBounds_toArray,List.set_cons_zero] at k
  exact⟨hvb.out.bel.trans (kk.below (by omega)),on.cells hvb.out.bP (by omega),on.cells hvb.out.bQ (by omega),k⟩)
 clear hvb bz kz kk
 generalize w5.setCell ⟨w.heap.size+1+1,0,none⟩ (.int .i64 kd)=w6 at *
 have p0:=hvb6.out.bP.cell 0
 have p1:=hvb6.out.bP.cell 1
 have a0:=hvb6.out.bA.cell 0
 have a1:=hvb6.out.bA.cell 1
 have a2:=hvb6.out.bA.cell 2
 have a3:=hvb6.out.bA.cell 3
 have a4:=hvb6.out.bA.cell 4
 have a5:=hvb6.out.bA.cell 5
 have a6:=hvb6.out.bA.cell 6
 simp only[List.getElem?_toArray,List.getElem?_cons_zero,List.getElem?_cons_succ] at p0 p1 a0 a1 a2 a3 a4 a5 a6
 have hao':Hid (AskE.ok { a with kind:=kd }):=hid ⟨hao.out.1,by have:=hkd2.out; show _≤kd∧kd≤_; omega,hao.out.2.2⟩
 go_wp2_with fail
 refine(pdo_any Q pa n c B ta tn tc l k { a with kind:=kd } ba bn bc w6 (hP.out.below hvb6.out.bel) hao'.out (hB.out.below hvb6.out.bel)).mono ?_
 clear p0 p1 a0 a1 a2 a3 a4 a5 a6
 rintro e w7 ⟨hret,b7⟩
 unfold RetPD at hret
 rcases hret with⟨e', _,_,hno⟩ | ⟨hok,k', t', hk', ht', e3,N3,ya,yn,yc,y,ln,lc,g,D', l', xa,xc,rfl,hc,hPD⟩
 ·exact absurd hH.out hno
 obtain rfl:k=k':=by omega
 have hst:=(DoCase.is (a:={ a with kind:=kd }) hok ht' hby.out hc).still (.inr (by have:=hkd2.out; show kd=11∨kd=12∨kd=13; omega))
 obtain⟨rfl,rfl⟩:=hst
 clear hc hok ht' hk'
 have bB:=hid (Below.tr (below_alloc w7 (.cells #[.slice (some ⟨g,0,none⟩) n n,.slice xa tn xc] 27)) (below_alloc _ (.cells #[.int .i64 e3,.int .i64 N3,.slice ya yn yc,.slice y ln lc] 41)))
 have kB:Hid (CellsAt _ w7.heap.size #[.slice (some ⟨g,0,none⟩) n n,.slice xa tn xc] 27):=hid ((cellsAt_alloc w7 _ _).below (below_alloc _ (.cells #[.int .i64 e3,.int .i64 N3,.slice ya yn yc,.slice y ln lc] 41)))
 replace hPD:=hid (hPD.below bB.out)
 have hvb8:=hid ((hvb6.out.below b7).below bB.out)
 clear b7 hvb6 bB
 go_upto_region 10 with fail
 generalize (w7.alloc (.cells #[.slice (some ⟨g,0,none⟩) n n,.slice xa tn xc] 27)).alloc (.cells #[.int .i64 e3,.int .i64 N3,.slice ya yn yc,.slice y ln lc] 41)=w8 at *
 have p0:=hvb8.out.bP.cell 0
 have p1:=hvb8.out.bP.cell 1
 have q0:=kB.out.cell 0
 have q1:=kB.out.cell 1
 simp only[List.getElem?_toArray,List.getElem?_cons_zero,List.getElem?_cons_succ] at p0 p1 q0 q1
 go_wp2_with fail
 refine(alike_any Q (fun _=>True) pa n c D' ta tn tc l' (some ⟨g,0,none⟩) n n D' xa tn xc l' k w8 (hP.out.below hvb8.out.bel) hPD.out (tab_below htab.out hvb8.out.bel)).mono ?_
 rintro e w9 ⟨hr4,b9⟩
 clear p0 p1 q0 q1
 have hbel:=hid (Below.tr hvb8.out.bel b9)
 clear b9
 unfold RetAl at hr4
 rcases hr4 with⟨e', _,_,hno⟩ | ⟨k2,t2,u2,N2,M2,hk2,ht2,hu2,_,_,hN2,hM2,rfl⟩
 ·exact absurd ⟨hH.out,hH.out⟩ hno
 rw[ht2] at hu2
 simp only[Option.some.injEq] at hu2
 subst hu2
 obtain rfl:=usesW_uni hN2 hM2
 have hd:decide (printL D' t2 N2=printL D' t2 N2)=true:=decide_eq_true rfl
 rw[hd]
 clear hd hk2
 go_wp2_with fail
 go_ret
 exact⟨rfl,hbel.out⟩
theorem viewLike_walk (pa:Option Addr) (n c:Nat) (B:Nat→Blk) (ta:Option Addr) (tn tc:Nat) (l:List TenE) (qa:Option Addr) (n' c':Nat) (D:Nat→Blk) (ua:Option Addr) (un uc:Nat) (m:List TenE) (i:Int) (a:AskE) (ba:Option Addr) (bn bc:Nat) (w:World) (hP:PoolAt (fun _=>True) w pa n B ta tn l) (hD:PoolAt (fun _=>True) w qa n' D ua un m) (_:-9223372036854775808≤i∧i≤9223372036854775807) (hao:a.ok) (hB:NumsAt (fun _=>True) .u8 w ba bn a.bytes) (htab:Lib.TabIs Tryz.prog w tabN .u64 Lib.pow10Tab):
 Calls Tryz.prog 4 #[.agg #[.slice pa n c,.slice ta tn tc],.agg #[.slice qa n' c', .slice ua un uc],.int .i64 i,.agg #[.int .i64 a.kind,.string a.set,.string a.file,.string a.to,.int .i64 a.pos,.int .i64 a.num,.slice ba bn bc]] w fun e w'=>e=.returned (.bool true)∧Below w.heap.size w w':=
 viewLike_of _ _ pa n c B ta tn tc l qa n' c' D ua un uc m i a ba bn bc w hP hD hao hB htab
end Go.Proofs.YtjafgnohlkkopaaGreatDoor
