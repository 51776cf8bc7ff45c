import Derived.Test.YtjafgnohlkkopaaGreatDoorPartP2
import Derived.Test.YtjafgnohlkkopaaGreatDoorPartP1
import Derived.Deep.RegionHeld3
set_option linter.unusedVariables false
set_option maxHeartbeats 8000000
set_option maxRecDepth 100000
namespace Go.Proofs.YtjafgnohlkkopaaGreatDoor
open Go.RowKit Go.Deep
theorem poolApart_walk (pa:Option Addr) (n c:Nat) (B:Nat->Blk) (ta:Option Addr) (tn tc:Nat) (l:List aP) (i:Int) (qa:Option Addr) (q qc:Nat) (ql:List aM) (wa:Option Addr) (wn wc:Nat) (who:List Int) (oa:Option Addr) (on oc:Nat) (ol:List aM) (xa:Option Addr) (xn xc:Nat) (xl:List Int) (w:World) (hP:fU (fun _=>True) w pa n B ta tn l) (hib:-9223372036854775808<=i/\i<=9223372036854775807) (hcq:q<=qc) (hmq:q<=maxLen) (hq:kW w qa q ql) (hcw:wn<=wc) (hmw:wn<=maxLen) (hwho:aI (fun _=>True) .i64 w wa wn who) (hco:on<=oc) (hmo:on<=maxLen) (ho:kW w oa on ol) (hcx:xn<=xc) (hmx:xn<=maxLen) (hxl:aI (fun _=>True) .i64 w xa xn xl) (htab:Lib.TabIs Tryz.prog w tabN .u64 Lib.pow10Tab):
 Calls Tryz.prog 5 #[.agg #[.slice pa n c,.slice ta tn tc],.int .i64 i,.slice qa q qc,.slice wa wn wc,.slice oa on oc,.slice xa xn xc] w fun e w'=>e=.returned (.bool true)/\Below w.heap.size w w':=by
 have b0:=hid (aA w (.cells #[.slice pa n c,.slice ta tn tc] 27))
 have k0:Hid (aC _ w.heap.size #[.slice pa n c,.slice ta tn tc] 27):=hid (aB w _ _)
 replace hP:=hid hP
 replace hwho:=hid hwho
 replace hq:=hid hq
 replace ho:=hid ho
 replace hxl:=hid hxl
 replace htab:=hid htab
 replace hib:=hid hib
 go_enter Tryz.func5,Tryz.ntmps5
 go_upto_region 1 with fail
 generalize w.alloc (.cells #[.slice pa n c,.slice ta tn tc] 27)=w0 at *
 go_wp2_with fail
 refine(cU3 w0).mono ?_
 rintro e w1 ⟨rfl,b1⟩
 replace k0:=hid (k0.out.below b1)
 replace b0:=hid (Below.tr b0.out b1)
 clear b1
 have p0:=k0.out.cell 0
 have p1:=k0.out.cell 1
 simp only[List.getElem?_toArray,List.getElem?_cons_zero,List.getElem?_cons_succ] at p0 p1
 go_wp2_with fail
 refine(jN (fun _=>True) pa n c B ta tn tc l w1 (hP.out.below b0.out)).mono ?_
 rintro e w2 ⟨⟨e1,rfl,he1⟩,b1⟩
 replace k0:=hid (k0.out.below b1)
 replace b0:=hid (Below.tr b0.out b1)
 clear b1 p0 p1
 have p1:=k0.out.cell 1
 simp only[List.getElem?_toArray,List.getElem?_cons_zero,List.getElem?_cons_succ] at p1
 by_cases hz:e1=0
 case neg=>
  replace he1:=hid he1
  go_wp2_with fail
  refine(cU3 w2).mono ?_
  rintro e w5 ⟨rfl,b5⟩
  go_wp2_with fail
  go_ret
  exact⟨rfl,Below.tr b0.out b5⟩
 subst hz
 have hok:=hid (he1.1 rfl)
 clear he1
 by_cases hneg:i<0
 ·have d1:decide (i<0)=true:=decide_eq_true hneg
  go_wp2_with fail
  refine(cU3 w2).mono ?_
  rintro e w5 ⟨rfl,b5⟩
  go_wp2_with fail
  go_ret
  exact⟨rfl,Below.tr b0.out b5⟩
 have d1:decide (i<0)=false:=decide_eq_false hneg
 by_cases hge:(tn:Int)<=i
 ·have d2:decide ((tn:Int)<=i)=true:=decide_eq_true hge
  go_wp2_with fail
  refine(cU3 w2).mono ?_
  rintro e w5 ⟨rfl,b5⟩
  go_wp2_with fail
  go_ret
  exact⟨rfl,Below.tr b0.out b5⟩
 have d2:decide ((tn:Int)<=i)=false:=decide_eq_false hge
 obtain⟨t,rfl⟩:∃ t:Nat,i=(t:Int):=⟨i.toNat,by omega⟩
 have htl:Hid (t<tn):=hid (by omega)
 have d3:¬(tn<=t):=by omega
 have d4:decide (tn<=t)=false:=decide_eq_false d3
 have htn:=hid hP.out.tens.1
 clear hge hneg
 obtain⟨m,hm⟩:∃ m,m=min q 30:=⟨_,rfl⟩
 obtain⟨o,hoo⟩:∃ o,o=min on 30:=⟨_,rfl⟩
 have hqm:Hid (kW w qa m (ql.take m)):=hid (hq.out.take (by omega))
 have hom:Hid (kW w oa o (ol.take o)):=hid (ho.out.take (by omega))
 have em:min (q:Int) 30=(m:Int):=by omega
 have eo:min (on:Int) 30=(o:Int):=by omega
 have hm30:m<=30:=by omega
 have ho30:o<=30:=by omega
 have hmc:m<=qc:=by omega
 have hoc:o<=oc:=by omega
 unfold maxLen at hmq hmo hmw hmx
 generalize ql.take m=AS at *
 generalize ol.take o=OS at *
 clear hq ho hm hoo
 have hASl:=hqm.out.1
 have hOSl:=hom.out.1
 have hb2:=hid (Below.refl w2.heap.size w2)
 go_upto_region 9 with fail
 go_loopw [13,14,15,61] (fun v u x y wr=>∃ (j k:Nat) (ms:List vB) (by':List Int),j<=m/\k<=o/\x=.int .i64 k/\y=.int .i64 j/\ScI w2.heap.size w2 wr (t:Int) AS j k v u ms by') (fun _ _ _ y _=>m-(intOf y).toNat)
 case atStart=>exact⟨0,0,[],[],Nat.zero_le _,Nat.zero_le _,rfl,rfl,⟨Below.refl _ _,bM7 _ _,rfl,by simp[jG],Nat.zero_le _⟩⟩
 case round=>
  obtain⟨j,k,ms,by', hj,hk,rfl,rfl,hI⟩:=hrel
  by_cases hlt:j<m
  ·have hbw:Hid (Below w.heap.size w wr):=hid (b0.out.trans (hI.bel.mono b0.out.size))
   obtain⟨bq,oq,rfl,hbq,hcq⟩:=hqm.out.2 (by omega)
   obtain⟨ba,bn,bc,hA0⟩:=hcq j hlt
   clear hcq
   have hA:=hA0.below hbw.out
   have haj:Hid (j<AS.length):=hid (by omega)
   have hask:Hid (∀ w', Below w.heap.size w w'->aI (fun b=>b<w.heap.size) .u8 w' ba bn (AS.getD j aM.zero).bytes):=hid (fun w' h=>(hA0.bytes.weaken (fun b hb _=>hb)).below h)
   clear hA0
   have c0:=hA.c0
   have c1:=hA.c1
   have c2:=hA.c2
   have c3:=hA.c3
   have c4:=hA.c4
   have c5:=hA.c5
   have c6:=hA.c6
   generalize hax:AS.getD j aM.zero=a at *
   replace hax:=hid hax
   have hao:=hid hA.ok
   have hca:=hid hA.caps
   replace hI:=hid hI
   clear hA
   go_upto_region 12 with fail
   have b1:=hid (aA wr (.cells #[.int .i64 a.kind,.string a.set,.string a.file,.string a.to,.int .i64 a.pos,.int .i64 a.num,.slice ba bn bc] 30))
   have k1:Hid (aC _ wr.heap.size #[.int .i64 a.kind,.string a.set,.string a.file,.string a.to,.int .i64 a.pos,.int .i64 a.num,.slice ba bn bc] 30):=hid (aB wr _ _)
   have sz1:Hid ((wr.alloc (.cells #[.int .i64 a.kind,.string a.set,.string a.file,.string a.to,.int .i64 a.pos,.int .i64 a.num,.slice ba bn bc] 30)).heap.size=wr.heap.size+1):=hid (by simp)
   generalize wr.alloc (.cells #[.int .i64 a.kind,.string a.set,.string a.file,.string a.to,.int .i64 a.pos,.int .i64 a.num,.slice ba bn bc] 30)=w3 at *
   clear c0 c1 c2 c3 c4 c5 c6
   have hl2:w2.heap.size<=wr.heap.size:=hI.out.bel.size
   have hI3:Hid (ScI w2.heap.size w2 w3 (t:Int) AS j k u13 u14 ms by'/\aC w3 wr.heap.size #[.int .i64 a.kind,.string a.set,.string a.file,.string a.to,.int .i64 a.pos,.int .i64 a.num,.slice ba bn bc] 30/\u13.ownBlock≠some wr.heap.size/\u14.ownBlock≠some wr.heap.size):=hid ⟨hI.out.below b1.out hl2,k1.out,fun f=>by have:=(hI.out.rows.arow.lt _ f).2; omega,fun f=>by have:=(hI.out.rows.irow.lt _ f).2; omega⟩
   have hb3:Hid (Below w.heap.size w w3):=hid (b0.out.trans (hI3.out.1.bel.mono b0.out.size))
   clear hI k1 hbw b1
   generalize hbxe:wr.heap.size=bx at *
   clear hbxe
   by_cases hx0:xn=0
   ·subst hx0
    go_wp2_with fail
    go_loopw [13,14,15,18] (fun v u x y wi=>∃ (k2 n0:Nat) (ms2:List vB) (by2:List Int),k2<=o/\n0<=4/\x=.int .i64 k2/\y=.int .i64 n0/\ScI w2.heap.size w2 wi (t:Int) AS j k2 v u ms2 by2/\aC wi bx #[.int .i64 a.kind,.string a.set,.string a.file,.string a.to,.int .i64 a.pos,.int .i64 a.num,.slice ba bn bc] 30/\v.ownBlock≠some bx/\u.ownBlock≠some bx/\bx<wi.heap.size) (fun _ _ _ y _=>(intOf y).toNat)
    case atStart=>exact⟨k,0,ms,by', hk,by omega,rfl,rfl,hI3.out.1,hI3.out.2.1,hI3.out.2.2.1,hI3.out.2.2.2,by have:=sz1.out; omega⟩
    case round=>
     obtain⟨k2,n0,ms2,by2,hk2,hn4,rfl,rfl,hJ,hbx,hbv,hbu,hbl⟩:=hrel
     replace hJ:=hid hJ
     replace hbx:=hid hbx
     replace hbv:=hid hbv
     replace hbu:=hid hbu
     replace hbl:=hid hbl
     have htn3:tn<=3:=by have:=hok.out.few; have:=htn.out; omega
     have htt:=htl.out
     by_cases hn0:n0=0
     ·subst hn0
      have hbwi:Hid (Below w.heap.size w wr):=hid (b0.out.trans (hJ.out.bel.mono b0.out.size))
      have hmine:=hid (hask.out wr hbwi.out)
      obtain⟨v', w5,u', w7,hr1,hr2,hR7,b7,hkeep⟩:=hJ.out.rows.pushK (Nat.le_trans hl2 (Nat.le_of_lt hbl.out)) ⟨a,ba,bn,bc⟩ ⟨hmine.out.weaken (fun b _ hb=>⟨fun f=>by have:=(hJ.out.rows.arow.lt b f).1; have:=b0.out.size; omega,fun f=>by have:=(hJ.out.rows.irow.lt b f).1; have:=b0.out.size; omega⟩),hao.out,hca.out⟩ (t:Int) (by simp[Lit.wf,IntKind.min,IntKind.max,IntKind.signed,IntKind.bits]<;>omega) (by have:=hJ.out.few; omega) (by have:=hJ.out.few; have:=hJ.out.len; omega)
      have hJ2:=hid (hJ.out.own haj.out hax.out.symm hR7 b7)
      have e0:=hbx.out.cell 0
      have e1:=hbx.out.cell 1
      have e2:=hbx.out.cell 2
      have e3:=hbx.out.cell 3
      have e4:=hbx.out.cell 4
      have e5:=hbx.out.cell 5
      have e6:=hbx.out.cell 6
      simp only[List.getElem?_toArray,List.getElem?_cons_zero,List.getElem?_cons_succ] at e0 e1 e2 e3 e4 e5 e6
      clear hkeep hR7 b7
      go_wp2_with (at_builtin; first | refine Lib.wpList_append_run _ rfl _ _ _ _ rfl _ _ rfl rfl _ _ (hr1 _) ?_ | refine Lib.wpList_append_run _ rfl _ _ _ _ rfl _ _ rfl rfl _ _ (hr2 _) ?_)
      go_roundw
      case rel=>exact⟨j+1,k2,_,_,hlt,hk2,rfl,by go_num,hJ2.out⟩
      case measure=>simp[intOf]; omega
     have hnp:(0:Int)<(n0:Int):=by omega
     have hnd:decide ((0:Int)<(n0:Int))=true:=decide_eq_true hnp
     by_cases hko:k2<o
     case neg=>
      have hkd:¬((k2:Int)<(o:Int)):=by omega
      have hkd2:decide ((k2:Int)<(o:Int))=false:=decide_eq_false hkd
      have hbwi:Hid (Below w.heap.size w wr):=hid (b0.out.trans (hJ.out.bel.mono b0.out.size))
      have hmine:=hid (hask.out wr hbwi.out)
      obtain⟨v', w5,u', w7,hr1,hr2,hR7,b7,hkeep⟩:=hJ.out.rows.pushK (Nat.le_trans hl2 (Nat.le_of_lt hbl.out)) ⟨a,ba,bn,bc⟩ ⟨hmine.out.weaken (fun b _ hb=>⟨fun f=>by have:=(hJ.out.rows.arow.lt b f).1; have:=b0.out.size; omega,fun f=>by have:=(hJ.out.rows.irow.lt b f).1; have:=b0.out.size; omega⟩),hao.out,hca.out⟩ (t:Int) (by simp[Lit.wf,IntKind.min,IntKind.max,IntKind.signed,IntKind.bits]<;>omega) (by have:=hJ.out.few; omega) (by have:=hJ.out.few; have:=hJ.out.len; omega)
      have hJ2:=hid (hJ.out.own haj.out hax.out.symm hR7 b7)
      have e0:=hbx.out.cell 0
      have e1:=hbx.out.cell 1
      have e2:=hbx.out.cell 2
      have e3:=hbx.out.cell 3
      have e4:=hbx.out.cell 4
      have e5:=hbx.out.cell 5
      have e6:=hbx.out.cell 6
      simp only[List.getElem?_toArray,List.getElem?_cons_zero,List.getElem?_cons_succ] at e0 e1 e2 e3 e4 e5 e6
      clear hkeep hR7 b7
      go_wp2_with (at_builtin; first | refine Lib.wpList_append_run _ rfl _ _ _ _ rfl _ _ rfl rfl _ _ (hr1 _) ?_ | refine Lib.wpList_append_run _ rfl _ _ _ _ rfl _ _ rfl rfl _ _ (hr2 _) ?_)
      go_roundw
      case rel=>exact⟨j+1,k2,_,_,hlt,hk2,rfl,by go_num,hJ2.out⟩
      case measure=>simp[intOf]; omega
     have hkd2:decide ((k2:Int)<(o:Int))=true:=decide_eq_true (by omega)
     have hbwi:Hid (Below w.heap.size w wr):=hid (b0.out.trans (hJ.out.bel.mono b0.out.size))
     obtain⟨bo,oo,rfl,hbo,hco2⟩:=hom.out.2 (by omega)
     obtain⟨da,dn,dc,hD0⟩:=hco2 k2 hko
     have hD:=hD0.below hbwi.out
     have hdask:=hid ((hD0.bytes.weaken (R:=fun b=>b<w.heap.size) (fun b hb _=>hb)).below hbwi.out)
     clear hco2 hD0
     generalize OS.getD k2 aM.zero=d at *
     have g0:=hD.c0
     have g1:=hD.c1
     have g2:=hD.c2
     have g3:=hD.c3
     have g4:=hD.c4
     have g5:=hD.c5
     have g6:=hD.c6
     have hdo:=hid hD.ok
     have hdc:=hid hD.caps
     clear hD
     by_cases hw0:wn=0
     ·subst hw0
      by_cases hxt:(0:Int)=(t:Int)
      ·have hxb1:((0:Int) == (t:Int))=true:=by rw[hxt]; exact beq_self_eq_true _
       have hxb2:((0:Int) != (t:Int))=false:=by rw[hxt]; simp
       replace hxt:=hid hxt
       have hJ2:=hid (hJ.out.later (Nat.le_succ k2))
       go_wp2_with fail
       go_roundw
       case rel=>exact⟨k2+1,n0-1,_,_,hko,by omega,by go_num,by go_num,hJ2.out,hbx.out,hbv.out,hbu.out,hbl.out⟩
       case measure=>simp[intOf]; omega
      ·obtain⟨v', w5,u', w7,hr1,hr2,hR7,b7,hkeep⟩:=hJ.out.rows.pushK (Nat.le_trans hl2 (Nat.le_of_lt hbl.out)) ⟨d,da,dn,dc⟩ ⟨hdask.out.weaken (fun b _ hb=>⟨fun f=>by have:=(hJ.out.rows.arow.lt b f).1; have:=b0.out.size; omega,fun f=>by have:=(hJ.out.rows.irow.lt b f).1; have:=b0.out.size; omega⟩),hdo.out,hdc.out⟩ (0:Int) (by simp[Lit.wf,IntKind.min,IntKind.max,IntKind.signed,IntKind.bits]<;>omega) (by have:=hJ.out.few; omega) (by have:=hJ.out.few; have:=hJ.out.len; omega)
       have hJ2:=hid (hJ.out.other hxt hR7 b7)
       have hxb1:((0:Int) == (t:Int))=false:=by simpa using hxt
       have hxb2:((0:Int) != (t:Int))=true:=by simpa using hxt
       replace hxt:=hid hxt
       have hkp:=hkeep bx hbl.out hbv.out hbu.out
       have hbx2:Hid (aC w7 bx #[.int .i64 a.kind,.string a.set,.string a.file,.string a.to,.int .i64 a.pos,.int .i64 a.num,.slice ba bn bc] 30):=hid (hkp.1.trans hbx.out)
       have hbv2:=hid hkp.2.1
       have hbu2:=hid hkp.2.2
       have hbl2:=hid (Nat.lt_of_lt_of_le hbl.out b7.size)
       clear hkeep hkp hR7 b7
       go_wp2_with (at_builtin; first | refine Lib.wpList_append_run _ rfl _ _ _ _ rfl _ _ rfl rfl _ _ (hr1 _) ?_ | refine Lib.wpList_append_run _ rfl _ _ _ _ rfl _ _ rfl rfl _ _ (hr2 _) ?_)
       go_roundw
       case rel=>exact⟨k2+1,n0-1,_,_,hko,by omega,by go_num,by go_num,hJ2.out,hbx2.out,hbv2.out,hbu2.out,hbl2.out⟩
       case measure=>simp[intOf]; omega
     ·have hwp:(0:Int)<(wn:Int):=by omega
      have hwd:decide ((0:Int)<(wn:Int))=true:=decide_eq_true hwp
      obtain⟨xb,xo,rfl,hxb,_,hxc⟩:=(hwho.out.below hbwi.out).2.2 (by omega)
      have hjx:k2%wn<wn:=Nat.mod_lt _ (by omega)
      have x0:=hxc (k2%wn) hjx
      have xm:Int.tmod (k2:Int) (wn:Int)=((k2%wn:Nat):Int):=rfl
      clear hxc
      generalize who.getD (k2%wn) 0=xv at *
      generalize k2%wn=jx at *
      have q1:=(hJ.out.bel.cell (p:=⟨w.heap.size,1,none⟩) k0.out.lt).trans p1
      go_wp2_with fail
      have lz:w.heap.size<wr.heap.size:=Nat.lt_of_lt_of_le k0.out.lt hJ.out.bel.size
      go_region_held3 (fun w'=>w'.cell? ⟨xb,xo+jx,none⟩=some (.int .i64 xv)/\w'.cell? ⟨w.heap.size,1,none⟩=some (.slice ta tn tc)) (first | go_keep | assumption) (first | (go_at_call 12; refine Calls.mono (cU5 xv (tn:Int) _ (by omega) (by omega)) ?_; rintro e w6 ⟨⟨r,rfl,hr⟩,rfl⟩))
      replace hJ:=hid (hJ.out.below (aD _ wr) (Nat.le_trans hl2 (Nat.le_of_lt hbl.out)))
      replace hdask:=hid (hdask.out.below (aD _ wr))
      replace hbx:=hid (hbx.out.below (aD _ wr))
      replace hbl:Hid (bx<wr.drew.heap.size):=hid hbl.out
      replace g0:wr.drew.cell? _=_:=g0
      replace g1:wr.drew.cell? _=_:=g1
      replace g2:wr.drew.cell? _=_:=g2
      replace g3:wr.drew.cell? _=_:=g3
      replace g4:wr.drew.cell? _=_:=g4
      replace g5:wr.drew.cell? _=_:=g5
      replace g6:wr.drew.cell? _=_:=g6
      clear x0 q1 lz hbwi
      generalize wr.drew=wz at *
      by_cases hxt:(r:Int)=(t:Int)
      ·have hxb1:((r:Int) == (t:Int))=true:=by rw[hxt]; exact beq_self_eq_true _
       have hxb2:((r:Int) != (t:Int))=false:=by rw[hxt]; simp
       replace hxt:=hid hxt
       have hJ2:=hid (hJ.out.later (Nat.le_succ k2))
       go_wp2_with fail
       go_roundw
       case rel=>exact⟨k2+1,n0-1,_,_,hko,by omega,by go_num,by go_num,hJ2.out,hbx.out,hbv.out,hbu.out,hbl.out⟩
       case measure=>simp[intOf]; omega
      ·obtain⟨v', w5,u', w7,hr1,hr2,hR7,b7,hkeep⟩:=hJ.out.rows.pushK (Nat.le_trans hl2 (Nat.le_of_lt hbl.out)) ⟨d,da,dn,dc⟩ ⟨hdask.out.weaken (fun b _ hb=>⟨fun f=>by have:=(hJ.out.rows.arow.lt b f).1; have:=b0.out.size; omega,fun f=>by have:=(hJ.out.rows.irow.lt b f).1; have:=b0.out.size; omega⟩),hdo.out,hdc.out⟩ (r:Int) (by simp[Lit.wf,IntKind.min,IntKind.max,IntKind.signed,IntKind.bits]<;>omega) (by have:=hJ.out.few; omega) (by have:=hJ.out.few; have:=hJ.out.len; omega)
       have hJ2:=hid (hJ.out.other hxt hR7 b7)
       have hxb1:((r:Int) == (t:Int))=false:=by simpa using hxt
       have hxb2:((r:Int) != (t:Int))=true:=by simpa using hxt
       replace hxt:=hid hxt
       have hkp:=hkeep bx hbl.out hbv.out hbu.out
       have hbx2:Hid (aC w7 bx #[.int .i64 a.kind,.string a.set,.string a.file,.string a.to,.int .i64 a.pos,.int .i64 a.num,.slice ba bn bc] 30):=hid (hkp.1.trans hbx.out)
       have hbv2:=hid hkp.2.1
       have hbu2:=hid hkp.2.2
       have hbl2:=hid (Nat.lt_of_lt_of_le hbl.out b7.size)
       clear hkeep hkp hR7 b7
       go_wp2_with (at_builtin; first | refine Lib.wpList_append_run _ rfl _ _ _ _ rfl _ _ rfl rfl _ _ (hr1 _) ?_ | refine Lib.wpList_append_run _ rfl _ _ _ _ rfl _ _ rfl rfl _ _ (hr2 _) ?_)
       go_roundw
       case rel=>exact⟨k2+1,n0-1,_,_,hko,by omega,by go_num,by go_num,hJ2.out,hbx2.out,hbv2.out,hbu2.out,hbl2.out⟩
       case measure=>simp[intOf]; omega
   ·have hxp:(0:Int)<(xn:Int):=by omega
    have hxd:decide ((0:Int)<(xn:Int))=true:=decide_eq_true hxp
    obtain⟨xb,xo,rfl,hxb,_,hxc⟩:=(hxl.out.below hb3.out).2.2 (by omega)
    have hjx:j%xn<xn:=Nat.mod_lt _ (by omega)
    have x0:=hxc (j%xn) hjx
    have xm:Int.tmod (j:Int) (xn:Int)=((j%xn:Nat):Int):=rfl
    clear hxc
    generalize xl.getD (j%xn) 0=xv at *
    generalize j%xn=jx at *
    go_wp2_with fail
    refine(cU5 xv 4 w3 (by decide) (by decide)).mono ?_
    rintro e w4 ⟨⟨r4,rfl,hr4⟩,rfl⟩
    clear x0
    go_wp2_with fail
    go_loopw [13,14,15,18] (fun v u x y wi=>∃ (k2 n0:Nat) (ms2:List vB) (by2:List Int),k2<=o/\n0<=4/\x=.int .i64 k2/\y=.int .i64 n0/\ScI w2.heap.size w2 wi (t:Int) AS j k2 v u ms2 by2/\aC wi bx #[.int .i64 a.kind,.string a.set,.string a.file,.string a.to,.int .i64 a.pos,.int .i64 a.num,.slice ba bn bc] 30/\v.ownBlock≠some bx/\u.ownBlock≠some bx/\bx<wi.heap.size) (fun _ _ _ y _=>(intOf y).toNat)
    case atStart=>exact⟨k,r4,ms,by', hk,by omega,rfl,rfl,hI3.out.1,hI3.out.2.1,hI3.out.2.2.1,hI3.out.2.2.2,by have:=sz1.out; omega⟩
    case round=>
     obtain⟨k2,n0,ms2,by2,hk2,hn4,rfl,rfl,hJ,hbx,hbv,hbu,hbl⟩:=hrel
     replace hJ:=hid hJ
     replace hbx:=hid hbx
     replace hbv:=hid hbv
     replace hbu:=hid hbu
     replace hbl:=hid hbl
     have htn3:tn<=3:=by have:=hok.out.few; have:=htn.out; omega
     have htt:=htl.out
     by_cases hn0:n0=0
     ·subst hn0
      have hbwi:Hid (Below w.heap.size w wr):=hid (b0.out.trans (hJ.out.bel.mono b0.out.size))
      have hmine:=hid (hask.out wr hbwi.out)
      obtain⟨v', w5,u', w7,hr1,hr2,hR7,b7,hkeep⟩:=hJ.out.rows.pushK (Nat.le_trans hl2 (Nat.le_of_lt hbl.out)) ⟨a,ba,bn,bc⟩ ⟨hmine.out.weaken (fun b _ hb=>⟨fun f=>by have:=(hJ.out.rows.arow.lt b f).1; have:=b0.out.size; omega,fun f=>by have:=(hJ.out.rows.irow.lt b f).1; have:=b0.out.size; omega⟩),hao.out,hca.out⟩ (t:Int) (by simp[Lit.wf,IntKind.min,IntKind.max,IntKind.signed,IntKind.bits]<;>omega) (by have:=hJ.out.few; omega) (by have:=hJ.out.few; have:=hJ.out.len; omega)
      have hJ2:=hid (hJ.out.own haj.out hax.out.symm hR7 b7)
      have e0:=hbx.out.cell 0
      have e1:=hbx.out.cell 1
      have e2:=hbx.out.cell 2
      have e3:=hbx.out.cell 3
      have e4:=hbx.out.cell 4
      have e5:=hbx.out.cell 5
      have e6:=hbx.out.cell 6
      simp only[List.getElem?_toArray,List.getElem?_cons_zero,List.getElem?_cons_succ] at e0 e1 e2 e3 e4 e5 e6
      clear hkeep hR7 b7
      go_wp2_with (at_builtin; first | refine Lib.wpList_append_run _ rfl _ _ _ _ rfl _ _ rfl rfl _ _ (hr1 _) ?_ | refine Lib.wpList_append_run _ rfl _ _ _ _ rfl _ _ rfl rfl _ _ (hr2 _) ?_)
      go_roundw
      case rel=>exact⟨j+1,k2,_,_,hlt,hk2,rfl,by go_num,hJ2.out⟩
      case measure=>simp[intOf]; omega
     have hnp:(0:Int)<(n0:Int):=by omega
     have hnd:decide ((0:Int)<(n0:Int))=true:=decide_eq_true hnp
     by_cases hko:k2<o
     case neg=>
      have hkd:¬((k2:Int)<(o:Int)):=by omega
      have hkd2:decide ((k2:Int)<(o:Int))=false:=decide_eq_false hkd
      have hbwi:Hid (Below w.heap.size w wr):=hid (b0.out.trans (hJ.out.bel.mono b0.out.size))
      have hmine:=hid (hask.out wr hbwi.out)
      obtain⟨v', w5,u', w7,hr1,hr2,hR7,b7,hkeep⟩:=hJ.out.rows.pushK (Nat.le_trans hl2 (Nat.le_of_lt hbl.out)) ⟨a,ba,bn,bc⟩ ⟨hmine.out.weaken (fun b _ hb=>⟨fun f=>by have:=(hJ.out.rows.arow.lt b f).1; have:=b0.out.size; omega,fun f=>by have:=(hJ.out.rows.irow.lt b f).1; have:=b0.out.size; omega⟩),hao.out,hca.out⟩ (t:Int) (by simp[Lit.wf,IntKind.min,IntKind.max,IntKind.signed,IntKind.bits]<;>omega) (by have:=hJ.out.few; omega) (by have:=hJ.out.few; have:=hJ.out.len; omega)
      have hJ2:=hid (hJ.out.own haj.out hax.out.symm hR7 b7)
      have e0:=hbx.out.cell 0
      have e1:=hbx.out.cell 1
      have e2:=hbx.out.cell 2
      have e3:=hbx.out.cell 3
      have e4:=hbx.out.cell 4
      have e5:=hbx.out.cell 5
      have e6:=hbx.out.cell 6
      simp only[List.getElem?_toArray,List.getElem?_cons_zero,List.getElem?_cons_succ] at e0 e1 e2 e3 e4 e5 e6
      clear hkeep hR7 b7
      go_wp2_with (at_builtin; first | refine Lib.wpList_append_run _ rfl _ _ _ _ rfl _ _ rfl rfl _ _ (hr1 _) ?_ | refine Lib.wpList_append_run _ rfl _ _ _ _ rfl _ _ rfl rfl _ _ (hr2 _) ?_)
      go_roundw
      case rel=>exact⟨j+1,k2,_,_,hlt,hk2,rfl,by go_num,hJ2.out⟩
      case measure=>simp[intOf]; omega
     have hkd2:decide ((k2:Int)<(o:Int))=true:=decide_eq_true (by omega)
     have hbwi:Hid (Below w.heap.size w wr):=hid (b0.out.trans (hJ.out.bel.mono b0.out.size))
     obtain⟨bo,oo,rfl,hbo,hco2⟩:=hom.out.2 (by omega)
     obtain⟨da,dn,dc,hD0⟩:=hco2 k2 hko
     have hD:=hD0.below hbwi.out
     have hdask:=hid ((hD0.bytes.weaken (R:=fun b=>b<w.heap.size) (fun b hb _=>hb)).below hbwi.out)
     clear hco2 hD0
     generalize OS.getD k2 aM.zero=d at *
     have g0:=hD.c0
     have g1:=hD.c1
     have g2:=hD.c2
     have g3:=hD.c3
     have g4:=hD.c4
     have g5:=hD.c5
     have g6:=hD.c6
     have hdo:=hid hD.ok
     have hdc:=hid hD.caps
     clear hD
     by_cases hw0:wn=0
     ·subst hw0
      by_cases hxt:(0:Int)=(t:Int)
      ·have hxb1:((0:Int) == (t:Int))=true:=by rw[hxt]; exact beq_self_eq_true _
       have hxb2:((0:Int) != (t:Int))=false:=by rw[hxt]; simp
       replace hxt:=hid hxt
       have hJ2:=hid (hJ.out.later (Nat.le_succ k2))
       go_wp2_with fail
       go_roundw
       case rel=>exact⟨k2+1,n0-1,_,_,hko,by omega,by go_num,by go_num,hJ2.out,hbx.out,hbv.out,hbu.out,hbl.out⟩
       case measure=>simp[intOf]; omega
      ·obtain⟨v', w5,u', w7,hr1,hr2,hR7,b7,hkeep⟩:=hJ.out.rows.pushK (Nat.le_trans hl2 (Nat.le_of_lt hbl.out)) ⟨d,da,dn,dc⟩ ⟨hdask.out.weaken (fun b _ hb=>⟨fun f=>by have:=(hJ.out.rows.arow.lt b f).1; have:=b0.out.size; omega,fun f=>by have:=(hJ.out.rows.irow.lt b f).1; have:=b0.out.size; omega⟩),hdo.out,hdc.out⟩ (0:Int) (by simp[Lit.wf,IntKind.min,IntKind.max,IntKind.signed,IntKind.bits]<;>omega) (by have:=hJ.out.few; omega) (by have:=hJ.out.few; have:=hJ.out.len; omega)
       have hJ2:=hid (hJ.out.other hxt hR7 b7)
       have hxb1:((0:Int) == (t:Int))=false:=by simpa using hxt
       have hxb2:((0:Int) != (t:Int))=true:=by simpa using hxt
       replace hxt:=hid hxt
       have hkp:=hkeep bx hbl.out hbv.out hbu.out
       have hbx2:Hid (aC w7 bx #[.int .i64 a.kind,.string a.set,.string a.file,.string a.to,.int .i64 a.pos,.int .i64 a.num,.slice ba bn bc] 30):=hid (hkp.1.trans hbx.out)
       have hbv2:=hid hkp.2.1
       have hbu2:=hid hkp.2.2
       have hbl2:=hid (Nat.lt_of_lt_of_le hbl.out b7.size)
       clear hkeep hkp hR7 b7
       go_wp2_with (at_builtin; first | refine Lib.wpList_append_run _ rfl _ _ _ _ rfl _ _ rfl rfl _ _ (hr1 _) ?_ | refine Lib.wpList_append_run _ rfl _ _ _ _ rfl _ _ rfl rfl _ _ (hr2 _) ?_)
       go_roundw
       case rel=>exact⟨k2+1,n0-1,_,_,hko,by omega,by go_num,by go_num,hJ2.out,hbx2.out,hbv2.out,hbu2.out,hbl2.out⟩
       case measure=>simp[intOf]; omega
     ·have hwp:(0:Int)<(wn:Int):=by omega
      have hwd:decide ((0:Int)<(wn:Int))=true:=decide_eq_true hwp
      obtain⟨xb2,xo2,rfl,hxb2,_,hxc⟩:=(hwho.out.below hbwi.out).2.2 (by omega)
      have hjx2:k2%wn<wn:=Nat.mod_lt _ (by omega)
      have x0:=hxc (k2%wn) hjx2
      have xm2:Int.tmod (k2:Int) (wn:Int)=((k2%wn:Nat):Int):=rfl
      clear hxc
      generalize who.getD (k2%wn) 0=xv2 at *
      generalize k2%wn=jx2 at *
      have q1:=(hJ.out.bel.cell (p:=⟨w.heap.size,1,none⟩) k0.out.lt).trans p1
      go_wp2_with fail
      have lz:w.heap.size<wr.heap.size:=Nat.lt_of_lt_of_le k0.out.lt hJ.out.bel.size
      go_region_held3 (fun w'=>w'.cell? ⟨xb2,xo2+jx2,none⟩=some (.int .i64 xv2)/\w'.cell? ⟨w.heap.size,1,none⟩=some (.slice ta tn tc)) (first | go_keep | assumption) (first | (go_at_call 12; refine Calls.mono (cU5 xv2 (tn:Int) _ (by omega) (by omega)) ?_; rintro e w6 ⟨⟨r,rfl,hr⟩,rfl⟩))
      replace hJ:=hid (hJ.out.below (aD _ wr) (Nat.le_trans hl2 (Nat.le_of_lt hbl.out)))
      replace hdask:=hid (hdask.out.below (aD _ wr))
      replace hbx:=hid (hbx.out.below (aD _ wr))
      replace hbl:Hid (bx<wr.drew.heap.size):=hid hbl.out
      replace g0:wr.drew.cell? _=_:=g0
      replace g1:wr.drew.cell? _=_:=g1
      replace g2:wr.drew.cell? _=_:=g2
      replace g3:wr.drew.cell? _=_:=g3
      replace g4:wr.drew.cell? _=_:=g4
      replace g5:wr.drew.cell? _=_:=g5
      replace g6:wr.drew.cell? _=_:=g6
      clear x0 q1 lz hbwi
      generalize wr.drew=wz at *
      by_cases hxt:(r:Int)=(t:Int)
      ·have hxb1:((r:Int) == (t:Int))=true:=by rw[hxt]; exact beq_self_eq_true _
       have hxb2:((r:Int) != (t:Int))=false:=by rw[hxt]; simp
       replace hxt:=hid hxt
       have hJ2:=hid (hJ.out.later (Nat.le_succ k2))
       go_wp2_with fail
       go_roundw
       case rel=>exact⟨k2+1,n0-1,_,_,hko,by omega,by go_num,by go_num,hJ2.out,hbx.out,hbv.out,hbu.out,hbl.out⟩
       case measure=>simp[intOf]; omega
      ·obtain⟨v', w5,u', w7,hr1,hr2,hR7,b7,hkeep⟩:=hJ.out.rows.pushK (Nat.le_trans hl2 (Nat.le_of_lt hbl.out)) ⟨d,da,dn,dc⟩ ⟨hdask.out.weaken (fun b _ hb=>⟨fun f=>by have:=(hJ.out.rows.arow.lt b f).1; have:=b0.out.size; omega,fun f=>by have:=(hJ.out.rows.irow.lt b f).1; have:=b0.out.size; omega⟩),hdo.out,hdc.out⟩ (r:Int) (by simp[Lit.wf,IntKind.min,IntKind.max,IntKind.signed,IntKind.bits]<;>omega) (by have:=hJ.out.few; omega) (by have:=hJ.out.few; have:=hJ.out.len; omega)
       have hJ2:=hid (hJ.out.other hxt hR7 b7)
       have hxb1:((r:Int) == (t:Int))=false:=by simpa using hxt
       have hxb2:((r:Int) != (t:Int))=true:=by simpa using hxt
       replace hxt:=hid hxt
       have hkp:=hkeep bx hbl.out hbv.out hbu.out
       have hbx2:Hid (aC w7 bx #[.int .i64 a.kind,.string a.set,.string a.file,.string a.to,.int .i64 a.pos,.int .i64 a.num,.slice ba bn bc] 30):=hid (hkp.1.trans hbx.out)
       have hbv2:=hid hkp.2.1
       have hbu2:=hid hkp.2.2
       have hbl2:=hid (Nat.lt_of_lt_of_le hbl.out b7.size)
       clear hkeep hkp hR7 b7
       go_wp2_with (at_builtin; first | refine Lib.wpList_append_run _ rfl _ _ _ _ rfl _ _ rfl rfl _ _ (hr1 _) ?_ | refine Lib.wpList_append_run _ rfl _ _ _ _ rfl _ _ rfl rfl _ _ (hr2 _) ?_)
       go_roundw
       case rel=>exact⟨k2+1,n0-1,_,_,hko,by omega,by go_num,by go_num,hJ2.out,hbx2.out,hbv2.out,hbu2.out,hbl2.out⟩
       case measure=>simp[intOf]; omega
  ·obtain rfl:j=m:=by omega
   obtain⟨ra,rc,rfl,hrc,hAs⟩:=hI.rows.asks
   obtain⟨ua,uc,rfl,huc,hNs⟩:=hI.rows.nums
   have hlen:=hI.len
   have hmine:=hI.mine
   have hfew:=hI.few
   have htake:AS.take j=AS:=List.take_of_length_le (by omega)
   rw[htake] at hmine
   rw[<-hlen] at hNs huc ⊢
   generalize hQ:ms.length=Q at *
   have hb1:=hI.bel
   have hAl:(ms.map (·.a)).length=Q:=by rw[List.length_map]; exact hQ
   generalize ms.map (·.a)=SS at *
   clear hI htake hQ hlen
   replace k0:=hid (k0.out.below hb1)
   replace b0:=hid (Below.tr b0.out hb1)
   clear hb1 p1
   have p0:=k0.out.cell 0
   have p1:=k0.out.cell 1
   simp only[List.getElem?_toArray,List.getElem?_cons_zero,List.getElem?_cons_succ] at p0 p1
   replace hAs:=hid hAs
   replace hNs:=hid hNs
   have hQ60:Q<=60:=by omega
   go_wp2_with fail
   refine(qZ (fun _=>True) pa n c B ta tn tc l ua uc by' ra Q rc SS wr (hP.out.below b0.out) hok.out hNs.out hAs.out hQ60).mono ?_
   rintro e w3 ⟨hret,b3⟩
   obtain⟨g,ya,yc,rb,D,l', v,ys,rfl,hR⟩:=rg_of hret
   clear hret
   have bA:=aA w3 (.cells #[.slice (some ⟨g,0,none⟩) n n,.slice ya tn yc] 27)
   have kA:Hid (aC _ w3.heap.size #[.slice (some ⟨g,0,none⟩) n n,.slice ya tn yc] 27):=hid (aB w3 _ _)
   replace hR:=hid (hR.below bA)
   replace k0:=hid ((k0.out.below b3).below bA)
   replace hNs:=hid ((hNs.out.below b3).below bA)
   replace b0:=hid (Below.tr b0.out (Below.tr b3 bA))
   clear b3 bA p0 p1
   go_upto_region 25 with fail
   generalize w3.alloc (.cells #[.slice (some ⟨g,0,none⟩) n n,.slice ya tn yc] 27)=w4 at *
   have p0:=k0.out.cell 0
   have p1:=k0.out.cell 1
   simp only[List.getElem?_toArray,List.getElem?_cons_zero,List.getElem?_cons_succ] at p0 p1
   have l0:w.heap.size<w4.heap.size:=k0.out.lt
   have n0:w.heap.size≠w4.heap.size:=by omega
   have n0':=n0.symm
   have n1:w.heap.size≠w4.heap.size+1:=by omega
   have n1':=n1.symm
   have hm60:Hid (j<=60):=hid (by omega)
   have hbyl:by'.length=Q:=hNs.out.1
   have hfacts:=hid (fun us E k=>cU9 (i:=t) (us:=us) (E:=E) (k:=k) (M:=j) (AS:=AS) hok.out (by have:=htn.out; have:=htl.out; omega) hbyl hAl hmine (by omega) hR.out.runs)
   have hcn:=hid (fun j2 (h:j2<Q)=>cV0 (i:=(t:Int)) (who:=by') (ql:=SS) (j:=j2) (by omega) (by omega))
   have hc0:(jG (t:Int) ((by'.zip SS).take 0)).length=0:=by simp[jG]
   have hce:∀ j2,(jG (t:Int) ((by'.zip SS).take j2)).length<=60:=fun j2=>by
    have h1:(jG (t:Int) ((by'.zip SS).take j2)).length<=((by'.zip SS).take j2).length:=List.length_filterMap_le _ _
    have h2:((by'.zip SS).take j2).length<=(by'.zip SS).length:=by rw[List.length_take]; omega
    have h3:(by'.zip SS).length<=Q:=by rw[List.length_zip]; omega
    omega
   generalize hcg:(fun j2=>(jG (t:Int) ((by'.zip SS).take j2)).length)=cnt at *
   have hcv:∀ j2,(jG (t:Int) ((by'.zip SS).take j2)).length=cnt j2:=fun j2=>by rw[<-hcg]
   simp only[hcv] at hfacts hcn hc0 hce
   clear hcg hcv
   have hP':Hid (∀ w', Below w4.heap.size w4 w'->fU (fun _=>True) w' pa n B ta tn l):=hid fun w' h=>hP.out.below (Below.tr b0.out h)
   have hA':Hid (∀ w', Below w4.heap.size w4 w'->kW w' qa j AS):=hid fun w' h=>hqm.out.below (Below.tr b0.out h)
   have H1:Hid (Below w4.heap.size w4 ((w4.alloc (.cells #[.int .i64 (t:Int)] 3)).drew)):=hid (bDr (bAl (Below.refl _ _) _))
   have H2:Hid (Below w4.heap.size w4 (((w4.alloc (.cells #[.int .i64 (t:Int)] 3)).alloc (.cells #[.slice none 0 0,.slice none 0 0] 27)).drew)):=hid (bDr (bAl (bAl (Below.refl _ _) _) _))
   have H3:Hid (Below w4.heap.size w4 (((w4.alloc (.cells #[.slice none 0 0,.slice none 0 0] 27)).alloc (.cells #[.int .i64 (t:Int)] 3)).drew)):=hid (bDr (bAl (bAl (Below.refl _ _) _) _))
   have S1:aC ((w4.alloc (.cells #[.int .i64 (t:Int)] 3)).drew) w4.heap.size #[.int .i64 (t:Int)] 3:=(aB w4 _ _).below (aD _ _)
   have S2:aC (((w4.alloc (.cells #[.int .i64 (t:Int)] 3)).alloc (.cells #[.slice none 0 0,.slice none 0 0] 27)).drew) w4.heap.size #[.int .i64 (t:Int)] 3:=((aB w4 #[.int .i64 (t:Int)] 3).below (aA _ (.cells #[.slice none 0 0,.slice none 0 0] 27))).below (aD _ _)
   have S3:aC (((w4.alloc (.cells #[.slice none 0 0,.slice none 0 0] 27)).alloc (.cells #[.int .i64 (t:Int)] 3)).drew) (w4.heap.size+1) #[.int .i64 (t:Int)] 3:=(aF w4 (.cells #[.slice none 0 0,.slice none 0 0] 27) _ _).below (aD _ _)
   have K2:Hid (aC (((w4.alloc (.cells #[.int .i64 (t:Int)] 3)).alloc (.cells #[.slice none 0 0,.slice none 0 0] 27)).drew) (w4.heap.size+1) #[.slice none 0 0,.slice none 0 0] 27):=hid ((aF w4 (.cells #[.int .i64 (t:Int)] 3) _ _).below (aD _ _))
   have K3:Hid (aC (((w4.alloc (.cells #[.slice none 0 0,.slice none 0 0] 27)).alloc (.cells #[.int .i64 (t:Int)] 3)).drew) w4.heap.size #[.slice none 0 0,.slice none 0 0] 27):=hid (((aB w4 #[.slice none 0 0,.slice none 0 0] 27).below (aA _ (.cells #[.int .i64 (t:Int)] 3))).below (aD _ _))
   have X1:=S1.lt
   have X2:=S2.lt
   have X3:=S3.lt
   have C1:=S1.cell 0
   have C2:=S2.cell 0
   have C3:=S3.cell 0
   simp only[List.getElem?_toArray,List.getElem?_cons_zero] at C1 C2 C3
   replace X1:=hid X1
   replace X2:=hid X2
   replace X3:=hid X3
   replace C1:=hid C1
   replace C2:=hid C2
   replace C3:=hid C3
   clear S1 S2 S3
   go_wp2_with fail
   go_cut [23,24,25] from 134 (fun v23 v24 v25 wx=>cS8 w4 wx n B tn l j ((List.replicate j (t:Int)).zip AS) v25 v23 v24)
   case first=>
    go_region_held3 (fun w'=>w'.cell? ⟨w.heap.size,0,none⟩=some (.slice pa n c)/\w'.cell? ⟨w.heap.size,1,none⟩=some (.slice ta tn tc)) (first | go_keep | assumption) (first | (go_at_call 15; with_reducible refine Calls.mono (sS w4.heap.size 0 1 j (t:Int) ((w4.alloc (.cells #[.int .i64 (t:Int)] 3)).drew) hm60.out X1.out C1.out hib.out) ?_; rintro e wR ⟨⟨gR,rfl,hNR⟩,bR⟩; have bbR:=hid (Below.tr H1.out bR); have r0:=(bbR.out.cell (p:=⟨w.heap.size,0,none⟩) l0).trans p0; have r1:=(bbR.out.cell (p:=⟨w.heap.size,1,none⟩) l0).trans p1; have hsR:=bbR.out.size; have nR:w.heap.size≠wR.heap.size:=(by omega); have nR':=nR.symm; replace hNR:=hid hNR; clear bR) | (go_at_call 15; with_reducible refine Calls.mono (sS w4.heap.size 0 1 j (t:Int) (((w4.alloc (.cells #[.int .i64 (t:Int)] 3)).alloc (.cells #[.slice none 0 0,.slice none 0 0] 27)).drew) hm60.out X2.out C2.out hib.out) ?_; rintro e wR ⟨⟨gR,rfl,hNR⟩,bR⟩; have bbR:=hid (Below.tr H2.out bR); have r0:=(bbR.out.cell (p:=⟨w.heap.size,0,none⟩) l0).trans p0; have r1:=(bbR.out.cell (p:=⟨w.heap.size,1,none⟩) l0).trans p1; have hsR:=bbR.out.size; have nR:w.heap.size≠wR.heap.size:=(by omega); have nR':=nR.symm; have kaR:=hid (K2.out.below bR); replace hNR:=hid hNR; clear bR) | (go_at_call 15; with_reducible refine Calls.mono (sS (w4.heap.size+1) 0 1 j (t:Int) (((w4.alloc (.cells #[.slice none 0 0,.slice none 0 0] 27)).alloc (.cells #[.int .i64 (t:Int)] 3)).drew) hm60.out X3.out C3.out hib.out) ?_; rintro e wR ⟨⟨gR,rfl,hNR⟩,bR⟩; have bbR:=hid (Below.tr H3.out bR); have r0:=(bbR.out.cell (p:=⟨w.heap.size,0,none⟩) l0).trans p0; have r1:=(bbR.out.cell (p:=⟨w.heap.size,1,none⟩) l0).trans p1; have hsR:=bbR.out.size; have nR:w.heap.size≠wR.heap.size:=(by omega); have nR':=nR.symm; have kaR:=hid (K3.out.below bR); replace hNR:=hid hNR; clear bR) | (go_at_call 8; with_reducible refine Calls.mono (qZ (fun _=>True) pa n c B ta tn tc l (some ⟨gR,0,none⟩) j (List.replicate j (t:Int)) qa j qc AS wR (hP'.out _ bbR.out) hok.out hNR.out (hA'.out _ bbR.out) hm60.out) ?_; rintro e w6 ⟨hret,b6⟩; obtain⟨g2,ta2,tc2,rb2,D2,l2,v2,ys2,rfl,hG⟩:=rg_of hret; have bb6:=hid (Below.tr bbR.out b6); have s0:=(bb6.out.cell (p:=⟨w.heap.size,0,none⟩) l0).trans p0; have s1:=(bb6.out.cell (p:=⟨w.heap.size,1,none⟩) l0).trans p1; have hs6:=bb6.out.size; have n6:w.heap.size≠w6.heap.size:=(by omega); have n6':=n6.symm; have ka6:=hid (kaR.out.below b6); have cka0:=ka6.out.cell 0; have cka1:=ka6.out.cell 1; have fka0:=ka6.out.frozen 0; have fka1:=ka6.out.frozen 1; simp only[List.getElem?_toArray,List.getElem?_cons_zero,List.getElem?_cons_succ] at cka0 cka1; replace hG:=hid hG; clear hret b6) | (go_at_call 8; with_reducible refine Calls.mono (qZ (fun _=>True) pa n c B ta tn tc l (some ⟨gR,0,none⟩) j (List.replicate j (t:Int)) qa j qc AS wR (hP'.out _ bbR.out) hok.out hNR.out (hA'.out _ bbR.out) hm60.out) ?_; rintro e w6 ⟨hret,b6⟩; obtain⟨g2,ta2,tc2,rb2,D2,l2,v2,ys2,rfl,hG⟩:=rg_of hret; have bb6:=hid (Below.tr bbR.out b6); have s0:=(bb6.out.cell (p:=⟨w.heap.size,0,none⟩) l0).trans p0; have s1:=(bb6.out.cell (p:=⟨w.heap.size,1,none⟩) l0).trans p1; have hs6:=bb6.out.size; have n6:w.heap.size≠w6.heap.size:=(by omega); have n6':=n6.symm; replace hG:=hid hG; clear hret b6) | (go_at_call 8; with_reducible refine Calls.mono (qZ (fun _=>True) pa n c B ta tn tc l (some ⟨gR,0,none⟩) j (List.replicate j (t:Int)) qa j qc AS (wR.alloc (.cells #[.slice none 0 0,.slice none 0 0] 27)) (hP'.out _ (bAl bbR.out _)) hok.out (hNR.out.below (aA _ _)) (hA'.out _ (bAl bbR.out _)) hm60.out) ?_; rintro e w6 ⟨hret,b6⟩; obtain⟨g2,ta2,tc2,rb2,D2,l2,v2,ys2,rfl,hG⟩:=rg_of hret; have bb6:=hid (Below.tr (bAl bbR.out _) b6); have s0:=(bb6.out.cell (p:=⟨w.heap.size,0,none⟩) l0).trans p0; have s1:=(bb6.out.cell (p:=⟨w.heap.size,1,none⟩) l0).trans p1; have hs6:=bb6.out.size; have n6:w.heap.size≠w6.heap.size:=(by omega); have n6':=n6.symm; have ka6:=hid ((aB wR #[.slice none 0 0,.slice none 0 0] 27).below b6); have cka0:=ka6.out.cell 0; have cka1:=ka6.out.cell 1; have fka0:=ka6.out.frozen 0; have fka1:=ka6.out.frozen 1; simp only[List.getElem?_toArray,List.getElem?_cons_zero,List.getElem?_cons_succ] at cka0 cka1; replace hG:=hid hG; clear hret b6))
    all_goals (go_wp2_with fail; go_meet; first
     | exact cN2 bb6.out hG.out
     | exact cN3 ka6.out (by first | exact Nat.le_refl _ | exact Nat.le_succ _ | exact bbR.out.size) bb6.out hG.out)
   case rest=>
    obtain⟨kb,g2,ta2,tc2,rb2,D2,l2,v2,ys2,rfl,rfl,rfl,kT,bT,hG⟩:=hcut
    obtain⟨hAt,htold⟩:=hfacts.out ys2 D2 l2 hG.runs
    replace hAt:=hid hAt
    replace htold:=hid htold
    replace kA:=hid (kA.out.below bT)
    replace hR:=hid (hR.out.below bT)
    replace hNs:=hid (hNs.out.below bT)
    replace b0:=hid (Below.tr b0.out bT)
    replace kT:=hid kT
    replace hG:=hid hG
    clear H1 H2 H3 K2 K3 X1 X2 X3 C1 C2 C3 hP' hA' hfacts hAs k0 p0 p1 l0 n0 n0' n1 n1' bT
    go_wp2_with fail
    go_loopw [26,168] (fun x y wr=>∃ j2:Nat,j2<=Q/\x=.int .i64 (cnt j2)/\y=.int .i64 j2/\Below wc.heap.size wc wr) (fun _ y _=>Q-(intOf y).toNat)
    case atStart=>exact⟨0,Nat.zero_le _,by rw[hc0]; rfl,rfl,Below.refl _ _⟩
    case round=>
     obtain⟨j2,hj2,rfl,rfl,bel⟩:=hrel
     have hcl:=hce j2
     by_cases hlt2:j2<Q
     ·have hnx:=hcn.out j2 hlt2
      obtain⟨plb,plo,rfl,hplb,_,hpc⟩:=(hNs.out.below bel).2.2 (by omega)
      have g0:=hpc j2 hlt2
      have htj:=htold.out j2 hlt2
      clear hpc
      generalize by'.getD j2 0=bj at *
      by_cases hbt:bj=(t:Int)
      ·subst hbt
       obtain⟨e1,e2,e3⟩:=htj rfl
       rw[if_pos rfl] at hnx
       have hR2:=hR.out.below bel
       have hG2:=hG.out.below bel
       obtain⟨x0,x1,x2,x3⟩:=hR2.ans.cells hlt2
       obtain⟨y0,y1,y2,y3⟩:=hG2.ans.cells e1
       have hX:=hR2.told j2 hlt2
       have hZ:=hG2.told (cnt j2) e1
       rw[e2] at hZ
       have hSA:Hid (∀ W', Below wr.heap.size wr W'->Calls Tryz.prog 9 #[.agg #[.int .i64 (v j2).e,.int .i64 (v j2).N,.slice (v j2).ya (v j2).yn (v j2).yc,.slice (v j2).y (v j2).ln (v j2).lc],.agg #[.int .i64 (v2 (cnt j2)).e,.int .i64 (v2 (cnt j2)).N,.slice (v2 (cnt j2)).ya (v2 (cnt j2)).yn (v2 (cnt j2)).yc,.slice (v2 (cnt j2)).y (v2 (cnt j2)).ln (v2 (cnt j2)).lc]] W' fun e w'=>e=.returned (.bool true)/\Below W'.heap.size W' w'):=hid fun W' h=>by
        have:=aT4 (v j2) (v2 (cnt j2)) _ _ _ W' (hX.below h) (hZ.below h) e3
        unfold lG.val at this
        exact this
       have lx:rb<wr.heap.size:=hR2.ans.lt
       have ly:rb2<wr.heap.size:=hG2.ans.lt
       replace bel:=hid bel
       clear hX hZ hR2 hG2 e2 e3 htj
       generalize v j2=vp at *
       generalize v2 (cnt j2)=vj at *
       have hnx':Hid (cnt (j2+1)=cnt j2+1):=hid hnx
       clear hnx
       generalize hcj:cnt j2=cj at *
       go_wp2_with fail
       go_region_held3 (fun w'=>w'.cell? ⟨rb,j2*4,none⟩=some (.int .i64 vp.e)/\w'.cell? ⟨rb,j2*4+1,none⟩=some (.int .i64 vp.N)/\w'.cell? ⟨rb,j2*4+2,none⟩=some (.slice vp.ya vp.yn vp.yc)/\w'.cell? ⟨rb,j2*4+3,none⟩=some (.slice vp.y vp.ln vp.lc)/\w'.cell? ⟨rb2,cj*4,none⟩=some (.int .i64 vj.e)/\w'.cell? ⟨rb2,cj*4+1,none⟩=some (.int .i64 vj.N)/\w'.cell? ⟨rb2,cj*4+2,none⟩=some (.slice vj.ya vj.yn vj.yc)/\w'.cell? ⟨rb2,cj*4+3,none⟩=some (.slice vj.y vj.ln vj.lc)) (first | go_keep | assumption) (first | (go_at_call 9; refine Calls.mono (hSA.out _ (aD _ _)) ?_; rintro e w6 ⟨rfl,b6⟩; replace b6:Below wr.heap.size wr w6:=(aD _ _).trans b6; have s0:=(b6.cell (p:=⟨rb,j2*4,none⟩) lx).trans x0; have s1:=(b6.cell (p:=⟨rb,j2*4+1,none⟩) lx).trans x1; have s2:=(b6.cell (p:=⟨rb,j2*4+2,none⟩) lx).trans x2; have s3:=(b6.cell (p:=⟨rb,j2*4+3,none⟩) lx).trans x3; have t0:=(b6.cell (p:=⟨rb2,cj*4,none⟩) ly).trans y0; have t1:=(b6.cell (p:=⟨rb2,cj*4+1,none⟩) ly).trans y1; have t2:=(b6.cell (p:=⟨rb2,cj*4+2,none⟩) ly).trans y2; have t3:=(b6.cell (p:=⟨rb2,cj*4+3,none⟩) ly).trans y3; replace b6:=hid b6))
       go_wp2_with fail
       go_roundw
       case rel=>exact⟨j2+1,hlt2,by rw[hnx'.out]; go_num,by go_num,bel.out.trans (b6.out.mono bel.out.size)⟩
       case measure=>simp[intOf]; omega
      ·rw[if_neg hbt,Nat.add_zero] at hnx
       replace hnx:=hid hnx
       have hxb1:(bj == (t:Int))=false:=by simpa using hbt
       have hxb2:(bj != (t:Int))=true:=by simpa using hbt
       clear htj
       go_wp2_with fail
       go_roundw
       case rel=>exact⟨j2+1,hlt2,by rw[hnx.out]; rfl,by go_num,bel⟩
       case measure=>simp[intOf]; omega
     ·obtain rfl:j2=Q:=by omega
      have q0:=(kA.out.below bel).cell 0
      have q1:=(kA.out.below bel).cell 1
      have r0:=(kT.out.below bel).cell 0
      have r1:=(kT.out.below bel).cell 1
      simp only[List.getElem?_toArray,List.getElem?_cons_zero,List.getElem?_cons_succ] at q0 q1 r0 r1
      have hPA:=hid (hR.out.pool.below bel)
      have hPB:=hid (hG.out.pool.below bel)
      replace bel:=hid bel
      go_wp2_with fail
      refine(yZ (fun _=>True) (fun _=>True) (some ⟨g,0,none⟩) n n D ya tn yc l' (some ⟨g2,0,none⟩) n n D2 ta2 tn tc2 l2 (t:Int) wr hPA.out hPB.out (eP htab.out (Below.tr b0.out bel.out))).mono ?_
      rintro e w9 ⟨hr4,b9⟩
      have hbel:=hid (Below.tr (Below.tr b0.out bel.out) b9)
      clear b9 q0 q1 r0 r1
      obtain⟨u1,u2,a1,a2,a3⟩:=hAt.out
      unfold cE8 at hr4
      rcases hr4 with⟨e', _,_,hno⟩ | ⟨k2,t2,t3,N2,M2,hk2,ht2,hu2,_,_,hN2,hM2,rfl⟩
      ·exact absurd ⟨aG2 hPA.out hR.out.ok a1,aG2 hPB.out hG.out.ok a2⟩ hno
      obtain rfl:t=k2:=by omega
      rw[a1] at ht2
      rw[a2] at hu2
      cases ht2
      cases hu2
      have hd:decide (jK D u1 N2=jK D2 u2 M2)=true:=decide_eq_true (bO0 a3 hN2 hM2).symm
      rw[hd]
      clear hd hk2
      go_wp2_with fail
      go_ret
      exact⟨rfl,hbel.out⟩
end Go.Proofs.YtjafgnohlkkopaaGreatDoor
