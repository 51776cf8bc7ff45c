import Derived.Test.YtjafgnohlkkopaaGreatDoorPart33
import Derived.Test.YtjafgnohlkkopaaGreatDoorPart34
import Derived.Deep.RegionHeld3
import Derived.Test.YtjafgnohlkkopaaGreatDoorPart01
import Derived.WalkKit
import Derived.ProofKit
import Derived.OpenShut
import Derived.Deep.Slices
import Derived.Lib.SmallJoins
set_option linter.unusedVariables false
set_option maxHeartbeats 8000000
set_option maxRecDepth 100000
namespace Go.Proofs.YtjafgnohlkkopaaGreatDoor
open Go.RowKit
theorem bT9 (w:World):Bld w.heap.size w.heap.size [] (w.alloc (.cells #[.pointer none,.slice none 0 0] 95)):=Lib.IsBuilderF.of (Lib.fresh_isBuilder _ _ w)
theorem aL0 (Q:Nat->Prop)(pa:Option Addr)(n c:Nat)(B:Nat->Blk)(ta:Option Addr)(tn tc:Nat)(l:List aO)(i:Int)(w:World)(hP:fE Q w pa n B ta tn l)(htab:Lib.TabIs Tryz.prog w tabN .u64 Lib.pow10Tab):
 Calls Tryz.prog 23 #[.agg #[.slice pa n c,.slice ta tn tc],.int .i64 i] w fun e w'=>cM8 e n B tn l i/\Below w.heap.size w w':=by
 have b0:=hid (aA w (.cells #[.slice pa n c,.slice ta tn tc] 27))
 have k0:Hid (aC _ w.heap.size #[.slice pa n c,.slice ta tn tc] 27):=hid (aB w _ _)
 have hP0:=hid (hP.below b0.out)
 have ht0:=hid (iI htab b0.out)
 clear hP htab
 go_enter Tryz.func23,Tryz.ntmps23
 go_upto_region 1 with fail
 generalize w.alloc (.cells #[.slice pa n c,.slice ta tn tc] 27)=w0 at *
 have p0:=k0.out.cell 0
 have p1:=k0.out.cell 1
 simp at p0 p1
 go_wp2_with fail
 refine(cK1 Q pa n c B ta tn tc l i cM0 none 0 0 w0 hP0.out cL9 (bX0 _)).mono ?_
 rintro e w1 ⟨hret,b1⟩
 clear p0 p1
 replace b0:=hid (Below.tr b0.out b1)
 replace k0:=hid (k0.out.below b1)
 replace hP0:=hid (hP0.out.below b1)
 replace ht0:=hid (iI ht0.out b1)
 clear b1
 unfold cG2 at hret
 rcases hret with⟨e', rfl,hne,hno⟩ | ⟨hok,k,t,rfl,ht,e1,N,ya,yn,yc,y,ln,lc,g,D,l', ua,uc,rfl,hc,hPD⟩
 ·have hbe:(e' == 0)=false:=by simp[hne]
  have b2:=hid (Below.tr (aA w1 (.cells #[.slice none 0 0,.slice none 0 0] 27)) (aA _ (.cells #[.int .i64 0,.int .i64 0,.slice none 0 0,.slice none 0 0] 41)))
  replace hno:=hid hno
  go_wp2_with fail
  go_ret2
  exact⟨.inl ⟨e', rfl,hne,hno.out⟩,Below.tr b0.out b2.out⟩
 obtain⟨rfl,hU⟩:=bK5 hc
 replace hU:=hid hU
 replace hok:=hid hok
 replace ht:=hid ht
 clear hc hPD
 have b2:=hid (Below.tr (aA w1 (.cells #[.slice (some ⟨g,0,none⟩) n n,.slice ua tn uc] 27)) (aA _ (.cells #[.int .i64 0,.int .i64 N,.slice ya yn yc,.slice y ln lc] 41)))
 have k7:=hid (aF w1 (.cells #[.slice (some ⟨g,0,none⟩) n n,.slice ua tn uc] 27) #[.int .i64 0,.int .i64 N,.slice ya yn yc,.slice y ln lc] 41)
 go_upto_region 4 with fail
 have hz2:Hid (((w1.alloc (.cells #[.slice (some ⟨g,0,none⟩) n n,.slice ua tn uc] 27)).alloc (.cells #[.int .i64 0,.int .i64 N,.slice ya yn yc,.slice y ln lc] 41)).heap.size=w1.heap.size+1+1):=hid (by simp)
 generalize (w1.alloc (.cells #[.slice (some ⟨g,0,none⟩) n n,.slice ua tn uc] 27)).alloc (.cells #[.int .i64 0,.int .i64 N,.slice ya yn yc,.slice y ln lc] 41)=w2 at *
 replace b0:=hid (Below.tr b0.out b2.out)
 replace k0:=hid (k0.out.below b2.out)
 replace hP0:=hid (hP0.out.below b2.out)
 replace ht0:=hid (iI ht0.out b2.out)
 clear b2
 obtain⟨hkl,hkt⟩:=List.getElem?_eq_some_iff.1 ht.out
 have hkn:k<tn:=by rw[<-hP0.out.tens.1]; exact hkl
 obtain⟨xb,xo,hta⟩:∃ b off,ta=some ⟨b,off,none⟩:=by
  obtain⟨b,off,e,_⟩:=hP0.out.tens.2 (by omega)
  exact⟨b,off,e⟩
 subst hta
 obtain⟨sa,sn,sc,hTI⟩:=hP0.out.tens.ten hkn
 have hgd:l.getD k aO.zero=t:=by rw[<-hkt]; simp[List.getD,hkl]
 rw[hgd] at hTI
 have hTo:=hok.out.tens t (List.mem_of_getElem? ht.out)
 have c0:=hTI.c0
 have c1:=hTI.c1
 have c2:=hTI.c2
 have hSe:=hid hTI.ok.sets
 have p1:=k0.out.cell 1
 simp at p1
 have hk0:(0:Int)<=(k:Int):=by omega
 have hk1:(k:Int)<(tn:Int):=by omega
 have hq4:=hid hTo.qb
 replace hTo:=hid hTo
 clear hTI hgd hkt
 have b3:=hid (aA w2 (.cells #[.int .i64 t.key,.int .i64 t.quota,.slice sa sn sc] 64))
 have kO:=hid (aB w2 #[.int .i64 t.key,.int .i64 t.quota,.slice sa sn sc] 64)
 go_upto_region 5 with fail
 clear c0 c1 c2 p1
 have hz3:Hid ((w2.alloc (.cells #[.int .i64 t.key,.int .i64 t.quota,.slice sa sn sc] 64)).heap.size=w2.heap.size+1):=hid (by simp)
 generalize w2.alloc (.cells #[.int .i64 t.key,.int .i64 t.quota,.slice sa sn sc] 64)=W at *
 replace b0:=hid (Below.tr b0.out b3.out)
 replace k0:=hid (k0.out.below b3.out)
 replace k7:=hid (k7.out.below b3.out)
 replace hP0:=hid (hP0.out.below b3.out)
 replace hSe:=hid (hSe.out.below b3.out)
 replace ht0:=hid (iI ht0.out b3.out)
 clear b3
 have hV0:Hid (VE W ((W.alloc (.cells #[.pointer none,.slice none 0 0] 95)).alloc (.cells #[.func (.func 41) #[] #[.pointer (some ⟨W.heap.size,0,none⟩)]] 102)) W.heap.size (W.heap.size+1) []):=hid (by
  have k:=aF W (.cells #[.pointer none,.slice none 0 0] 95) #[.func (.func 41) #[] #[.pointer (some ⟨W.heap.size,0,none⟩)]] 102
  exact⟨Below.tr (aA _ _) (aA _ _),(bT9 W).below (aA _ _),k,by omega⟩)
 have lO:=hid kO.out.lt
 have l7:=hid k7.out.lt
 go_upto_region 8 with fail
 generalize (W.alloc (.cells #[.pointer none,.slice none 0 0] 95)).alloc (.cells #[.func (.func 41) #[] #[.pointer (some ⟨W.heap.size,0,none⟩)]] 102)=w8 at *
 have q2:=(kO.out.below hV0.out.bel).cell 2
 simp at q2
 go_wp2_with fail
 clear q2
 have hsn3:sn<=3:=by rw[<-hSe.out.1]; exact hTo.out.few
 go_loopw [38] (fun v wr=>∃ j:Nat,j<=sn/\v=.int .i64 j/\VE W wr W.heap.size (W.heap.size+1) (uY B t.key (t.sets.take j))) (fun v _=>sn-(Go.RowKit.intOf v).toNat)
 case atStart=>exact⟨0,Nat.zero_le _,rfl,by simpa [uY] using hV0.out⟩
 case round=>
  clear hV0
  obtain⟨j,hj,rfl,hV⟩:=hrel
  replace hV:=hid hV
  by_cases hlt:j<sn
  ·obtain⟨rb,ro,hsa⟩:∃ b off,sa=some ⟨b,off,none⟩:=by
    obtain⟨b,off,e,_⟩:=hSe.out.2 (by omega)
    exact⟨b,off,e⟩
   generalize hsaa:sa=sa' at *
   subst hsa
   obtain⟨v,hI⟩:=hSe.out.set hlt
   have hjl:j<t.sets.length:=by rw[hSe.out.1]; exact hlt
   have hgd:t.sets.getD j aK.zero=t.sets[j]:=by simp[List.getD,hjl]
   rw[hgd] at hI
   have hx:=hid (hTo.out.sets _ (List.getElem_mem hjl))
   have hLl:=hid (aK2 (n:=n) (B:=B) (key:=t.key) (t.sets.take j) (fun x hx=>hTo.out.sets x (List.mem_of_mem_take hx)))
   have hLj:Hid ((t.sets.take j).length<=3):=hid (by rw[List.length_take]; omega)
   have htk:Hid (uY B t.key (t.sets.take (j+1))=uY B t.key (t.sets.take j)++setW B t.key t.sets[j]):=hid (aO4 _ hjl)
   clear hgd
   generalize t.sets[j]=x at *
   generalize uY B t.key (t.sets.take j)=L at *
   have hIr:=hI.below hV.out.bel
   have r0:=hIr.c0
   have r1:=hIr.c1
   have r2:=hIr.c2
   have hnm:=hid hI.ok.name
   have hFi:=hid hI.ok.files
   have hSp:=hid hI.ok.snaps
   clear hI hIr
   have hj0:(0:Int)<=(j:Int):=by omega
   have hj1:(j:Int)<(sn:Int):=by omega
   have bA:=hid (aA wr (.cells #[.string v.name,.slice v.fa v.fn v.fc,.slice v.sa v.sn v.sc] 84))
   have kX:=hid (aB wr #[.string v.name,.slice v.fa v.fn v.fc,.slice v.sa v.sn v.sc] 84)
   have nX:Hid (wr.heap.size≠W.heap.size):=hid (by have:=hV.out.bld.lt; omega)
   go_upto_region 11 with fail
   clear r0 r1 r2
   generalize wr.alloc (.cells #[.string v.name,.slice v.fa v.fn v.fc,.slice v.sa v.sn v.sc] 84)=w5 at *
   have hV5:=hid (hV.out.below bA.out)
   have x0:=kX.out.cell 0
   have l0:=hV5.out.fn.cell 0
   simp at x0 l0
   have hlen1:Hid (L.length+(gP [⟨#[115,101,116]⟩,v.name]).length<=1000000000):=hid (by
    have:=hLl.out
    have:=hLj.out
    have h8:=kH hx.out.shape.name
    have h4:(ByteArray.mk #[115,101,116]).size=3:=rfl
    rw[lX,hnm.out]
    omega)
   go_wp2_with fail
   refine(aM7 W.heap.size W.heap.size L ⟨#[115,101,116]⟩ v.name w5 hV5.out.bld hV5.out.bel.size hlen1.out).mono ?_
   rintro e w6 ⟨rfl,hB6,b6,o6⟩
   have hV6:=hid (hV5.out.wrote hB6 b6 o6)
   replace kX:=hid (eP o6 kX.out nX.out (by decide))
   clear x0 l0 hB6 b6 o6
   have x1:=kX.out.cell 1
   simp at x1
   have hl6:Hid ((L++gP [⟨#[115,101,116]⟩,v.name]).length<=200000):=hid (by
    have:=hLl.out
    have:=hLj.out
    have h8:=kH hx.out.shape.name
    have h4:(ByteArray.mk #[115,101,116]).size=3:=rfl
    rw[List.length_append,lX,hnm.out]
    omega)
   have hfn:v.fn<=6:=by rw[<-hFi.out.1]; exact hx.out.shape.few
   have hsp3:v.sn<=3:=by rw[<-hSp.out.1]; exact hx.out.shape.fewS
   go_wp2_with fail
   refine(aO7 W Q pa n c B w.heap.size w2.heap.size _ _ _ t.key v.fa v.fn v.fc x.files ⟨#[32]⟩ W.heap.size (W.heap.size+1) _ w6 hP0.out.store k0.out kO.out hFi.out hx.out.fileOk hfn (by decide) ht0.out hV6.out (by have:=hl6.out; omega)).mono ?_
   rintro e w7 ⟨rfl,hV7,o7⟩
   replace hV7:=hid hV7
   replace kX:=hid (eP o7 kX.out nX.out (by decide))
   have hl7:Hid ((L++gP [⟨#[115,101,116]⟩,v.name]++iE ⟨#[32]⟩ t.key B x.files).length<=210000):=hid (by
    have h1:=mE (n:=n) (B:=B) (key:=t.key) (ahead:=⟨#[32]⟩) (by decide) x.files hx.out.fileOk
    have h2:=hx.out.shape.few
    have:=hl6.out
    rw[List.length_append]
    omega)
   clear x1 hV6 o7
   have x2:=kX.out.cell 2
   simp at x2
   go_wp2_with fail
   clear x2
   go_loopw [54] (fun u wq=>∃ m:Nat,m<=v.sn/\u=.int .i64 m/\VE W wq W.heap.size (W.heap.size+1) (L++gP [⟨#[115,101,116]⟩,v.name]++iE ⟨#[32]⟩ t.key B x.files++nP B t.key (x.snaps.take m))) (fun u _=>v.sn-(Go.RowKit.intOf u).toNat)
   case atStart=>exact⟨0,Nat.zero_le _,rfl,by simpa [nP] using hV7.out⟩
   case round=>
    clear hV7 hV hV5 kX bA
    obtain⟨m,hm,rfl,hV⟩:=hrel
    replace hV:=hid hV
    by_cases hmt:m<v.sn
    ·obtain⟨pb,po,hpa⟩:∃ b off,v.sa=some ⟨b,off,none⟩:=by
      obtain⟨b,off,e,_⟩:=hSp.out.2 (by omega)
      exact⟨b,off,e⟩
     generalize hvs:v.sa=vsa at *
     subst hpa
     obtain⟨fa,fn,fc,hN⟩:=hSp.out.snap hmt
     have hml:m<x.snaps.length:=by rw[hSp.out.1]; exact hmt
     have hgd:x.snaps.getD m bD.zero=x.snaps[m]:=by simp[List.getD,hml]
     rw[hgd] at hN
     have hsm:=hid (List.getElem_mem hml)
     have htm:Hid (nP B t.key (x.snaps.take (m+1))=nP B t.key (x.snaps.take m)++bN7 B t.key x.snaps[m]):=hid (aO4 _ hml)
     have hLm:=hid (zT hx.out (x.snaps.take m) (fun s hs=>List.mem_of_mem_take hs))
     have hLk:Hid ((x.snaps.take m).length<=3):=hid (by rw[List.length_take]; omega)
     clear hgd
     generalize x.snaps[m]=z at *
     have hNr:=hN.below hV.out.bel
     have r0:=hNr.c0
     have r1:=hNr.c1
     have hFz:=hid hN.files
     clear hN hNr
     have hm0:(0:Int)<=(m:Int):=by omega
     have hm1:(m:Int)<(v.sn:Int):=by omega
     have bZ:=hid (aA wr (.cells #[.string z.name,.slice fa fn fc] 113))
     have kZ:=hid (aB wr #[.string z.name,.slice fa fn fc] 113)
     have nZ:Hid (wr.heap.size≠W.heap.size):=hid (by have:=hV.out.bld.lt; omega)
     go_upto_region 16 with fail
     clear r0 r1
     generalize wr.alloc (.cells #[.string z.name,.slice fa fn fc] 113)=w10 at *
     have hV10:=hid (hV.out.below bZ.out)
     have x0:=kZ.out.cell 0
     have l0:=hV10.out.fn.cell 0
     simp at x0 l0
     obtain⟨L8,hL8⟩:∃ L8,L8=L++gP [⟨#[115,101,116]⟩,v.name]++iE ⟨#[32]⟩ t.key B x.files++nP B t.key (x.snaps.take m):=⟨_,rfl⟩
     have hl8:Hid (L8.length<=300000):=hid (by
      have:=hl7.out
      have:=hLm.out
      have:=hLk.out
      rw[hL8,List.length_append]
      omega)
     rw[<-hL8] at hV10
     replace hL8:=hid hL8
     have hl9:Hid ((L8++gP [⟨#[32,97,116]⟩,z.name]).length<=400000):=hid (by
      have:=hl8.out
      have h8:=kH (hx.out.shape.namesS z hsm.out)
      have h4:(ByteArray.mk #[32,97,116]).size=3:=rfl
      rw[List.length_append,lX]
      omega)
     go_wp2_with fail
     refine(aM7 W.heap.size W.heap.size L8 ⟨#[32,97,116]⟩ z.name w10 hV10.out.bld hV10.out.bel.size (by have:=hl9.out; rw[List.length_append] at this; omega)).mono ?_
     rintro e w11 ⟨rfl,hB11,b11,o11⟩
     have hV11:=hid (hV10.out.wrote hB11 b11 o11)
     replace kZ:=hid (eP o11 kZ.out nZ.out (by decide))
     clear x0 l0 hB11 b11 o11
     have x1:=kZ.out.cell 1
     simp at x1
     have hfz:=hx.out.filesS z hsm.out
     have hfn6:fn<=6:=by rw[<-hFz.out.1]; exact hfz.few
     replace hfz:=hid hfz
     go_wp2_with fail
     refine(aO7 W Q pa n c B w.heap.size w2.heap.size _ _ _ t.key fa fn fc z.files ⟨#[32,32]⟩ W.heap.size (W.heap.size+1) _ w11 hP0.out.store k0.out kO.out hFz.out (hx.out.snapFileOk hsm.out) hfn6 (by decide) ht0.out hV11.out (by have:=hl9.out; omega)).mono ?_
     rintro e w12 ⟨rfl,hV12,o12⟩
     replace hV12:=hid hV12
     clear x1 o12 kZ hV11 hV10
     go_wp2_with fail
     go_roundw
     case rel=>exact⟨m+1,by omega,by go_num,by
      have:=hV12.out
      rw[hL8.out] at this
      rw[htm.out]
      unfold bN7
      simpa only[List.append_assoc] using this⟩
     case measure=>simp[Go.RowKit.intOf]; omega
    ·obtain rfl:m=v.sn:=by omega
     have hta:x.snaps.take v.sn=x.snaps:=List.take_of_length_le (by rw[hSp.out.1]; omega)
     rw[hta] at hV
     go_wp2_with fail
     go_roundw
     case rel=>exact⟨j+1,by omega,by go_num,by
      have:=hV.out
      rw[htk.out]
      unfold setW
      rw[hnm.out] at this
      simpa only[List.append_assoc] using this⟩
     case measure=>simp[Go.RowKit.intOf]; omega
  ·obtain rfl:j=sn:=by omega
   have hta:t.sets.take j=t.sets:=List.take_of_length_le (by rw[hSe.out.1]; omega)
   rw[hta] at hV
   have hLl:=hid (aK2 (n:=n) (B:=B) (key:=t.key) t.sets hTo.out.sets)
   have hN4:=bY1 hok.out (List.mem_of_getElem? ht.out) hU.out
   have hlen:Hid ((uY B t.key t.sets).length+(gP [⟨#[117,115,101,115]⟩,aG0 N,⟨#[111,102]⟩,aG0 t.quota]).length<=1000000000):=hid (by
    have:=hLl.out
    have:=hTo.out.few
    have h1:=aF8 N hN4.1 (by omega)
    have h2:=aF8 t.quota hq4.out.1 (by have:=hq4.out.2; omega)
    have h4:(ByteArray.mk #[117,115,101,115]).size=4:=rfl
    have h5:(ByteArray.mk #[111,102]).size=2:=rfl
    rw[bI4]
    omega)
   have q1:=(kO.out.below hV.out.bel).cell 1
   have u1:=(k7.out.below hV.out.bel).cell 1
   have l0:=hV.out.fn.cell 0
   simp at q1 u1 l0
   have hTd:Hid (∀ w', Below wr.heap.size wr w'->Lib.TabIs Tryz.prog w' tabN .u64 Lib.pow10Tab):=hid (fun w' b=>iI ht0.out (hV.out.bel.trans (b.mono hV.out.bel.size)))
   have hTd1:=hid (hTd.out _ (aD _ _))
   have lO2:=hid (Nat.lt_of_lt_of_le lO.out hV.out.bel.size)
   have l72:=hid (Nat.lt_of_lt_of_le l7.out hV.out.bel.size)
   have lF:=hid hV.out.fn.lt
   have hq0:=hq4.out.1
   have hq1:t.quota<=1000000:=by have:=hq4.out.2; omega
   have hN0:=hN4.1
   have hN1:N<=1000000:=by omega
   have neO:Hid (w2.heap.size≠W.heap.size/\64≠5):=hid ⟨by have:=lO.out; omega,by decide⟩
   have ne7:Hid (w1.heap.size+1≠W.heap.size/\41≠5):=hid ⟨by have:=l7.out; omega,by decide⟩
   have neF:Hid (102≠5):=hid (by decide)
   clear hN4
   go_upto_region 20 with fail
   go_region_held3 (fun w'=>w'.cell? ⟨W.heap.size+1,0,none⟩=some (.func (.func 41) #[] #[.pointer (some ⟨W.heap.size,0,none⟩)])/\w'.cell? ⟨w1.heap.size+1,1,none⟩=some (.int .i64 N)/\w'.cell? ⟨w2.heap.size,1,none⟩=some (.int .i64 t.quota)) (first | go_keep | assumption) (first | (go_at_call 47; refine Calls.mono (aF9 N hN0 hN1 wr.drew hTd1.out) ?_; rintro e w7 ⟨rfl,b7⟩; replace b7:Below wr.heap.size wr w7:=(aD _ _).trans b7; have s0:=(b7.cell (p:=⟨W.heap.size+1,0,none⟩) lF.out).trans l0; have s1:=(b7.cell (p:=⟨w1.heap.size+1,1,none⟩) l72.out).trans u1; have s2:=(b7.cell (p:=⟨w2.heap.size,1,none⟩) lO2.out).trans q1; have hTd2:=hid (hTd.out _ b7); replace b7:=hid b7) | (go_at_call 47; refine Calls.mono (aF9 t.quota hq0 hq1 w7 hTd2.out) ?_; rintro e w8 ⟨rfl,b8⟩; replace b8:Below wr.heap.size wr w8:=Below.tr b7.out b8; have s0':=(b8.cell (p:=⟨W.heap.size+1,0,none⟩) lF.out).trans l0; have s1':=(b8.cell (p:=⟨w1.heap.size+1,1,none⟩) l72.out).trans u1; have s2':=(b8.cell (p:=⟨w2.heap.size,1,none⟩) lO2.out).trans q1; have n1:W.heap.size+1≠w8.heap.size:=(by have:=b8.size; have:=lF.out; omega); have n1':=n1.symm; have n2:w1.heap.size+1≠w8.heap.size:=(by have:=b8.size; have:=l72.out; omega); have n2':=n2.symm; have n3:w2.heap.size≠w8.heap.size:=(by have:=b8.size; have:=lO2.out; omega); have n3':=n3.symm; have hB8:=hid (hV.out.bld.below b8); have hz8:=hid b8.size; replace b8:=hid b8) | (go_at_call 41; with_reducible refine Calls.mono (bS5 W.heap.size W.heap.size _ _ _ _ _ w8 hB8.out ?_ hlen.out) ?_; exact Nat.le_trans hV.out.bel.size hz8.out; rintro e w9 ⟨rfl,hB9,b9,o9⟩; have K1:=eP o9 ((hV.out.below b8.out).fn) hV.out.ne neF.out; have K2:=eP o9 ((k7.out.below hV.out.bel).below b8.out) ne7.out.1 ne7.out.2; have K3:=eP o9 ((kO.out.below hV.out.bel).below b8.out) neO.out.1 neO.out.2; have s0q:=K1.cell 0; have s1q:=K2.cell 1; have s2q:=K3.cell 1; simp only[List.getElem?_toArray,List.getElem?_cons_zero,List.getElem?_cons_succ] at s0q s1q s2q; clear K1 K2 K3; replace hB9:=hid hB9; replace b9:=hid b9; replace o9:=hid o9))
   all_goals (
    go_wp2_with fail
    refine(Tryz.Builder_String_any_k W.heap.size W.heap.size _ w9 hB9.out (by have:=hV.out.bel.size; have:=b8.out.size; have:=b9.out.size; omega)).mono ?_
    rintro e w10 ⟨rfl,_,b10,_⟩
    go_wp2_with fail
    go_ret2
    refine⟨.inr ⟨k,t,N,rfl,ht.out,hok.out,hU.out,rfl⟩,?_⟩
    have hWs:=b0.out.size
    exact(b0.out.trans (hV.out.bel.mono hWs)).trans ((b8.out.mono (by have:=hV.out.bel.size; omega)).trans ((b9.out.mono hWs).trans (b10.mono hWs))))
theorem bY9 (a b:List UInt8):((ByteArray.mk a.toArray).toList == (ByteArray.mk b.toArray).toList)=decide (a=b):=by
 rw[ByteArray.toList_eq,ByteArray.toList_eq]
 show (a.toArray.toList == b.toArray.toList)=_
 rw[List.toList_toArray,List.toList_toArray]
 by_cases h:a=b
 ·subst h; simp
 ·simp[h]
def cS7 (n:Nat)(B:Nat->Blk)(tn:Nat)(l:List aO)(i:Int):Prop:=aQ n B l/\0<=i/\i<(tn:Int)
def cS0 (e:Ending)(n:Nat)(B:Nat->Blk)(tn:Nat)(l:List aO)(n':Nat)(D:Nat->Blk)(un:Nat)(m:List aO)(i:Int):Prop:=
 (∃ e':Int,e=.returned (.tuple #[.bool false,.int .i64 e'])/\e'≠0/\¬(cS7 n B tn l i/\cS7 n' D un m i))\/
 (∃ (k:Nat) (t u:aO) (N M:Int),i=(k:Int)/\l[k]? =some t/\m[k]? =some u/\cS7 n B tn l i/\cS7 n' D un m i/\qU B (aL t) N/\qU D (aL u) M/\e=.returned (.tuple #[.bool (decide (qZ B t N=qZ D u M)),.int .i64 0]))
theorem aG7 {Q:Nat->Prop}{w:World}{pa:Option Addr}{n:Nat}{B:Nat->Blk}{ta:Option Addr}{tn:Nat}{l:List aO}{k:Nat}{t:aO}(hP:fE Q w pa n B ta tn l)(hok:aQ n B l)(ht:l[k]? =some t):cS7 n B tn l (k:Int):=by
 obtain⟨h,_⟩:=List.getElem?_eq_some_iff.1 ht
 have:=hP.tens.1
 exact⟨hok,by omega,by omega⟩
theorem bX2 (Q R:Nat->Prop)(pa:Option Addr)(n c:Nat)(B:Nat->Blk)(ta:Option Addr)(tn tc:Nat)(l:List aO)(qa:Option Addr)(n' c':Nat)(D:Nat->Blk)(ua:Option Addr)(un uc:Nat)(m:List aO)(i:Int)(w:World)(hP:fE Q w pa n B ta tn l)(hD:fE R w qa n' D ua un m)(htab:Lib.TabIs Tryz.prog w tabN .u64 Lib.pow10Tab):
 Calls Tryz.prog 10 #[.agg #[.slice pa n c,.slice ta tn tc],.agg #[.slice qa n' c', .slice ua un uc],.int .i64 i] w fun e w'=>cS0 e n B tn l n' D un m i/\Below w.heap.size w w':=by
 have b0:=hid (aW w (.cells #[.slice pa n c,.slice ta tn tc] 27) (.cells #[.slice qa n' c', .slice ua un uc] 27))
 have k0:Hid (aC _ w.heap.size #[.slice pa n c,.slice ta tn tc] 27):=hid ((aB w _ _).below (aA _ (.cells #[.slice qa n' c', .slice ua un uc] 27)))
 have k1:=hid (aF w (.cells #[.slice pa n c,.slice ta tn tc] 27) #[.slice qa n' c', .slice ua un uc] 27)
 have hP0:=hid (hP.below b0.out)
 have hD0:=hid (hD.below b0.out)
 have ht0:=hid (iI htab b0.out)
 clear hP hD htab
 go_enter Tryz.func10,Tryz.ntmps10
 go_upto_region 1 with fail
 generalize (w.alloc (.cells #[.slice pa n c,.slice ta tn tc] 27)).alloc (.cells #[.slice qa n' c', .slice ua un uc] 27)=w0 at *
 have p0:=k0.out.cell 0
 have p1:=k0.out.cell 1
 simp at p0 p1
 go_wp2_with fail
 refine(aL0 Q pa n c B ta tn tc l i w0 hP0.out ht0.out).mono ?_
 rintro e w1 ⟨hr,b1⟩
 clear p0 p1
 replace k1:=hid (k1.out.below b1)
 replace hP0:=hid (hP0.out.below b1)
 replace hD0:=hid (hD0.out.below b1)
 replace ht0:=hid (iI ht0.out b1)
 replace b0:=hid (Below.tr b0.out b1)
 clear b1
 unfold cM8 at hr
 rcases hr with⟨e', rfl,hne,hno⟩ | ⟨k,t,N,rfl,ht,hok,hU,rfl⟩
 ·have hbe:(e' == 0)=false:=by simp[hne]
  replace hno:=hid hno
  go_wp2_with fail
  go_ret2
  exact⟨.inl ⟨e', rfl,hne,fun f=>hno.out f.1⟩,b0.out⟩
 have hH:=hid (aG7 hP0.out hok ht)
 replace ht:=hid ht
 replace hok:=hid hok
 replace hU:=hid hU
 have p0:=k1.out.cell 0
 have p1:=k1.out.cell 1
 simp at p0 p1
 generalize hs1:(ByteArray.mk (qZ B t N).toArray)=s1 at *
 replace hs1:=hid hs1
 go_wp2_with fail
 refine(aL0 R qa n' c' D ua un uc m k w1 hD0.out ht0.out).mono ?_
 rintro e w2 ⟨hr,b2⟩
 clear p0 p1
 replace b0:=hid (Below.tr b0.out b2)
 clear b2
 unfold cM8 at hr
 rcases hr with⟨e', rfl,hne,hno⟩ | ⟨k', u,M,hk', hu,hok', hU', rfl⟩
 ·have hbe:(e' == 0)=false:=by simp[hne]
  replace hno:=hid hno
  go_wp2_with fail
  go_ret2
  exact⟨.inl ⟨e', rfl,hne,fun f=>hno.out f.2⟩,b0.out⟩
 obtain rfl:k=k':=by omega
 have hH':=hid (aG7 hD0.out hok' hu)
 replace hu:=hid hu
 replace hU':=hid hU'
 clear hk'
 generalize hs2:(ByteArray.mk (qZ D u M).toArray)=s2 at *
 replace hs2:=hid hs2
 go_wp2_with fail
 go_ret2
 refine⟨.inr ⟨k,t,u,N,M,rfl,ht.out,hu.out,hH.out,hH'.out,hU.out,hU'.out,?_⟩,b0.out⟩
 rw[<-bY9,hs1.out,hs2.out]
 rfl
end Go.Proofs.YtjafgnohlkkopaaGreatDoor
namespace Go.Proofs.YtjafgnohlkkopaaGreatDoor
open Go.RowKit Go.Deep
structure OrB (w w':World)(pa:Option Addr)(n c:Nat)(ta:Option Addr)(tn tc:Nat)(a:aP)(ba:Option Addr)(bn bc:Nat)(b:aP)(da:Option Addr)(dn dc:Nat):Prop where
 bel:Below w.heap.size w w'
 bP:aC w' w.heap.size #[.slice pa n c,.slice ta tn tc] 27
 bA:aC w' (w.heap.size+1) #[.int .i64 a.kind,.string a.set,.string a.file,.string a.to,.int .i64 a.pos,.int .i64 a.num,.slice ba bn bc] 30
 bB:aC w' (w.heap.size+1+1) #[.int .i64 b.kind,.string b.set,.string b.file,.string b.to,.int .i64 b.pos,.int .i64 b.num,.slice da dn dc] 30
theorem OrB.below {w w' w'':World}{pa:Option Addr}{n c:Nat}{ta:Option Addr}{tn tc:Nat}{a:aP}{ba:Option Addr}{bn bc:Nat}{b:aP}{da:Option Addr}{dn dc:Nat}(h:OrB w w' pa n c ta tn tc a ba bn bc b da dn dc)(k:Below w'.heap.size w' w''):OrB w w'' pa n c ta tn tc a ba bn bc b da dn dc:=⟨Below.tr h.bel k,h.bP.below k,h.bA.below k,h.bB.below k⟩
theorem aL4 (w:World)(pa:Option Addr)(n c:Nat)(ta:Option Addr)(tn tc:Nat)(a:aP)(ba:Option Addr)(bn bc:Nat)(b:aP)(da:Option Addr)(dn dc:Nat):OrB w (((w.alloc (.cells #[.slice pa n c,.slice ta tn tc] 27)).alloc (.cells #[.int .i64 a.kind,.string a.set,.string a.file,.string a.to,.int .i64 a.pos,.int .i64 a.num,.slice ba bn bc] 30)).alloc (.cells #[.int .i64 b.kind,.string b.set,.string b.file,.string b.to,.int .i64 b.pos,.int .i64 b.num,.slice da dn dc] 30)) pa n c ta tn tc a ba bn bc b da dn dc:=by
 have k3:=aB ((w.alloc (.cells #[.slice pa n c,.slice ta tn tc] 27)).alloc (.cells #[.int .i64 a.kind,.string a.set,.string a.file,.string a.to,.int .i64 a.pos,.int .i64 a.num,.slice ba bn bc] 30)) #[.int .i64 b.kind,.string b.set,.string b.file,.string b.to,.int .i64 b.pos,.int .i64 b.num,.slice da dn dc] 30
 simp only[szB] at k3
 exact⟨bAl (bAl (bAl (Below.refl _ _) _) _) _,((aB w _ _).below (aA _ _)).below (aA _ _),(aF w _ _ _).below (aA _ _),k3⟩
theorem aE5 (pa:Option Addr)(n c:Nat)(B:Nat->Blk)(ta:Option Addr)(tn tc:Nat)(l:List aO)(i:Int)(a:aP)(ba:Option Addr)(bn bc:Nat)(k:Int)(b:aP)(da:Option Addr)(dn dc:Nat)(w:World)(hP:fE (fun _=>True) w pa n B ta tn l)(hi:-9223372036854775808<=i/\i<=9223372036854775807)(hao:a.ok)(hA:aI (fun _=>True) .u8 w ba bn a.bytes)(hac:bn<=bc)(hk:-9223372036854775808<=k/\k<=9223372036854775807)(hbo:b.ok)(hB:aI (fun _=>True) .u8 w da dn b.bytes)(hbc:dn<=dc)(htab:Lib.TabIs Tryz.prog w tabN .u64 Lib.pow10Tab)(e0:Int)(hchk:cN6 n B l e0)(h0:e0≠0):
 Calls Tryz.prog 3 #[.agg #[.slice pa n c,.slice ta tn tc],.int .i64 i,.agg #[.int .i64 a.kind,.string a.set,.string a.file,.string a.to,.int .i64 a.pos,.int .i64 a.num,.slice ba bn bc],.int .i64 k,.agg #[.int .i64 b.kind,.string b.set,.string b.file,.string b.to,.int .i64 b.pos,.int .i64 b.num,.slice da dn dc]] w fun e w'=>e=.returned (.bool true)/\Below w.heap.size w w':=by
 have hob:=hid (aL4 w pa n c ta tn tc a ba bn bc b da dn dc)
 replace hP:=hid hP
 replace hA:=hid hA
 replace hB:=hid hB
 replace htab:=hid htab
 replace hchk:=hid hchk
 replace hao:=hid hao
 replace hbo:=hid hbo
 replace hac:=hid hac
 replace hbc:=hid hbc
 replace hi:=hid hi
 replace hk:=hid hk
 go_enter Tryz.func3,Tryz.ntmps3
 go_upto_region 1 with fail
 generalize ((w.alloc (.cells #[.slice pa n c,.slice ta tn tc] 27)).alloc (.cells #[.int .i64 a.kind,.string a.set,.string a.file,.string a.to,.int .i64 a.pos,.int .i64 a.num,.slice ba bn bc] 30)).alloc (.cells #[.int .i64 b.kind,.string b.set,.string b.file,.string b.to,.int .i64 b.pos,.int .i64 b.num,.slice da dn dc] 30)=w0 at *
 go_wp2_with fail
 refine(oO w0).mono ?_
 rintro e w1 ⟨rfl,b1⟩
 replace hob:=hid (hob.out.below b1)
 clear b1
 by_cases hik:i=k
 ·subst hik
  go_wp2_with fail
  refine(oO w1).mono ?_
  rintro e w5 ⟨rfl,b5⟩
  go_wp2_with fail
  go_ret
  exact⟨rfl,Below.tr hob.out.bel b5⟩
 have hik1:(i == k)=false:=by simpa using hik
 have hcells:=hob.out
 have p0:=hcells.bP.cell 0
 have p1:=hcells.bP.cell 1
 have a0:=hcells.bA.cell 0
 have a1:=hcells.bA.cell 1
 have a2:=hcells.bA.cell 2
 have a3:=hcells.bA.cell 3
 have a4:=hcells.bA.cell 4
 have a5:=hcells.bA.cell 5
 have a6:=hcells.bA.cell 6
 have c0:=hcells.bB.cell 0
 have c1:=hcells.bB.cell 1
 have c2:=hcells.bB.cell 2
 have c3:=hcells.bB.cell 3
 have c4:=hcells.bB.cell 4
 have c5:=hcells.bB.cell 5
 have c6:=hcells.bB.cell 6
 simp only[List.getElem?_toArray,List.getElem?_cons_zero,List.getElem?_cons_succ] at p0 p1 a0 a1 a2 a3 a4 a5 a6 c0 c1 c2 c3 c4 c5 c6
 have l0:w.heap.size<w1.heap.size:=hcells.bP.lt
 have l1:w.heap.size+1<w1.heap.size:=hcells.bA.lt
 have l2:w.heap.size+1+1<w1.heap.size:=hcells.bB.lt
 have n0:w.heap.size≠w1.heap.size:=by omega
 have n0':=n0.symm
 have n1:w.heap.size+1≠w1.heap.size:=by omega
 have n1':=n1.symm
 have n2:w.heap.size+1+1≠w1.heap.size:=by omega
 have n2':=n2.symm
 clear hcells
 go_wp2_with fail
 have bb:=hob.out.below (bAl (bAl (Below.refl _ w1) (.cells #[.int .i64 i,.int .i64 k] 3)) (.cells #[.int .i64 a.kind,.string a.set,.string a.file,.string a.to,.int .i64 a.pos,.int .i64 a.num,.slice ba bn bc,.int .i64 b.kind,.string b.set,.string b.file,.string b.to,.int .i64 b.pos,.int .i64 b.num,.slice da dn dc] 30))
 refine(bA8 pa n c B ta tn tc l _ 2 2 _ 2 2 e0 _ (hP.out.below bb.bel) hchk.out h0).mono ?_
 rintro e w2 ⟨rfl,b2⟩
 replace hob:=hid ((bb.below b2).below (aA w2 (.cells #[.slice none 0 0,.slice none 0 0] 27)))
 clear bb b2 p0 p1 a0 a1 a2 a3 a4 a5 a6 c0 c1 c2 c3 c4 c5 c6 l0 l1 l2 n0 n0' n1 n1' n2 n2'
 go_upto_region 4 with fail
 generalize w2.alloc (.cells #[.slice none 0 0,.slice none 0 0] 27)=w3 at *
 have hcells:=hob.out
 have p0:=hcells.bP.cell 0
 have p1:=hcells.bP.cell 1
 have a0:=hcells.bA.cell 0
 have a1:=hcells.bA.cell 1
 have a2:=hcells.bA.cell 2
 have a3:=hcells.bA.cell 3
 have a4:=hcells.bA.cell 4
 have a5:=hcells.bA.cell 5
 have a6:=hcells.bA.cell 6
 have c0:=hcells.bB.cell 0
 have c1:=hcells.bB.cell 1
 have c2:=hcells.bB.cell 2
 have c3:=hcells.bB.cell 3
 have c4:=hcells.bB.cell 4
 have c5:=hcells.bB.cell 5
 have c6:=hcells.bB.cell 6
 simp only[List.getElem?_toArray,List.getElem?_cons_zero,List.getElem?_cons_succ] at p0 p1 a0 a1 a2 a3 a4 a5 a6 c0 c1 c2 c3 c4 c5 c6
 have l0:w.heap.size<w3.heap.size:=hcells.bP.lt
 have l1:w.heap.size+1<w3.heap.size:=hcells.bA.lt
 have l2:w.heap.size+1+1<w3.heap.size:=hcells.bB.lt
 have n0:w.heap.size≠w3.heap.size:=by omega
 have n0':=n0.symm
 have n1:w.heap.size+1≠w3.heap.size:=by omega
 have n1':=n1.symm
 have n2:w.heap.size+1+1≠w3.heap.size:=by omega
 have n2':=n2.symm
 clear hcells
 go_wp2_with fail
 have bb:=hob.out.below (bAl (bAl (Below.refl _ w3) (.cells #[.int .i64 k,.int .i64 i] 3)) (.cells #[.int .i64 b.kind,.string b.set,.string b.file,.string b.to,.int .i64 b.pos,.int .i64 b.num,.slice da dn dc,.int .i64 a.kind,.string a.set,.string a.file,.string a.to,.int .i64 a.pos,.int .i64 a.num,.slice ba bn bc] 30))
 refine(bA8 pa n c B ta tn tc l _ 2 2 _ 2 2 e0 _ (hP.out.below bb.bel) hchk.out h0).mono ?_
 rintro e w4 ⟨rfl,b4⟩
 have hbel:=hid (bb.below b4).bel
 clear bb b4 p0 p1 a0 a1 a2 a3 a4 a5 a6 c0 c1 c2 c3 c4 c5 c6 l0 l1 l2 n0 n0' n1 n1' n2 n2'
 go_wp2_with fail
 go_ret
 exact⟨by simp,Below.tr hbel.out (aA _ _)⟩
theorem zG (pa:Option Addr)(n c:Nat)(B:Nat->Blk)(ta:Option Addr)(tn tc:Nat)(l:List aO)(i:Int)(a:aP)(ba:Option Addr)(bn bc:Nat)(k:Int)(b:aP)(da:Option Addr)(dn dc:Nat)(w:World)(hP:fE (fun _=>True) w pa n B ta tn l)(hi:-9223372036854775808<=i/\i<=9223372036854775807)(hao:a.ok)(hA:aI (fun _=>True) .u8 w ba bn a.bytes)(hac:bn<=bc)(hk:-9223372036854775808<=k/\k<=9223372036854775807)(hbo:b.ok)(hB:aI (fun _=>True) .u8 w da dn b.bytes)(hbc:dn<=dc)(htab:Lib.TabIs Tryz.prog w tabN .u64 Lib.pow10Tab)(hok:aQ n B l):
 Calls Tryz.prog 3 #[.agg #[.slice pa n c,.slice ta tn tc],.int .i64 i,.agg #[.int .i64 a.kind,.string a.set,.string a.file,.string a.to,.int .i64 a.pos,.int .i64 a.num,.slice ba bn bc],.int .i64 k,.agg #[.int .i64 b.kind,.string b.set,.string b.file,.string b.to,.int .i64 b.pos,.int .i64 b.num,.slice da dn dc]] w fun e w'=>e=.returned (.bool true)/\Below w.heap.size w w':=by
 have hob:=hid (aL4 w pa n c ta tn tc a ba bn bc b da dn dc)
 replace hP:=hid hP
 replace hA:=hid hA
 replace hB:=hid hB
 replace htab:=hid htab
 replace hok:=hid hok
 replace hao:=hid hao
 replace hbo:=hid hbo
 replace hac:=hid hac
 replace hbc:=hid hbc
 replace hi:=hid hi
 replace hk:=hid hk
 go_enter Tryz.func3,Tryz.ntmps3
 go_upto_region 1 with fail
 generalize ((w.alloc (.cells #[.slice pa n c,.slice ta tn tc] 27)).alloc (.cells #[.int .i64 a.kind,.string a.set,.string a.file,.string a.to,.int .i64 a.pos,.int .i64 a.num,.slice ba bn bc] 30)).alloc (.cells #[.int .i64 b.kind,.string b.set,.string b.file,.string b.to,.int .i64 b.pos,.int .i64 b.num,.slice da dn dc] 30)=w0 at *
 go_wp2_with fail
 refine(oO w0).mono ?_
 rintro e w1 ⟨rfl,b1⟩
 replace hob:=hid (hob.out.below b1)
 clear b1
 by_cases hik:i=k
 ·subst hik
  go_wp2_with fail
  refine(oO w1).mono ?_
  rintro e w5 ⟨rfl,b5⟩
  go_wp2_with fail
  go_ret
  exact⟨rfl,Below.tr hob.out.bel b5⟩
 have hik1:(i == k)=false:=by simpa using hik
 have hcells:=hob.out
 have p0:=hcells.bP.cell 0
 have p1:=hcells.bP.cell 1
 have a0:=hcells.bA.cell 0
 have a1:=hcells.bA.cell 1
 have a2:=hcells.bA.cell 2
 have a3:=hcells.bA.cell 3
 have a4:=hcells.bA.cell 4
 have a5:=hcells.bA.cell 5
 have a6:=hcells.bA.cell 6
 have c0:=hcells.bB.cell 0
 have c1:=hcells.bB.cell 1
 have c2:=hcells.bB.cell 2
 have c3:=hcells.bB.cell 3
 have c4:=hcells.bB.cell 4
 have c5:=hcells.bB.cell 5
 have c6:=hcells.bB.cell 6
 simp only[List.getElem?_toArray,List.getElem?_cons_zero,List.getElem?_cons_succ] at p0 p1 a0 a1 a2 a3 a4 a5 a6 c0 c1 c2 c3 c4 c5 c6
 have l0:w.heap.size<w1.heap.size:=hcells.bP.lt
 have l1:w.heap.size+1<w1.heap.size:=hcells.bA.lt
 have l2:w.heap.size+1+1<w1.heap.size:=hcells.bB.lt
 have n0:w.heap.size≠w1.heap.size:=by omega
 have n0':=n0.symm
 have n1:w.heap.size+1≠w1.heap.size:=by omega
 have n1':=n1.symm
 have n2:w.heap.size+1+1≠w1.heap.size:=by omega
 have n2':=n2.symm
 clear hcells
 go_wp2_with fail
 have ki:=(aB w1 #[.int .i64 i,.int .i64 k] 3).below (aA _ (.cells #[.int .i64 a.kind,.string a.set,.string a.file,.string a.to,.int .i64 a.pos,.int .i64 a.num,.slice ba bn bc,.int .i64 b.kind,.string b.set,.string b.file,.string b.to,.int .i64 b.pos,.int .i64 b.num,.slice da dn dc] 30))
 have kq:=aF w1 (.cells #[.int .i64 i,.int .i64 k] 3) #[.int .i64 a.kind,.string a.set,.string a.file,.string a.to,.int .i64 a.pos,.int .i64 a.num,.slice ba bn bc,.int .i64 b.kind,.string b.set,.string b.file,.string b.to,.int .i64 b.pos,.int .i64 b.num,.slice da dn dc] 30
 have bb:=hob.out.below (bAl (bAl (Below.refl _ w1) (.cells #[.int .i64 i,.int .i64 k] 3)) (.cells #[.int .i64 a.kind,.string a.set,.string a.file,.string a.to,.int .i64 a.pos,.int .i64 a.num,.slice ba bn bc,.int .i64 b.kind,.string b.set,.string b.file,.string b.to,.int .i64 b.pos,.int .i64 b.num,.slice da dn dc] 30))
 refine(aE4 (fun _=>True) pa n c B ta tn tc l _ 2 [i,k] _ 2 2 [a,b] _ (hP.out.below bb.bel) hok.out (aY7 hi.out hk.out ki) (aY8 kq hao.out hbo.out (hA.out.below bb.bel) (hB.out.below bb.bel) hac.out hbc.out) (by omega)).mono ?_
 rintro e w2 ⟨hret,b2⟩
 obtain⟨g,ya,yc,rb,D,l', v,ys,rfl,hR⟩:=rg_of hret
 clear hret ki kq
 have bA:=aA w2 (.cells #[.slice (some ⟨g,0,none⟩) n n,.slice ya tn yc] 27)
 have kA:Hid (aC _ w2.heap.size #[.slice (some ⟨g,0,none⟩) n n,.slice ya tn yc] 27):=hid (aB w2 _ _)
 replace hR:=hid (hR.below bA)
 replace hob:=hid ((bb.below b2).below bA)
 clear bb b2 bA p0 p1 a0 a1 a2 a3 a4 a5 a6 c0 c1 c2 c3 c4 c5 c6 l0 l1 l2 n0 n0' n1 n1' n2 n2'
 go_upto_region 4 with fail
 generalize w2.alloc (.cells #[.slice (some ⟨g,0,none⟩) n n,.slice ya tn yc] 27)=w3 at *
 have hcells:=hob.out
 have p0:=hcells.bP.cell 0
 have p1:=hcells.bP.cell 1
 have a0:=hcells.bA.cell 0
 have a1:=hcells.bA.cell 1
 have a2:=hcells.bA.cell 2
 have a3:=hcells.bA.cell 3
 have a4:=hcells.bA.cell 4
 have a5:=hcells.bA.cell 5
 have a6:=hcells.bA.cell 6
 have c0:=hcells.bB.cell 0
 have c1:=hcells.bB.cell 1
 have c2:=hcells.bB.cell 2
 have c3:=hcells.bB.cell 3
 have c4:=hcells.bB.cell 4
 have c5:=hcells.bB.cell 5
 have c6:=hcells.bB.cell 6
 simp only[List.getElem?_toArray,List.getElem?_cons_zero,List.getElem?_cons_succ] at p0 p1 a0 a1 a2 a3 a4 a5 a6 c0 c1 c2 c3 c4 c5 c6
 have l0:w.heap.size<w3.heap.size:=hcells.bP.lt
 have l1:w.heap.size+1<w3.heap.size:=hcells.bA.lt
 have l2:w.heap.size+1+1<w3.heap.size:=hcells.bB.lt
 have n0:w.heap.size≠w3.heap.size:=by omega
 have n0':=n0.symm
 have n1:w.heap.size+1≠w3.heap.size:=by omega
 have n1':=n1.symm
 have n2:w.heap.size+1+1≠w3.heap.size:=by omega
 have n2':=n2.symm
 clear hcells
 go_wp2_with fail
 have ki:=(aB w3 #[.int .i64 k,.int .i64 i] 3).below (aA _ (.cells #[.int .i64 b.kind,.string b.set,.string b.file,.string b.to,.int .i64 b.pos,.int .i64 b.num,.slice da dn dc,.int .i64 a.kind,.string a.set,.string a.file,.string a.to,.int .i64 a.pos,.int .i64 a.num,.slice ba bn bc] 30))
 have kq:=aF w3 (.cells #[.int .i64 k,.int .i64 i] 3) #[.int .i64 b.kind,.string b.set,.string b.file,.string b.to,.int .i64 b.pos,.int .i64 b.num,.slice da dn dc,.int .i64 a.kind,.string a.set,.string a.file,.string a.to,.int .i64 a.pos,.int .i64 a.num,.slice ba bn bc] 30
 have bC:=bAl (bAl (Below.refl _ w3) (.cells #[.int .i64 k,.int .i64 i] 3)) (.cells #[.int .i64 b.kind,.string b.set,.string b.file,.string b.to,.int .i64 b.pos,.int .i64 b.num,.slice da dn dc,.int .i64 a.kind,.string a.set,.string a.file,.string a.to,.int .i64 a.pos,.int .i64 a.num,.slice ba bn bc] 30)
 have bb:=hob.out.below bC
 refine(aE4 (fun _=>True) pa n c B ta tn tc l _ 2 [k,i] _ 2 2 [b,a] _ (hP.out.below bb.bel) hok.out (aY7 hk.out hi.out ki) (aY8 kq hbo.out hao.out (hB.out.below bb.bel) (hA.out.below bb.bel) hbc.out hac.out) (by omega)).mono ?_
 rintro e w4 ⟨hret,b4⟩
 obtain⟨g2,ya2,yc2,rb2,D2,l2', v2,ys2,rfl,hG⟩:=rg_of hret
 clear hret ki kq
 have bA:=aA w4 (.cells #[.slice (some ⟨g2,0,none⟩) n n,.slice ya2 tn yc2] 27)
 have kB:Hid (aC _ w4.heap.size #[.slice (some ⟨g2,0,none⟩) n n,.slice ya2 tn yc2] 27):=hid (aB w4 _ _)
 have b34:=Below.tr (Below.tr bC b4) bA
 replace hR:=hid (hR.out.below b34)
 replace kA:=hid (kA.out.below b34)
 replace hG:=hid (hG.below bA)
 replace hob:=hid ((bb.below b4).below bA)
 clear bb bC b4 b34 bA p0 p1 a0 a1 a2 a3 a4 a5 a6 c0 c1 c2 c3 c4 c5 c6 l0 l1 l2 n0 n0' n1 n1' n2 n2'
 go_upto_region 5 with fail
 generalize w4.alloc (.cells #[.slice (some ⟨g2,0,none⟩) n n,.slice ya2 tn yc2] 27)=w5 at *
 obtain⟨hAt,e1,e2,s1,s2⟩:=bH8 hok.out hik hR.out.runs hG.out.runs
 replace hAt:=hid hAt
 obtain⟨x0,x1,x2,x3⟩:=hR.out.ans.cells (i:=0) (by omega)
 obtain⟨y0,y1,y2,y3⟩:=hR.out.ans.cells (i:=1) (by omega)
 obtain⟨z0,z1,z2,z3⟩:=hG.out.ans.cells (i:=0) (by omega)
 obtain⟨t0,t1,t2,t3⟩:=hG.out.ans.cells (i:=1) (by omega)
 simp only[Nat.zero_mul,Nat.zero_add,Nat.one_mul] at x0 x1 x2 x3 y0 y1 y2 y3 z0 z1 z2 z3 t0 t1 t2 t3
 have hX0:=hR.out.told 0 (by omega)
 have hX1:=hR.out.told 1 (by omega)
 have hZ0:=hG.out.told 0 (by omega)
 have hZ1:=hG.out.told 1 (by omega)
 rw[e2] at hZ0
 rw[e1] at hZ1
 have hSA1:Hid (∀ W', Below w5.heap.size w5 W'->Calls Tryz.prog 9 #[.agg #[.int .i64 (v 0).e,.int .i64 (v 0).N,.slice (v 0).ya (v 0).yn (v 0).yc,.slice (v 0).y (v 0).ln (v 0).lc],.agg #[.int .i64 (v2 1).e,.int .i64 (v2 1).N,.slice (v2 1).ya (v2 1).yn (v2 1).yc,.slice (v2 1).y (v2 1).ln (v2 1).lc]] W' fun e w'=>e=.returned (.bool true)/\Below W'.heap.size W' w'):=hid fun W' h=>by
  have:=wQ (v 0) (v2 1) _ _ _ W' (hX0.below h) (hZ1.below h) s1
  unfold kY.val at this
  exact this
 have hSA2:Hid (∀ W', Below w5.heap.size w5 W'->Calls Tryz.prog 9 #[.agg #[.int .i64 (v 1).e,.int .i64 (v 1).N,.slice (v 1).ya (v 1).yn (v 1).yc,.slice (v 1).y (v 1).ln (v 1).lc],.agg #[.int .i64 (v2 0).e,.int .i64 (v2 0).N,.slice (v2 0).ya (v2 0).yn (v2 0).yc,.slice (v2 0).y (v2 0).ln (v2 0).lc]] W' fun e w'=>e=.returned (.bool true)/\Below W'.heap.size W' w'):=hid fun W' h=>by
  have:=wQ (v 1) (v2 0) _ _ _ W' (hX1.below h) (hZ0.below h) s2
  unfold kY.val at this
  exact this
 have lx:rb<w5.heap.size:=hR.out.ans.lt
 have ly:rb2<w5.heap.size:=hG.out.ans.lt
 clear hX0 hX1 hZ0 hZ1 e1 e2 s1 s2
 generalize v 0=va at *
 generalize v 1=vb at *
 generalize v2 0=ua at *
 generalize v2 1=ub at *
 go_wp2_with fail
 go_region_held3 (fun w'=>w'.cell? ⟨rb,0,none⟩=some (.int .i64 va.e)/\w'.cell? ⟨rb,1,none⟩=some (.int .i64 va.N)/\w'.cell? ⟨rb,2,none⟩=some (.slice va.ya va.yn va.yc)/\w'.cell? ⟨rb,3,none⟩=some (.slice va.y va.ln va.lc)/\w'.cell? ⟨rb,4,none⟩=some (.int .i64 vb.e)/\w'.cell? ⟨rb,5,none⟩=some (.int .i64 vb.N)/\w'.cell? ⟨rb,6,none⟩=some (.slice vb.ya vb.yn vb.yc)/\w'.cell? ⟨rb,7,none⟩=some (.slice vb.y vb.ln vb.lc)/\w'.cell? ⟨rb2,0,none⟩=some (.int .i64 ua.e)/\w'.cell? ⟨rb2,1,none⟩=some (.int .i64 ua.N)/\w'.cell? ⟨rb2,2,none⟩=some (.slice ua.ya ua.yn ua.yc)/\w'.cell? ⟨rb2,3,none⟩=some (.slice ua.y ua.ln ua.lc)/\w'.cell? ⟨rb2,4,none⟩=some (.int .i64 ub.e)/\w'.cell? ⟨rb2,5,none⟩=some (.int .i64 ub.N)/\w'.cell? ⟨rb2,6,none⟩=some (.slice ub.ya ub.yn ub.yc)/\w'.cell? ⟨rb2,7,none⟩=some (.slice ub.y ub.ln ub.lc)) (first | go_keep | assumption) (first | (go_at_call_of 9 (Value.agg #[Value.int .i64 va.e,.int .i64 va.N,.slice va.ya va.yn va.yc,.slice va.y va.ln va.lc]); refine Calls.mono (hSA1.out _ (aD _ _)) ?_; rintro e w6 ⟨rfl,b6⟩; replace b6:Below w5.heap.size w5 w6:=(aD _ _).trans b6; have sx0:=(b6.cell (p:=⟨rb,0,none⟩) lx).trans x0; have sx1:=(b6.cell (p:=⟨rb,1,none⟩) lx).trans x1; have sx2:=(b6.cell (p:=⟨rb,2,none⟩) lx).trans x2; have sx3:=(b6.cell (p:=⟨rb,3,none⟩) lx).trans x3; have sy0:=(b6.cell (p:=⟨rb,4,none⟩) lx).trans y0; have sy1:=(b6.cell (p:=⟨rb,5,none⟩) lx).trans y1; have sy2:=(b6.cell (p:=⟨rb,6,none⟩) lx).trans y2; have sy3:=(b6.cell (p:=⟨rb,7,none⟩) lx).trans y3; have sz0:=(b6.cell (p:=⟨rb2,0,none⟩) ly).trans z0; have sz1:=(b6.cell (p:=⟨rb2,1,none⟩) ly).trans z1; have sz2:=(b6.cell (p:=⟨rb2,2,none⟩) ly).trans z2; have sz3:=(b6.cell (p:=⟨rb2,3,none⟩) ly).trans z3; have st0:=(b6.cell (p:=⟨rb2,4,none⟩) ly).trans t0; have st1:=(b6.cell (p:=⟨rb2,5,none⟩) ly).trans t1; have st2:=(b6.cell (p:=⟨rb2,6,none⟩) ly).trans t2; have st3:=(b6.cell (p:=⟨rb2,7,none⟩) ly).trans t3; replace b6:=hid b6) | (go_at_call_of 9 (Value.agg #[Value.int .i64 vb.e,.int .i64 vb.N,.slice vb.ya vb.yn vb.yc,.slice vb.y vb.ln vb.lc]); refine Calls.mono (hSA2.out _ b6.out) ?_; rintro e w7 ⟨rfl,b7⟩; replace b7:Below w5.heap.size w5 w7:=b6.out.trans (b7.mono b6.out.size); have rx0:=(b7.cell (p:=⟨rb,0,none⟩) lx).trans x0; have rx1:=(b7.cell (p:=⟨rb,1,none⟩) lx).trans x1; have rx2:=(b7.cell (p:=⟨rb,2,none⟩) lx).trans x2; have rx3:=(b7.cell (p:=⟨rb,3,none⟩) lx).trans x3; have ry0:=(b7.cell (p:=⟨rb,4,none⟩) lx).trans y0; have ry1:=(b7.cell (p:=⟨rb,5,none⟩) lx).trans y1; have ry2:=(b7.cell (p:=⟨rb,6,none⟩) lx).trans y2; have ry3:=(b7.cell (p:=⟨rb,7,none⟩) lx).trans y3; have rz0:=(b7.cell (p:=⟨rb2,0,none⟩) ly).trans z0; have rz1:=(b7.cell (p:=⟨rb2,1,none⟩) ly).trans z1; have rz2:=(b7.cell (p:=⟨rb2,2,none⟩) ly).trans z2; have rz3:=(b7.cell (p:=⟨rb2,3,none⟩) ly).trans z3; have rt0:=(b7.cell (p:=⟨rb2,4,none⟩) ly).trans t0; have rt1:=(b7.cell (p:=⟨rb2,5,none⟩) ly).trans t1; have rt2:=(b7.cell (p:=⟨rb2,6,none⟩) ly).trans t2; have rt3:=(b7.cell (p:=⟨rb2,7,none⟩) ly).trans t3; replace b7:=hid b7))
 replace hR:=hid (hR.out.below b7.out)
 replace hG:=hid (hG.out.below b7.out)
 replace kA:=hid (kA.out.below b7.out)
 replace kB:=hid (kB.out.below b7.out)
 replace hob:=hid (hob.out.below b7.out)
 have p1:=hob.out.bP.cell 1
 simp only[List.getElem?_toArray,List.getElem?_cons_zero,List.getElem?_cons_succ] at p1
 have htn:=hP.out.tens.1
 have htn3:tn<=3:=by have:=hok.out.few; omega
 go_wp2_with fail
 go_loopw [92] (fun y wr=>∃ j:Nat,j<=tn/\y=.int .i64 j/\Below w7.heap.size w7 wr) (fun y _=>tn-(Go.RowKit.intOf y).toNat)
 case atStart=>exact⟨0,Nat.zero_le _,rfl,Below.refl _ _⟩
 case round=>
  obtain⟨j,hj,rfl,bel⟩:=hrel
  by_cases hlt:j<tn
  ·have q0:=(kA.out.below bel).cell 0
   have q1:=(kA.out.below bel).cell 1
   have r0:=(kB.out.below bel).cell 0
   have r1:=(kB.out.below bel).cell 1
   simp only[List.getElem?_toArray,List.getElem?_cons_zero,List.getElem?_cons_succ] at q0 q1 r0 r1
   have hPA:=hid (hR.out.pool.below bel)
   have hPB:=hid (hG.out.pool.below bel)
   replace bel:=hid bel
   go_wp2_with fail
   refine(bX2 (fun _=>True) (fun _=>True) (some ⟨g,0,none⟩) n n D ya tn yc l' (some ⟨g2,0,none⟩) n n D2 ya2 tn yc2 l2' (j:Int) wr hPA.out hPB.out (iI htab.out (Below.tr hob.out.bel bel.out))).mono ?_
   rintro e w9 ⟨hr4,b9⟩
   have hbel:=hid (bel.out.trans (b9.mono bel.out.size))
   clear b9 q0 q1 r0 r1
   obtain⟨u1,u2,a1,a2,a3⟩:=hAt.out j (by omega)
   unfold cS0 at hr4
   rcases hr4 with⟨e', _,_,hno⟩ | ⟨k2,t2,t3,N2,M2,hk2,ht2,hu2,_,_,hN2,hM2,rfl⟩
   ·exact absurd ⟨aG7 hPA.out hR.out.ok a1,aG7 hPB.out hG.out.ok a2⟩ hno
   obtain rfl:j=k2:=by omega
   rw[a1] at ht2
   rw[a2] at hu2
   cases ht2
   cases hu2
   have hd:decide (qZ D u1 N2=qZ D2 u2 M2)=true:=decide_eq_true (bP2 a3 hN2 hM2).symm
   rw[hd]
   clear hd hk2
   go_wp2_with fail
   go_roundw
   case rel=>exact⟨j+1,hlt,by go_num,hbel.out⟩
   case measure=>simp[Go.RowKit.intOf]; omega
  ·obtain rfl:j=tn:=by omega
   go_wp2_with fail
   go_ret
   exact⟨rfl,Below.tr hob.out.bel bel⟩
end Go.Proofs.YtjafgnohlkkopaaGreatDoor
namespace Go.Proofs.YtjafgnohlkkopaaGreatDoor
open Go.RowKit
theorem bT0 {n:Nat}{B:Nat->Blk}{K:Blk}{c d:Int}(h:bT1 n B K c)(k:bT1 n B K d):c=d:=by
 rcases h with⟨rfl,h⟩ | ⟨rfl,h⟩<;>rcases k with⟨rfl,k⟩ | ⟨rfl,k⟩<;>first | rfl | contradiction
theorem cF1 {n:Nat}{B:Nat->Blk}{K:Blk}{c d:Int}(h:cI3 n B K c)(k:cI3 n B K d):c=d:=by
 rcases h with⟨rfl,a⟩ | ⟨rfl,a,b⟩ | ⟨rfl,a,b,f⟩ | ⟨a,b,f,g⟩<;>rcases k with⟨rfl,a'⟩ | ⟨rfl,a', b'⟩ | ⟨rfl,a', b', f'⟩ | ⟨a', b', f', g'⟩<;>first | rfl | contradiction | exact bT0 g g'
theorem cE5 {n:Nat}{B:Nat->Blk}{c d:Int}(h:cQ9 n B c)(k:cQ9 n B d):c=d:=by
 rcases h with⟨rfl,a⟩ | ⟨a,f⟩ | ⟨a,f,rfl⟩<;>rcases k with⟨rfl,b⟩ | ⟨b,g⟩ | ⟨b,g,rfl⟩
 ·rfl
 ·exact absurd b a
 ·exact absurd b a
 ·exact absurd a b
 ·refine aV8 ?_ f g
  exact fun _ _ _=>cF1
 ·obtain⟨i,hi,_,hno,_⟩:=f
  exact absurd (g i hi) hno
 ·exact absurd a b
 ·obtain⟨i,hi,_,hno,_⟩:=g
  exact absurd (f i hi) hno
 ·rfl
theorem bQ2 {n:Nat}{B:Nat->Blk}{key root size c d:Int}(hR:Right n B)(h:aL5 n B key root size c)(k:aL5 n B key root size d):c=d:=by
 rcases h hR with⟨rfl,a⟩ | ⟨a,⟨rfl,x⟩ | ⟨rfl,x⟩⟩<;>rcases k hR with⟨rfl,b⟩ | ⟨b,⟨rfl,y⟩ | ⟨rfl,y⟩⟩<;>first | rfl | contradiction
theorem bX3 {α:Type}{f:α->List UInt8}{l:List α}{j:Nat}{s r:List UInt8}(h:Ahead f l j s)(k:Ahead f l j r):s=r:=by
 rcases h with⟨h0,rfl⟩ | ⟨x,hx,h0,rfl⟩<;>rcases k with⟨k0,rfl⟩ | ⟨y,hy,k0,rfl⟩
 ·rfl
 ·omega
 ·omega
 ·rw[hx] at hy
  cases hy
  rfl
theorem bD0 {α:Type}{f:α->List UInt8}{l:List α}{G:α->Prop}{j k:Nat}{x:α}{s:List UInt8}(hG:∀ x,G x->1<=(f x).length)(hx:l[j]? =some x)(ha:Ahead f l j s)(hj:j<k)(hg:∀ y∈l.take k,G y)(ho:(l.take k).Pairwise fun a b=>f a<f b):G x/\s<f x:=by
 have hx':(l.take k)[j]? =some x:=by rw[List.getElem?_take,if_pos hj]; exact hx
 have hgx:=hg x (List.mem_of_getElem? hx')
 refine⟨hgx,mZ hx' ho ?_ (hG x hgx)⟩
 rcases ha with ha | ⟨y,hy,h0,rfl⟩
 ·exact .inl ha
 ·exact .inr ⟨y,by rw[List.getElem?_take,if_pos (by omega)]; exact hy,h0,rfl⟩
theorem qM {α:Type}{f:α->List UInt8}{l:List α}{G:α->Prop}{T:List UInt8->α->Int->Prop}{c d:Int}(hG:∀ x,G x->1<=(f x).length)(hT:∀ s x c,T s x c->¬(G x/\s<f x))(h1:∀ s x c d,T s x c->T s x d->c=d)(h:nE f l G T c)(k:nE f l G T d):c=d:=by
 obtain⟨j,x,s,hx,ha,hg,ho,ht⟩:=h
 obtain⟨i,y,r,hy,hb,kg,ko,kt⟩:=k
 rcases Nat.lt_trichotomy j i with e | rfl | e
 ·exact absurd (bD0 hG hx ha e kg ko) (hT _ _ _ ht)
 ·rw[hx] at hy
  cases hy
  rw[bX3 ha hb] at ht
  exact h1 _ _ _ _ ht kt
 ·exact absurd (bD0 hG hy hb e hg ho) (hT _ _ _ kt)
theorem bQ5 {N lt G:Prop}{S:Int->Prop}{c d:Int}(hS:S c->S d->c=d)(h:nmT N lt G S c)(k:nmT N lt G S d):c=d:=by
 rcases h with⟨rfl,a⟩ | ⟨rfl,a,b⟩ | ⟨⟨a,b⟩,g,s⟩<;>rcases k with⟨rfl,a'⟩ | ⟨rfl,a', b'⟩ | ⟨⟨a', b'⟩,g', s'⟩<;>first | rfl | contradiction | exact hS s s'
theorem cH5 {N lt G:Prop}{S:Int->Prop}{c:Int}(h:nmT N lt G S c):¬((N/\G)/\lt):=by
 rcases h with⟨_,a⟩ | ⟨_,_,b⟩ | ⟨_,g,_⟩
 ·exact fun f=>a f.1.1
 ·exact fun f=>b f.2
 ·exact fun f=>g f.1.2
theorem aC0 {n:Nat}{B:Nat->Blk}{key:Int}{l:List Ent}{c d:Int}(hR:Right n B)(h:filesS n B key l c)(k:filesS n B key l d):c=d:=by
 rcases h with⟨rfl,a⟩ | ⟨a,f⟩<;>rcases k with⟨rfl,b⟩ | ⟨b,g⟩
 ·rfl
 ·exact absurd b a
 ·exact absurd a b
 ·refine qM ?_ ?_ ?_ f g
  ·exact fun x h=>h.1.1
  ·exact fun s x c t=>cH5 t
  ·exact fun s x c d t u=>bQ5 (bQ2 hR) t u
theorem bN4 {n:Nat}{B:Nat->Blk}{key:Int}{l:List bD}{c d:Int}(hR:Right n B)(h:nE bD.nm l (fun y=>aM y.name/\gZ n B key y.files) (bZ1 n B key) c)(k:nE bD.nm l (fun y=>aM y.name/\gZ n B key y.files) (bZ1 n B key) d):c=d:=by
 refine qM ?_ ?_ ?_ h k
 ·exact fun x h=>h.1.1
 ·exact fun s x c t=>cH5 t
 ·exact fun s x c d t u=>bQ5 (aC0 hR) t u
theorem bZ5 {n:Nat}{B:Nat->Blk}{key:Int}{x:aK}{c d:Int}(hR:Right n B)(h:cO4 n B key x c)(k:cO4 n B key x d):c=d:=by
 rcases h hR with⟨rfl,a⟩ | ⟨a,⟨rfl,b⟩ | ⟨b,⟨f,g⟩ | ⟨f,⟨rfl,g⟩ | ⟨g,i⟩⟩⟩⟩<;>rcases k hR with⟨rfl,a'⟩ | ⟨a', ⟨rfl,b'⟩ | ⟨b', ⟨f', g'⟩ | ⟨f', ⟨rfl,g'⟩ | ⟨g', i'⟩⟩⟩⟩<;>first | rfl | contradiction | exact aC0 hR g g' | exact bN4 hR i i'
theorem cJ2 {n:Nat}{B:Nat->Blk}{key:Int}{s:List UInt8}{x:aK}{c:Int}(h:cJ3 n B key s x c):¬(aV n B key x/\s<x.nm):=by
 rcases h with⟨a,_⟩ | ⟨_,_,b⟩
 ·exact fun f=>a f.1
 ·exact fun f=>b f.2
theorem bZ4 {n:Nat}{B:Nat->Blk}{key:Int}{s:List UInt8}{x:aK}{c d:Int}(hR:Right n B)(h:cJ3 n B key s x c)(k:cJ3 n B key s x d):c=d:=by
 rcases h with⟨a,b⟩ | ⟨rfl,a,b⟩<;>rcases k with⟨a', b'⟩ | ⟨rfl,a', b'⟩<;>first | rfl | contradiction | exact bZ5 hR b b'
theorem bZ2 {n:Nat}{B:Nat->Blk}{key:Int}{l:List aK}{c d:Int}(hR:Right n B)(h:nE aK.nm l (aV n B key) (cJ3 n B key) c)(k:nE aK.nm l (aV n B key) (cJ3 n B key) d):c=d:=by
 refine qM ?_ ?_ ?_ h k
 ·exact fun x h=>h.name.1
 ·exact fun s x c t=>cJ2 t
 ·exact fun s x c d t u=>bZ4 hR t u
theorem bY5 {n:Nat}{B:Nat->Blk}{t:aO}{c d:Int}(hR:Right n B)(h:cO1 n B t c)(k:cO1 n B t d):c=d:=by
 rcases h with⟨rfl,a⟩ | ⟨a,⟨rfl,b⟩ | ⟨b,f⟩⟩<;>rcases k with⟨rfl,a'⟩ | ⟨a', ⟨rfl,b'⟩ | ⟨b', f'⟩⟩<;>first | rfl | contradiction | exact bZ2 hR f f'
theorem bY4 {n:Nat}{B:Nat->Blk}{l:List aO}{j:Nat}{t:aO}{V W:List Int}{c d:Int}(hR:Right n B)(h:cO0 n B l j t V c)(k:cO0 n B l j t W d):c=d:=by
 rcases h with⟨a,b⟩ | ⟨a,rfl,b⟩ | ⟨a,b,rfl,f⟩<;>rcases k with⟨a', b'⟩ | ⟨a', rfl,b'⟩ | ⟨a', b', rfl,f'⟩<;>first | rfl | contradiction | exact bY5 hR b b'
theorem aD6 {n:Nat}{B:Nat->Blk}{l:List aO}{j k:Nat}{t:aO}{V W:List Int}{c:Int}(hx:l[j]? =some t)(hj:j<k)(hW:mJ n B l k W)(hV:mJ n B l j V)(h:cO0 n B l j t V c):False:=by
 have hx':(l.take k)[j]? =some t:=by rw[List.getElem?_take,if_pos hj]; exact hx
 have hm:=List.mem_of_getElem? hx'
 have et:(l.take k).take j=l.take j:=by rw[List.take_take,Nat.min_eq_left (by omega)]
 rcases h with⟨a,_⟩ | ⟨_,_,a⟩ | ⟨_,_,_,x,hxV,hc⟩
 ·exact a (hW.tens t hm)
 ·refine a ⟨?_,hW.uses t hm⟩
  have h1:=hW.room (by omega)
  have h2:=uG (l:=l.take k) (j+1) (fun t ht=>(hW.tens t ht).qb.1)
  rw[List.take_take,Nat.min_eq_left (by omega)] at h2
  omega
 ·obtain⟨u,hu,hd⟩:=(hV.taken x).1 hxV
  have hp:=hW.apart
  rw[<-List.take_append_drop j (l.take k),et] at hp
  obtain⟨hjl,e⟩:=List.getElem?_eq_some_iff.1 hx'
  refine(List.pairwise_append.1 hp).2.2 u hu t ?_ x hd hc
  rw[List.drop_eq_getElem_cons hjl,e]
  simp
theorem bP3 {n:Nat}{B:Nat->Blk}{l:List aO}{c d:Int}(h:bP4 n B l c)(k:bP4 n B l d):c=d:=by
 rcases h with⟨a,f⟩ | ⟨a,⟨rfl,b⟩ | ⟨b,⟨j,t,V,hx,hV,T⟩ | ⟨⟨V,hV⟩,rfl⟩⟩⟩<;>rcases k with⟨a', f'⟩ | ⟨a', ⟨rfl,b'⟩ | ⟨b', ⟨i,u,W,hy,hW,U⟩ | ⟨⟨W,hW⟩,rfl⟩⟩⟩<;>try first | rfl | contradiction | exact cE5 f f'
 ·rcases Nat.lt_trichotomy j i with e | rfl | e
  ·exact absurd (aD6 hx e hW hV T) id
  ·rw[hx] at hy
   cases hy
   exact bY4 a T U
  ·exact absurd (aD6 hy e hV hW U) id
 ·exact absurd (aD6 hx (List.getElem?_eq_some_iff.1 hx).1 hW hV T) id
 ·exact absurd (aD6 hy (List.getElem?_eq_some_iff.1 hy).1 hV hW U) id
theorem cL4 (n:Nat)(B:Nat->Blk)(l:List aO):∃ e0,cN6 n B l e0:=by
 by_cases ok:aQ n B l
 ·refine⟨0,⟨fun _=>ok,fun _=>rfl⟩,fun pa c ta tn tc w hP=>(mX _ pa n c B ta tn tc l w hP).mono ?_⟩
  rintro e w' ⟨⟨c', rfl,hc,_⟩,b⟩
  exact⟨by rw[hc.2 ok],b⟩
 ·by_cases ex:∃ d,d≠0/\bP4 n B l d
  ·obtain⟨d,hd,hs⟩:=ex
   refine⟨d,⟨fun h=>absurd h hd,fun h=>absurd h ok⟩,fun pa c ta tn tc w hP=>(mX _ pa n c B ta tn tc l w hP).mono ?_⟩
   rintro e w' ⟨⟨c', rfl,hc,hs'⟩,b⟩
   exact⟨by rw[bP3 (hs' fun h=>ok (hc.1 h)) hs],b⟩
  ·refine⟨1,⟨fun h=>absurd h (by omega),fun h=>absurd h ok⟩,fun pa c ta tn tc w hP=>(mX _ pa n c B ta tn tc l w hP).mono ?_⟩
   rintro e w' ⟨⟨c', rfl,hc,hs'⟩,b⟩
   have h0:c'≠0:=fun h=>ok (hc.1 h)
   exact absurd ⟨c', h0,hs' h0⟩ ex
end Go.Proofs.YtjafgnohlkkopaaGreatDoor
namespace Go.Proofs.YtjafgnohlkkopaaGreatDoor
open Go.RowKit Go.Deep
theorem poolOrder_walk (pa:Option Addr)(n c:Nat)(B:Nat->Blk)(ta:Option Addr)(tn tc:Nat)(l:List aO)(i:Int)(a:aP)(ba:Option Addr)(bn bc:Nat)(k:Int)(b:aP)(da:Option Addr)(dn dc:Nat)(w:World)(hP:fE (fun _=>True) w pa n B ta tn l)(hi:-9223372036854775808<=i/\i<=9223372036854775807)(hao:a.ok)(hA:aI (fun _=>True) .u8 w ba bn a.bytes)(hac:bn<=bc)(hk:-9223372036854775808<=k/\k<=9223372036854775807)(hbo:b.ok)(hB:aI (fun _=>True) .u8 w da dn b.bytes)(hbc:dn<=dc)(htab:Lib.TabIs Tryz.prog w tabN .u64 Lib.pow10Tab):
 Calls Tryz.prog 3 #[.agg #[.slice pa n c,.slice ta tn tc],.int .i64 i,.agg #[.int .i64 a.kind,.string a.set,.string a.file,.string a.to,.int .i64 a.pos,.int .i64 a.num,.slice ba bn bc],.int .i64 k,.agg #[.int .i64 b.kind,.string b.set,.string b.file,.string b.to,.int .i64 b.pos,.int .i64 b.num,.slice da dn dc]] w fun e w'=>e=.returned (.bool true)/\Below w.heap.size w w':=by
 obtain⟨e0,h⟩:=cL4 n B l
 by_cases h0:e0=0
 ·exact zG pa n c B ta tn tc l i a ba bn bc k b da dn dc w hP hi hao hA hac hk hbo hB hbc htab (h.1.1 h0)
 ·exact aE5 pa n c B ta tn tc l i a ba bn bc k b da dn dc w hP hi hao hA hac hk hbo hB hbc htab e0 h h0
end Go.Proofs.YtjafgnohlkkopaaGreatDoor
namespace Go.Proofs.YtjafgnohlkkopaaGreatDoor
open Go.ChangeShapes Go.WideShapes Go.RowKit Go.Deep
section
variable {H:Type} {enc:TypeId×Value->H} {W:World}
theorem mI {W:World}{a:Addr}{v:Value}(h:W.cell? a=some v):a=⟨a.block,a.off,none⟩:=by
 obtain⟨b,off,spot⟩:=a
 have hspot:spot=none:=World.cell?_spot h
 subst hspot
 rfl
theorem iT (b off i:Nat):(⟨b,off,none⟩:Addr).add i=⟨b,off+i,none⟩:=by unfold Addr.add; split<;>simp_all
theorem add_zero' (a:Addr):a.add 0=a:=by unfold Addr.add; simp
theorem xK {t e:TypeId}{k:IntKind}{m:Nat}{v:Value}{y:DataW H×List MemPlace}(ht:Tryz.prog.underlying t=some (.slice e))(he:Tryz.prog.underlying e=some (.int k))(hc:Tryz.prog.cellsOf e=1)
 (h:DataW.trod enc Tryz.prog W 0 (fun _=>true) true m t [v]=some y):∃ a len cap l,v=.slice a len cap/\len<=cap/\cap<=maxLen/\aI (fun _=>True) k W a len l:=by
 rcases open_ints ht he hc h with⟨hcs,_⟩ | ⟨x,len,cap,zs,hcs,_,hl,hm,hz,_,hcell,hwz⟩
 ·exact⟨none,0,0,[],by simpa using hcs,Nat.le_refl _,Nat.zero_le _,dL _ _ _ _⟩
 ·simp only[if_true] at hz
  refine⟨some x,len,cap,zs.take len,by simpa using hcs,hl,hm,by simp; omega,fun y hy=>hwz y (List.mem_of_mem_take hy),fun hp=>?_⟩
  have h0:=hcell 0 (by omega)
  rw[add_zero'] at h0
  have hx:=mI h0
  obtain⟨b,off,spot⟩:=x
  simp only[Addr.mk.injEq,true_and] at hx
  subst hx
  refine⟨b,off,rfl,fC h0,trivial,fun i hi=>?_⟩
  have:=hcell i (by omega)
  rw[iT] at this
  rw[this]
  simp[List.getD,hi]
theorem cF0 {m:Nat}{cs:List Value}{y:DataW H×List MemPlace}(h:DataW.trod enc Tryz.prog W 0 (fun _=>true) true m 135 cs=some y):
 ∃ (r lv:Int) (ka:Option Addr) (kn kc:Nat) (ba:Option Addr) (bn bc:Nat) (ks bs:List Int),cs=[.int .i64 r,.int .i64 lv,.slice ka kn kc,.slice ba bn bc]/\
  (-9223372036854775808<=r/\r<=9223372036854775807)/\(-9223372036854775808<=lv/\lv<=9223372036854775807)/\(kn<=kc/\bn<=bc)/\aI (fun _=>True) .i64 W ka kn ks/\aI (fun _=>True) .u8 W ba bn bs:=by
 obtain⟨y0,y1,y2,y3,n,_,hl,h0,h1,h2,h3⟩:=Go.Joins.trod_struct4 Tryz.underlying135 h
 have hl4:cs.length=4:=hl.trans (by kernel_rfl)
 match cs,hl4 with
 | [c0,c1,c2,c3],_=>
   have e1:Tryz.prog.cellsOf 3=1:=by kernel_rfl
   have e2:Tryz.prog.cellsOf 36=1:=by kernel_rfl
   have e3:Tryz.prog.cellsOf 28=1:=by kernel_rfl
   simp[e1,e2,e3] at h0 h1 h2 h3
   obtain⟨r,hr,_,wr⟩:=DataW.trod_int Tryz.underlying3 h0
   obtain⟨lv,hlv,_,wl⟩:=DataW.trod_int Tryz.underlying3 h1
   obtain⟨ka,kn,kc,ks,rfl,hk,_,hK⟩:=xK Tryz.underlying36 Tryz.underlying3 (by kernel_rfl) h2
   obtain⟨ba,bn,bc,bs,rfl,hb,_,hB⟩:=xK Tryz.underlying28 Tryz.underlying5 (by kernel_rfl) h3
   simp at hr hlv
   subst hr hlv
   have:=bounds_i64 wr
   have:=bounds_i64 wl
   exact⟨r,lv,ka,kn,kc,ba,bn,bc,ks,bs,rfl,by omega,by omega,⟨hk,hb⟩,hK,hB⟩
end
section
variable {H:Type} {enc:TypeId×Value->H} {W:World}
end
end Go.Proofs.YtjafgnohlkkopaaGreatDoor
