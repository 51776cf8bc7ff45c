import Derived.Test.YtjafgnohlkkopaaGreatDoorPart25
import Derived.Test.YtjafgnohlkkopaaGreatDoorPart27
import Derived.Test.YtjafgnohlkkopaaGreatDoorPart22
import Derived.Test.YtjafgnohlkkopaaGreatDoorPart28
import Derived.Test.YtjafgnohlkkopaaGreatDoorPart10
import Derived.Test.YtjafgnohlkkopaaGreatDoorPart15
import Derived.Test.YtjafgnohlkkopaaGreatDoorPart17
import Derived.Test.YtjafgnohlkkopaaGreatDoorPart09
import Derived.Laws.EntriesVeiled
set_option linter.unusedVariables false
set_option maxHeartbeats 8000000
set_option maxRecDepth 100000
namespace Go.Proofs.YtjafgnohlkkopaaGreatDoor
open Go.RowKit
theorem bW0 (sa:Option Addr)(n sc:Nat)(B:Nat->Blk)(key:Int)(v:cB)(x:aK)(from' name:ByteArray)(cc:Int)(w:World)(hs:aN w sa n B)(hX:dK (fun _=>True) w v x)(hfr:from'.size<=maxLen)(hnsm:name.size<=maxLen)(hc:∀ k,k<n->(B k).refs<=cc)(hcc:cc+6<=1000000):
 Calls Tryz.prog 72 #[.agg #[.slice sa n sc],.int .i64 key,v.val,.string from', .string name] w fun e w'=>aQ7 w n B key x from' name cc e w':=by
 have hcb:=hid (cE8 w sa n sc v)
 unfold cB.val
 replace hs:=hid hs
 replace hX:=hid hX
 replace hc:=hid hc
 have hcc':=hid hcc
 replace hnsm:=hid hnsm
 clear hcc
 go_enter Tryz.func72,Tryz.ntmps72
 go_wp2_with fail
 generalize (((w.alloc (.cells #[.slice sa n sc] 24)).alloc (.cells #[.string v.name,.slice v.fa v.fn v.fc,.slice v.sa v.sn v.sc] 84)).alloc (.cells #[.slice none 0 0] 24)).alloc (.cells #[.string (ByteArray.mk #[]),.slice none 0 0,.slice none 0 0] 84)=w0 at *
 refine(nG (fun _=>True) sa n sc B key v x w0 (hs.out.below hcb.out.bel) (hX.out.below hcb.out.bel)).mono ?_
 rintro e w1 ⟨⟨e', rfl,he⟩,b1⟩
 replace hcb:=hid (hcb.out.below b1)
 replace he:=hid he
 clear b1
 by_cases h0:e'=0
 case neg=>
  have h0':(e' == 0)=false:=by simp[h0]
  have q1:=hcb.out.r8.cell 0
  have q2:=hcb.out.r8.frozen 0
  have q3:=hcb.out.r9.cell 0
  have q4:=hcb.out.r9.frozen 0
  have q5:=hcb.out.r9.cell 1
  have q6:=hcb.out.r9.frozen 1
  have q7:=hcb.out.r9.cell 2
  have q8:=hcb.out.r9.frozen 2
  simp at q1 q3 q5 q7
  go_wp2_with fail
  refine bodyPost_ret (v:=.tuple #[.agg #[.slice none 0 0],.agg #[.string (ByteArray.mk #[]),.slice none 0 0,.slice none 0 0],.int .i64 e']) (by rw[aS rfl]; go_simp) rfl ⟨hcb.out.put (.slice none 0 0) ⟨(ByteArray.mk #[]),none,0,0,none,0,0⟩,.inl ⟨e', rfl,h0,fun h1 h2=>absurd (he.out.2 ⟨h1,h2⟩) h0⟩⟩
 subst h0
 obtain⟨hx,hh⟩:=he.out.1 rfl
 clear he
 have hsn3:=hx.shape.fewS
 have hoS:=hid hx.shape.orderS
 replace hx:=hid hx
 replace hh:=hid hh
 have hsl:=hX.out.snaps.1
 have hvs:v.sn<=3:=by omega
 go_wp2_with fail
 refine(iO name w1 hnsm.out).mono ?_
 rintro e w1' ⟨⟨t,rfl,ht⟩,rfl⟩
 cases t
 case false=>
  replace ht:=hid ht
  have q1:=hcb.out.r8.cell 0
  have q2:=hcb.out.r8.frozen 0
  have q3:=hcb.out.r9.cell 0
  have q4:=hcb.out.r9.frozen 0
  have q5:=hcb.out.r9.cell 1
  have q6:=hcb.out.r9.frozen 1
  have q7:=hcb.out.r9.cell 2
  have q8:=hcb.out.r9.frozen 2
  simp at q1 q3 q5 q7
  go_wp2_with fail
  refine bodyPost_ret (v:=.tuple #[.agg #[.slice none 0 0],.agg #[.string (ByteArray.mk #[]),.slice none 0 0,.slice none 0 0],.int .i64 1]) (by rw[aS rfl]; go_simp) rfl ⟨hcb.out.put (.slice none 0 0) ⟨(ByteArray.mk #[]),none,0,0,none,0,0⟩,.inl ⟨1,rfl,(by omega),fun _ _=>.inl ⟨rfl,fun h3=>absurd (ht.out.2 h3) Bool.false_ne_true⟩⟩⟩
 have hnm:=hid (ht.1 rfl)
 clear ht
 have s2:=hcb.out.bX.cell 2
 simp at s2
 go_wp2_with fail
 refine(yH (fun _=>True) v.sa v.sn v.sc x.snaps from' w1' (by omega) (hX.out.snaps.below hcb.out.bel) hoS.out).mono ?_
 rintro e w2 ⟨⟨q,b,rfl,hF⟩,b2⟩
 replace hcb:=hid (hcb.out.below b2)
 clear b2 s2
 cases b
 case false=>
  have hFn:=hid hF
  clear hF
  have q1:=hcb.out.r8.cell 0
  have q2:=hcb.out.r8.frozen 0
  have q3:=hcb.out.r9.cell 0
  have q4:=hcb.out.r9.frozen 0
  have q5:=hcb.out.r9.cell 1
  have q6:=hcb.out.r9.frozen 1
  have q7:=hcb.out.r9.cell 2
  have q8:=hcb.out.r9.frozen 2
  simp at q1 q3 q5 q7
  go_wp2_with fail
  refine bodyPost_ret (v:=.tuple #[.agg #[.slice none 0 0],.agg #[.string (ByteArray.mk #[]),.slice none 0 0,.slice none 0 0],.int .i64 5]) (by rw[aS rfl]; go_simp) rfl ⟨hcb.out.put (.slice none 0 0) ⟨(ByteArray.mk #[]),none,0,0,none,0,0⟩,.inl ⟨5,rfl,(by omega),fun _ _=>.inr ⟨rfl,hnm.out,fun h4=>absurd ((dI hoS.out hFn.out).2 h4) Bool.false_ne_true⟩⟩⟩
 obtain⟨hq,hqn⟩:=jR hF
 replace hqn:=hid hqn
 clear hF
 have hqv:q<v.sn:=by omega
 obtain⟨sb,so,hsb⟩:∃ b off,v.sa=some ⟨b,off,none⟩:=by
  obtain⟨b,off,e,_⟩:=hX.out.snaps.2 (by omega)
  exact⟨b,off,e⟩
 have hSn:=hX.out.snaps
 rw[hsb] at hSn
 obtain⟨fa2,fn2,fc2,hAt⟩:=hSn.snap hqv
 have lsb0:sb<w.heap.size:=fC hAt.c0
 have hgd:x.snaps.getD q bD.zero=x.snaps[q]:=by simp[List.getD,hq]
 rw[hgd] at hAt
 have hmemq:=List.getElem_mem hq
 have hl2:Hid (∃ l2,l2=x.snaps[q].files):=hid ⟨_,rfl⟩
 obtain⟨l2,hl2⟩:=hl2.out
 have hE2:=hAt.files
 rw[<-hl2] at hE2
 have hl6:fn2<=6:=by rw[<-hE2.1,hl2]; exact(hx.out.shape.filesS _ hmemq).1
 have c1:=hAt.c1
 have s1:=hcb.out.bX.cell 2
 simp at s1
 rw[hsb] at s1
 have s2:=(hcb.out.bel.cell (p:=⟨sb,so+q*2+1,none⟩) lsb0).trans c1
 have S1:=hid s1
 have S2:=hid s2
 have lx:=hcb.out.bX.lt
 have hszdb:=hcb.out.sz
 have lsb:sb<w2.heap.size:=by omega
 have m1:=Nat.ne_of_lt lx
 have m2:w.heap.size+1≠w2.heap.size+1:=by omega
 have m3:w.heap.size≠w2.heap.size:=by omega
 have n1:=Nat.ne_of_lt lsb
 have n2:sb≠w2.heap.size+1:=by omega
 have m1':=m1.symm
 have m2':=m2.symm
 have m3':=m3.symm
 have n1':=n1.symm
 have n2':=n2.symm
 have hq0:(0:Int)<=(q:Int):=by omega
 have hq1:(q:Int)<(v.sn:Int):=by omega
 have hn4:n<=400:=hx.out.right.small
 have hF4:Hid (∀ i,i<n->(B i).kids.length<=4/\(B i).bytes.length<=4):=hid (fun i hi=>⟨(hx.out.right.one i hi).few,(hx.out.right.one i hi).few2⟩)
 have hptr:=hid (fun W0 (bb:Below w2.heap.size w2 W0)=>(kU.mk hcb.out.bS.lt (by have:=hcb.out.bS.cell 0; simpa using this) (hs.out.below hcb.out.bel):kU w2 ⟨w.heap.size,0,none⟩ sa n sc B).below bb)
 have hents:=hid (fun W0 (bb:Below w2.heap.size w2 W0)=>(hE2.below hcb.out.bel).below bb)
 replace hl2:=hid hl2
 clear hAt hSn hgd c1 hE2
 replace hsb:=hid hsb
 go_upto_region 9 with fail
 go_cut [16,17] from 43 (fun v12 v13 wc=>cI8 w2 wc n B ⟨name,l2,[]⟩ v12 v13)
 case first=>
  go_region_held3 (fun w'=>w'.cell? ⟨w.heap.size+1,2,none⟩=some (.slice (some ⟨sb,so,none⟩) v.sn v.sc)/\w'.cell? ⟨sb,so+q*2+1,none⟩=some (.slice fa2 fn2 fc2)) (first | go_keep | assumption) (first | (go_at_call 34; refine Calls.mono (pE ⟨w.heap.size,0,none⟩ sa n sc B _ ?_ hn4 hF4.out) ?_; (focus (refine hptr.out _ ?_; (repeat (first | with_reducible exact Below.refl _ _ | with_reducible exact bbO.out | with_reducible exact bbS.out | with_reducible refine bDr ?_ | with_reducible refine bAl ?_ _)); done)); rintro e wO ⟨bNew,gO,rfl,hgO,hO⟩; refine dB (dS (a:=w2) ?_ hgO) ?_; (focus ((repeat (first | with_reducible exact Below.refl _ _ | with_reducible exact bbO.out | with_reducible exact bbS.out | with_reducible refine bDr ?_ | with_reducible refine bAl ?_ _)); done)); intro hg2; refine dB (A:=Below w2.heap.size w2 wO) ?_ ?_; (focus (refine Below.tr ?_ bNew; (repeat (first | with_reducible exact Below.refl _ _ | with_reducible exact bbO.out | with_reducible exact bbS.out | with_reducible refine bDr ?_ | with_reducible refine bAl ?_ _)); done)); intro bTmp; have bbO:=hid bTmp; clear bTmp; (first | (refine dB (aC.below kaS.out (Below.tr ?_ bNew)) ?_; (focus ((repeat (first | with_reducible exact Below.refl _ _ | with_reducible refine bDr ?_ | with_reducible refine bAl ?_ _)); done)); intro kTmp; have kaO:=hid kTmp; clear kTmp) | (refine dB (aC.below (aB wS #[.slice none 0 0] 24) (Below.tr ?_ bNew)) ?_; (focus ((repeat (first | with_reducible exact Below.refl _ _ | with_reducible refine bDr ?_ | with_reducible refine bAl ?_ _)); done)); intro kTmp; have kaO:=hid kTmp; clear kTmp) | (refine dB (aC.below (aF wS iF #[.slice none 0 0] 24) (Below.tr ?_ bNew)) ?_; (focus ((repeat (first | with_reducible exact Below.refl _ _ | with_reducible refine bDr ?_ | with_reducible refine bAl ?_ _)); done)); intro kTmp; have kaO:=hid kTmp; clear kTmp) | (refine dB (aC.below (aB w2 #[.slice none 0 0] 24) (Below.tr ?_ bNew)) ?_; (focus ((repeat (first | with_reducible exact Below.refl _ _ | with_reducible refine bDr ?_ | with_reducible refine bAl ?_ _)); done)); intro kTmp; have kaO:=hid kTmp; clear kTmp) | (refine dB (aC.below (aF w2 iF #[.slice none 0 0] 24) (Below.tr ?_ bNew)) ?_; (focus ((repeat (first | with_reducible exact Below.refl _ _ | with_reducible refine bDr ?_ | with_reducible refine bAl ?_ _)); done)); intro kTmp; have kaO:=hid kTmp; clear kTmp) | skip); (first | (refine dB (aC.below kbS.out (Below.tr ?_ bNew)) ?_; (focus ((repeat (first | with_reducible exact Below.refl _ _ | with_reducible refine bDr ?_ | with_reducible refine bAl ?_ _)); done)); intro kTmp; have kbO:=hid kTmp; clear kTmp) | (refine dB (aC.below (aB wS #[.string (ByteArray.mk #[]),.slice none 0 0,.slice none 0 0] 84) (Below.tr ?_ bNew)) ?_; (focus ((repeat (first | with_reducible exact Below.refl _ _ | with_reducible refine bDr ?_ | with_reducible refine bAl ?_ _)); done)); intro kTmp; have kbO:=hid kTmp; clear kTmp) | (refine dB (aC.below (aF wS dG #[.string (ByteArray.mk #[]),.slice none 0 0,.slice none 0 0] 84) (Below.tr ?_ bNew)) ?_; (focus ((repeat (first | with_reducible exact Below.refl _ _ | with_reducible refine bDr ?_ | with_reducible refine bAl ?_ _)); done)); intro kTmp; have kbO:=hid kTmp; clear kTmp) | (refine dB (aC.below (aB w2 #[.string (ByteArray.mk #[]),.slice none 0 0,.slice none 0 0] 84) (Below.tr ?_ bNew)) ?_; (focus ((repeat (first | with_reducible exact Below.refl _ _ | with_reducible refine bDr ?_ | with_reducible refine bAl ?_ _)); done)); intro kTmp; have kbO:=hid kTmp; clear kTmp) | (refine dB (aC.below (aF w2 dG #[.string (ByteArray.mk #[]),.slice none 0 0,.slice none 0 0] 84) (Below.tr ?_ bNew)) ?_; (focus ((repeat (first | with_reducible exact Below.refl _ _ | with_reducible refine bDr ?_ | with_reducible refine bAl ?_ _)); done)); intro kTmp; have kbO:=hid kTmp; clear kTmp) | skip); (try (refine dB (dS (a:=wS) ?_ hgO) ?_; (focus ((repeat (first | with_reducible exact Below.refl _ _ | with_reducible refine bDr ?_ | with_reducible refine bAl ?_ _)); done)); intro hap; refine dB (A:=Below wS.heap.size wS wO) ?_ ?_; (focus (refine Below.tr ?_ bNew; (repeat (first | with_reducible exact Below.refl _ _ | with_reducible refine bDr ?_ | with_reducible refine bAl ?_ _)); done)); intro bTmp; have cop:=hid (bD5 (W:=w2) hO hg2 (Below.refl _ _) hS.out hlo bTmp (.inr hap)); have bbL:=bbO; have hszL:=bTmp.size; clear bTmp)); have hszO:=bbO.out.size; have m1O:w.heap.size+1≠wO.heap.size:=(by omega); have m2O:w.heap.size+1≠wO.heap.size+1:=(by omega); have m3O:w.heap.size≠wO.heap.size:=(by omega); have n1O:sb≠wO.heap.size:=(by omega); have n2O:sb≠wO.heap.size+1:=(by omega); have n1O':=n1O.symm; have n2O':=n2O.symm; have m3O':=m3O.symm; have m1O':=m1O.symm; have m2O':=m2O.symm; have s1O:=(bbO.out.cell (p:=⟨w.heap.size+1,2,none⟩) lx).trans S1.out; have s2O:=(bbO.out.cell (p:=⟨sb,so+q*2+1,none⟩) lsb).trans S2.out; (try clear s1 s2); (try (have lkaO:=kaO.out.lt; have nkaO:=Nat.ne_of_lt lkaO; have nkaO':=nkaO.symm; have caO:=kaO.out.cell 0; have fraO:=kaO.out.frozen 0; simp only[List.getElem?_toArray,List.getElem?_cons_zero] at caO)); (try (have lkbO:=kbO.out.lt; have nkbO:=Nat.ne_of_lt lkbO; have nkbO':=nkbO.symm; have cb0O:=kbO.out.cell 0; have cb1O:=kbO.out.cell 1; have cb2O:=kbO.out.cell 2; have frb0O:=kbO.out.frozen 0; have frb1O:=kbO.out.frozen 1; have frb2O:=kbO.out.frozen 2; simp only[List.getElem?_toArray,List.getElem?_cons_zero,List.getElem?_cons_succ] at cb0O cb1O cb2O)); (try clear s1S s2S); (try clear caS fraS); (try clear cb0S cb1S cb2S frb0S frb1S frb2S); have hgz:=hgO; (try simp only[aD8] at hgz); (try simp only[mQ] at hgz); replace hO:=hid hO; have hgl:=hO.out.lt; clear bNew hgO) | (go_at_call 61; refine Calls.mono (bW1 name fa2 fn2 fc2 l2 _ hl6 hnsm.out ?_) ?_; (focus (refine hents.out _ ?_; (repeat (first | with_reducible exact Below.refl _ _ | with_reducible exact bbO.out | with_reducible exact bbS.out | with_reducible refine bDr ?_ | with_reducible refine bAl ?_ _)); done)); rintro e wS ⟨⟨ya,yc,lo,rfl,hlz,hS⟩,bNew⟩; refine dB (dS (a:=w2) ?_ hlz) ?_; (focus ((repeat (first | with_reducible exact Below.refl _ _ | with_reducible exact bbO.out | with_reducible exact bbS.out | with_reducible refine bDr ?_ | with_reducible refine bAl ?_ _)); done)); intro hlo; refine dB (A:=Below w2.heap.size w2 wS) ?_ ?_; (focus (refine Below.tr ?_ bNew; (repeat (first | with_reducible exact Below.refl _ _ | with_reducible exact bbO.out | with_reducible exact bbS.out | with_reducible refine bDr ?_ | with_reducible refine bAl ?_ _)); done)); intro bTmp; have bbS:=hid bTmp; clear bTmp; (first | (refine dB (aC.below kaO.out (Below.tr ?_ bNew)) ?_; (focus ((repeat (first | with_reducible exact Below.refl _ _ | with_reducible refine bDr ?_ | with_reducible refine bAl ?_ _)); done)); intro kTmp; have kaS:=hid kTmp; clear kTmp) | (refine dB (aC.below (aB wO #[.slice none 0 0] 24) (Below.tr ?_ bNew)) ?_; (focus ((repeat (first | with_reducible exact Below.refl _ _ | with_reducible refine bDr ?_ | with_reducible refine bAl ?_ _)); done)); intro kTmp; have kaS:=hid kTmp; clear kTmp) | (refine dB (aC.below (aF wO iF #[.slice none 0 0] 24) (Below.tr ?_ bNew)) ?_; (focus ((repeat (first | with_reducible exact Below.refl _ _ | with_reducible refine bDr ?_ | with_reducible refine bAl ?_ _)); done)); intro kTmp; have kaS:=hid kTmp; clear kTmp) | (refine dB (aC.below (aB w2 #[.slice none 0 0] 24) (Below.tr ?_ bNew)) ?_; (focus ((repeat (first | with_reducible exact Below.refl _ _ | with_reducible refine bDr ?_ | with_reducible refine bAl ?_ _)); done)); intro kTmp; have kaS:=hid kTmp; clear kTmp) | (refine dB (aC.below (aF w2 iF #[.slice none 0 0] 24) (Below.tr ?_ bNew)) ?_; (focus ((repeat (first | with_reducible exact Below.refl _ _ | with_reducible refine bDr ?_ | with_reducible refine bAl ?_ _)); done)); intro kTmp; have kaS:=hid kTmp; clear kTmp) | skip); (first | (refine dB (aC.below kbO.out (Below.tr ?_ bNew)) ?_; (focus ((repeat (first | with_reducible exact Below.refl _ _ | with_reducible refine bDr ?_ | with_reducible refine bAl ?_ _)); done)); intro kTmp; have kbS:=hid kTmp; clear kTmp) | (refine dB (aC.below (aB wO #[.string (ByteArray.mk #[]),.slice none 0 0,.slice none 0 0] 84) (Below.tr ?_ bNew)) ?_; (focus ((repeat (first | with_reducible exact Below.refl _ _ | with_reducible refine bDr ?_ | with_reducible refine bAl ?_ _)); done)); intro kTmp; have kbS:=hid kTmp; clear kTmp) | (refine dB (aC.below (aF wO dG #[.string (ByteArray.mk #[]),.slice none 0 0,.slice none 0 0] 84) (Below.tr ?_ bNew)) ?_; (focus ((repeat (first | with_reducible exact Below.refl _ _ | with_reducible refine bDr ?_ | with_reducible refine bAl ?_ _)); done)); intro kTmp; have kbS:=hid kTmp; clear kTmp) | (refine dB (aC.below (aB w2 #[.string (ByteArray.mk #[]),.slice none 0 0,.slice none 0 0] 84) (Below.tr ?_ bNew)) ?_; (focus ((repeat (first | with_reducible exact Below.refl _ _ | with_reducible refine bDr ?_ | with_reducible refine bAl ?_ _)); done)); intro kTmp; have kbS:=hid kTmp; clear kTmp) | (refine dB (aC.below (aF w2 dG #[.string (ByteArray.mk #[]),.slice none 0 0,.slice none 0 0] 84) (Below.tr ?_ bNew)) ?_; (focus ((repeat (first | with_reducible exact Below.refl _ _ | with_reducible refine bDr ?_ | with_reducible refine bAl ?_ _)); done)); intro kTmp; have kbS:=hid kTmp; clear kTmp) | skip); (try (refine dB (dS (a:=wO) ?_ hlz) ?_; (focus ((repeat (first | with_reducible exact Below.refl _ _ | with_reducible refine bDr ?_ | with_reducible refine bAl ?_ _)); done)); intro hap; refine dB (A:=Below wO.heap.size wO wS) ?_ ?_; (focus (refine Below.tr ?_ bNew; (repeat (first | with_reducible exact Below.refl _ _ | with_reducible refine bDr ?_ | with_reducible refine bAl ?_ _)); done)); intro bTmp; have cop:=hid (bD5 (W:=w2) hO.out hg2 bTmp hS hlo (Below.refl _ _) (.inl hap)); have bbL:=bbS; have hszL:=bTmp.size; clear bTmp)); have hszS:=bbS.out.size; have m1S:w.heap.size+1≠wS.heap.size:=(by omega); have m2S:w.heap.size+1≠wS.heap.size+1:=(by omega); have m3S:w.heap.size≠wS.heap.size:=(by omega); have n1S:sb≠wS.heap.size:=(by omega); have n2S:sb≠wS.heap.size+1:=(by omega); have n1S':=n1S.symm; have n2S':=n2S.symm; have m3S':=m3S.symm; have m1S':=m1S.symm; have m2S':=m2S.symm; have s1S:=(bbS.out.cell (p:=⟨w.heap.size+1,2,none⟩) lx).trans S1.out; have s2S:=(bbS.out.cell (p:=⟨sb,so+q*2+1,none⟩) lsb).trans S2.out; (try clear s1 s2); (try (have lkaS:=kaS.out.lt; have nkaS:=Nat.ne_of_lt lkaS; have nkaS':=nkaS.symm; have caS:=kaS.out.cell 0; have fraS:=kaS.out.frozen 0; simp only[List.getElem?_toArray,List.getElem?_cons_zero] at caS)); (try (have lkbS:=kbS.out.lt; have nkbS:=Nat.ne_of_lt lkbS; have nkbS':=nkbS.symm; have cb0S:=kbS.out.cell 0; have cb1S:=kbS.out.cell 1; have cb2S:=kbS.out.cell 2; have frb0S:=kbS.out.frozen 0; have frb1S:=kbS.out.frozen 1; have frb2S:=kbS.out.frozen 2; simp only[List.getElem?_toArray,List.getElem?_cons_zero,List.getElem?_cons_succ] at cb0S cb1S cb2S)); (try clear s1O s2O); (try clear caO fraO); (try clear cb0O cb1O cb2O frb0O frb1O frb2O); (try simp only[aD8] at hlz); (try simp only[mQ] at hlz); replace hS:=hid hS; clear bNew))
  all_goals (go_wp2_with fail; go_meet; first
   | (with_reducible refine bC9 cop.out ?_ bbL.out; all_goals (first | omega | (intro f; rcases f with f | f<;>omega) | (intro b f; rcases f with f | f<;>omega)))
   | (with_reducible refine bC8 cop.out ?_ bbL.out; all_goals (first | omega | (intro f; rcases f with f | f<;>omega) | (intro b f; rcases f with f | f<;>omega)))
   | (with_reducible refine vQ ?_ ?_ kaS.out cop.out ?_ bbL.out; all_goals (first | omega | (intro f; rcases f with f | f<;>omega) | (intro b f; rcases f with f | f<;>omega)))
   | (with_reducible refine vP ?_ ?_ kbS.out cop.out ?_ bbL.out; all_goals (first | omega | (intro f; rcases f with f | f<;>omega) | (intro b f; rcases f with f | f<;>omega)))
   | (with_reducible refine vR ?_ ?_ ?_ ?_ ?_ kaS.out kbS.out cop.out bbL.out; all_goals (first | omega | (intro f; rcases f with f | f<;>omega) | (intro b f; rcases f with f | f<;>omega)))
   | (with_reducible refine vQ ?_ ?_ kaO.out cop.out ?_ bbL.out; all_goals (first | omega | (intro f; rcases f with f | f<;>omega) | (intro b f; rcases f with f | f<;>omega)))
   | (with_reducible refine vP ?_ ?_ kbO.out cop.out ?_ bbL.out; all_goals (first | omega | (intro f; rcases f with f | f<;>omega) | (intro b f; rcases f with f | f<;>omega)))
   | (with_reducible refine vR ?_ ?_ ?_ ?_ ?_ kaO.out kbO.out cop.out bbL.out; all_goals (first | omega | (intro f; rcases f with f | f<;>omega) | (intro b f; rcases f with f | f<;>omega))))
 case rest=>
  obtain⟨ob,yb,g,u,ms,P,rfl,rfl,hT,bC,lo,ly,lg⟩:=hcut
  clear S1 S2 s1 s2 m1 m2 m1' m2' m3 m3' n1 n1' n2 n2' hptr hents lx lsb
  have hcbC:=hid (hcb.out.below bC)
  have y0:=hT.set.box.cell 0
  have y1:=hT.set.box.cell 1
  have y2:=hT.set.box.cell 2
  simp at y0 y1 y2
  have hyn:=hT.set.new.name
  have hsf:=(hx.out.filesS _ hmemq)
  rw[<-hl2.out] at hsf
  have hshy:Shape ⟨name,l2,[]⟩:=⟨hnm.out,hsf.few,hsf.names,hsf.order,by simp,fun s h=>by simp at h,List.Pairwise.nil,fun s h=>by simp at h⟩
  have hT':=hid hT
  replace bC:=hid bC
  clear hT
  go_wp2_with fail
  refine(vJ (fun b=>w2.heap.size<=b\/P b) u ⟨name,l2,[]⟩ name _ hT'.out.set.new.at hshy hyn).mono ?_
  rintro e w4 ⟨⟨ra,rc,lo', rfl,hlo', hr,hw,_⟩,b4⟩
  have hgl:=hT'.out.own.lt
  have hrt:aG ⟨name,l2,[]⟩=aT l2:=by simp[aG,dR]
  have hK:∀ r∈aG ⟨name,l2,[]⟩,r=0\/There n B r:=fun r hr=>by
   rw[hrt] at hr
   obtain⟨e,he,rfl⟩:=bV.1 hr
   rcases(hsf.files e he).rooted with h0 | ⟨h1,_⟩
   ·exact .inl h0
   ·exact .inr h1
  have hlen:(aG ⟨name,l2,[]⟩).length<=6:=by rw[hrt,iQ]; exact hsf.few
  have hroom:∀ i,i<n->(B i).refs+((aG ⟨name,l2,[]⟩).length:Int)<=1000000:=fun i hi=>by have:=hc.out i hi; have:=hcc'.out; omega
  have hN:=hid ((aF3 hr hw).weaken (R:=fun b=>b≠g) (fun b _ q=>by have:=q.1; omega))
  have hT4:=hid (hT'.out.below b4)
  have hcb4:=hid (hcbC.out.below b4)
  have b4':=hid (Below.tr bC.out b4)
  replace hK:=hid hK
  replace hrt:=hid hrt
  replace hroom:=hid hroom
  replace hlen:=hid hlen
  clear y0 y1 y2 hr hw b4
  go_wp2_with fail
  refine(qX ⟨ob,0,none⟩ g n B ra (aG ⟨name,l2,[]⟩).length rc (aG ⟨name,l2,[]⟩) none 0 0 [] w4 hT4.out.ptr hN.out ⟨rfl,fun x hx=>by simp at hx,fun h=>absurd h (by omega)⟩ (by omega) (by have:=hlen.out; omega) hx.out.right hK.out hroom.out (fun k hk=>by
   have h1:=hh.out k hk
   have h2:(0:Int)<=((aG x).count ((k:Int)+1):Int):=by omega
   simp
   omega) (fun r hr=>by simp at hr)).mono ?_
  rintro e w5 ⟨rfl,ho,D,hOP,hRD,hFD⟩
  obtain⟨hg,hrefs,hmoreB⟩:=aO0 hx.out.right hK.out hroom.out hRD hFD
  have on5:Only (fun b=>b=g) w4 w5:=Only.of_out ho rfl
  have hb5:Below w2.heap.size w2 w5:=b4'.out.trans (ho.below hT4.out.ng.2.2.2 b4'.out.size)
  have hcb5:=hid (hcb.out.below hb5)
  have hyb:aC w5 yb #[.string name,.slice u.fa u.fn u.fc,.slice u.sa u.sn u.sc] 84:=on5.cells hT4.out.set.box (fun e=>hT4.out.ng.1 e.symm)
  have hSN:=hT4.out.set.new.only on5 (fun b hb e=>hT4.out.ng.2.1 (e▸hb)) (fun b hb e=>hT4.out.ng.2.2.1 (e▸hb))
  have hLb:=hT4.out.lb
  have g8:w2.heap.size<=g:=hT4.out.ng.2.2.2
  obtain⟨hok,hheld,_⟩:=cE3 (nm:=name) hx.out hq hnm.out (by rw[<-hl2.out,<-hrt.out]; exact hg) hh.out
  rw[<-hl2.out] at hok hheld
  have hfew:∀ k,k<n->(D k).refs<=cc+6:=fun k hk=>by
   rw[hrefs k hk]
   have h1:=hc.out k hk
   have h2:(aG ⟨name,l2,[]⟩).count ((k:Int)+1)<=6:=Nat.le_trans List.count_le_length hlen.out
   omega
  have J:=hid (cP7 hcb5.out hszdb g8 hx.out hh.out hg ⟨rfl,rfl,⟨q,hq,hqn.out,hl2.out⟩,hmoreB⟩ hok hheld hfew hOP.own hSN hLb)
  have ho9:=hOP.cell
  have z0:=hyb.cell 0
  have z1:=hyb.cell 1
  have z2:=hyb.cell 2
  simp at z0 z1 z2
  have q1:=hcb5.out.r8.cell 0
  have q2:=hcb5.out.r8.frozen 0
  have q3:=hcb5.out.r9.cell 0
  have q4:=hcb5.out.r9.frozen 0
  have q5:=hcb5.out.r9.cell 1
  have q6:=hcb5.out.r9.frozen 1
  have q7:=hcb5.out.r9.cell 2
  have q8:=hcb5.out.r9.frozen 2
  simp at q1 q3 q5 q7
  have n1:ob≠w.heap.size+1+1:=by omega
  have n2:ob≠w.heap.size+1+1+1:=by omega
  have n3:yb≠w.heap.size+1+1:=by omega
  have n4:yb≠w.heap.size+1+1+1:=by omega
  have n1':=n1.symm
  have n2':=n2.symm
  have n3':=n3.symm
  have n4':=n4.symm
  clear hOP hyb hSN hLb ho on5 hg hrefs hok hheld hfew hRD hFD
  go_upto_region 11 with fail
  go_region_held3 (fun w'=>w'.cell? ⟨ob,0,none⟩=some (.slice (some ⟨g,0,none⟩) n n)/\w'.cell? ⟨yb,0,none⟩=some (.string name)/\w'.cell? ⟨yb,1,none⟩=some (.slice u.fa u.fn u.fc)/\w'.cell? ⟨yb,2,none⟩=some (.slice u.sa u.sn u.sc)) (first | go_keep | assumption) (first | fail)
  all_goals (
   go_wp2_with fail
   refine bodyPost_ret (v:=.tuple #[.agg #[.slice (some ⟨g,0,none⟩) n n],.agg #[.string name,.slice u.fa u.fn u.fc,.slice u.sa u.sn u.sc],.int .i64 0]) (by rw[aS rfl]; go_simp) rfl ?_
   first
    | exact J.out
    | exact J.out.drew)
def uC (base n:Nat)(N:Int->Prop)(P:(Nat->Blk)->aK->Prop)(sx:Option Addr)(ln lc:Nat)(u:cB)(e':Int)(w:World):Prop:=
 (e'≠0/\N e')\/(e'=0/\∃ g D y,sx=some ⟨g,0,none⟩/\ln=n/\lc=n/\P D y/\base<=g/\Own w g n D/\dK (fun b=>base<=b) w u y)
theorem uC.only {base base' n:Nat}{N:Int->Prop}{P:(Nat->Blk)->aK->Prop}{sx:Option Addr}{ln lc:Nat}{u:cB}{e':Int}{w w':World}{M:Nat->Prop}(h:uC base n N P sx ln lc u e' w)(on:Only M w w')(hM:∀ b,M b->b<base)(hb:base'<=base):uC base' n N P sx ln lc u e' w':=by
 rcases h with h | ⟨h0,g,D,y,h1,h2,h3,h4,h5,h6,h7⟩
 ·exact .inl h
 ·refine .inr ⟨h0,g,D,y,h1,h2,h3,h4,by omega,⟨Nat.lt_of_lt_of_le h6.lt on.size,on.blocks h6.blocks (fun f=>by have:=hM _ f; omega) h6.lt (fun b q f=>by have:=hM _ f; omega),fun j hj=>?_⟩,(on.setAt h7 (fun b q f=>by have:=hM _ f; omega)).weaken (fun b _ q=>by omega)⟩
  rw[World.frozen?_of_block (w:=w) (on.block g h6.lt (fun f=>by have:=hM _ f; omega))]
  exact h6.free j hj
def cN3 (W wc:World)(n:Nat)(N:Int->Prop)(P:(Nat->Blk)->aK->Prop)(v9 v10 v11:Value):Prop:=
 ∃ (a9 a10:Nat) (sx:Option Addr) (ln lc:Nat) (u:cB) (e':Int),v9=.pointer (some ⟨a9,0,none⟩)/\v10=.pointer (some ⟨a10,0,none⟩)/\v11=.int .i64 e'/\aC wc a9 #[.slice sx ln lc] 24/\aC wc a10 #[.string u.name,.slice u.fa u.fn u.fc,.slice u.sa u.sn u.sc] 84/\Below W.heap.size W wc/\W.heap.size<=a9/\W.heap.size<=a10/\uC W.heap.size n N P sx ln lc u e' wc
section
variable {W w6:World} {n base:Nat} {N:Int->Prop} {P:(Nat->Blk)->aK->Prop} {sx:Option Addr} {ln lc:Nat} {u:cB} {e':Int}
theorem bC5 (bb:Below W.heap.size W w6)(h:uC base n N P sx ln lc u e' w6)(hb:W.heap.size<=base):cN3 W ((w6.alloc (bL5 sx ln lc)).alloc (cH3 u)) n N P (.pointer (some ⟨w6.heap.size,0,none⟩)) (.pointer (some ⟨w6.heap.size+1,0,none⟩)) (.int .i64 e'):=
 ⟨_,_,sx,ln,lc,u,e', rfl,rfl,rfl,(aB w6 _ _).below (aA _ _),aF w6 _ _ _,Below.tr bb (aW _ _ _),bb.size,by have:=bb.size; omega,h.only (Only.of_below (M:=fun _=>False) (aW _ _ _)) (fun _ m=>m.elim) hb⟩
theorem bC4 (bb:Below W.heap.size W w6)(h:uC base n N P sx ln lc u e' w6)(hb:W.heap.size<=base):cN3 W ((w6.alloc (cH3 u)).alloc (bL5 sx ln lc)) n N P (.pointer (some ⟨w6.heap.size+1,0,none⟩)) (.pointer (some ⟨w6.heap.size,0,none⟩)) (.int .i64 e'):=
 ⟨_,_,sx,ln,lc,u,e', rfl,rfl,rfl,aF w6 _ _ _,(aB w6 _ _).below (aA _ _),Below.tr bb (aW _ _ _),by have:=bb.size; omega,bb.size,h.only (Only.of_below (M:=fun _=>False) (aW _ _ _)) (fun _ m=>m.elim) hb⟩
theorem bC7 {a:Nat}{c0:Value}(ha:W.heap.size<=a)(hab:a<base)(ka:aC w6 a #[c0] 24)(bb:Below W.heap.size W w6)(h:uC base n N P sx ln lc u e' w6)(hb:W.heap.size<=base):cN3 W ((w6.setCell ⟨a,0,none⟩ (.slice sx ln lc)).alloc (cH3 u)) n N P (.pointer (some ⟨a,0,none⟩)) (.pointer (some ⟨w6.heap.size,0,none⟩)) (.int .i64 e'):=by
 have kk:=gT w6 a (.slice sx ln lc)
 have k3:aC ((w6.setCell ⟨a,0,none⟩ (.slice sx ln lc)).alloc (cH3 u)) w6.heap.size #[.string u.name,.slice u.fa u.fn u.fc,.slice u.sa u.sn u.sc] 84:=by
  have:=aB (w6.setCell ⟨a,0,none⟩ (.slice sx ln lc)) #[.string u.name,.slice u.fa u.fn u.fc,.slice u.sa u.sn u.sc] 84
  rwa [kk.size] at this
 exact⟨_,_,sx,ln,lc,u,e', rfl,rfl,rfl,(pI ka).below (aA _ _),k3,Below.tr (bb.trans (kk.below ha)) (aA _ _),ha,bb.size,h.only ((Only.of_kept (M:=fun b=>b=a) kk rfl).trans (Only.of_below (aA _ _))) (fun b m=>by subst m; exact hab) hb⟩
theorem bC6 {a:Nat}{c0 c1 c2:Value}(ha:W.heap.size<=a)(hab:a<base)(ka:aC w6 a #[c0,c1,c2] 84)(bb:Below W.heap.size W w6)(h:uC base n N P sx ln lc u e' w6)(hb:W.heap.size<=base):cN3 W ((bA5 w6 a u).alloc (bL5 sx ln lc)) n N P (.pointer (some ⟨w6.heap.size,0,none⟩)) (.pointer (some ⟨a,0,none⟩)) (.int .i64 e'):=by
 have kk:=jF w6 a u
 have k3:aC ((bA5 w6 a u).alloc (bL5 sx ln lc)) w6.heap.size #[.slice sx ln lc] 24:=by
  have:=aB (bA5 w6 a u) #[.slice sx ln lc] 24
  rwa [kk.size] at this
 exact⟨_,_,sx,ln,lc,u,e', rfl,rfl,rfl,k3,(pG ka).below (aA _ _),Below.tr (bb.trans (kk.below ha)) (aA _ _),bb.size,ha,h.only ((Only.of_kept (M:=fun b=>b=a) kk rfl).trans (Only.of_below (aA _ _))) (fun b m=>by subst m; exact hab) hb⟩
theorem vO {a b:Nat}{c0 d0 d1 d2:Value}(ha:W.heap.size<=a)(hb:W.heap.size<=b)(hne:a≠b)(hab:a<base)(hbb:b<base)(ka:aC w6 a #[c0] 24)(kb:aC w6 b #[d0,d1,d2] 84)(bb:Below W.heap.size W w6)(h:uC base n N P sx ln lc u e' w6)(hbs:W.heap.size<=base):cN3 W (bA5 (w6.setCell ⟨a,0,none⟩ (.slice sx ln lc)) b u) n N P (.pointer (some ⟨a,0,none⟩)) (.pointer (some ⟨b,0,none⟩)) (.int .i64 e'):=by
 have k1:=gT w6 a (.slice sx ln lc)
 have k2:=jF (w6.setCell ⟨a,0,none⟩ (.slice sx ln lc)) b u
 have o1:=Only.of_kept (M:=fun k=>k=a\/k=b) k1 (.inl rfl)
 have o2:=Only.of_kept (M:=fun k=>k=a\/k=b) k2 (.inr rfl)
 exact⟨_,_,sx,ln,lc,u,e', rfl,rfl,rfl,(Only.of_kept (M:=fun k=>k=b) k2 rfl).cells (pI ka) hne,pG ((Only.of_kept (M:=fun k=>k=a) k1 rfl).cells kb hne.symm),(bb.trans (k1.below ha)).trans (k2.below hb),ha,hb,h.only (o1.trans o2) (fun k m=>by
  rcases m with m | m
  ·omega
  ·omega) hbs⟩
end
theorem uV.case {w w':World}{n:Nat}{B:Nat->Blk}{key:Int}{x:aK}{a:aP}{cc:Int}{e:Ending}(h:uV w n B key x a cc e w'):Below w.heap.size w w'/\∃ (sx:Option Addr) (ln lc:Nat) (u:cB) (e':Int),e=.returned (.tuple #[.agg #[.slice sx ln lc],.agg #[.string u.name,.slice u.fa u.fn u.fc,.slice u.sa u.sn u.sc],.int .i64 e'])/\uC w.heap.size n (fun e'=>aV n B key x->dY n B (aG x)->zN n B key x a/\lQ n B key e' x a) (fun D y=>aV n B key x/\dY n B (aG x)/\Did n B key x a cc D y) sx ln lc u e' w':=by
 obtain⟨b,h⟩:=h
 refine⟨b,?_⟩
 rcases h with⟨e', rfl,h1,h2,h3⟩ | ⟨g,D,v,y,rfl,h1,h2,h3,h4,h5⟩
 ·exact⟨none,0,0,⟨ByteArray.mk #[],none,0,0,none,0,0⟩,e', rfl,.inl ⟨h1,fun a b=>⟨h2 a b,h3 a b⟩⟩⟩
 ·exact⟨_,n,n,v,0,rfl,.inr ⟨rfl,g,D,y,rfl,rfl,rfl,⟨h1,h2,h3⟩,h4.1,h4.2,h5⟩⟩
theorem aQ7.case {w w':World}{n:Nat}{B:Nat->Blk}{key:Int}{x:aK}{fr nm:ByteArray}{cc:Int}{e:Ending}(h:aQ7 w n B key x fr nm cc e w'):Below w.heap.size w w'/\∃ (sx:Option Addr) (ln lc:Nat) (u:cB) (e':Int),e=.returned (.tuple #[.agg #[.slice sx ln lc],.agg #[.string u.name,.slice u.fa u.fn u.fc,.slice u.sa u.sn u.sc],.int .i64 e'])/\uC w.heap.size n (fun e'=>aV n B key x->dY n B (aG x)->ClE x fr nm e') (fun C y=>aV n B key x/\dY n B (aG x)/\∃ K,Grow n B C K/\(∀ r:Int,r≠0->(aG y).count r=K.count r)/\aV n C key y/\dY n C (aG y)/\ClF n B C x fr nm y) sx ln lc u e' w':=by
 obtain⟨b,h⟩:=h
 refine⟨b,?_⟩
 rcases h with⟨e', rfl,h1,h2⟩ | ⟨g,C,u,y,K,rfl,h1,h2,h3,h4,h5,h6,h7,h8,h9,h10⟩
 ·exact⟨none,0,0,⟨ByteArray.mk #[],none,0,0,none,0,0⟩,e', rfl,.inl ⟨h1,h2⟩⟩
 ·exact⟨_,n,n,u,0,rfl,.inr ⟨rfl,g,C,y,rfl,rfl,rfl,⟨h1,h2,K,h3,h4,h5,h6,h7⟩,h9.1,h9.2,h10⟩⟩
theorem aI.both {Q R:Nat->Prop}{k:IntKind}{w:World}{a:Option Addr}{n:Nat}{l:List Int}(h:aI Q k w a n l)(h2:aI R k w a n l):aI (fun b=>Q b/\R b) k w a n l:=by
 refine⟨h.1,h.2.1,fun hp=>?_⟩
 obtain⟨b,off,rfl,hlt,hq,hc⟩:=h.2.2 hp
 obtain⟨b2,off2,e,_,hr,_⟩:=h2.2.2 hp
 simp only[Option.some.injEq,Addr.mk.injEq,and_true] at e
 obtain⟨rfl,rfl⟩:=e
 exact⟨b,off,rfl,hlt,⟨hq,hr⟩,hc⟩
theorem PSt.swap3 {H:Nat}{X:Nat->Prop}{w:World}{ob g n g':Nat}{B C:Nat->Blk}{ta:Option Addr}{tn tc:Nat}{L:List aY}(h:PSt H X w ob g n B ta tn tc L)(hO:Own w g' n C)(hB:dO (fun b=>¬fD (.slice ta tn tc) L tn b/\¬X b) w g' 0 n C)(hg:¬fD (.slice ta tn tc) L tn g'/\∀ b,X b->b<g'):PSt H X (w.setCell ⟨ob,0,none⟩ (.slice (some ⟨g', 0,none⟩) n n)) ob g' n C ta tn tc L:=by
 have kk:Kept ob w (w.setCell ⟨ob,0,none⟩ (.slice (some ⟨g', 0,none⟩) n n)):=Kept.setCell (g:=ob) (Kept.refl _ _) (p:=⟨ob,0,none⟩) rfl _
 have hob:=hg.2 ob h.hx
 have hO':=hO.kept hob kk
 have hlen:=h.mine.len
 have k:=h.box.set 0 (.slice (some ⟨g', 0,none⟩) n n)
 simp only[List.setIfInBounds_toArray,List.set_cons_zero] at k
 refine⟨k,hO'.lt,fun j hj=>?_,hO'.free,⟨hg.1,fun x=>by have:=hg.2 _ x; omega⟩,h.mine.only (Only.of_kept (M:=fun b=>b=ob) kk rfl) (fun b e=>.inr ⟨e▸h.hx,fun f=>absurd f (by omega)⟩),h.hob,h.hx⟩
 obtain⟨ka,kn,kc,ba,bn,bc,h1⟩:=hO'.blocks j hj
 obtain⟨ka2,kn2,kc2,ba2,bn2,bc2,h2⟩:=((Only.of_kept (M:=fun b=>b=ob) kk rfl).blocks hB (by omega) hO.lt (fun b q e=>q.2 (e▸h.hx))) j hj
 have e2:=h1.c2.symm.trans h2.c2
 have e3:=h1.c3.symm.trans h2.c3
 simp only[Option.some.injEq,Value.slice.injEq] at e2 e3
 obtain⟨rfl,rfl,rfl⟩:=e2
 obtain⟨rfl,rfl,rfl⟩:=e3
 exact⟨ka,kn,kc,ba,bn,bc,h1.c0,h1.c1,h1.c2,h1.c3,h1.kids.both h2.kids,h1.bytes.both h2.bytes,h1.refs,h1.level,h1.caps⟩
def vE (l:List aK)(x:aK)(a:aP)(e:Int):Prop:=ClE x a.to a.file e\/((∃ s∈x.snaps,s.nm=a.to.data.toList)/\vF l a.file e)
def cR4 (H:Nat)(X:Nat->Prop)(w:World)(ob g n:Nat)(B:Nat->Blk)(tb tn tc:Nat)(L:List aY)(i:Nat)(m:aY)(s:iV)(a:aP)(e:Ending)(w':World):Prop:=
 (∃ e':Int,e=.returned (.int .i64 e')/\e'≠0/\Below w.heap.size w w'/\(aV n B m.key s.x->dY n B (aG s.x)->vE (m.ms.map (·.x)) s.x a e'))\/
 (e=.returned (.int .i64 0)/\Below H w w'/\Only (PM ob tb tn tc L) w w'/\∃ g' C y u a' c' p,(aV n B m.key s.x/\dY n B (aG s.x)/\∃ K,Grow n B C K/\(∀ r:Int,r≠0->(aG y).count r=K.count r)/\aV n C m.key y/\dY n C (aG y)/\ClF n B C s.x a.to a.file y)/\aM y.name/\m.sn<3/\Found aK.nm (m.ms.map (·.x)) y.nm p false/\PSt H X w' ob g' n C (some ⟨tb,0,none⟩) tn tc (L.set i { m with sa:=a', sn:=m.sn+1,sc:=c', ms:=m.ms.take p++⟨u,y⟩::m.ms.drop p }))
theorem aE6 (H:Nat)(X:Nat->Prop)(ob g n:Nat)(B:Nat->Blk)(tb tn tc:Nat)(L:List aY)(i k:Nat)(m:aY)(s:iV)(a:aP)(ba:Option Addr)(bn bc:Nat)(cc:Int)(w:World)(h:PSt H X w ob g n B (some ⟨tb,0,none⟩) tn tc L)(hm:L[i]? =some m)(hs:m.ms[k]? =some s)(h3:m.sn<=3)(hao:a.ok)(hc:∀ k,k<n->(B k).refs<=cc)(hcc:cc+6<=1000000)(ho:(m.ms.map (·.x)).Pairwise fun a b=>a.nm<b.nm):
 Calls Tryz.prog 39 #[.pointer (some ⟨ob,0,none⟩),.pointer (some ⟨tb,i*3,none⟩),.int .i64 k,.agg #[.int .i64 a.kind,.string a.set,.string a.file,.string a.to,.int .i64 a.pos,.int .i64 a.num,.slice ba bn bc]] w fun e w'=>cR4 H X w ob g n B tb tn tc L i m s a e w':=by
 have b0:=aA w (.cells #[.int .i64 a.kind,.string a.set,.string a.file,.string a.to,.int .i64 a.pos,.int .i64 a.num,.slice ba bn bc] 30)
 have kA:aC _ w.heap.size #[.int .i64 a.kind,.string a.set,.string a.file,.string a.to,.int .i64 a.pos,.int .i64 a.num,.slice ba bn bc] 30:=aB w _ _
 have hsz:=h.mine.sz
 replace h:=h.below b0
 replace b0:=hid b0
 replace kA:=hid kA
 replace h:=hid h
 replace hc:=hid hc
 go_enter Tryz.func39,Tryz.ntmps39
 go_upto_region 1 with fail
 generalize w.alloc (.cells #[.int .i64 a.kind,.string a.set,.string a.file,.string a.to,.int .i64 a.pos,.int .i64 a.num,.slice ba bn bc] 30)=w0 at *
 obtain⟨hk,hsk⟩:=List.getElem?_eq_some_iff.1 hs
 have hml:m.ms.length=m.sn:=by have:=(h.out.sets hm).1; simpa using this
 have hks:k<m.sn:=by omega
 obtain⟨hi,hmi⟩:=List.getElem?_eq_some_iff.1 hm
 have hl:=h.out.mine.len
 have hown:=h.out.mine.own i m hm (by omega)
 obtain⟨rb,hrb⟩:∃ rb,m.sa=some ⟨rb,0,none⟩:=by
  rcases hown.2 with⟨h0,h1⟩ | ⟨q,cap,cur,h0,_⟩
  ·omega
  ·simp only[Value.slice.injEq] at h0; exact⟨q,h0.1⟩
 have hse:Hid (∀ w', Below w0.heap.size w0 w'->dK (fun _=>True) w' s.v s.x):=hid (fun w' b=>((h.out.mine.lists m (List.mem_of_getElem? hm) s (List.mem_of_getElem? hs)).weaken (fun _ _ _=>trivial)).below b)
 have hst:Hid (∀ w', Below w0.heap.size w0 w'->aN w' (some ⟨g,0,none⟩) n B):=hid (fun w' b=>h.out.own.store.below b)
 obtain⟨t0,t1,t2,tf,lt⟩:=h.out.ten hm
 have hrow:=hown
 rw[hrb] at hrow t2
 have lr:=(hrow.lt rb rfl).2
 have r0:w0.cell? ⟨rb,k*3,none⟩=some (.string s.v.name):=(hrow.cellAt (k*3) (by omega)).trans ((flat_get iV.cells_len m.ms k 0 hk (by omega)).trans (by rw[hsk]; rfl))
 have r1:w0.cell? ⟨rb,k*3+1,none⟩=some (.slice s.v.fa s.v.fn s.v.fc):=(hrow.cellAt (k*3+1) (by omega)).trans ((flat_get iV.cells_len m.ms k 1 hk (by omega)).trans (by rw[hsk]; rfl))
 have r2:w0.cell? ⟨rb,k*3+2,none⟩=some (.slice s.v.sa s.v.sn s.v.sc):=(hrow.cellAt (k*3+2) (by omega)).trans ((flat_get iV.cells_len m.ms k 2 hk (by omega)).trans (by rw[hsk]; rfl))
 have o0:=h.out.box.cell 0
 have lo:=h.out.box.lt
 have la:=kA.out.lt
 have a3:=kA.out.cell 3
 have a2:=kA.out.cell 2
 simp at a3 a2
 simp at o0
 have HB1:=hid (bDr (Below.refl _ w0))
 have HB2:=hid (bDr (bAl (Below.refl _ w0) dG))
 have HB3:=hid (bDr (bAl (Below.refl _ w0) iF))
 have HB4:=hid (bDr (bAl (bAl (Below.refl _ w0) dG) iF))
 have HB5:=hid (bDr (bAl (bAl (Below.refl _ w0) iF) dG))
 have HZ2:Hid ((w0.alloc dG).drew.heap.size=w0.heap.size+1):=hid (by show (w0.alloc dG).heap.size=_; simp)
 have HZ3:Hid ((w0.alloc iF).drew.heap.size=w0.heap.size+1):=hid (by show (w0.alloc iF).heap.size=_; simp)
 have HZ4:Hid (((w0.alloc dG).alloc iF).drew.heap.size=w0.heap.size+2):=hid (by show ((w0.alloc dG).alloc iF).heap.size=_; simp)
 have HZ5:Hid (((w0.alloc iF).alloc dG).drew.heap.size=w0.heap.size+2):=hid (by show ((w0.alloc iF).alloc dG).heap.size=_; simp)
 have ka2:=hid ((aB w0 #[.slice none 0 0] 24).below (aD _ _))
 have kb3:=hid ((aB w0 #[.string (ByteArray.mk #[]),.slice none 0 0,.slice none 0 0] 84).below (aD _ _))
 have ka4:=hid (((aB w0 #[.slice none 0 0] 24).below (aA _ iF)).below (aD _ _))
 have kb4:=hid ((aF w0 dG #[.string (ByteArray.mk #[]),.slice none 0 0,.slice none 0 0] 84).below (aD _ _))
 have kb5:=hid (((aB w0 #[.string (ByteArray.mk #[]),.slice none 0 0,.slice none 0 0] 84).below (aA _ dG)).below (aD _ _))
 have ka5:=hid ((aF w0 iF #[.slice none 0 0] 24).below (aD _ _))
 have n0:ob≠w0.heap.size:=by omega
 have n0':=n0.symm
 have q0:ob≠w0.heap.size+1:=by omega
 have q0':=q0.symm
 have n1:tb≠w0.heap.size:=by omega
 have n1':=n1.symm
 have q1:tb≠w0.heap.size+1:=by omega
 have q1':=q1.symm
 have n2:rb≠w0.heap.size:=by omega
 have n2':=n2.symm
 have q2:rb≠w0.heap.size+1:=by omega
 have q2':=q2.symm
 have n3:w.heap.size≠w0.heap.size:=by omega
 have n3':=n3.symm
 have q3:w.heap.size≠w0.heap.size+1:=by omega
 have q3':=q3.symm
 have hk0:(0:Int)<=(k:Int):=by omega
 have hksI:(k:Int)<(m.sn:Int):=by omega
 replace hm:=hid hm
 replace hs:=hid hs
 clear hrow hown hsk t1 tf hmi
 replace hrb:=hid hrb
 go_cut [9,10,11] from 36 (fun v9 v10 v11 wc=>cN3 w0 wc n (fun e'=>aV n B m.key s.x->dY n B (aG s.x)->ClE s.x a.to a.file e') (fun D y=>aV n B m.key s.x/\dY n B (aG s.x)/\∃ K,Grow n B D K/\(∀ r:Int,r≠0->(aG y).count r=K.count r)/\aV n D m.key y/\dY n D (aG y)/\ClF n B D s.x a.to a.file y) v9 v10 v11)
 case first=>
  go_region_held3 (fun w'=>w'.cell? ⟨ob,0,none⟩=some (.slice (some ⟨g,0,none⟩) n n)/\w'.cell? ⟨tb,i*3,none⟩=some (.int .i64 m.key)/\w'.cell? ⟨tb,i*3+2,none⟩=some (.slice (some ⟨rb,0,none⟩) m.sn m.sc)/\w'.cell? ⟨rb,k*3,none⟩=some (.string s.v.name)/\w'.cell? ⟨rb,k*3+1,none⟩=some (.slice s.v.fa s.v.fn s.v.fc)/\w'.cell? ⟨rb,k*3+2,none⟩=some (.slice s.v.sa s.v.sn s.v.sc)/\w'.cell? ⟨w.heap.size,3,none⟩=some (.string a.to)/\w'.cell? ⟨w.heap.size,2,none⟩=some (.string a.file)) (first | go_keep | assumption) (first | (go_at_call 72; refine Calls.mono (bW0 (some ⟨g,0,none⟩) n n B m.key s.v s.x a.to a.file cc _ ?_ ?_ hao.1.2.2 hao.1.2.1 hc.out hcc) ?_; (first | with_reducible exact hst.out _ HB1.out | with_reducible exact hst.out _ HB2.out | with_reducible exact hst.out _ HB3.out | with_reducible exact hst.out _ HB4.out | with_reducible exact hst.out _ HB5.out); (first | with_reducible exact hse.out _ HB1.out | with_reducible exact hse.out _ HB2.out | with_reducible exact hse.out _ HB3.out | with_reducible exact hse.out _ HB4.out | with_reducible exact hse.out _ HB5.out); rintro e w6 hret; have hr6:=aQ7.case hret; clear hret; obtain⟨b6,sx,ln,lc,u,e', rfl,hcase⟩:=hr6; (first | (with_reducible have bb:=hid (Below.tr HB1.out b6); have hw:=hid (uC.only (base':=w0.heap.size) hcase (Only.refl (fun _=>False) _) (fun _ f=>f.elim) (Nat.le_refl _))) | (with_reducible have bb:=hid (Below.tr HB2.out b6); have ka:=hid (ka2.out.below b6); rw[HZ2.out] at hcase; have hw:=hid hcase) | (with_reducible have bb:=hid (Below.tr HB3.out b6); have kb:=hid (kb3.out.below b6); rw[HZ3.out] at hcase; have hw:=hid hcase) | (with_reducible have bb:=hid (Below.tr HB4.out b6); have ka:=hid (ka4.out.below b6); have kb:=hid (kb4.out.below b6); rw[HZ4.out] at hcase; have hw:=hid hcase) | (with_reducible have bb:=hid (Below.tr HB5.out b6); have ka:=hid (ka5.out.below b6); have kb:=hid (kb5.out.below b6); rw[HZ5.out] at hcase; have hw:=hid hcase)); have z0:=(bb.out.cell (p:=⟨ob,0,none⟩) lo).trans o0; have z1:=(bb.out.cell (p:=⟨tb,i*3,none⟩) lt).trans t0; have z2:=(bb.out.cell (p:=⟨tb,i*3+2,none⟩) lt).trans t2; have z3:=(bb.out.cell (p:=⟨rb,k*3,none⟩) lr).trans r0; have z4:=(bb.out.cell (p:=⟨rb,k*3+1,none⟩) lr).trans r1; have z5:=(bb.out.cell (p:=⟨rb,k*3+2,none⟩) lr).trans r2; have z6:=(bb.out.cell (p:=⟨w.heap.size,3,none⟩) la).trans a3; have z7:=(bb.out.cell (p:=⟨w.heap.size,2,none⟩) la).trans a2; have hs6:=bb.out.size; have m0:ob≠w6.heap.size:=(by omega); have m0':=m0.symm; have p0:ob≠w6.heap.size+1:=(by omega); have p0':=p0.symm; have m1:tb≠w6.heap.size:=(by omega); have m1':=m1.symm; have p1:tb≠w6.heap.size+1:=(by omega); have p1':=p1.symm; have m2:rb≠w6.heap.size:=(by omega); have m2':=m2.symm; have p2:rb≠w6.heap.size+1:=(by omega); have p2':=p2.symm; have m3:w.heap.size≠w6.heap.size:=(by omega); have m3':=m3.symm; have p3:w.heap.size≠w6.heap.size+1:=(by omega); have p3':=p3.symm; (try (have lka:=ka.out.lt; have nka:=Nat.ne_of_lt lka; have nka':=nka.symm; have cka:=ka.out.cell 0; have fka:=ka.out.frozen 0; simp only[List.getElem?_toArray,List.getElem?_cons_zero] at cka)); (try (have lkb:=kb.out.lt; have nkb:=Nat.ne_of_lt lkb; have nkb':=nkb.symm; have ckb0:=kb.out.cell 0; have ckb1:=kb.out.cell 1; have ckb2:=kb.out.cell 2; have fkb0:=kb.out.frozen 0; have fkb1:=kb.out.frozen 1; have fkb2:=kb.out.frozen 2; simp only[List.getElem?_toArray,List.getElem?_cons_zero,List.getElem?_cons_succ] at ckb0 ckb1 ckb2)); clear hcase; replace b6:=hid b6))
  all_goals (go_wp2_with fail; go_meet; first
   | exact bC5 bb.out hw.out (Nat.le_refl _)
   | exact bC4 bb.out hw.out (Nat.le_refl _)
   | exact bC7 (a:=w0.heap.size) (Nat.le_refl _) (Nat.lt_succ_self _) ka.out bb.out hw.out (Nat.le_succ _)
   | exact bC6 (a:=w0.heap.size) (Nat.le_refl _) (Nat.lt_succ_self _) kb.out bb.out hw.out (Nat.le_succ _)
   | exact vO (a:=w0.heap.size) (b:=w0.heap.size+1) (Nat.le_refl _) (Nat.le_succ _) (by omega) (by omega) (by omega) ka.out kb.out bb.out hw.out (by omega)
   | exact vO (a:=w0.heap.size+1) (b:=w0.heap.size) (Nat.le_succ _) (Nat.le_refl _) (by omega) (by omega) (by omega) ka.out kb.out bb.out hw.out (by omega))
 case rest=>
  obtain⟨a9,a10,sx,ln,lc,u,e', rfl,rfl,rfl,k9,k10,bC,h9,h10,hCs⟩:=hcut
  clear HB1 HB2 HB3 HB4 HB5 HZ2 HZ3 HZ4 HZ5 ka2 kb3 ka4 kb4 kb5 ka5 hst hse n0 n1 n2 n3 n0' n1' n2' n3' q0 q1 q2 q3 q0' q1' q2' q3'
  replace k9:=hid k9
  replace k10:=hid k10
  replace bC:=hid bC
  clear o0 t0 t2 r0 r1 r2 a3 a2
  rcases hCs with⟨he,hCE⟩ | ⟨rfl,g', C,y,rfl,e1,e2,hP,hg', hO,hY⟩
  ·have he':(e' == 0)=false:=by simp[he]
   replace hCE:=hid hCE
   go_wp2_with fail
   go_ret
   exact .inl ⟨e', rfl,he,Below.tr b0.out bC.out,fun h1 h2=>.inl (hCE.out h1 h2)⟩
  ·obtain rfl:=e1.symm
   obtain rfl:=e2.symm
   have hwc:=h.out.below bC.out
   have hYn:dK (fun b=>¬fD (.slice (some ⟨tb,0,none⟩) tn tc) L tn b/\¬X b) wc u y:=hY.weaken (fun b _ q=>⟨fun f=>by have:=(h.out.mine.ge f).2; omega,fun x=>by have:=h.out.mine.xlt b x; omega⟩)
   have c0:=k10.out.cell 0
   have c1:=k10.out.cell 1
   have c2:=k10.out.cell 2
   simp at c0 c1 c2
   replace hP:=hid hP
   replace hO:=hid hO
   replace hwc:=hid hwc
   replace hYn:=hid hYn
   replace hY:=hid hY
   replace ho:=hid ho
   go_wp2_with fail
   refine(xA H X ob g n B tb tn tc L i m u y wc hwc.out hm.out ho.out h3 hYn.out).mono ?_
   rintro e w7 (⟨e', rfl,he,b7,hAN⟩ | ⟨rfl,hNm,hlt3,bH,a', c', p,hF,hPS,on,hR⟩)
   ·have he':(e' == 0)=false:=by simp[he]
    replace hAN:=hid hAN
    go_wp2_with fail
    go_ret
    refine .inl ⟨e', rfl,he,Below.tr b0.out (Below.tr bC.out b7),fun _ _=>.inr ?_⟩
    obtain⟨_,_,_,_,_,_,_,hcf⟩:=hP.out
    obtain⟨q,hq,hqn,_⟩:=hcf.snap
    have hAN':=hAN.out
    rw[hcf.name] at hAN'
    exact⟨⟨_,List.getElem_mem hq,hqn⟩,hAN'⟩
   ·have hn9:¬fD (.slice (some ⟨tb,0,none⟩) tn tc) L tn a9:=fun f=>by have:=(h.out.mine.ge f).2; omega
    have x9:w7.cell? ⟨a9,0,none⟩=some (.slice (some ⟨g', 0,none⟩) n n):=by
     have:=(on.cell (p:=⟨a9,0,none⟩) k9.out.lt hn9).trans (k9.out.cell 0)
     simpa using this
    have x0:=hPS.box.cell 0
    have xf:=hPS.box.frozen 0
    simp at x0
    replace hPS:=hid hPS
    replace hF:=hid hF
    replace bH:=hid bH
    go_wp2_with fail
    go_ret
    have kk:Kept ob w7 (w7.setCell ⟨ob,0,none⟩ (.slice (some ⟨g', 0,none⟩) n n)):=Kept.setCell (g:=ob) (Kept.refl _ _) (p:=⟨ob,0,none⟩) rfl _
    have hMg:∀ b,fD (.slice (some ⟨tb,0,none⟩) tn tc) L tn b->b<g':=fun b f=>by have:=(h.out.mine.ge f).2; omega
    have hO7:Own w7 g' n C:=⟨Nat.lt_of_lt_of_le hO.out.lt on.size,on.blocks hO.out.blocks (fun f=>by have:=hMg _ f; omega) hO.out.lt (fun b q f=>by have:=hMg _ f; omega),fun j hj=>by
     rw[World.frozen?_of_block (w:=wc) (on.block g' hO.out.lt (fun f=>by have:=hMg _ f; omega))]
     exact hO.out.free j hj⟩
    refine .inr ⟨rfl,(b0.out.mono hsz).trans ((bC.out.mono (by have:=b0.out.size; omega)).trans (bH.out.trans (kk.below hPS.out.hob))),(((Only.of_below b0.out).trans (Only.of_below bC.out)).trans (on.mono (fun b _ q=>.inr q))).trans (Only.of_kept kk (.inl rfl)),g', C,y,u,a', c', p,hP.out,hNm,hlt3,hF.out,hPS.out.swap3 hO7 ((on.blocks (hO.out.blocks.weaken (R:=fun b=>g'<b/\b<wc.heap.size) (fun b hb q=>⟨q,hb⟩)) (fun f=>by have:=hMg _ f; omega) hO.out.lt (fun b q f=>by have:=hMg _ f; omega)).weaken (fun b _ q=>⟨fun f=>?_,fun x=>by have:=h.out.mine.xlt b x; omega⟩)) ⟨fun f=>?_,fun b x=>by have:=h.out.mine.xlt b x; omega⟩⟩
    ·rcases hR b f with f | f
     ·have:=hMg _ f; omega
     ·omega
    ·rcases hR _ f with f | f
     ·have:=hMg _ f; omega
     ·have:=hO.out.lt; omega
structure LB (W wr:World)(sa:Option Addr)(n sc:Nat)(v:cB)(a:aP)(ba:Option Addr)(bn bc:Nat):Prop where
 bel:Below W.heap.size W wr
 sz:W.heap.size+4<=wr.heap.size
 bS:aC wr W.heap.size #[.slice sa n sc] 24
 bX:aC wr (W.heap.size+1) #[.string v.name,.slice v.fa v.fn v.fc,.slice v.sa v.sn v.sc] 84
 bA:aC wr (W.heap.size+1+1) #[.int .i64 a.kind,.string a.set,.string a.file,.string a.to,.int .i64 a.pos,.int .i64 a.num,.slice ba bn bc] 30
 r8:aC wr (W.heap.size+1+1+1) #[.int .i64 0,.int .i64 0,.slice none 0 0,.slice none 0 0] 41
theorem LB.below {W wr w':World}{sa:Option Addr}{n sc:Nat}{v:cB}{a:aP}{ba:Option Addr}{bn bc:Nat}(h:LB W wr sa n sc v a ba bn bc)(b:Below wr.heap.size wr w'):LB W w' sa n sc v a ba bn bc:=⟨Below.tr h.bel b,Nat.le_trans h.sz b.size,h.bS.below b,h.bX.below b,h.bA.below b,h.r8.below b⟩
abbrev bV1 (w:World)(sa:Option Addr)(n sc:Nat)(v:cB)(a:aP)(ba:Option Addr)(bn bc:Nat):World:=
 (((w.alloc (.cells #[.slice sa n sc] 24)).alloc (.cells #[.string v.name,.slice v.fa v.fn v.fc,.slice v.sa v.sn v.sc] 84)).alloc (.cells #[.int .i64 a.kind,.string a.set,.string a.file,.string a.to,.int .i64 a.pos,.int .i64 a.num,.slice ba bn bc] 30)).alloc (.cells #[.int .i64 0,.int .i64 0,.slice none 0 0,.slice none 0 0] 41)
theorem aJ3 (w:World)(o:Obj):(w.alloc o).heap.size=w.heap.size+1:=by simp
theorem bB8 (w:World)(sa:Option Addr)(n sc:Nat)(v:cB)(a:aP)(ba:Option Addr)(bn bc:Nat):LB w (bV1 w sa n sc v a ba bn bc) sa n sc v a ba bn bc:=by
 have h1:=aB w #[.slice sa n sc] 24
 have h2:=aB (w.alloc (.cells #[.slice sa n sc] 24)) #[.string v.name,.slice v.fa v.fn v.fc,.slice v.sa v.sn v.sc] 84
 have h3:=aB ((w.alloc (.cells #[.slice sa n sc] 24)).alloc (.cells #[.string v.name,.slice v.fa v.fn v.fc,.slice v.sa v.sn v.sc] 84)) #[.int .i64 a.kind,.string a.set,.string a.file,.string a.to,.int .i64 a.pos,.int .i64 a.num,.slice ba bn bc] 30
 have h4:=aB (((w.alloc (.cells #[.slice sa n sc] 24)).alloc (.cells #[.string v.name,.slice v.fa v.fn v.fc,.slice v.sa v.sn v.sc] 84)).alloc (.cells #[.int .i64 a.kind,.string a.set,.string a.file,.string a.to,.int .i64 a.pos,.int .i64 a.num,.slice ba bn bc] 30)) #[.int .i64 0,.int .i64 0,.slice none 0 0,.slice none 0 0] 41
 simp only[aJ3] at h2 h3 h4
 exact⟨bAl (bAl (bAl (bAl (Below.refl _ w) _) _) _) _,by simp,((h1.below (aA _ _)).below (aA _ _)).below (aA _ _),(h2.below (aA _ _)).below (aA _ _),h3.below (aA _ _),h4⟩
theorem Tryz.infoStr:(Tryz.prog.info? 9).map (fun i=>(i.zero,i.size,i.bytes))=some (some (.string ⟨#[]⟩),1,16):=by kernel_rfl
theorem cB7 (n:Nat)(hn:n<=6)(w:World):∃ cs:Array Value,cs.size=n/\(Instr.makeSlice 39 (.int .i64 n) (.int .i64 n)).run Tryz.prog w=.ok (.slice (some ⟨w.heap.size,0,none⟩) n n) (w.alloc (.cells cs 9)):=by
 obtain⟨i0,hi,hz0,hz1,hz2⟩:=info_parts Tryz.infoStr
 refine⟨madeCells (Value.cells (.string ⟨#[]⟩)) (n*1),?_,?_⟩
 ·simp[madeCells]
 ·rw[run_makeSlice (P:=Tryz.prog) w 39 9 i0 _ Tryz.underlying39 hi hz0 .i64 .i64 n n (by omega) (by omega) (by rw[hz1]; omega) (by rw[hz2]; omega) (by omega),hz1]
  simp
def gG (Q:Nat->Prop)(w:World)(a:Option Addr)(n:Nat)(l:List ByteArray):Prop:=
 l.length=n/\(0<n->∃ b off,a=some ⟨b,off,none⟩/\b<w.heap.size/\Q b/\∀ i,i<n->w.cell? ⟨b,off+i,none⟩=some (.string (l.getD i ByteArray.empty)))
theorem gG.below {Q:Nat->Prop}{w w':World}{a:Option Addr}{n:Nat}{l:List ByteArray}(h:gG Q w a n l)(hb:Below w.heap.size w w'):gG Q w' a n l:=by
 refine⟨h.1,fun hn=>?_⟩
 obtain⟨b,off,rfl,hlt,hq,hc⟩:=h.2 hn
 exact⟨b,off,rfl,Nat.lt_of_lt_of_le hlt hb.size,hq,fun i hi=>(hb.cell (p:=⟨b,off+i,none⟩) hlt).trans (hc i hi)⟩
theorem gG.weaken {Q R:Nat->Prop}{w:World}{a:Option Addr}{n:Nat}{l:List ByteArray}(h:gG Q w a n l)(hq:∀ b,b<w.heap.size->Q b->R b):gG R w a n l:=by
 refine⟨h.1,fun hn=>?_⟩
 obtain⟨b,off,rfl,hlt,q,hc⟩:=h.2 hn
 exact⟨b,off,rfl,hlt,hq b hlt q,hc⟩
theorem gG.kept {Q:Nat->Prop}{w w':World}{a:Option Addr}{n:Nat}{l:List ByteArray}{g:Nat}(h:gG Q w a n l)(hq:∀ b,Q b->b≠g)(hk:Kept g w w'):gG Q w' a n l:=by
 refine⟨h.1,fun hn=>?_⟩
 obtain⟨b,off,rfl,hlt,q,hc⟩:=h.2 hn
 exact⟨b,off,rfl,by rw[hk.size]; exact hlt,q,fun i hi=>(hk.cell (p:=⟨b,off+i,none⟩) (hq b q)).trans (hc i hi)⟩
theorem oJ (Q:Nat->Prop)(w:World)(a:Option Addr):gG Q w a 0 []:=⟨rfl,fun h=>absurd h (by omega)⟩
theorem Only.strs {M:Nat->Prop}{a b:World}(h:Only M a b){Q:Nat->Prop}{x:Option Addr}{n:Nat}{l:List ByteArray}(hn:gG Q a x n l)(hm:∀ k,Q k->¬M k):gG Q b x n l:=by
 refine⟨hn.1,fun h0=>?_⟩
 obtain⟨c,off,rfl,hlt,q,hc⟩:=hn.2 h0
 exact⟨c,off,rfl,Nat.lt_of_lt_of_le hlt h.size,q,fun i hi=>(h.cell (p:=⟨c,off+i,none⟩) hlt (hm c q)).trans (hc i hi)⟩
def cV1 (base:Nat)(w:World)(n:Nat)(l:List ByteArray)(e:Ending):Prop:=∃ (y:Option Addr),e=.returned (.agg #[.int .i64 0,.int .i64 (n:Int),.slice y n n,.slice none 0 0])/\gG (fun b=>base<=b) w y n l
theorem cC2 (Q:Nat->Prop)(v:cB)(x:aK)(w:World)(hX:dK Q w v x)(h6:x.files.length<=6):
 Calls Tryz.prog 93 #[.agg #[.string v.name,.slice v.fa v.fn v.fc,.slice v.sa v.sn v.sc]] w fun e w'=>cV1 w.heap.size w' v.fn (x.files.map (·.name)) e/\Below w.heap.size w w':=by
 have b0:=aW w (.cells #[.string v.name,.slice v.fa v.fn v.fc,.slice v.sa v.sn v.sc] 84) (.cells #[.int .i64 0,.int .i64 0,.slice none 0 0,.slice none 0 0] 41)
 have k0:aC _ w.heap.size #[.string v.name,.slice v.fa v.fn v.fc,.slice v.sa v.sn v.sc] 84:=(aB w _ _).below (aA _ (.cells #[.int .i64 0,.int .i64 0,.slice none 0 0,.slice none 0 0] 41))
 have k1:=aF w (.cells #[.string v.name,.slice v.fa v.fn v.fc,.slice v.sa v.sn v.sc] 84) #[.int .i64 0,.int .i64 0,.slice none 0 0,.slice none 0 0] 41
 have hfl:=hid hX.files.1
 have hvn:v.fn<=6:=by rw[<-hX.files.1]; exact h6
 have hFi:=hid (hX.files.below b0)
 replace b0:=hid b0
 replace k0:=hid k0
 replace k1:=hid k1
 clear hX
 go_enter Tryz.func93,Tryz.ntmps93
 go_upto_region 1 with fail
 generalize (w.alloc (.cells #[.string v.name,.slice v.fa v.fn v.fc,.slice v.sa v.sn v.sc] 84)).alloc (.cells #[.int .i64 0,.int .i64 0,.slice none 0 0,.slice none 0 0] 41)=w0 at *
 obtain⟨cs,hcs,hmk⟩:=cB7 v.fn hvn w0
 have p1:=k0.out.cell 1
 simp at p1
 have b1:=hid (aA w0 (.cells cs 9))
 have kc:=hid (aB w0 cs 9)
 have p1':=((b1.out).cell (p:=⟨w.heap.size,1,none⟩) k0.out.lt).trans p1
 replace hcs:=hid hcs
 go_wp2_with fail
 clear hmk p1 p1'
 have hz1:Hid ((w0.alloc (.cells cs 9)).heap.size=w0.heap.size+1):=hid (by simp)
 generalize w0.alloc (.cells cs 9)=w1 at *
 go_loopw [13] (fun u wr=>∃ (j:Nat) (cs:Array Value),j<=v.fn/\u=.int .i64 j/\Below w0.heap.size w0 wr/\aC wr w0.heap.size cs 9/\cs.size=v.fn/\∀ i,i<j->cs[i]? =some (.string (x.files.getD i Ent.zero).name)) (fun u _=>v.fn-(Go.RowKit.intOf u).toNat)
 case atStart=>exact⟨0,cs,Nat.zero_le _,rfl,b1.out,kc.out,hcs.out,fun i hi=>absurd hi (by omega)⟩
 case round=>
  clear kc hcs
  obtain⟨j,cs,hj,rfl,hb,hc,hsz,hnm⟩:=hrel
  replace hnm:=hid hnm
  by_cases hlt:j<v.fn
  ·have hE':=hFi.out.below hb
   obtain⟨eb,off,hfa,hel,_⟩:=hE'.2.2 (by omega)
   generalize v.fa=vfa at *
   subst hfa
   have hA:=hE'.ent hlt
   have c0:=hA.c0
   have c1:=hA.c1
   have c2:=hA.c2
   clear hA hE'
   generalize hff:x.files.getD j Ent.zero=f at *
   replace hff:=hid hff
   have bA:=aA wr (.cells #[.string f.name,.int .i64 f.root,.int .i64 f.size] 106)
   have kA:=aB wr #[.string f.name,.int .i64 f.root,.int .i64 f.size] 106
   have hc':=hc.below bA
   replace bA:=hid bA
   replace kA:=hid kA
   replace hb:=hid hb
   go_upto_region 5 with fail
   clear c0 c1 c2
   have hlc:=hc.lt
   generalize wr.alloc (.cells #[.string f.name,.int .i64 f.root,.int .i64 f.size] 106)=w5 at *
   have q0:=kA.out.cell 0
   simp at q0
   have y0:=hc'.cell j
   rw[Array.getElem?_eq_getElem (by omega)] at y0
   generalize cs[j]=yv at *
   have yf:=hc'.frozen j
   have kS:=hc'.set j (.string f.name)
   have kk:Kept w0.heap.size w5 (w5.setCell ⟨w0.heap.size,j,none⟩ (.string f.name)):=Kept.setCell (g:=w0.heap.size) (Kept.refl _ _) (p:=⟨w0.heap.size,j,none⟩) rfl _
   have hbb:Below w0.heap.size w0 (w5.setCell ⟨w0.heap.size,j,none⟩ (.string f.name)):=(hb.out.trans (bA.out.mono hb.out.size)).trans (kk.below (Nat.le_refl _))
   have hss:(cs.setIfInBounds j (.string f.name)).size=v.fn:=by simpa using hsz
   have hnn:Hid (∀ i,i<j+1->(cs.setIfInBounds j (.string f.name))[i]? =some (.string (x.files.getD i Ent.zero).name)):=hid (fun i hi=>by
    rw[Array.getElem?_setIfInBounds]
    by_cases e:j=i
    ·subst e
     rw[if_pos rfl,if_pos (by omega),hff.out]
    ·rw[if_neg e]; exact hnm.out i (by omega))
   have hj0:(0:Int)<=(j:Int):=by omega
   have hjs:(j:Int)<(v.fn:Int):=by omega
   replace kS:=hid kS
   replace hbb:=hid hbb
   replace hss:=hid hss
   clear kk hc hc'
   go_wp2_with fail
   go_roundw
   case rel=>exact⟨j+1,_,by omega,by go_num,hbb.out,kS.out,hss.out,hnn.out⟩
   case measure=>simp[Go.RowKit.intOf]; omega
  ·obtain rfl:j=v.fn:=by omega
   have hst:Hid (gG (fun b=>w0.heap.size<=b) wr (some ⟨w0.heap.size,0,none⟩) v.fn (x.files.map (·.name))):=hid (by
    refine⟨by rw[List.length_map,hfl.out],fun _=>⟨_,0,rfl,hc.lt,Nat.le_refl _,fun i hi=>?_⟩⟩
    have hil:i<x.files.length:=by rw[hfl.out]; exact hi
    rw[Nat.zero_add,hc.cell,hnm.out i hi]
    simp[List.getD,hil])
   have hw0:Hid (w.heap.size+1<w0.heap.size):=hid k1.out.lt
   have k1':=k1.out.below hb
   have r0:=k1'.cell 0
   have r1:=k1'.cell 1
   have r2:=k1'.cell 2
   have r3:=k1'.cell 3
   have g0:=k1'.frozen 0
   have g1:=k1'.frozen 1
   have g2:=k1'.frozen 2
   have g3:=k1'.frozen 3
   simp at r0 r1 r2 r3
   replace k1':=hid k1'
   replace hb:=hid hb
   go_wp2_with fail
   clear r0 r1 r2 r3 g0 g1 g2 g3
   have k3:=(((k1'.out.set 0 (.int .i64 0)).set 1 (.int .i64 (v.fn:Int))).set 2 (.slice (some ⟨w0.heap.size,0,none⟩) v.fn v.fn)).set 3 (.slice none 0 0)
   simp only[List.setIfInBounds_toArray,List.set_cons_succ,List.set_cons_zero] at k3
   have kk:Kept (w.heap.size+1) wr ((((wr.setCell ⟨w.heap.size+1,0,none⟩ (.int .i64 0)).setCell ⟨w.heap.size+1,1,none⟩ (.int .i64 (v.fn:Int))).setCell ⟨w.heap.size+1,2,none⟩ (.slice (some ⟨w0.heap.size,0,none⟩) v.fn v.fn)).setCell ⟨w.heap.size+1,3,none⟩ (.slice none 0 0)):=
    Kept.setCell (g:=w.heap.size+1) (Kept.setCell (g:=w.heap.size+1) (Kept.setCell (g:=w.heap.size+1) (Kept.setCell (g:=w.heap.size+1) (Kept.refl _ _) (p:=⟨w.heap.size+1,0,none⟩) rfl _) (p:=⟨w.heap.size+1,1,none⟩) rfl _) (p:=⟨w.heap.size+1,2,none⟩) rfl _) (p:=⟨w.heap.size+1,3,none⟩) rfl _
   refine bodyPost_ret (v:=.agg #[.int .i64 0,.int .i64 (v.fn:Int),.slice (some ⟨w0.heap.size,0,none⟩) v.fn v.fn,.slice none 0 0]) ?_ rfl ⟨⟨_,rfl,(hst.out.kept (fun b hb=>by have:=hw0.out; omega) kk).weaken (fun b _ hb=>by have:=hw0.out; omega)⟩,(Below.tr b0.out hb.out).trans (kk.below (by omega))⟩
   exact results_cell_row rfl _ _ (w.heap.size+1) _ _ _ _ rfl k3 Tryz.underlying41 rfl (by kernel_rfl)
end Go.Proofs.YtjafgnohlkkopaaGreatDoor
