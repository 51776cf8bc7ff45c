import Derived.Test.YtjafgnohlkkopaaGreatDoorPart22
set_option linter.unusedVariables false
set_option maxHeartbeats 8000000
set_option maxRecDepth 100000
namespace Go.Proofs.YtjafgnohlkkopaaGreatDoor
open Go.RowKit
theorem cQ6 (Q:Nat->Prop)(sa:Option Addr)(n sc:Nat)(B:Nat->Blk)(key:Int)(v:cB)(x:aK)(a:aP)(ba:Option Addr)(bn bc:Nat)(cc:Int)(w:World)(hs:aN w sa n B)(hX:dK Q w v x)(hB:aI (fun _=>True) .u8 w ba bn a.bytes)(hao:a.ok)(h64:64<=cc)(hc:∀ k,k<n->(B k).refs<=cc)(hcc:cc+iP a+24<=1000000):
 Calls Tryz.prog 73 #[.agg #[.slice sa n sc],.int .i64 key,v.val,a.val ba bn bc] w fun e w'=>uV w n B key x a cc e w':=by
 have hdb:=cD7 w sa n sc v a ba bn bc
 unfold cI0 at hdb
 replace hdb:=hid hdb
 unfold aP.val cB.val
 replace hs:=hid hs
 replace hX:=hid hX
 replace hB:=hid hB
 replace hc:=hid hc
 replace hcc:=hid hcc
 replace hao:=hid hao
 go_enter Tryz.func73,Tryz.ntmps73
 go_wp2_with fail
 generalize ((((w.alloc (.cells #[.slice sa n sc] 24)).alloc (.cells #[.string v.name,.slice v.fa v.fn v.fc,.slice v.sa v.sn v.sc] 84)).alloc (.cells #[.int .i64 a.kind,.string a.set,.string a.file,.string a.to,.int .i64 a.pos,.int .i64 a.num,.slice ba bn bc] 30)).alloc (.cells #[.slice none 0 0] 24)).alloc (.cells #[.string (ByteArray.mk #[]),.slice none 0 0,.slice none 0 0] 84)=w0 at *
 refine(nG Q sa n sc B key v x w0 (hs.out.below hdb.out.bel) (hX.out.below hdb.out.bel)).mono ?_
 rintro e w2 ⟨⟨e', rfl,he⟩,b2⟩
 replace hdb:=hid (hdb.out.below b2)
 replace he:=hid he
 clear b2
 by_cases h0:e'=0
 case neg=>
  have h0':(e' == 0)=false:=by simp[h0]
  have q1:=hdb.out.r8.cell 0
  have q2:=hdb.out.r8.frozen 0
  have q3:=hdb.out.r9.cell 0
  have q4:=hdb.out.r9.frozen 0
  have q5:=hdb.out.r9.cell 1
  have q6:=hdb.out.r9.frozen 1
  have q7:=hdb.out.r9.cell 2
  have q8:=hdb.out.r9.frozen 2
  simp at q1 q3 q5 q7
  go_wp2_with fail
  refine bodyPost_ret (v:=.tuple #[.agg #[.slice none 0 0],.agg #[.string (ByteArray.mk #[]),.slice none 0 0,.slice none 0 0],.int .i64 e']) (by rw[aS rfl]; go_simp) rfl ⟨hdb.out.put (.slice none 0 0) ⟨(ByteArray.mk #[]),none,0,0,none,0,0⟩,.inl ⟨e', rfl,h0,fun h1 h2=>absurd (he.out.2 ⟨h1,h2⟩) h0,fun h1 h2=>absurd (he.out.2 ⟨h1,h2⟩) h0⟩⟩
 subst h0
 obtain⟨hx,hh⟩:=he.out.1 rfl
 clear he
 have hsh:=hid hx.shape
 have hn4:n<=400:=hx.right.small
 have hF4:Hid (∀ i,i<n->(B i).kids.length<=4/\(B i).bytes.length<=4):=hid (fun i hi=>⟨(hx.right.one i hi).few,(hx.right.one i hi).few2⟩)
 replace hx:=hid hx
 replace hh:=hid hh
 have hptr:=hid (fun W0 (bb:Below w2.heap.size w2 W0)=>(kU.mk hdb.out.bS.lt (by have:=hdb.out.bS.cell 0; simpa using this) (hs.out.below hdb.out.bel):kU w2 ⟨w.heap.size,0,none⟩ sa n sc B).below bb)
 have hset:=hid (fun W0 (bb:Below w2.heap.size w2 W0)=>(hX.out.below hdb.out.bel).below bb)
 have s0:=hdb.out.bX.cell 0
 have s1:=hdb.out.bX.cell 1
 have s2:=hdb.out.bX.cell 2
 simp at s0 s1 s2
 have S0:=hid s0
 have S1:=hid s1
 have S2:=hid s2
 have lx:=hdb.out.bX.lt
 have m1:=Nat.ne_of_lt lx
 have m2:w.heap.size+1≠w2.heap.size+1:=by omega
 have m1':=m1.symm
 have m2':=m2.symm
 have m3:w.heap.size≠w2.heap.size:=by omega
 have m3':=m3.symm
 have hszdb:=hdb.out.sz
 go_upto_region 4 with fail
 go_cut [12,13] from 25 (fun v12 v13 wc=>cI8 w2 wc n B x v12 v13)
 case first=>
  go_region_held3 (fun w'=>w'.cell? ⟨w.heap.size+1,0,none⟩=some (.string v.name)/\w'.cell? ⟨w.heap.size+1,1,none⟩=some (.slice v.fa v.fn v.fc)/\w'.cell? ⟨w.heap.size+1,2,none⟩=some (.slice v.sa v.sn v.sc)) (first | go_keep | assumption) (first | (go_at_call 34; refine Calls.mono (pE ⟨w.heap.size,0,none⟩ sa n sc B _ ?_ hn4 hF4.out) ?_; (focus (refine hptr.out _ ?_; (repeat (first | with_reducible exact Below.refl _ _ | with_reducible exact bbO.out | with_reducible exact bbS.out | with_reducible refine bDr ?_ | with_reducible refine bAl ?_ _)); done)); rintro e wO ⟨bNew,gO,rfl,hgO,hO⟩; refine dB (dS (a:=w2) ?_ hgO) ?_; (focus ((repeat (first | with_reducible exact Below.refl _ _ | with_reducible exact bbO.out | with_reducible exact bbS.out | with_reducible refine bDr ?_ | with_reducible refine bAl ?_ _)); done)); intro hg2; refine dB (A:=Below w2.heap.size w2 wO) ?_ ?_; (focus (refine Below.tr ?_ bNew; (repeat (first | with_reducible exact Below.refl _ _ | with_reducible exact bbO.out | with_reducible exact bbS.out | with_reducible refine bDr ?_ | with_reducible refine bAl ?_ _)); done)); intro bTmp; have bbO:=hid bTmp; clear bTmp; (first | (refine dB (aC.below kaS.out (Below.tr ?_ bNew)) ?_; (focus ((repeat (first | with_reducible exact Below.refl _ _ | with_reducible refine bDr ?_ | with_reducible refine bAl ?_ _)); done)); intro kTmp; have kaO:=hid kTmp; clear kTmp) | (refine dB (aC.below (aB wS #[.slice none 0 0] 24) (Below.tr ?_ bNew)) ?_; (focus ((repeat (first | with_reducible exact Below.refl _ _ | with_reducible refine bDr ?_ | with_reducible refine bAl ?_ _)); done)); intro kTmp; have kaO:=hid kTmp; clear kTmp) | (refine dB (aC.below (aF wS iF #[.slice none 0 0] 24) (Below.tr ?_ bNew)) ?_; (focus ((repeat (first | with_reducible exact Below.refl _ _ | with_reducible refine bDr ?_ | with_reducible refine bAl ?_ _)); done)); intro kTmp; have kaO:=hid kTmp; clear kTmp) | (refine dB (aC.below (aB w2 #[.slice none 0 0] 24) (Below.tr ?_ bNew)) ?_; (focus ((repeat (first | with_reducible exact Below.refl _ _ | with_reducible refine bDr ?_ | with_reducible refine bAl ?_ _)); done)); intro kTmp; have kaO:=hid kTmp; clear kTmp) | (refine dB (aC.below (aF w2 iF #[.slice none 0 0] 24) (Below.tr ?_ bNew)) ?_; (focus ((repeat (first | with_reducible exact Below.refl _ _ | with_reducible refine bDr ?_ | with_reducible refine bAl ?_ _)); done)); intro kTmp; have kaO:=hid kTmp; clear kTmp) | skip); (first | (refine dB (aC.below kbS.out (Below.tr ?_ bNew)) ?_; (focus ((repeat (first | with_reducible exact Below.refl _ _ | with_reducible refine bDr ?_ | with_reducible refine bAl ?_ _)); done)); intro kTmp; have kbO:=hid kTmp; clear kTmp) | (refine dB (aC.below (aB wS #[.string (ByteArray.mk #[]),.slice none 0 0,.slice none 0 0] 84) (Below.tr ?_ bNew)) ?_; (focus ((repeat (first | with_reducible exact Below.refl _ _ | with_reducible refine bDr ?_ | with_reducible refine bAl ?_ _)); done)); intro kTmp; have kbO:=hid kTmp; clear kTmp) | (refine dB (aC.below (aF wS dG #[.string (ByteArray.mk #[]),.slice none 0 0,.slice none 0 0] 84) (Below.tr ?_ bNew)) ?_; (focus ((repeat (first | with_reducible exact Below.refl _ _ | with_reducible refine bDr ?_ | with_reducible refine bAl ?_ _)); done)); intro kTmp; have kbO:=hid kTmp; clear kTmp) | (refine dB (aC.below (aB w2 #[.string (ByteArray.mk #[]),.slice none 0 0,.slice none 0 0] 84) (Below.tr ?_ bNew)) ?_; (focus ((repeat (first | with_reducible exact Below.refl _ _ | with_reducible refine bDr ?_ | with_reducible refine bAl ?_ _)); done)); intro kTmp; have kbO:=hid kTmp; clear kTmp) | (refine dB (aC.below (aF w2 dG #[.string (ByteArray.mk #[]),.slice none 0 0,.slice none 0 0] 84) (Below.tr ?_ bNew)) ?_; (focus ((repeat (first | with_reducible exact Below.refl _ _ | with_reducible refine bDr ?_ | with_reducible refine bAl ?_ _)); done)); intro kTmp; have kbO:=hid kTmp; clear kTmp) | skip); (try (refine dB (dS (a:=wS) ?_ hgO) ?_; (focus ((repeat (first | with_reducible exact Below.refl _ _ | with_reducible refine bDr ?_ | with_reducible refine bAl ?_ _)); done)); intro hap; refine dB (A:=Below wS.heap.size wS wO) ?_ ?_; (focus (refine Below.tr ?_ bNew; (repeat (first | with_reducible exact Below.refl _ _ | with_reducible refine bDr ?_ | with_reducible refine bAl ?_ _)); done)); intro bTmp; have cop:=hid (bD5 (W:=w2) hO hg2 (Below.refl _ _) hS.out hlo bTmp (.inr hap)); have bbL:=bbO; have hszL:=bTmp.size; clear bTmp)); have hszO:=bbO.out.size; have m1O:w.heap.size+1≠wO.heap.size:=(by omega); have m2O:w.heap.size+1≠wO.heap.size+1:=(by omega); have m3O:w.heap.size≠wO.heap.size:=(by omega); have m3O':=m3O.symm; have m1O':=m1O.symm; have m2O':=m2O.symm; have s0O:=(bbO.out.cell (p:=⟨w.heap.size+1,0,none⟩) lx).trans S0.out; have s1O:=(bbO.out.cell (p:=⟨w.heap.size+1,1,none⟩) lx).trans S1.out; have s2O:=(bbO.out.cell (p:=⟨w.heap.size+1,2,none⟩) lx).trans S2.out; (try clear s0 s1 s2); (try (have lkaO:=kaO.out.lt; have nkaO:=Nat.ne_of_lt lkaO; have nkaO':=nkaO.symm; have caO:=kaO.out.cell 0; have fraO:=kaO.out.frozen 0; simp only[List.getElem?_toArray,List.getElem?_cons_zero] at caO)); (try (have lkbO:=kbO.out.lt; have nkbO:=Nat.ne_of_lt lkbO; have nkbO':=nkbO.symm; have cb0O:=kbO.out.cell 0; have cb1O:=kbO.out.cell 1; have cb2O:=kbO.out.cell 2; have frb0O:=kbO.out.frozen 0; have frb1O:=kbO.out.frozen 1; have frb2O:=kbO.out.frozen 2; simp only[List.getElem?_toArray,List.getElem?_cons_zero,List.getElem?_cons_succ] at cb0O cb1O cb2O)); (try clear s0S s1S s2S); (try clear caS fraS); (try clear cb0S cb1S cb2S frb0S frb1S frb2S); have hgz:=hgO; (try simp only[aD8] at hgz); (try simp only[mQ] at hgz); replace hO:=hid hO; have hgl:=hO.out.lt; clear bNew hgO) | (go_at_call 33; refine Calls.mono (aC5 Q v x _ ?_ hsh.out) ?_; (focus (refine hset.out _ ?_; (repeat (first | with_reducible exact Below.refl _ _ | with_reducible exact bbO.out | with_reducible exact bbS.out | with_reducible refine bDr ?_ | with_reducible refine bAl ?_ _)); done)); rintro e wS ⟨⟨u,ms,lo,rfl,hlz,hS⟩,bNew⟩; refine dB (dS (a:=w2) ?_ hlz) ?_; (focus ((repeat (first | with_reducible exact Below.refl _ _ | with_reducible exact bbO.out | with_reducible exact bbS.out | with_reducible refine bDr ?_ | with_reducible refine bAl ?_ _)); done)); intro hlo; refine dB (A:=Below w2.heap.size w2 wS) ?_ ?_; (focus (refine Below.tr ?_ bNew; (repeat (first | with_reducible exact Below.refl _ _ | with_reducible exact bbO.out | with_reducible exact bbS.out | with_reducible refine bDr ?_ | with_reducible refine bAl ?_ _)); done)); intro bTmp; have bbS:=hid bTmp; clear bTmp; (first | (refine dB (aC.below kaO.out (Below.tr ?_ bNew)) ?_; (focus ((repeat (first | with_reducible exact Below.refl _ _ | with_reducible refine bDr ?_ | with_reducible refine bAl ?_ _)); done)); intro kTmp; have kaS:=hid kTmp; clear kTmp) | (refine dB (aC.below (aB wO #[.slice none 0 0] 24) (Below.tr ?_ bNew)) ?_; (focus ((repeat (first | with_reducible exact Below.refl _ _ | with_reducible refine bDr ?_ | with_reducible refine bAl ?_ _)); done)); intro kTmp; have kaS:=hid kTmp; clear kTmp) | (refine dB (aC.below (aF wO iF #[.slice none 0 0] 24) (Below.tr ?_ bNew)) ?_; (focus ((repeat (first | with_reducible exact Below.refl _ _ | with_reducible refine bDr ?_ | with_reducible refine bAl ?_ _)); done)); intro kTmp; have kaS:=hid kTmp; clear kTmp) | (refine dB (aC.below (aB w2 #[.slice none 0 0] 24) (Below.tr ?_ bNew)) ?_; (focus ((repeat (first | with_reducible exact Below.refl _ _ | with_reducible refine bDr ?_ | with_reducible refine bAl ?_ _)); done)); intro kTmp; have kaS:=hid kTmp; clear kTmp) | (refine dB (aC.below (aF w2 iF #[.slice none 0 0] 24) (Below.tr ?_ bNew)) ?_; (focus ((repeat (first | with_reducible exact Below.refl _ _ | with_reducible refine bDr ?_ | with_reducible refine bAl ?_ _)); done)); intro kTmp; have kaS:=hid kTmp; clear kTmp) | skip); (first | (refine dB (aC.below kbO.out (Below.tr ?_ bNew)) ?_; (focus ((repeat (first | with_reducible exact Below.refl _ _ | with_reducible refine bDr ?_ | with_reducible refine bAl ?_ _)); done)); intro kTmp; have kbS:=hid kTmp; clear kTmp) | (refine dB (aC.below (aB wO #[.string (ByteArray.mk #[]),.slice none 0 0,.slice none 0 0] 84) (Below.tr ?_ bNew)) ?_; (focus ((repeat (first | with_reducible exact Below.refl _ _ | with_reducible refine bDr ?_ | with_reducible refine bAl ?_ _)); done)); intro kTmp; have kbS:=hid kTmp; clear kTmp) | (refine dB (aC.below (aF wO dG #[.string (ByteArray.mk #[]),.slice none 0 0,.slice none 0 0] 84) (Below.tr ?_ bNew)) ?_; (focus ((repeat (first | with_reducible exact Below.refl _ _ | with_reducible refine bDr ?_ | with_reducible refine bAl ?_ _)); done)); intro kTmp; have kbS:=hid kTmp; clear kTmp) | (refine dB (aC.below (aB w2 #[.string (ByteArray.mk #[]),.slice none 0 0,.slice none 0 0] 84) (Below.tr ?_ bNew)) ?_; (focus ((repeat (first | with_reducible exact Below.refl _ _ | with_reducible refine bDr ?_ | with_reducible refine bAl ?_ _)); done)); intro kTmp; have kbS:=hid kTmp; clear kTmp) | (refine dB (aC.below (aF w2 dG #[.string (ByteArray.mk #[]),.slice none 0 0,.slice none 0 0] 84) (Below.tr ?_ bNew)) ?_; (focus ((repeat (first | with_reducible exact Below.refl _ _ | with_reducible refine bDr ?_ | with_reducible refine bAl ?_ _)); done)); intro kTmp; have kbS:=hid kTmp; clear kTmp) | skip); (try (refine dB (dS (a:=wO) ?_ hlz) ?_; (focus ((repeat (first | with_reducible exact Below.refl _ _ | with_reducible refine bDr ?_ | with_reducible refine bAl ?_ _)); done)); intro hap; refine dB (A:=Below wO.heap.size wO wS) ?_ ?_; (focus (refine Below.tr ?_ bNew; (repeat (first | with_reducible exact Below.refl _ _ | with_reducible refine bDr ?_ | with_reducible refine bAl ?_ _)); done)); intro bTmp; have cop:=hid (bD5 (W:=w2) hO.out hg2 bTmp hS hlo (Below.refl _ _) (.inl hap)); have bbL:=bbS; have hszL:=bTmp.size; clear bTmp)); have hszS:=bbS.out.size; have m1S:w.heap.size+1≠wS.heap.size:=(by omega); have m2S:w.heap.size+1≠wS.heap.size+1:=(by omega); have m3S:w.heap.size≠wS.heap.size:=(by omega); have m3S':=m3S.symm; have m1S':=m1S.symm; have m2S':=m2S.symm; have s0S:=(bbS.out.cell (p:=⟨w.heap.size+1,0,none⟩) lx).trans S0.out; have s1S:=(bbS.out.cell (p:=⟨w.heap.size+1,1,none⟩) lx).trans S1.out; have s2S:=(bbS.out.cell (p:=⟨w.heap.size+1,2,none⟩) lx).trans S2.out; (try clear s0 s1 s2); (try (have lkaS:=kaS.out.lt; have nkaS:=Nat.ne_of_lt lkaS; have nkaS':=nkaS.symm; have caS:=kaS.out.cell 0; have fraS:=kaS.out.frozen 0; simp only[List.getElem?_toArray,List.getElem?_cons_zero] at caS)); (try (have lkbS:=kbS.out.lt; have nkbS:=Nat.ne_of_lt lkbS; have nkbS':=nkbS.symm; have cb0S:=kbS.out.cell 0; have cb1S:=kbS.out.cell 1; have cb2S:=kbS.out.cell 2; have frb0S:=kbS.out.frozen 0; have frb1S:=kbS.out.frozen 1; have frb2S:=kbS.out.frozen 2; simp only[List.getElem?_toArray,List.getElem?_cons_zero,List.getElem?_cons_succ] at cb0S cb1S cb2S)); (try clear s0O s1O s2O); (try clear caO fraO); (try clear cb0O cb1O cb2O frb0O frb1O frb2O); (try simp only[aD8] at hlz); (try simp only[mQ] at hlz); replace hS:=hid hS; clear bNew))
  all_goals (go_wp2_with fail; go_meet; first
   | (with_reducible refine bC9 cop.out ?_ bbL.out; all_goals (first | omega | (intro f; rcases f with f | f<;>omega) | (intro b f; rcases f with f | f<;>omega)))
   | (with_reducible refine bC8 cop.out ?_ bbL.out; all_goals (first | omega | (intro f; rcases f with f | f<;>omega) | (intro b f; rcases f with f | f<;>omega)))
   | (with_reducible refine vQ ?_ ?_ kaS.out cop.out ?_ bbL.out; all_goals (first | omega | (intro f; rcases f with f | f<;>omega) | (intro b f; rcases f with f | f<;>omega)))
   | (with_reducible refine vP ?_ ?_ kbS.out cop.out ?_ bbL.out; all_goals (first | omega | (intro f; rcases f with f | f<;>omega) | (intro b f; rcases f with f | f<;>omega)))
   | (with_reducible refine vR ?_ ?_ ?_ ?_ ?_ kaS.out kbS.out cop.out bbL.out; all_goals (first | omega | (intro f; rcases f with f | f<;>omega) | (intro b f; rcases f with f | f<;>omega)))
   | (with_reducible refine vQ ?_ ?_ kaO.out cop.out ?_ bbL.out; all_goals (first | omega | (intro f; rcases f with f | f<;>omega) | (intro b f; rcases f with f | f<;>omega)))
   | (with_reducible refine vP ?_ ?_ kbO.out cop.out ?_ bbL.out; all_goals (first | omega | (intro f; rcases f with f | f<;>omega) | (intro b f; rcases f with f | f<;>omega)))
   | (with_reducible refine vR ?_ ?_ ?_ ?_ ?_ kaO.out kbO.out cop.out bbL.out; all_goals (first | omega | (intro f; rcases f with f | f<;>omega) | (intro b f; rcases f with f | f<;>omega))))
 case rest=>
  obtain⟨ob,yb,g,v2,ms2,P,rfl,rfl,hT,bC,lo,ly,lg⟩:=hcut
  clear S0 S1 S2 s0 s1 s2 m1 m2 m1' m2' hptr hset lx
  have hdbC:=hid (hdb.out.below bC)
  have q0:=hdbC.out.bA.cell 0
  have q1:=hdbC.out.bA.cell 1
  have q2:=hdbC.out.bA.cell 2
  have q3:=hdbC.out.bA.cell 3
  have q4:=hdbC.out.bA.cell 4
  have q5:=hdbC.out.bA.cell 5
  have q6:=hdbC.out.bA.cell 6
  simp at q0 q1 q2 q3 q4 q5 q6
  replace hT:=hid hT
  go_wp2_with fail
  refine(bK1 w2.heap.size P ob yb g n B key v2 x ms2 a ba bn bc cc _ hT.out hx.out (hB.out.below (Below.tr hdb.out.bel bC)) hao.out h64 (fun hk=>by have:=hcc.out; unfold iP at this; rw[if_pos hk] at this; omega) hc.out bC.size).mono ?_
  rintro e w5 ⟨made,e5,rfl,on,hcase⟩
  have bL:Below w2.heap.size _ w5:=on.below (fun k m=>by
   rcases m with m | m | m
   ·omega
   ·omega
   ·exact(hT.out.set.new.mine_ge m).1) bC.size
  have b5:=bC.trans bL
  clear q0 q1 q2 q3 q4 q5 q6 hdbC on bL
  have hdb5:=hid (hdb.out.below b5)
  rcases hcase with⟨he5,hno⟩ | ⟨he5,g', C,L,v3,y,ms3,hYes,hT5⟩
  ·have he5':(e5 == 0)=false:=by simp[he5]
   have q1:=hdb5.out.r8.cell 0
   have q2:=hdb5.out.r8.frozen 0
   have q3:=hdb5.out.r9.cell 0
   have q4:=hdb5.out.r9.frozen 0
   have q5:=hdb5.out.r9.cell 1
   have q6:=hdb5.out.r9.frozen 1
   have q7:=hdb5.out.r9.cell 2
   have q8:=hdb5.out.r9.frozen 2
   simp at q1 q3 q5 q7
   replace hno:=hid hno
   go_wp2_with fail
   refine bodyPost_ret (v:=.tuple #[.agg #[.slice none 0 0],.agg #[.string (ByteArray.mk #[]),.slice none 0 0,.slice none 0 0],.int .i64 e5]) (by rw[aS rfl]; go_simp) rfl ⟨hdb5.out.put (.slice none 0 0) ⟨(ByteArray.mk #[]),none,0,0,none,0,0⟩,.inl ⟨e5,rfl,he5,fun _ _=>hno.out.1,fun _ _=>hno.out.2⟩⟩
  ·subst he5
   obtain⟨i0,hi,hz0,hz1,hz2⟩:=info_parts Tryz.infoInt
   have hbytes:Bytes a.bytes:=hB.out.bytesAt.2.1
   have hmd:=hYes.made hx.out.right
   have hchg:=hid (hYes.chg hx.out hbytes hc.out)
   have hshy:=hid hchg.out.shape
   replace hYes:=hid hYes
   have hmade:Hid (-9223372036854775808<=made/\made<=9223372036854775807):=hid (by omega)
   have hTb:Hid (∀ r∈aG x++[made],r=0\/(1<=r/\r<=n)):=hid (fun r hr=>by
    rcases List.mem_append.1 hr with h | h
    ·exact hx.out.rootBd r h
    ·simp at h; subst h; exact hmd.1)
   have hlnx:Hid ((aG x).length+1<=1000):=hid (by have:=jP hsh.out; omega)
   have hlny:Hid ((aG y).length<=1000):=hid (by have:=jP hshy.out; omega)
   have hmx:Hid ((aG x).length+1<=maxLen):=hid (by have:=hlnx.out; unfold maxLen; omega)
   have hmb:Hid (((aG x).length+1)*8<=140737488355328):=hid (by have:=hlnx.out; omega)
   have h1m:Hid (∀ u∈[Value.int .i64 made],u.oneCell'=true):=hid (by intro u hu; simp at hu; subst hu; rfl)
   have hroom:=hid (hchg.out.room hcc.out)
   have hout:=hid (hchg.out.out hh.out)
   have hsetY:=hid (fun W0 (bb:Below w5.heap.size w5 W0)=>hT5.set.new.at.below bb)
   have hsetX:=hid (fun W0 (bb:Below w5.heap.size w5 W0)=>(hX.out.below hdb5.out.bel).below bb)
   have hnY:=hid hT5.set.new.name
   have y0:=hT5.set.box.cell 0
   have y1:=hT5.set.box.cell 1
   have y2:=hT5.set.box.cell 2
   have x0:=hdb5.out.bX.cell 0
   have x1:=hdb5.out.bX.cell 1
   have x2:=hdb5.out.bX.cell 2
   simp at y0 y1 y2 x0 x1 x2
   have hyl:=hT5.set.box.lt
   have hxl:=hdb5.out.bX.lt
   have hgl:=hT5.own.lt
   have hx2:w.heap.size+1<w2.heap.size:=by have:=hdb.out.sz; omega
   have X0:=hid x0
   have X1:=hid x1
   have X2:=hid x2
   have Y0:=hid y0
   have Y1:=hid y1
   have Y2:=hid y2
   have X02:=hid (hdb.out.bX.cell 0)
   have X12:=hid (hdb.out.bX.cell 1)
   have X22:=hid (hdb.out.bX.cell 2)
   have mx5:=Nat.ne_of_lt hxl
   have my5:=Nat.ne_of_lt hyl
   have mx5':=mx5.symm
   have my5':=my5.symm
   replace hT5:=hid hT5
   replace b5:=hid b5
   clear hmd hbytes
   go_upto_region 8 with fail
   go_cut [] from 39 (fun wc=>bX9 w2 wc n ob yb g' C v3 x y made)
   case first=>
    go_region_held3 (fun w'=>w'.cell? ⟨w.heap.size+1,0,none⟩=some (.string v.name)/\w'.cell? ⟨w.heap.size+1,1,none⟩=some (.slice v.fa v.fn v.fc)/\w'.cell? ⟨w.heap.size+1,2,none⟩=some (.slice v.sa v.sn v.sc)/\w'.cell? ⟨yb,0,none⟩=some (.string y.name)/\w'.cell? ⟨yb,1,none⟩=some (.slice v3.fa v3.fn v3.fc)/\w'.cell? ⟨yb,2,none⟩=some (.slice v3.sa v3.sn v3.sc)) (first | go_keep | assumption) (first | (refine step_append_lies _ rfl (.tmp 42) (.tmp 44) 36 rfl loX 3 i0 (.int .i64 0) 1 8 Tryz.underlying36 hi hz0 hz1 hz2 rfl (by decide) (.slice xa (aG x).length xc) (aG x).length _ rfl (bY RX.out (aA _ _)) ⟨wX.heap.size,0,none⟩ 1 1 [.int .i64 made] rfl rfl (rJ (aB wX #[.int .i64 made] 3)) h1m.out (by decide) hmx.out hmb.out (Nat.le_trans (hlX5.out) (aA _ _).size) _ rfl ?_; intro gA capA wA hrA hgr hatA hlA; have bTmp:=sG (bAl bbX.out _) (bY RX.out (aA _ _)) hX5 hgr; have bbA:=hid bTmp; clear bTmp; have LA:=hid (vL (g:=g') hrA hwx.out hmade.out (Nat.lt_of_lt_of_le hgl hX5)); (try (have kTmp:=vV (bY RX.out (aA _ _)) hhX.out hgr (NYX.out.below (aA _ _)) (.inl hXY); have NYA:=hid kTmp; clear kTmp)); have hszA:=bbA.out.size; have mxA:w.heap.size+1≠wA.heap.size:=(by omega); have mxA':=mxA.symm; have myA:yb≠wA.heap.size:=(by omega); have myA':=myA.symm; have x0A:=(bbA.out.cell (p:=⟨w.heap.size+1,0,none⟩) hxl).trans X0.out; have y0A:=(bbA.out.cell (p:=⟨yb,0,none⟩) hyl).trans Y0.out; have x1A:=(bbA.out.cell (p:=⟨w.heap.size+1,1,none⟩) hxl).trans X1.out; have y1A:=(bbA.out.cell (p:=⟨yb,1,none⟩) hyl).trans Y1.out; have x2A:=(bbA.out.cell (p:=⟨w.heap.size+1,2,none⟩) hxl).trans X2.out; have y2A:=(bbA.out.cell (p:=⟨yb,2,none⟩) hyl).trans Y2.out; (try clear x0 x1 x2 y0 y1 y2); (try clear x0X x1X x2X y0X y1X y2X); (try clear x0Y x1Y x2Y y0Y y1Y y2Y); clear hrA hgr hatA hlA) | (refine step_append_lies _ rfl (.tmp 42) (.tmp 44) 36 rfl loX 3 i0 (.int .i64 0) 1 8 Tryz.underlying36 hi hz0 hz1 hz2 rfl (by decide) (.slice xa (aG x).length xc) (aG x).length _ rfl RX.out _ 1 1 [.int .i64 made] rfl rfl (rJ kaX.out) h1m.out (by decide) hmx.out hmb.out hlX5.out _ rfl ?_; intro gA capA wA hrA hgr hatA hlA; have bTmp:=sG bbX.out RX.out hX5 hgr; have bbA:=hid bTmp; clear bTmp; have LA:=hid (vL (g:=g') hrA hwx.out hmade.out (Nat.lt_of_lt_of_le hgl hX5)); (try (have kTmp:=vV RX.out hhX.out hgr NYX.out (.inl hXY); have NYA:=hid kTmp; clear kTmp)); have hszA:=bbA.out.size; have mxA:w.heap.size+1≠wA.heap.size:=(by omega); have mxA':=mxA.symm; have myA:yb≠wA.heap.size:=(by omega); have myA':=myA.symm; have x0A:=(bbA.out.cell (p:=⟨w.heap.size+1,0,none⟩) hxl).trans X0.out; have y0A:=(bbA.out.cell (p:=⟨yb,0,none⟩) hyl).trans Y0.out; have x1A:=(bbA.out.cell (p:=⟨w.heap.size+1,1,none⟩) hxl).trans X1.out; have y1A:=(bbA.out.cell (p:=⟨yb,1,none⟩) hyl).trans Y1.out; have x2A:=(bbA.out.cell (p:=⟨w.heap.size+1,2,none⟩) hxl).trans X2.out; have y2A:=(bbA.out.cell (p:=⟨yb,2,none⟩) hyl).trans Y2.out; (try clear x0 x1 x2 y0 y1 y2); (try clear x0X x1X x2X y0X y1X y2X); (try clear x0Y x1Y x2Y y0Y y1Y y2Y); clear hrA hgr hatA hlA) | (refine step_append_lies _ rfl (.tmp 42) (.tmp 44) 36 rfl loX 3 i0 (.int .i64 0) 1 8 Tryz.underlying36 hi hz0 hz1 hz2 rfl (by decide) (.slice xa (aG x).length xc) (aG x).length _ rfl (bY RXY.out (aA _ _)) ⟨wY.heap.size,0,none⟩ 1 1 [.int .i64 made] rfl rfl (rJ (aB wY #[.int .i64 made] 3)) h1m.out (by decide) hmx.out hmb.out (Nat.le_trans (hlX6.out) (aA _ _).size) _ rfl ?_; intro gA capA wA hrA hgr hatA hlA; have bTmp:=sG (bAl bbY.out _) (bY RXY.out (aA _ _)) hX5 hgr; have bbA:=hid bTmp; clear bTmp; have LA:=hid (vL (g:=g') hrA hwx.out hmade.out (Nat.lt_of_lt_of_le hgl hX5)); (try (have kTmp:=vV (bY RXY.out (aA _ _)) hhX.out hgr (NY.out.below (aA _ _)) (.inr hYX); have NYA:=hid kTmp; clear kTmp)); have hszA:=bbA.out.size; have mxA:w.heap.size+1≠wA.heap.size:=(by omega); have mxA':=mxA.symm; have myA:yb≠wA.heap.size:=(by omega); have myA':=myA.symm; have x0A:=(bbA.out.cell (p:=⟨w.heap.size+1,0,none⟩) hxl).trans X0.out; have y0A:=(bbA.out.cell (p:=⟨yb,0,none⟩) hyl).trans Y0.out; have x1A:=(bbA.out.cell (p:=⟨w.heap.size+1,1,none⟩) hxl).trans X1.out; have y1A:=(bbA.out.cell (p:=⟨yb,1,none⟩) hyl).trans Y1.out; have x2A:=(bbA.out.cell (p:=⟨w.heap.size+1,2,none⟩) hxl).trans X2.out; have y2A:=(bbA.out.cell (p:=⟨yb,2,none⟩) hyl).trans Y2.out; (try clear x0 x1 x2 y0 y1 y2); (try clear x0X x1X x2X y0X y1X y2X); (try clear x0Y x1Y x2Y y0Y y1Y y2Y); clear hrA hgr hatA hlA) | (refine step_append_lies _ rfl (.tmp 42) (.tmp 44) 36 rfl loX 3 i0 (.int .i64 0) 1 8 Tryz.underlying36 hi hz0 hz1 hz2 rfl (by decide) (.slice xa (aG x).length xc) (aG x).length _ rfl RXY.out _ 1 1 [.int .i64 made] rfl rfl (rJ kaY.out) h1m.out (by decide) hmx.out hmb.out hlX6.out _ rfl ?_; intro gA capA wA hrA hgr hatA hlA; have bTmp:=sG bbY.out RXY.out hX5 hgr; have bbA:=hid bTmp; clear bTmp; have LA:=hid (vL (g:=g') hrA hwx.out hmade.out (Nat.lt_of_lt_of_le hgl hX5)); (try (have kTmp:=vV RXY.out hhX.out hgr NY.out (.inr hYX); have NYA:=hid kTmp; clear kTmp)); have hszA:=bbA.out.size; have mxA:w.heap.size+1≠wA.heap.size:=(by omega); have mxA':=mxA.symm; have myA:yb≠wA.heap.size:=(by omega); have myA':=myA.symm; have x0A:=(bbA.out.cell (p:=⟨w.heap.size+1,0,none⟩) hxl).trans X0.out; have y0A:=(bbA.out.cell (p:=⟨yb,0,none⟩) hyl).trans Y0.out; have x1A:=(bbA.out.cell (p:=⟨w.heap.size+1,1,none⟩) hxl).trans X1.out; have y1A:=(bbA.out.cell (p:=⟨yb,1,none⟩) hyl).trans Y1.out; have x2A:=(bbA.out.cell (p:=⟨w.heap.size+1,2,none⟩) hxl).trans X2.out; have y2A:=(bbA.out.cell (p:=⟨yb,2,none⟩) hyl).trans Y2.out; (try clear x0 x1 x2 y0 y1 y2); (try clear x0X x1X x2X y0X y1X y2X); (try clear x0Y x1Y x2Y y0Y y1Y y2Y); clear hrA hgr hatA hlA) | (go_at_call 84; with_reducible refine Calls.mono (vJ (fun b=>w2.heap.size<=b\/L b) v3 y y.name _ ?_ hshy.out hnY.out) ?_; (focus (refine hsetY.out _ ?_; (repeat (first | with_reducible exact Below.refl _ _ | with_reducible exact bbY.out | with_reducible exact bbX.out | with_reducible exact bbA.out | with_reducible refine bDr ?_ | with_reducible refine bAl ?_ _)); done)); rintro e wY ⟨⟨ya,yc,loY,rfl,hlY,hrY,hwY,hYle⟩,bNew⟩; have NY:=hid (aF3 hrY hwY); refine dB (dS (a:=w5) ?_ hlY) ?_; (focus ((repeat (first | with_reducible exact Below.refl _ _ | with_reducible exact bbY.out | with_reducible exact bbX.out | with_reducible exact bbA.out | with_reducible refine bDr ?_ | with_reducible refine bAl ?_ _)); done)); intro hY5; (try (refine dB (dS (a:=wX) ?_ hlY) ?_; (focus ((repeat (first | with_reducible exact Below.refl _ _ | with_reducible refine bDr ?_ | with_reducible refine bAl ?_ _)); done)); intro hYX)); (try (refine dB (dS (a:=wA) ?_ hlY) ?_; (focus ((repeat (first | with_reducible exact Below.refl _ _ | with_reducible refine bDr ?_ | with_reducible refine bAl ?_ _)); done)); intro hYA)); refine dB (A:=Below w5.heap.size w5 wY) ?_ ?_; (focus (refine Below.tr ?_ bNew; (repeat (first | with_reducible exact Below.refl _ _ | with_reducible exact bbY.out | with_reducible exact bbX.out | with_reducible exact bbA.out | with_reducible refine bDr ?_ | with_reducible refine bAl ?_ _)); done)); intro bTmp; have bbY:=hid bTmp; clear bTmp; (first | (refine dB (aC.below kaX.out (Below.tr ?_ bNew)) ?_; (focus ((repeat (first | with_reducible exact Below.refl _ _ | with_reducible refine bDr ?_ | with_reducible refine bAl ?_ _)); done)); intro kTmp; have kaY:=hid kTmp; clear kTmp) | (refine dB (aC.below (aB wX #[.int .i64 made] 3) (Below.tr ?_ bNew)) ?_; (focus ((repeat (first | with_reducible exact Below.refl _ _ | with_reducible refine bDr ?_ | with_reducible refine bAl ?_ _)); done)); intro kTmp; have kaY:=hid kTmp; clear kTmp) | (refine dB (aC.below (aB w5 #[.int .i64 made] 3) (Below.tr ?_ bNew)) ?_; (focus ((repeat (first | with_reducible exact Below.refl _ _ | with_reducible refine bDr ?_ | with_reducible refine bAl ?_ _)); done)); intro kTmp; have kaY:=hid kTmp; clear kTmp) | skip); (try (refine dB (bY RX.out (Below.tr ?_ bNew)) ?_; (focus ((repeat (first | with_reducible exact Below.refl _ _ | with_reducible refine bDr ?_ | with_reducible refine bAl ?_ _)); done)); intro kTmp; have RXY:=hid kTmp; clear kTmp)); (try (refine dB (aI.below LA.out (Below.tr ?_ bNew)) ?_; (focus ((repeat (first | with_reducible exact Below.refl _ _ | with_reducible refine bDr ?_ | with_reducible refine bAl ?_ _)); done)); intro kTmp; have LAY:=hid kTmp; clear kTmp)); have hszY:=bbY.out.size; have mxY:w.heap.size+1≠wY.heap.size:=(by omega); have mxY':=mxY.symm; have myY:yb≠wY.heap.size:=(by omega); have myY':=myY.symm; have x0Y:=(bbY.out.cell (p:=⟨w.heap.size+1,0,none⟩) hxl).trans X0.out; have y0Y:=(bbY.out.cell (p:=⟨yb,0,none⟩) hyl).trans Y0.out; have x1Y:=(bbY.out.cell (p:=⟨w.heap.size+1,1,none⟩) hxl).trans X1.out; have y1Y:=(bbY.out.cell (p:=⟨yb,1,none⟩) hyl).trans Y1.out; have x2Y:=(bbY.out.cell (p:=⟨w.heap.size+1,2,none⟩) hxl).trans X2.out; have y2Y:=(bbY.out.cell (p:=⟨yb,2,none⟩) hyl).trans Y2.out; (try clear x0 x1 x2 y0 y1 y2); (try clear x0X x1X x2X y0X y1X y2X); (try clear x0A x1A x2A y0A y1A y2A); (try (have hlX6:Hid (loX<=wY.heap.size):=hid (Nat.le_trans hlX5.out (Nat.le_trans hYX hYle)))); clear bNew hrY hwY hlY hYle) | (go_at_call 84; with_reducible refine Calls.mono (vJ Q v x v.name _ ?_ hsh.out rfl) ?_; (focus (refine hsetX.out _ ?_; (repeat (first | with_reducible exact Below.refl _ _ | with_reducible exact bbY.out | with_reducible exact bbX.out | with_reducible exact bbA.out | with_reducible refine bDr ?_ | with_reducible refine bAl ?_ _)); done)); rintro e wX ⟨⟨xa,xc,loX,rfl,hlX,hrX,hwX,hXle⟩,bNew⟩; have RX:=hid hrX; have hlX5:Hid (loX<=wX.heap.size):=hid hXle; have hhX:Hid (∀ b,(Value.slice xa (aG x).length xc).ownBlock=some b->b<wX.heap.size):=hid (fun b h=>(hrX.lt b h).2); have hwx:=hid hwX; refine dB (dS (a:=w5) ?_ hlX) ?_; (focus ((repeat (first | with_reducible exact Below.refl _ _ | with_reducible exact bbY.out | with_reducible exact bbX.out | with_reducible exact bbA.out | with_reducible refine bDr ?_ | with_reducible refine bAl ?_ _)); done)); intro hX5; (try (refine dB (dS (a:=wY) ?_ hlX) ?_; (focus ((repeat (first | with_reducible exact Below.refl _ _ | with_reducible refine bDr ?_ | with_reducible refine bAl ?_ _)); done)); intro hXY)); refine dB (A:=Below w5.heap.size w5 wX) ?_ ?_; (focus (refine Below.tr ?_ bNew; (repeat (first | with_reducible exact Below.refl _ _ | with_reducible exact bbY.out | with_reducible exact bbX.out | with_reducible exact bbA.out | with_reducible refine bDr ?_ | with_reducible refine bAl ?_ _)); done)); intro bTmp; have bbX:=hid bTmp; clear bTmp; (first | (refine dB (aC.below kaY.out (Below.tr ?_ bNew)) ?_; (focus ((repeat (first | with_reducible exact Below.refl _ _ | with_reducible refine bDr ?_ | with_reducible refine bAl ?_ _)); done)); intro kTmp; have kaX:=hid kTmp; clear kTmp) | (refine dB (aC.below (aB wY #[.int .i64 made] 3) (Below.tr ?_ bNew)) ?_; (focus ((repeat (first | with_reducible exact Below.refl _ _ | with_reducible refine bDr ?_ | with_reducible refine bAl ?_ _)); done)); intro kTmp; have kaX:=hid kTmp; clear kTmp) | (refine dB (aC.below (aB w5 #[.int .i64 made] 3) (Below.tr ?_ bNew)) ?_; (focus ((repeat (first | with_reducible exact Below.refl _ _ | with_reducible refine bDr ?_ | with_reducible refine bAl ?_ _)); done)); intro kTmp; have kaX:=hid kTmp; clear kTmp) | skip); (try (refine dB (aI.below NY.out (Below.tr ?_ bNew)) ?_; (focus ((repeat (first | with_reducible exact Below.refl _ _ | with_reducible refine bDr ?_ | with_reducible refine bAl ?_ _)); done)); intro kTmp; have NYX:=hid kTmp; clear kTmp)); have hszX:=bbX.out.size; have mxX:w.heap.size+1≠wX.heap.size:=(by omega); have mxX':=mxX.symm; have myX:yb≠wX.heap.size:=(by omega); have myX':=myX.symm; have x0X:=(bbX.out.cell (p:=⟨w.heap.size+1,0,none⟩) hxl).trans X0.out; have y0X:=(bbX.out.cell (p:=⟨yb,0,none⟩) hyl).trans Y0.out; have x1X:=(bbX.out.cell (p:=⟨w.heap.size+1,1,none⟩) hxl).trans X1.out; have y1X:=(bbX.out.cell (p:=⟨yb,1,none⟩) hyl).trans Y1.out; have x2X:=(bbX.out.cell (p:=⟨w.heap.size+1,2,none⟩) hxl).trans X2.out; have y2X:=(bbX.out.cell (p:=⟨yb,2,none⟩) hyl).trans Y2.out; (try clear x0 x1 x2 y0 y1 y2); (try clear x0Y x1Y x2Y y0Y y1Y y2Y); clear bNew hrX hwX hlX hXle) | (first | (go_at_call 95; refine Calls.mono (qX ⟨ob,0,none⟩ g' n C ya (aG y).length yc (aG y) _ ((aG x).length+1) _ (aG x++[made]) wA (hT5.out.ptr.below bbA.out) (aI.weaken NYA.out (fun b _ h=>Nat.ne_of_gt (Nat.lt_of_lt_of_le hgl (Nat.le_trans hY5 h.1)))) LA.out hlnx.out hlny.out hchg.out.grow.right hchg.out.there hroom.out hout.out hTb.out) ?_; rintro e w8 ⟨rfl,hOut,D,hOP,hRD,hFD⟩; have hE:=hid (cP6 b5.out hT5.out bbA.out hOut hOP hRD hFD); clear hOut hOP hRD hFD; have bb8:=hE.out.keep; have x08:=(bb8.cell (p:=⟨w.heap.size+1,0,none⟩) hx2).trans X02.out; have y08:=hE.out.y0;have x18:=(bb8.cell (p:=⟨w.heap.size+1,1,none⟩) hx2).trans X12.out; have y18:=hE.out.y1;have x28:=(bb8.cell (p:=⟨w.heap.size+1,2,none⟩) hx2).trans X22.out; have y28:=hE.out.y2; clear bb8) | (go_at_call 95; refine Calls.mono (qX ⟨ob,0,none⟩ g' n C ya (aG y).length yc (aG y) _ ((aG x).length+1) _ (aG x++[made]) wY (hT5.out.ptr.below bbY.out) (aI.weaken NY.out (fun b _ h=>Nat.ne_of_gt (Nat.lt_of_lt_of_le hgl (Nat.le_trans hY5 h.1)))) LAY.out hlnx.out hlny.out hchg.out.grow.right hchg.out.there hroom.out hout.out hTb.out) ?_; rintro e w8 ⟨rfl,hOut,D,hOP,hRD,hFD⟩; have hE:=hid (cP6 b5.out hT5.out bbY.out hOut hOP hRD hFD); clear hOut hOP hRD hFD; have bb8:=hE.out.keep; have x08:=(bb8.cell (p:=⟨w.heap.size+1,0,none⟩) hx2).trans X02.out; have y08:=hE.out.y0;have x18:=(bb8.cell (p:=⟨w.heap.size+1,1,none⟩) hx2).trans X12.out; have y18:=hE.out.y1;have x28:=(bb8.cell (p:=⟨w.heap.size+1,2,none⟩) hx2).trans X22.out; have y28:=hE.out.y2; clear bb8)))
    all_goals (go_wp2_with fail; go_meet; exact hE.out)
   case rest=>
    obtain⟨D,L9,ms9,hRD,hFD,hOD,ho9,hyb,hSN,hL9,b9,hol⟩:=hcut
    clear X0 X1 X2 Y0 Y1 Y2 X02 X12 X22 mx5 my5 mx5' my5' hsetY hsetX hTb hlnx hlny hmx hmb h1m hroom hout x0 x1 x2 y0 y1 y2 hyl hxl hx2
    have hdb9:=hid (hdb.out.below b9)
    have g8:w2.heap.size<=g':=hT5.out.ng.2.2.2
    have z0:=hyb.cell 0
    have z1:=hyb.cell 1
    have z2:=hyb.cell 2
    simp at z0 z1 z2
    have q1:=hdb9.out.r8.cell 0
    have q2:=hdb9.out.r8.frozen 0
    have q3:=hdb9.out.r9.cell 0
    have q4:=hdb9.out.r9.frozen 0
    have q5:=hdb9.out.r9.cell 1
    have q6:=hdb9.out.r9.frozen 1
    have q7:=hdb9.out.r9.cell 2
    have q8:=hdb9.out.r9.frozen 2
    simp at q1 q3 q5 q7
    have hsz2:=hdb.out.sz
    have n1:ob≠w.heap.size+1+1+1:=by omega
    have n2:ob≠w.heap.size+1+1+1+1:=by omega
    have n3:yb≠w.heap.size+1+1+1:=by omega
    have n4:yb≠w.heap.size+1+1+1+1:=by omega
    have n1':=n1.symm
    have n2':=n2.symm
    have n3':=n3.symm
    have n4':=n4.symm
    have J:=hid (cK8 hdb9.out hsz2 g8 hx.out hh.out hYes.out hRD hFD hOD hSN hL9)
    clear hRD hFD hOD hyb hSN hL9
    go_upto_region 9 with fail
    go_region_held3 (fun w'=>w'.cell? ⟨ob,0,none⟩=some (.slice (some ⟨g', 0,none⟩) n n)/\w'.cell? ⟨yb,0,none⟩=some (.string y.name)/\w'.cell? ⟨yb,1,none⟩=some (.slice v3.fa v3.fn v3.fc)/\w'.cell? ⟨yb,2,none⟩=some (.slice v3.sa v3.sn v3.sc)) (first | go_keep | assumption) (first | fail)
    all_goals (
     go_wp2_with fail
     refine bodyPost_ret (v:=.tuple #[.agg #[.slice (some ⟨g', 0,none⟩) n n],.agg #[.string y.name,.slice v3.fa v3.fn v3.fc,.slice v3.sa v3.sn v3.sc],.int .i64 0]) (by rw[aS rfl]; go_simp) rfl ?_
     first
      | exact J.out
      | exact J.out.drew)
end Go.Proofs.YtjafgnohlkkopaaGreatDoor
