import Derived.Test.YtjafgnohlkkopaaGreatDoorPart13
import Derived.Lib.Bytes
import Derived.Test.YtjafgnohlkkopaaGreatDoorPart10
set_option linter.unusedVariables false
set_option maxHeartbeats 8000000
set_option maxRecDepth 100000
namespace Go.Proofs.YtjafgnohlkkopaaGreatDoor
open Go.RowKit
theorem cO2 {l k:List Int}(hl:Bytes l)(hk:Bytes k)(h:l≠k):((strOfNums l).toList == (strOfNums k).toList)=false:=by
 rw[Lib.strOfNums_toList,Lib.strOfNums_toList]
 simp only[beq_eq_false_iff_ne,ne_eq]
 intro e
 apply h
 have hlen:l.length=k.length:=by have:=congrArg List.length e; rwa [Lib.bytesOf_length,Lib.bytesOf_length] at this
 apply List.ext_getElem hlen
 intro i h1 h2
 have e1:(Lib.bytesOf l)[i]? =(Lib.bytesOf k)[i]? :=by rw[e]
 have b1:=hl l[i] (List.getElem_mem h1)
 have b2:=hk k[i] (List.getElem_mem h2)
 simp[Lib.bytesOf,h1,h2] at e1
 have e2:=congrArg UInt8.toNat e1
 simp at e2
 omega
theorem sF (a1 a2:Option Addr)(n c m d:Nat)(Q1 Q2:Nat->Prop)(l k:List Int)(w:World)(hne:l≠k)(h1:aI Q1 .u8 w a1 n l)(h2:aI Q2 .u8 w a2 m k):
 Calls Tryz.prog 22 #[.slice a1 n c,.slice a2 m d] w fun e w'=>e=.returned (.bool false)/\w'=w:=by
 have g1:=iK w c h1
 have g2:=iK w d h2
 have hs:=cO2 h1.bytes h2.bytes hne
 clear h1 h2 hne
 go_enter Tryz.func22,Tryz.ntmps22
 go_wp2
 go_ret
 exact⟨rfl,rfl⟩
theorem aS {fn:Func}{p q u:Tmp}{ty tz:TypeId}(h:fn.results=#[.cell p ty,.cell q tz,.tmp u])(tmps:Array Value)(P:Program)(w:World):
 (results fn tmps).run P w=
   ((asAddr (tmps.getD p undef)).run P w).andThen fun a w₁=>((loadVar ty a).run P w₁).andThen fun x w₂=>((asAddr (tmps.getD q undef)).run P w₂).andThen fun b w₃=>((loadVar tz b).run P w₃).andThen fun y w₄=>.ok (.tuple #[x,y,tmps.getD u undef]) w₄:=by
 simp only[results,h]
 simp[Sem.run_bind,Result.andThen]
structure TU (W wr:World)(q h n:Nat)(C:Nat->Blk)(V:List Int)(g:Nat):Prop where
 bel:Below W.heap.size W wr
 own:aC wr q #[.slice (some ⟨g,0,none⟩) n n] 24
 st:Own wr g n C
 row:aC wr h (V.map (Value.int .u8)).toArray 5
 r10:aC wr (W.heap.size+1) #[.slice none 0 0] 24
 r11:aC wr (W.heap.size+1+1) #[.int .i64 0,.int .i64 0] 104
 gb:W.heap.size+3<=g
 qb:W.heap.size+3<=q/\W.heap.size+3<=h/\h≠q
theorem TU.below {W wr w':World}{q h n:Nat}{C:Nat->Blk}{V:List Int}{g:Nat}(t:TU W wr q h n C V g)(b:Below wr.heap.size wr w'):TU W w' q h n C V g:=
 ⟨Below.tr t.bel b,t.own.below b,t.st.below b,t.row.below b,t.r10.below b,t.r11.below b,t.gb,t.qb⟩
theorem TU.turn {W wr w':World}{q h n:Nat}{C E:Nat->Blk}{V:List Int}{g g':Nat}(t:TU W wr q h n C V g)(b:Below wr.heap.size wr w')(hg:wr.heap.size<=g')(hE:Own w' g' n E):TU W (w'.setCell ⟨q,0,none⟩ (.slice (some ⟨g', 0,none⟩) n n)) q h n E V g':=by
 have t':=t.below b
 have hq:=t.own.lt
 have hqb:=t.qb
 have kk:=Kept.setCell (g:=q) (Kept.refl _ w') (p:=⟨q,0,none⟩) rfl (.slice (some ⟨g', 0,none⟩) n n)
 refine⟨t'.bel.setCell (show W.heap.size<=q by omega) _,by simpa using t'.own.set 0 _,hE.kept (by omega) kk,t'.row.past (a:=⟨q,0,none⟩) (by show h≠q; omega) _,t'.r10.past (a:=⟨q,0,none⟩) (by show W.heap.size+1≠q; omega) _,t'.r11.past (a:=⟨q,0,none⟩) (by show W.heap.size+1+1≠q; omega) _,by have:=t.bel.size; have:=t.gb; have:=t.st.lt; omega,t.qb⟩
def cU4 (base:Nat)(e:Ending)(w:World)(n:Nat)(B:Nat->Blk)(key root:Int)(O N:List Int)(cc:Int):Prop:=
 ∃ (x:Option Addr) (ln lc:Nat) (ra rs e':Int),e=.returned (.tuple #[.agg #[.slice x ln lc],.agg #[.int .i64 ra,.int .i64 rs],.int .i64 e'])/\
  ((x=none/\ln=0/\lc=0/\ra=0/\rs=0/\e'=8/\sH n B (chg O (bU N) 64))\/
   (e'=0/\∃ (g:Nat) (C:Nat->Blk),x=some ⟨g,0,none⟩/\ln=n/\lc=n/\rs=(N.length:Int)/\base<=g/\Own w g n C/\eT n B C key root O (bU N) 64 ra cc))
theorem bE0 {O V:List Int}{j:Nat}(hj:j<64)(e:chunk O j≠chunk V j):chg O V j+1<=chg O V 64:=by
 have h1:=cE7 O V (show j+1<=64 by omega)
 have h2:chg O V (j+1)=chg O V j+1:=by simp[chg,e]
 omega
theorem aY9 (a:Option Addr)(n c:Nat)(B:Nat->Blk)(key root:Int)(ob oo:Nat)(O:List Int)(na:Option Addr)(nn nc:Nat)(N:List Int)(cc:Int)(w:World)(h:aN w a n B)(hR:Right n B)(hr:Root n B 3 root)(hk:0<=key/\key<=1000)
 (hO:aI (fun _=>True) .u8 w (some ⟨ob,oo,none⟩) 256 O) (hN:aI (fun _=>True) .u8 w na nn N) (hnn:nn<=256) (h1:64<=cc) (hcm:cc<=999936) (hc:∀ k,k<n->(B k).refs<=cc):
 Calls Tryz.prog 167 #[.agg #[.slice a n c],.int .i64 key,.int .i64 root,.slice (some ⟨ob,oo,none⟩) 256 256,.slice na nn nc] w fun e w'=>cU4 w.heap.size e w' n B key root O N cc/\Below w.heap.size w w':=by
 obtain⟨i0,hi0,hz0,hz1,hz2⟩:=info_parts Tryz.infoByte
 have b0:Below w.heap.size w _:=(aW w (.cells #[.slice a n c] 24) (.cells #[.slice none 0 0] 24)).alloc (by simp; omega) (.cells #[.int .i64 0,.int .i64 0] 104)
 have ks:kU _ ⟨w.heap.size,0,none⟩ a n c B:=((lV a n c B w 24 h).below (aA _ (.cells #[.slice none 0 0] 24))).below (aA _ (.cells #[.int .i64 0,.int .i64 0] 104))
 have k10:aC _ (w.heap.size+1) #[.slice none 0 0] 24:=(aF w (.cells #[.slice a n c] 24) _ _).below (aA _ (.cells #[.int .i64 0,.int .i64 0] 104))
 have k11:aC _ (w.heap.size+1+1) _ _:=eY w (.cells #[.slice a n c] 24) (.cells #[.slice none 0 0] 24) #[.int .i64 0,.int .i64 0] 104
 have hsz:w.heap.size+3=(((w.alloc (.cells #[.slice a n c] 24)).alloc (.cells #[.slice none 0 0] 24)).alloc (.cells #[.int .i64 0,.int .i64 0] 104)).heap.size:=by simp
 have hn:=hR.small
 have hF:Hid (∀ i,i<n->(B i).kids.length<=4/\(B i).bytes.length<=4):=hid fun i hi=>⟨(hR.one i hi).few,(hR.one i hi).few2⟩
 have hrd:root=0\/∃ m:Nat,root=(m:Int)+1:=by
  rcases hr with h0 | ⟨⟨h1,_,_⟩,_⟩
  ·exact .inl h0
  ·exact .inr ⟨(root-1).toNat,by omega⟩
 have hnl:=hN.1
 have hNb:=hN.bytes
 have hsplice:=hid (bF2 (N:=N) (by omega))
 have hpl:=hid (nT (N:=N) (by omega))
 have hVb:=hid (xB hNb)
 have hone:=hid (aF0 N)
 have hNm:Hid ((N.map (Value.int .u8)).length=nn):=hid (by rw[List.length_map,hnl])
 have hzl:Hid (((zeros 256).map (Value.int .u8)).length=256):=hid (by rw[List.length_map,zeros_length])
 have hsrc:Hid (∀ w', Below w.heap.size w w'->0<nn->∃ ad,na=some ad/\∀ j v,(N.map (Value.int .u8))[j]? =some v->w'.cell? (ad.add j)=some v):=hid fun w' hw hp=>by
  have:=hN.below hw
  obtain⟨q,off,rfl,_⟩:=this.2.2 hp
  exact⟨_,rfl,aE0 this hp⟩
 replace hk:=hid hk
 replace hnl:=hid hnl
 replace hO:=hid hO
 replace hc:=hid hc
 replace hR:=hid hR
 replace hr:=hid hr
 replace hrd:=hid hrd
 replace b0:=hid b0
 replace ks:=hid ks
 replace k10:=hid k10
 replace k11:=hid k11
 replace hsz:=hid hsz
 clear hN hNb h
 go_enter Tryz.func167,Tryz.ntmps167
 go_wp2_with fail
 generalize (((w.alloc (.cells #[.slice a n c] 24)).alloc (.cells #[.slice none 0 0] 24)).alloc (.cells #[.int .i64 0,.int .i64 0] 104))=w0 at *
 refine(pE ⟨w.heap.size,0,none⟩ a n c B w0 ks.out hn hF.out).mono ?_
 rintro e w2 ⟨b2,g,rfl,hg,hOwn⟩
 have hgl:=hOwn.lt
 have hsz0:=hsz.out
 have bA:=aA w2 (.cells #[.slice (some ⟨g,0,none⟩) n n] 24)
 have kq:=aB w2 #[.slice (some ⟨g,0,none⟩) n n] 24
 have b03:=Below.tr b0.out (Below.tr b2 bA)
 have k10':=k10.out.below (Below.tr b2 bA)
 have k11':=k11.out.below (Below.tr b2 bA)
 have hP:dF (w2.alloc (.cells #[.slice (some ⟨g,0,none⟩) n n] 24)) ⟨w2.heap.size,0,none⟩ g n B:=⟨kq.lt,by show w2.heap.size≠g; omega,by simp,hOwn.below bA⟩
 have hs2:=b2.size
 replace kq:=hid kq
 replace b03:=hid b03
 replace k10':=hid k10'
 replace k11':=hid k11'
 replace hP:=hid hP
 clear hOwn bA b2 b0 ks k10 k11 hsz hF
 rcases hrd.out with h0 | ⟨m,h0⟩
 ·subst h0
  have hT0:Hid (eT n B B key 0 O (bU N) 0 0 cc):=hid (aR7 hR.out hc.out)
  have hst:=hid hP.out.own
  obtain⟨C0,hC0⟩:∃ C0,C0=B:=⟨_,rfl⟩
  replace hT0:Hid (eT n B C0 key 0 O (bU N) 0 0 cc):=hid (hC0▸hT0.out)
  replace hst:Hid (Own (w2.alloc (.cells #[.slice (some ⟨g,0,none⟩) n n] 24)) g n C0):=hid (hC0▸hst.out)
  clear hC0 hP
  go_upto_region 6 with fail
  generalize w2.alloc (.cells #[.slice (some ⟨g,0,none⟩) n n] 24)=w4 at *
  have hw4:w.heap.size<=w4.heap.size:=b03.out.size
  have hq4:=kq.out.lt
  go_wp2_with (at_make; refine wpList_make_full _ rfl (.const (.int .i64 256)) (.const (.int .i64 256)) 28 rfl w4.heap.size 5 i0 (.int .u8 0) 1 Tryz.underlying28 hi0 hz0 hz1 .i64 .i64 256 256 256 rfl rfl rfl rfl (by rw[hz2]; omega) (by unfold maxLen; omega) (Nat.le_refl _) ?_; intro w5 hown hgr; have hc5:=rR hown; have b5:Below w4.heap.size w4 w5:=⟨hgr.os,hgr.tape,hgr.output,hgr.size,fun k hk=>hgr.block k hk (by simp)⟩; clear hown hgr; obtain⟨w6,hr6,hc6,b6⟩:=rW (off:=0) (dLen:=256) (dCap:=256) (sLen:=nn) (sCap:=nc) (m:=nn) _ _ hc5 hNm.out (show nn=min nn 256 by omega) (hsrc.out w5 (Below.tr b03.out b5)) (by rw[hzl.out]; omega) hone.out b5 (Nat.le_refl _); rw[hsplice.out] at hc6; have hTU:Hid (TU w w6 w2.heap.size w4.heap.size n C0 (bU N) g):=hid ⟨Below.tr b03.out b6,kq.out.below b6,hst.out.below b6,hc6,k10'.out.below b6,k11'.out.below b6,by omega,by omega,by omega,by omega⟩; clear hc5 b5 hc6 b6)
  clear hr6 kq k10' k11' hst b03 hw4
  go_loopw [2,34] (fun u v wr=>∃ (j:Nat) (a':Int) (C:Nat->Blk) (g':Nat),j<=64/\v=.int .i64 j/\u=.int .i64 a'/\TU w wr w2.heap.size w4.heap.size n C (bU N) g'/\eT n B C key 0 O (bU N) j a' cc) (fun _ v _=>64-(Go.RowKit.intOf v).toNat)
  case atStart=>exact⟨0,0,C0,g,Nat.zero_le _,rfl,rfl,hTU.out,hT0.out⟩
  case round=>
   clear hTU hT0
   obtain⟨j,a', C,g', hj64,rfl,rfl,hE,hT⟩:=hrel
   by_cases hlt:j<64
   ·have hrow:=fI (Q:=fun _=>True) trivial hVb.out hE.row
    rw[hpl.out] at hrow
    have hwc:Hid (∀ off ln:Nat,off=4*j->ln=4->aI (fun _=>True) .u8 wr (some ⟨w4.heap.size,off,none⟩) ln (chunk (bU N) j)):=hid fun off ln e1 e2=>by
     subst e1; subst e2
     have:=hrow.piece (lo:=4*j) (m:=4) (by omega)
     rwa [Nat.zero_add] at this
    have hoc:Hid (∀ off ln:Nat,off=oo+4*j->ln=4->aI (fun _=>True) .u8 wr (some ⟨ob,off,none⟩) ln (chunk O j)):=hid fun off ln e1 e2=>by
     subst e1; subst e2
     exact(hO.out.below hE.bel).piece (lo:=4*j) (m:=4) (by omega)
    replace hE:=hid hE
    replace hT:=hid hT
    clear hrow
    by_cases heq:chunk O j=chunk (bU N) j
    ·have hE':Hid (∀ nq,TU w (wr.drewN nq) w2.heap.size w4.heap.size n C (bU N) g'):=hid fun nq=>hE.out.below (below_drewN _ _ _)
     have hT':=hid (hT.out.same hlt heq)
     go_wp2_with fail
     go_quiet (first | (go_at_call 22; refine Calls.quiet_of_same (kN _ _ _ _ _ _ (fun _=>True) (fun _=>True) (chunk (bU N) j) _ ?_ ?_); exact heq▸(hoc.out _ _ (by omega) (by omega)).below (below_drewN _ _ _); exact(hwc.out _ _ (by omega) (by omega)).below (below_drewN _ _ _)))
     go_wp2_with fail
     go_roundw
     case rel=>exact⟨j+1,a', C,g', by omega,by go_num,rfl,hE'.out _,hT'.out⟩
     case measure=>simp[Go.RowKit.intOf]; omega
    ·replace heq:=hid heq
     go_wp2_with fail
     go_quiet (first | (go_at_call 22; refine Calls.quiet_of_same (sF _ _ _ _ _ _ (fun _=>True) (fun _=>True) (chunk O j) (chunk (bU N) j) _ heq.out ?_ ?_); exact(hoc.out _ _ (by omega) (by omega)).below (below_drewN _ _ _); exact(hwc.out _ _ (by omega) (by omega)).below (below_drewN _ _ _)))
     replace hE:=hE.out.below (below_drewN _ _ nq)
     replace hwc:Hid (∀ off ln:Nat,off=4*j->ln=4->aI (fun _=>True) .u8 (wr.drewN nq) (some ⟨w4.heap.size,off,none⟩) ln (chunk (bU N) j)):=hid fun off ln e1 e2=>(hwc.out off ln e1 e2).below (below_drewN _ _ _)
     clear hoc
     generalize wr.drewN nq=w7 at *
     have s7:=hE.own.cell 0
     simp at s7
     replace hE:=hid hE
     have e4:(j+1)*4-j*4=4:=by omega
     have hcg:=cI2 O (bU N) j
     have hTt:=hT.out.turned
     have hcc1:Hid (1<=cc+48):=hid (by omega)
     have hcc2:Hid (cc+48<=999984):=hid (by omega)
     have hd7:Hid (∀ (m:Nat) (D:Nat->Blk) (a'':Int),a'=(m:Int)+1->kQ n C 3 a' j (eG key j (chunk (bU N) j)) (cc+48) D a''->mM n D ((m:Int)+1)):=hid fun m D a'' e hp=>by
      subst e
      exact hTt.droppable hR.out hp
     have hlf:Hid (∀ (E:Nat->Blk) (a'':Int),uA n C key a' j (chunk (bU N) j) (cc+48) E a''->eT n B E key 0 O (bU N) (j+1) a'' cc):=hid fun E a'' ⟨D,hp,hor⟩=>by
      rcases hor with⟨e,rfl⟩ | ⟨m,e,hRE,hFE⟩
      ·subst e; exact hT.out.step0 hR.out h1 hlt heq.out hp
      ·subst e; exact hT.out.step hR.out h1 hlt heq.out hp hRE hFE
     have hfull:Hid (n<=cO C n+3->sH n B (chg O (bU N) 64)):=hid fun f=>by
      have h4:=hTt.used85 hR.out
      have h2:=bE0 hlt heq.out
      have h3:=hT.out.used
      exact⟨by omega,by omega⟩
     replace hTt:=hid hTt
     clear hcg
     go_upto_region 14 with fail
     go_region_with (go_at_call 186; refine(uE (some ⟨g', 0,none⟩) n n C key a' j _ _ (chunk (bU N) j) (cc+48) _ ?_ hTt.out.right hTt.out.root hlt hk.out ?_ hcc1.out hcc2.out hTt.out.few hd7.out).mono ?_; exact hE.out.st.store.below (aD _ _); exact(hwc.out _ _ (by omega) rfl).below (aD _ _); rintro e w8 ⟨⟨x,ln,lc,a8,e8,rfl,hcase⟩,b8⟩; have bb8:Below w7.heap.size w7 w8:=(aD _ _).trans b8; have t8:=hE.out.below bb8; have hqb:=t8.qb; have m8:=t8.own.cell 0; have f8:=t8.own.frozen 0; simp at m8; replace hcase:=hid hcase; replace bb8:=hid bb8; replace t8:=hid t8; clear b8)
     all_goals (
      rcases hcase.out with⟨rfl,rfl,rfl,rfl,rfl,hus⟩ | ⟨rfl,g8,E,rfl,rfl,rfl,hLT,hg8,hOw⟩
      ·have hno:=hid (hfull.out hus)
       have r10:=t8.out.r10.past (a:=⟨w2.heap.size,0,none⟩) (show w.heap.size+1≠w2.heap.size by omega) (.slice none 0 0)
       have r11:=t8.out.r11.past (a:=⟨w2.heap.size,0,none⟩) (show w.heap.size+1+1≠w2.heap.size by omega) (.slice none 0 0)
       have bz:=t8.out.bel.setCell (p:=⟨w2.heap.size,0,none⟩) (show w.heap.size<=w2.heap.size by omega) (.slice none 0 0)
       clear hcase hus m8 f8
       generalize w8.setCell ⟨w2.heap.size,0,none⟩ (.slice none 0 0)=w9 at *
       have q1:=r10.cell 0
       have q2:=r10.frozen 0
       have q3:=r11.cell 0
       have q4:=r11.frozen 0
       have q5:=r11.cell 1
       have q6:=r11.frozen 1
       simp at q1 q3 q5
       replace bz:=hid bz
       clear r10 r11
       go_wp2_with fail
       refine bodyPost_ret (v:=.tuple #[.agg #[.slice none 0 0],.agg #[.int .i64 0,.int .i64 0],.int .i64 8]) (by rw[aS rfl]; go_simp) rfl ⟨⟨none,0,0,0,0,8,rfl,.inl ⟨rfl,rfl,rfl,rfl,rfl,rfl,hno.out⟩⟩,((bz.out.setCell (show w.heap.size<=w.heap.size+1 by omega) _).setCell (show w.heap.size<=w.heap.size+1+1 by omega) _).setCell (show w.heap.size<=w.heap.size+1+1 by omega) _⟩
      ·have hT9:=hid (hlf.out E a8 hLT)
       have hE9:=hid (hE.out.turn bb8.out hg8 hOw)
       clear hcase hLT hOw m8 f8
       go_wp2_with fail
       go_roundw
       case rel=>exact⟨j+1,a8,E,g8,by omega,by go_num,rfl,hE9.out,hT9.out⟩
       case measure=>simp[Go.RowKit.intOf]; omega)
   ·obtain rfl:j=64:=by omega
    have hfin:Hid (cU4 w.heap.size (.returned (.tuple #[.agg #[.slice (some ⟨g', 0,none⟩) n n],.agg #[.int .i64 a', .int .i64 nn],.int .i64 0])) (((wr.setCell ⟨w.heap.size+1,0,none⟩ (.slice (some ⟨g', 0,none⟩) n n)).setCell ⟨w.heap.size+1+1,0,none⟩ (.int .i64 a')).setCell ⟨w.heap.size+1+1,1,none⟩ (.int .i64 nn)) n B key 0 O N cc):=hid (by
     have hgb:=hE.gb
     have o1:=hE.st.kept (q:=w.heap.size+1) (by omega) (Kept.setCell (Kept.refl _ wr) (p:=⟨w.heap.size+1,0,none⟩) rfl (.slice (some ⟨g', 0,none⟩) n n))
     have o2:=o1.kept (q:=w.heap.size+1+1) (by omega) (Kept.setCell (Kept.refl _ _) (p:=⟨w.heap.size+1+1,0,none⟩) rfl (.int .i64 a'))
     have o3:=o2.kept (q:=w.heap.size+1+1) (by omega) (Kept.setCell (Kept.refl _ _) (p:=⟨w.heap.size+1+1,1,none⟩) rfl (.int .i64 nn))
     exact⟨_,n,n,a', nn,0,rfl,.inr ⟨rfl,g', C,rfl,rfl,rfl,by rw[hnl.out],by omega,o3,hT⟩⟩)
    have s1:=hE.own.cell 0
    have q1:=hE.r10.cell 0
    have q2:=hE.r10.frozen 0
    have q3:=hE.r11.cell 0
    have q4:=hE.r11.frozen 0
    have q5:=hE.r11.cell 1
    have q6:=hE.r11.frozen 1
    simp at s1 q1 q3 q5
    have bz:=hid hE.bel
    clear hE hT
    go_wp2_with fail
    refine bodyPost_ret (v:=.tuple #[.agg #[.slice (some ⟨g', 0,none⟩) n n],.agg #[.int .i64 a', .int .i64 nn],.int .i64 0]) (by rw[aS rfl]; go_simp) rfl ⟨hfin.out,((bz.out.setCell (show w.heap.size<=w.heap.size+1 by omega) _).setCell (show w.heap.size<=w.heap.size+1+1 by omega) _).setCell (show w.heap.size<=w.heap.size+1+1 by omega) _⟩
 ·subst h0
  have hm0:(((m:Int)+1) == 0)=false:=by simp; omega
  have hkp:Hid (aI1 n B ((m:Int)+1)):=hid ⟨hR.out,by
   rcases hr.out with h | ⟨h,_⟩
   ·omega
   ·exact h⟩
  have hT0:Hid (eT n B (lN B ((m:Int)+1)) key ((m:Int)+1) O (bU N) 0 ((m:Int)+1) cc):=hid (aR8 hR.out hr.out (by omega) hc.out)
  go_wp2_with fail
  generalize w2.alloc (.cells #[.slice (some ⟨g,0,none⟩) n n] 24)=w3 at *
  refine(cC4 ⟨w2.heap.size,0,none⟩ g n B ((m:Int)+1) w3 hP.out).mono ?_
  rintro e w4 ⟨hK,hOut⟩
  rcases hK with⟨e', _,_,hno⟩ | ⟨rfl,_,C0,hPC,hC0⟩
  ·exact absurd hkp.out hno
  rw[<-hC0] at hT0
  have hst:=hid hPC.own
  replace kq:Hid (aC w4 w2.heap.size #[.slice (some ⟨g,0,none⟩) n n] 24):=hid (by unfold aC; rw[hOut.block _ kq.out.lt (by omega)]; exact kq.out)
  replace k10':Hid (aC w4 (w.heap.size+1) #[.slice none 0 0] 24):=hid (by unfold aC; rw[hOut.block _ k10'.out.lt (by omega)]; exact k10'.out)
  replace k11':Hid (aC w4 (w.heap.size+1+1) #[.int .i64 0,.int .i64 0] 104):=hid (by unfold aC; rw[hOut.block _ k11'.out.lt (by omega)]; exact k11'.out)
  replace b03:Hid (Below w.heap.size w w4):=hid (b03.out.trans (hOut.below (B:=w.heap.size) (by omega) (by have:=b03.out.size; omega)))
  clear hC0 hP hPC hOut hkp
  have hw4:w.heap.size<=w4.heap.size:=b03.out.size
  have hq4:=kq.out.lt
  go_wp2_with (at_make; refine wpList_make_full _ rfl (.const (.int .i64 256)) (.const (.int .i64 256)) 28 rfl w4.heap.size 5 i0 (.int .u8 0) 1 Tryz.underlying28 hi0 hz0 hz1 .i64 .i64 256 256 256 rfl rfl rfl rfl (by rw[hz2]; omega) (by unfold maxLen; omega) (Nat.le_refl _) ?_; intro w5 hown hgr; have hc5:=rR hown; have b5:Below w4.heap.size w4 w5:=⟨hgr.os,hgr.tape,hgr.output,hgr.size,fun k hk=>hgr.block k hk (by simp)⟩; clear hown hgr; obtain⟨w6,hr6,hc6,b6⟩:=rW (off:=0) (dLen:=256) (dCap:=256) (sLen:=nn) (sCap:=nc) (m:=nn) _ _ hc5 hNm.out (show nn=min nn 256 by omega) (hsrc.out w5 (Below.tr b03.out b5)) (by rw[hzl.out]; omega) hone.out b5 (Nat.le_refl _); rw[hsplice.out] at hc6; have hTU:Hid (TU w w6 w2.heap.size w4.heap.size n C0 (bU N) g):=hid ⟨Below.tr b03.out b6,kq.out.below b6,hst.out.below b6,hc6,k10'.out.below b6,k11'.out.below b6,by omega,by omega,by omega,by omega⟩; clear hc5 b5 hc6 b6)
  clear hr6 kq k10' k11' hst b03 hw4
  go_loopw [2,34] (fun u v wr=>∃ (j:Nat) (a':Int) (C:Nat->Blk) (g':Nat),j<=64/\v=.int .i64 j/\u=.int .i64 a'/\TU w wr w2.heap.size w4.heap.size n C (bU N) g'/\eT n B C key ((m:Int)+1) O (bU N) j a' cc) (fun _ v _=>64-(Go.RowKit.intOf v).toNat)
  case atStart=>exact⟨0,(m:Int)+1,C0,g,Nat.zero_le _,rfl,rfl,hTU.out,hT0.out⟩
  case round=>
   clear hTU hT0
   obtain⟨j,a', C,g', hj64,rfl,rfl,hE,hT⟩:=hrel
   by_cases hlt:j<64
   ·have hrow:=fI (Q:=fun _=>True) trivial hVb.out hE.row
    rw[hpl.out] at hrow
    have hwc:Hid (∀ off ln:Nat,off=4*j->ln=4->aI (fun _=>True) .u8 wr (some ⟨w4.heap.size,off,none⟩) ln (chunk (bU N) j)):=hid fun off ln e1 e2=>by
     subst e1; subst e2
     have:=hrow.piece (lo:=4*j) (m:=4) (by omega)
     rwa [Nat.zero_add] at this
    have hoc:Hid (∀ off ln:Nat,off=oo+4*j->ln=4->aI (fun _=>True) .u8 wr (some ⟨ob,off,none⟩) ln (chunk O j)):=hid fun off ln e1 e2=>by
     subst e1; subst e2
     exact(hO.out.below hE.bel).piece (lo:=4*j) (m:=4) (by omega)
    replace hE:=hid hE
    replace hT:=hid hT
    clear hrow
    by_cases heq:chunk O j=chunk (bU N) j
    ·have hE':Hid (∀ nq,TU w (wr.drewN nq) w2.heap.size w4.heap.size n C (bU N) g'):=hid fun nq=>hE.out.below (below_drewN _ _ _)
     have hT':=hid (hT.out.same hlt heq)
     go_wp2_with fail
     go_quiet (first | (go_at_call 22; refine Calls.quiet_of_same (kN _ _ _ _ _ _ (fun _=>True) (fun _=>True) (chunk (bU N) j) _ ?_ ?_); exact heq▸(hoc.out _ _ (by omega) (by omega)).below (below_drewN _ _ _); exact(hwc.out _ _ (by omega) (by omega)).below (below_drewN _ _ _)))
     go_wp2_with fail
     go_roundw
     case rel=>exact⟨j+1,a', C,g', by omega,by go_num,rfl,hE'.out _,hT'.out⟩
     case measure=>simp[Go.RowKit.intOf]; omega
    ·replace heq:=hid heq
     go_wp2_with fail
     go_quiet (first | (go_at_call 22; refine Calls.quiet_of_same (sF _ _ _ _ _ _ (fun _=>True) (fun _=>True) (chunk O j) (chunk (bU N) j) _ heq.out ?_ ?_); exact(hoc.out _ _ (by omega) (by omega)).below (below_drewN _ _ _); exact(hwc.out _ _ (by omega) (by omega)).below (below_drewN _ _ _)))
     replace hE:=hE.out.below (below_drewN _ _ nq)
     replace hwc:Hid (∀ off ln:Nat,off=4*j->ln=4->aI (fun _=>True) .u8 (wr.drewN nq) (some ⟨w4.heap.size,off,none⟩) ln (chunk (bU N) j)):=hid fun off ln e1 e2=>(hwc.out off ln e1 e2).below (below_drewN _ _ _)
     clear hoc
     generalize wr.drewN nq=w7 at *
     have s7:=hE.own.cell 0
     simp at s7
     replace hE:=hid hE
     have e4:(j+1)*4-j*4=4:=by omega
     have hcg:=cI2 O (bU N) j
     have hTt:=hT.out.turned
     have hcc1:Hid (1<=cc+48):=hid (by omega)
     have hcc2:Hid (cc+48<=999984):=hid (by omega)
     have hd7:Hid (∀ (m:Nat) (D:Nat->Blk) (a'':Int),a'=(m:Int)+1->kQ n C 3 a' j (eG key j (chunk (bU N) j)) (cc+48) D a''->mM n D ((m:Int)+1)):=hid fun m D a'' e hp=>by
      subst e
      exact hTt.droppable hR.out hp
     have hlf:Hid (∀ (E:Nat->Blk) (a'':Int),uA n C key a' j (chunk (bU N) j) (cc+48) E a''->eT n B E key ((m:Int)+1) O (bU N) (j+1) a'' cc):=hid fun E a'' ⟨D,hp,hor⟩=>by
      rcases hor with⟨e,rfl⟩ | ⟨m,e,hRE,hFE⟩
      ·subst e; exact hT.out.step0 hR.out h1 hlt heq.out hp
      ·subst e; exact hT.out.step hR.out h1 hlt heq.out hp hRE hFE
     have hfull:Hid (n<=cO C n+3->sH n B (chg O (bU N) 64)):=hid fun f=>by
      have h4:=hTt.used85 hR.out
      have h2:=bE0 hlt heq.out
      have h3:=hT.out.used
      exact⟨by omega,by omega⟩
     replace hTt:=hid hTt
     clear hcg
     go_upto_region 14 with fail
     go_region_with (go_at_call 186; refine(uE (some ⟨g', 0,none⟩) n n C key a' j _ _ (chunk (bU N) j) (cc+48) _ ?_ hTt.out.right hTt.out.root hlt hk.out ?_ hcc1.out hcc2.out hTt.out.few hd7.out).mono ?_; exact hE.out.st.store.below (aD _ _); exact(hwc.out _ _ (by omega) rfl).below (aD _ _); rintro e w8 ⟨⟨x,ln,lc,a8,e8,rfl,hcase⟩,b8⟩; have bb8:Below w7.heap.size w7 w8:=(aD _ _).trans b8; have t8:=hE.out.below bb8; have hqb:=t8.qb; have m8:=t8.own.cell 0; have f8:=t8.own.frozen 0; simp at m8; replace hcase:=hid hcase; replace bb8:=hid bb8; replace t8:=hid t8; clear b8)
     all_goals (
      rcases hcase.out with⟨rfl,rfl,rfl,rfl,rfl,hus⟩ | ⟨rfl,g8,E,rfl,rfl,rfl,hLT,hg8,hOw⟩
      ·have hno:=hid (hfull.out hus)
       have r10:=t8.out.r10.past (a:=⟨w2.heap.size,0,none⟩) (show w.heap.size+1≠w2.heap.size by omega) (.slice none 0 0)
       have r11:=t8.out.r11.past (a:=⟨w2.heap.size,0,none⟩) (show w.heap.size+1+1≠w2.heap.size by omega) (.slice none 0 0)
       have bz:=t8.out.bel.setCell (p:=⟨w2.heap.size,0,none⟩) (show w.heap.size<=w2.heap.size by omega) (.slice none 0 0)
       clear hcase hus m8 f8
       generalize w8.setCell ⟨w2.heap.size,0,none⟩ (.slice none 0 0)=w9 at *
       have q1:=r10.cell 0
       have q2:=r10.frozen 0
       have q3:=r11.cell 0
       have q4:=r11.frozen 0
       have q5:=r11.cell 1
       have q6:=r11.frozen 1
       simp at q1 q3 q5
       replace bz:=hid bz
       clear r10 r11
       go_wp2_with fail
       refine bodyPost_ret (v:=.tuple #[.agg #[.slice none 0 0],.agg #[.int .i64 0,.int .i64 0],.int .i64 8]) (by rw[aS rfl]; go_simp) rfl ⟨⟨none,0,0,0,0,8,rfl,.inl ⟨rfl,rfl,rfl,rfl,rfl,rfl,hno.out⟩⟩,((bz.out.setCell (show w.heap.size<=w.heap.size+1 by omega) _).setCell (show w.heap.size<=w.heap.size+1+1 by omega) _).setCell (show w.heap.size<=w.heap.size+1+1 by omega) _⟩
      ·have hT9:=hid (hlf.out E a8 hLT)
       have hE9:=hid (hE.out.turn bb8.out hg8 hOw)
       clear hcase hLT hOw m8 f8
       go_wp2_with fail
       go_roundw
       case rel=>exact⟨j+1,a8,E,g8,by omega,by go_num,rfl,hE9.out,hT9.out⟩
       case measure=>simp[Go.RowKit.intOf]; omega)
   ·obtain rfl:j=64:=by omega
    have hfin:Hid (cU4 w.heap.size (.returned (.tuple #[.agg #[.slice (some ⟨g', 0,none⟩) n n],.agg #[.int .i64 a', .int .i64 nn],.int .i64 0])) (((wr.setCell ⟨w.heap.size+1,0,none⟩ (.slice (some ⟨g', 0,none⟩) n n)).setCell ⟨w.heap.size+1+1,0,none⟩ (.int .i64 a')).setCell ⟨w.heap.size+1+1,1,none⟩ (.int .i64 nn)) n B key ((m:Int)+1) O N cc):=hid (by
     have hgb:=hE.gb
     have o1:=hE.st.kept (q:=w.heap.size+1) (by omega) (Kept.setCell (Kept.refl _ wr) (p:=⟨w.heap.size+1,0,none⟩) rfl (.slice (some ⟨g', 0,none⟩) n n))
     have o2:=o1.kept (q:=w.heap.size+1+1) (by omega) (Kept.setCell (Kept.refl _ _) (p:=⟨w.heap.size+1+1,0,none⟩) rfl (.int .i64 a'))
     have o3:=o2.kept (q:=w.heap.size+1+1) (by omega) (Kept.setCell (Kept.refl _ _) (p:=⟨w.heap.size+1+1,1,none⟩) rfl (.int .i64 nn))
     exact⟨_,n,n,a', nn,0,rfl,.inr ⟨rfl,g', C,rfl,rfl,rfl,by rw[hnl.out],by omega,o3,hT⟩⟩)
    have s1:=hE.own.cell 0
    have q1:=hE.r10.cell 0
    have q2:=hE.r10.frozen 0
    have q3:=hE.r11.cell 0
    have q4:=hE.r11.frozen 0
    have q5:=hE.r11.cell 1
    have q6:=hE.r11.frozen 1
    simp at s1 q1 q3 q5
    have bz:=hid hE.bel
    clear hE hT
    go_wp2_with fail
    refine bodyPost_ret (v:=.tuple #[.agg #[.slice (some ⟨g', 0,none⟩) n n],.agg #[.int .i64 a', .int .i64 nn],.int .i64 0]) (by rw[aS rfl]; go_simp) rfl ⟨hfin.out,((bz.out.setCell (show w.heap.size<=w.heap.size+1 by omega) _).setCell (show w.heap.size<=w.heap.size+1+1 by omega) _).setCell (show w.heap.size<=w.heap.size+1+1 by omega) _⟩
def cT1 (base:Nat)(e:Ending)(w:World)(n:Nat)(B:Nat->Blk)(key root size:Int)(ok:Prop)(bad:Int->Prop)(N:List Int)(cc:Int):Prop:=
 ∃ (x:Option Addr) (ln lc:Nat) (ra rs e':Int),e=.returned (.tuple #[.agg #[.slice x ln lc],.agg #[.int .i64 ra,.int .i64 rs],.int .i64 e'])/\
  ((x=none/\ln=0/\lc=0/\ra=0/\rs=0/\e'≠0/\(bQ n B key root size->(ok->e'=8/\sH n B (chg (aR key (aH B 3 root)) (bU N) 64))/\(¬ok->bad e')))\/
   (e'=0/\bQ n B key root size/\ok/\∃ (g:Nat) (C:Nat->Blk),x=some ⟨g,0,none⟩/\ln=n/\lc=n/\rs=(N.length:Int)/\base<=g/\Own w g n C/\eT n B C key root (aR key (aH B 3 root)) (bU N) 64 ra cc))
structure RC (W wr:World):Prop where
 bel:Below W.heap.size W wr
 sz:W.heap.size+4<=wr.heap.size
 r10:aC wr (W.heap.size+1+1) #[.slice none 0 0] 24
 r11:aC wr (W.heap.size+1+1+1) #[.int .i64 0,.int .i64 0] 104
theorem RC.below {W wr w':World}(h:RC W wr)(b:Below wr.heap.size wr w'):RC W w':=⟨Below.tr h.bel b,Nat.le_trans h.sz b.size,h.r10.below b,h.r11.below b⟩
abbrev put3 (W wr:World)(x:Option Addr)(ln lc:Nat)(ra rs:Int):World:=((wr.setCell ⟨W.heap.size+1+1,0,none⟩ (.slice x ln lc)).setCell ⟨W.heap.size+1+1+1,0,none⟩ (.int .i64 ra)).setCell ⟨W.heap.size+1+1+1,1,none⟩ (.int .i64 rs)
theorem RC.put3 {W wr:World}(h:RC W wr)(x:Option Addr)(ln lc:Nat)(ra rs:Int):Below W.heap.size W (put3 W wr x ln lc ra rs):=
 ((h.bel.setCell (show W.heap.size<=W.heap.size+1+1 by omega) _).setCell (show W.heap.size<=W.heap.size+1+1+1 by omega) _).setCell (show W.heap.size<=W.heap.size+1+1+1 by omega) _
theorem Own.put3 {W wr:World}{g n:Nat}{C:Nat->Blk}(h:Own wr g n C)(hg:W.heap.size+4<=g)(x:Option Addr)(ln lc:Nat)(ra rs:Int):Own (put3 W wr x ln lc ra rs) g n C:=
 ((h.kept (q:=W.heap.size+1+1) (by omega) (Kept.setCell (Kept.refl _ wr) (p:=⟨W.heap.size+1+1,0,none⟩) rfl _)).kept (q:=W.heap.size+1+1+1) (by omega) (Kept.setCell (Kept.refl _ _) (p:=⟨W.heap.size+1+1+1,0,none⟩) rfl _)).kept (q:=W.heap.size+1+1+1) (by omega) (Kept.setCell (Kept.refl _ _) (p:=⟨W.heap.size+1+1+1,1,none⟩) rfl _)
theorem aI.takeN {Q:Nat->Prop}{k:IntKind}{w:World}{b off n:Nat}{l:List Int}(h:aI Q k w (some ⟨b,off,none⟩) n l){m:Nat}(hm:m<=n):aI Q k w (some ⟨b,off,none⟩) m (l.take m):=by
 have:=h.piece (lo:=0) (m:=m) (by omega)
 rwa [Nat.add_zero,List.drop_zero] at this
theorem aH0 (a:Option Addr)(n c:Nat)(B:Nat->Blk)(key root size at':Int)(ba:Option Addr)(bn bc:Nat)(b:List Int)(cc:Int)(w:World)(h:aN w a n B)(hb:aI (fun _=>True) .u8 w ba bn b)(h1:64<=cc)(hcm:cc<=999936)(hc:∀ k,k<n->(B k).refs<=cc):
 Calls Tryz.prog 148 #[.agg #[.slice a n c],.int .i64 key,.agg #[.int .i64 root,.int .i64 size],.int .i64 at', .slice ba bn bc] w fun e w'=>
  cT1 w.heap.size e w' n B key root size (0<=at'/\at'+(b.length:Int)<=256) (fun e=>e=pK at' (b.length:Int)) (gN ((aR key (aH B 3 root)).take size.toNat) at'.toNat b) cc/\Below w.heap.size w w':=by
 have b0:Below w.heap.size w _:=((aW w (.cells #[.slice a n c] 24) (.cells #[.int .i64 root,.int .i64 size] 104)).alloc (by simp; omega) (.cells #[.slice none 0 0] 24)).alloc (by simp; omega) (.cells #[.int .i64 0,.int .i64 0] 104)
 have ks:aC _ w.heap.size #[.slice a n c] 24:=(((aB w _ _).below (aA _ (.cells #[.int .i64 root,.int .i64 size] 104))).below (aA _ (.cells #[.slice none 0 0] 24))).below (aA _ (.cells #[.int .i64 0,.int .i64 0] 104))
 have kf:aC _ (w.heap.size+1) #[.int .i64 root,.int .i64 size] 104:=((aF w (.cells #[.slice a n c] 24) _ _).below (aA _ (.cells #[.slice none 0 0] 24))).below (aA _ (.cells #[.int .i64 0,.int .i64 0] 104))
 have hrc:RC w ((((w.alloc (.cells #[.slice a n c] 24)).alloc (.cells #[.int .i64 root,.int .i64 size] 104)).alloc (.cells #[.slice none 0 0] 24)).alloc (.cells #[.int .i64 0,.int .i64 0] 104)):=⟨b0,by simp,(eY w (.cells #[.slice a n c] 24) (.cells #[.int .i64 root,.int .i64 size] 104) _ _).below (aA _ (.cells #[.int .i64 0,.int .i64 0] 104)),qB w (.cells #[.slice a n c] 24) (.cells #[.int .i64 root,.int .i64 size] 104) (.cells #[.slice none 0 0] 24) _ _⟩
 replace ks:=hid ks
 replace kf:=hid kf
 replace hrc:=hid hrc
 replace h:=hid h
 replace hb:=hid hb
 replace hc:=hid hc
 clear b0
 go_enter Tryz.func148,Tryz.ntmps148
 go_wp2_with fail
 generalize ((((w.alloc (.cells #[.slice a n c] 24)).alloc (.cells #[.int .i64 root,.int .i64 size] 104)).alloc (.cells #[.slice none 0 0] 24)).alloc (.cells #[.int .i64 0,.int .i64 0] 104))=w0 at *
 refine(aE9 a n c B key root size w0 (h.out.below hrc.out.bel)).mono ?_
 rintro e w1 ⟨hO,b1⟩
 replace hrc:=hid (hrc.out.below b1)
 replace ks:=hid (ks.out.below b1)
 replace kf:=hid (kf.out.below b1)
 clear b1
 rcases hO with⟨e', rfl,he,hno⟩ | ⟨g1,rfl,hok,hg1,hrow⟩
 ·have he':(e' == 0)=false:=by simp[he]
  have q1:=hrc.out.r10.cell 0
  have q2:=hrc.out.r10.frozen 0
  have q3:=hrc.out.r11.cell 0
  have q4:=hrc.out.r11.frozen 0
  have q5:=hrc.out.r11.cell 1
  have q6:=hrc.out.r11.frozen 1
  simp at q1 q3 q5
  replace hno:=hid hno
  go_wp2_with fail
  refine bodyPost_ret (v:=.tuple #[.agg #[.slice none 0 0],.agg #[.int .i64 0,.int .i64 0],.int .i64 e']) (by rw[aS rfl]; go_simp) rfl ⟨⟨none,0,0,0,0,e', rfl,.inl ⟨rfl,rfl,rfl,rfl,rfl,he,fun f=>absurd f hno.out⟩⟩,hrc.out.put3 none 0 0 0 0⟩
 have hs:=hok.sb
 obtain⟨sz,rfl⟩:∃ sz:Nat,size=(sz:Int):=⟨size.toNat,by omega⟩
 have hN:=fI (Q:=fun _=>True) trivial (jA key (aH B 3 root)) hrow
 rw[cK] at hN
 have hsz:sz<=256:=by omega
 have f0:=kf.out.cell 0
 have f1:=kf.out.cell 1
 have s0:=ks.out.cell 0
 simp at f0 f1 s0
 have hT:=hid (hN.takeN hsz)
 replace hN:=hid hN
 replace hok:=hid hok
 clear hrow hs
 go_wp2_with fail
 refine(cA3 (some ⟨g1,0,none⟩) sz 256 _ at' ba bn bc b w1 hsz hT.out (hb.out.below hrc.out.bel)).mono ?_
 rintro e w2 ⟨hOv,b2⟩
 replace hrc:=hid (hrc.out.below b2)
 replace ks:=hid (ks.out.below b2)
 replace kf:=hid (kf.out.below b2)
 replace hN:=hid (hN.out.below b2)
 clear b2 f0 f1 s0 hT
 have q1:=hrc.out.r10.cell 0
 have q2:=hrc.out.r10.frozen 0
 have q3:=hrc.out.r11.cell 0
 have q4:=hrc.out.r11.frozen 0
 have q5:=hrc.out.r11.cell 1
 have q6:=hrc.out.r11.frozen 1
 have f0:=kf.out.cell 0
 have f1:=kf.out.cell 1
 have s0:=ks.out.cell 0
 simp at q1 q3 q5 f0 f1 s0
 rcases hOv with⟨e', rfl,he,hno⟩ | ⟨x,ln,lc,A,rfl,rfl,hA,hlc,hNow⟩
 ·have he':(e' == 0)=false:=by simp[he]
  replace hno:=hid hno
  go_wp2_with fail
  refine bodyPost_ret (v:=.tuple #[.agg #[.slice none 0 0],.agg #[.int .i64 0,.int .i64 0],.int .i64 e']) (by rw[aS rfl]; go_simp) rfl ⟨⟨none,0,0,0,0,e', rfl,.inl ⟨rfl,rfl,rfl,rfl,rfl,he,fun _=>⟨fun f=>absurd f hno.out.1,fun _=>hno.out.2⟩⟩⟩,hrc.out.put3 none 0 0 0 0⟩
 have hlen:=hNow.1
 have hln:ln<=256:=by
  rw[<-hlen,nU,List.length_take,cK]
  split<;>omega
 have hNow':=hid (hNow.weaken (R:=fun _=>True) (fun _ _ _=>trivial))
 have hA2:Hid (0<=(A:Int)/\(A:Int)+(b.length:Int)<=256):=hid (by omega)
 replace hlen:=hid hlen
 clear hNow hA q1 q2 q3 q4 q5 q6
 obtain⟨N,hNd⟩:∃ N,N=gN ((aR key (aH B 3 root)).take sz) A b:=⟨_,rfl⟩
 rw[<-hNd] at hlen hNow'
 replace hNd:=hid hNd
 go_wp2_with fail
 refine(aY9 a n c B key root g1 0 (aR key (aH B 3 root)) x ln lc N cc w2 (h.out.below hrc.out.bel) hok.out.right hok.out.rooted hok.out.kb hN.out hNow'.out hln h1 hcm hc.out).mono ?_
 rintro e w3 ⟨⟨y,yn,yc,ra,rs,e', rfl,hcase⟩,b3⟩
 have hg4:=hrc.out.sz
 replace hrc:=hid (hrc.out.below b3)
 have q1:=hrc.out.r10.cell 0
 have q2:=hrc.out.r10.frozen 0
 have q3:=hrc.out.r11.cell 0
 have q4:=hrc.out.r11.frozen 0
 have q5:=hrc.out.r11.cell 1
 have q6:=hrc.out.r11.frozen 1
 simp at q1 q3 q5
 have hfin:Hid (cT1 w.heap.size (.returned (.tuple #[.agg #[.slice y yn yc],.agg #[.int .i64 ra,.int .i64 rs],.int .i64 e'])) (put3 w w3 y yn yc ra rs) n B key root sz (0<=(A:Int)/\(A:Int)+(b.length:Int)<=256) (fun e=>e=pK (A:Int) (b.length:Int)) (gN ((aR key (aH B 3 root)).take sz) A b) cc):=hid ⟨y,yn,yc,ra,rs,e', rfl,by
  rw[<-hNd.out]
  rcases hcase with⟨h2,h3,h4,h5,h6,h7,h8⟩ | ⟨h2,g,C,h3,h4,h5,h6,h7,h8,h9⟩
  ·exact .inl ⟨h2,h3,h4,h5,h6,by omega,fun _=>⟨fun _=>⟨h7,h8⟩,fun f=>absurd hA2.out f⟩⟩
  ·exact .inr ⟨h2,hok.out,hA2.out,g,C,h3,h4,h5,h6,by omega,h8.put3 (by omega) _ _ _ _ _,h9⟩⟩
 clear hcase f0 f1 s0 b3
 go_wp2_with fail
 refine bodyPost_ret (v:=.tuple #[.agg #[.slice y yn yc],.agg #[.int .i64 ra,.int .i64 rs],.int .i64 e']) (by rw[aS rfl]; go_simp) rfl ⟨hfin.out,hrc.out.put3 _ _ _ _ _⟩
theorem jS {α β:Type}{f:α->List β}{k:Nat}(hk:∀ x,(f x).length=k):∀ (l:List α) (i r:Nat) (y:α) (u:β) (hi:i<l.length),r<k->f y=(f l[i]).set r u->(l.flatMap f).set (i*k+r) u=(l.set i y).flatMap f
 | [],i,r,y,u,hi,_,_=>absurd hi (by simp)
 | x::l,0,r,y,u,hi,hr,e=>by
   simp only[List.getElem_cons_zero] at e
   rw[List.flatMap_cons,Nat.zero_mul,Nat.zero_add,List.set_append,if_pos (by rw[hk]; exact hr),List.set_cons_zero,List.flatMap_cons,e]
 | x::l,i+1,r,y,u,hi,hr,e=>by
   simp only[List.getElem_cons_succ] at e
   have:=jS hk l i r y u (by simpa using hi) hr e
   rw[List.flatMap_cons,List.set_append,if_neg (by rw[hk,Nat.add_mul]; omega),List.set_cons_succ,List.flatMap_cons,hk,show (i+1)*k+r-k=i*k+r by rw[Nat.add_mul]; omega,this]
def cB.mine (v:cB)(b:Nat):Prop:=(Value.slice v.fa v.fn v.fc).ownBlock=some b\/(Value.slice v.sa v.sn v.sc).ownBlock=some b
structure fQ (base:Nat)(L:Nat->Prop)(w:World)(v:cB)(x:aK)(ms:List aZ):Prop where
 name:v.name=x.name
 small:x.name.size<=maxLen
 files:w.ownsRow base 106 3 (.slice v.fa v.fn v.fc) v.fn (bK x.files)
 snaps:w.ownsRow base 113 2 (.slice v.sa v.sn v.sc) v.sn (dC ms)
 eq:ms.map (·.e)=x.snaps
 ok:∀ e∈x.files,e.ok
 lists:∀ m∈ms,m.At (fun b=>L b/\¬v.mine b) w
 apart:∀ b,(Value.slice v.fa v.fn v.fc).ownBlock=some b->(Value.slice v.sa v.sn v.sc).ownBlock≠some b
theorem oL {w:World}{base:Nat}{e:TypeId}{size n c:Nat}{a:Option Addr}{xs:List Value}(h:w.ownsRow base e size (.slice a n c) n xs):n<=c:=by
 rcases h.2 with⟨h0,_⟩ | ⟨g,cap,cur,h0,_,_,h1,_⟩
 ·simp only[Value.slice.injEq] at h0; omega
 ·simp only[Value.slice.injEq] at h0; omega
theorem fQ.at {base:Nat}{L:Nat->Prop}{w:World}{v:cB}{x:aK}{ms:List aZ}(h:fQ base L w v x ms):dK (fun b=>base<=b\/L b) w v x:=by
 refine⟨h.name,h.small,(vT h.ok h.files).weaken (fun b _ q=>.inl q.1),?_,oL h.files,oL h.snaps⟩
 have:=aK0 h.lists h.snaps
 rw[h.eq] at this
 exact this.weaken (fun b _ q=>by
  rcases q with q | q
  ·exact .inr q.1
  ·exact .inl q.1)
theorem fQ.only {base:Nat}{L M:Nat->Prop}{w w':World}{v:cB}{x:aK}{ms:List aZ}(h:fQ base L w v x ms)(ho:Only M w w')(hm:∀ b,v.mine b->¬M b)(hl:∀ b,L b->¬M b):fQ base L w' v x ms:=
 ⟨h.name,h.small,ho.row h.files (fun b hb=>hm b (.inl hb)),ho.row h.snaps (fun b hb=>hm b (.inr hb)),h.eq,h.ok,fun m hmm=>ho.snap (h.lists m hmm) (fun b q=>hl b q.1),h.apart⟩
theorem fQ.below {base:Nat}{L:Nat->Prop}{w w':World}{v:cB}{x:aK}{ms:List aZ}(h:fQ base L w v x ms)(hb:Below w.heap.size w w'):fQ base L w' v x ms:=h.only (M:=fun _=>False) (Only.of_below hb) (fun _ _ m=>m) (fun _ _ m=>m)
theorem aZ.At.weaken {Q R:Nat->Prop}{w:World}{m:aZ}(h:m.At Q w)(hq:∀ b,b<w.heap.size->Q b->R b):m.At R w:=⟨h.files.weaken hq,h.caps,h.small⟩
theorem fQ.weaken {base:Nat}{L L':Nat->Prop}{w:World}{v:cB}{x:aK}{ms:List aZ}(h:fQ base L w v x ms)(hl:∀ b,b<w.heap.size->L b->L' b):fQ base L' w v x ms:=
 ⟨h.name,h.small,h.files,h.snaps,h.eq,h.ok,fun m hm=>(h.lists m hm).weaken (fun b hb q=>⟨hl b hb q.1,q.2⟩),h.apart⟩
theorem fQ.mine_ge {base:Nat}{L:Nat->Prop}{w:World}{v:cB}{x:aK}{ms:List aZ}(h:fQ base L w v x ms){b:Nat}(hb:v.mine b):base<=b/\b<w.heap.size:=by
 rcases hb with hb | hb
 ·exact h.files.lt b hb
 ·exact h.snaps.lt b hb
structure aD3 (H:Nat)(w wr:World)(x:aK)(fa:Option Addr)(fn fc:Nat)(sa:Option Addr)(sn sc j:Nat)(ms:List aZ):Prop where
 box:aC wr H #[.string x.name,.slice fa fn fc,.slice sa sn sc] 84
 res:aC wr (H+1) #[.string ⟨#[]⟩,.slice none 0 0,.slice none 0 0] 84
 files:wr.ownsRow (H+2) 106 3 (.slice fa fn fc) fn (bK x.files)
 snaps:wr.ownsRow (H+2) 113 2 (.slice sa sn sc) sn (dC ms)
 eq:ms.map (·.e)=x.snaps
 done:∀ i m,ms[i]? =some m->i<j->m.At (fun b=>H+2<=b/\(Value.slice fa fn fc).ownBlock≠some b/\(Value.slice sa sn sc).ownBlock≠some b) wr
 todo:∀ i m,ms[i]? =some m->j<=i->m.At (fun b=>b<H) wr
 apart:∀ b,(Value.slice fa fn fc).ownBlock=some b->(Value.slice sa sn sc).ownBlock≠some b
 bel:Below H w wr
 sz:H+2<=wr.heap.size
theorem aD3.next {H:Nat}{w wr w7:World}{x:aK}{fa:Option Addr}{fn fc:Nat}{sb sn sc j:Nat}{ms:List aZ}{m:aZ}{a':Option Addr}{c':Nat}(h:aD3 H w wr x fa fn fc (some ⟨sb,0,none⟩) sn sc j ms)(hm:ms[j]? =some m)(hok:∀ e∈m.e.files,e.ok)(b7:Below wr.heap.size wr w7)(hc:m.fn<=c')(ho:w7.ownsRow wr.heap.size 106 3 (.slice a' m.fn c') m.fn (bK m.e.files)):
 aD3 H w (w7.setCell ⟨sb,j*2+1,none⟩ (.slice a' m.fn c')) x fa fn fc (some ⟨sb,0,none⟩) sn sc (j+1) (ms.set j { m with fa:=a', fc:=c' }):=by
 obtain⟨hj,hmj⟩:=List.getElem?_eq_some_iff.1 hm
 have hsb:=h.snaps.lt sb rfl
 have kk:Kept sb w7 (w7.setCell ⟨sb,j*2+1,none⟩ (.slice a' m.fn c')):=Kept.setCell (g:=sb) (Kept.refl _ _) (p:=⟨sb,j*2+1,none⟩) rfl _
 have hb:=h.bel.trans ((b7.mono (show H<=wr.heap.size by have:=h.sz; omega)).trans (kk.below (show H<=sb by omega)))
 have hon:Only (fun b=>b=sb) wr (w7.setCell ⟨sb,j*2+1,none⟩ (.slice a' m.fn c')):=(Only.of_below b7).trans (Only.of_kept kk rfl)
 refine⟨hon.cells h.box (by omega),hon.cells h.res (by omega),hon.row h.files (fun k hk e=>?_),?_,?_,?_,?_,h.apart,hb,?_⟩
 ·subst e
  exact h.apart _ hk rfl
 ·have h1:=((bY h.snaps b7).stored (j*2+1) (.slice a' m.fn c')).1
  have h2:(dC ms).set (j*2+1) (.slice a' m.fn c')=dC (ms.set j { m with fa:=a', fc:=c' }):=jS aZ.cells_len ms j 1 { m with fa:=a', fc:=c' } _ hj (by omega) (by rw[hmj]; rfl)
  rw[<-h2]
  exact h1
 ·rw[List.map_set,<-h.eq]
  apply List.ext_getElem?
  intro i
  rw[List.getElem?_set]
  split
  ·rename_i e
   subst e
   simp[hj,hmj]
  ·rfl
 ·intro i mi hi hij
  by_cases e:i=j
  ·subst e
   rw[List.getElem?_set_self (by simpa using hj)] at hi
   cases hi
   have hE:=vT hok ho
   have hsm:=(h.todo i m hm (Nat.le_refl _)).small
   refine⟨?_,hc,hsm⟩
   have hfr:=(Only.of_kept (M:=fun b=>b=sb) kk rfl).ents hE (fun k q e=>by subst e; have:=q.1; omega)
   refine hfr.weaken (fun b _ q=>⟨?_,fun f=>?_,fun f=>?_⟩)
   ·have:=q.1; have:=h.sz; omega
   ·have:=(h.files.lt b f).2; have:=q.1; omega
   ·have:=(h.snaps.lt b f).2; have:=q.1; omega
  ·rw[List.getElem?_set_ne (fun f=>e f.symm)] at hi
   exact hon.snap (h.done i mi hi (by omega)) (fun b q f=>by subst f; exact q.2.2 rfl)
 ·intro i mi hi hij
  rw[List.getElem?_set_ne (by omega)] at hi
  exact hon.snap (h.todo i mi hi (by omega)) (fun b q f=>by subst f; omega)
 ·have h1:=kk.size
  have h2:=b7.size
  have h3:=h.sz
  omega
def pM (H:Nat)(w:World)(a:Option Addr)(n:Nat)(cs:List Value):Prop:=0<n->∃ b off,a=some ⟨b,off,none⟩/\b<H/\∀ j u,cs[j]? =some u->w.cell? ⟨b,off+j,none⟩=some u
theorem pM.src {H:Nat}{w:World}{a:Option Addr}{n:Nat}{cs:List Value}(h:pM H w a n cs)(hH:H<=w.heap.size):0<n->∃ b off,a=some ⟨b,off,none⟩/\b<w.heap.size/\∀ j u,cs[j]? =some u->w.cell? ⟨b,off+j,none⟩=some u:=fun hp=>by
 obtain⟨b,off,e,hlt,hc⟩:=h hp
 exact⟨b,off,e,by omega,hc⟩
theorem pM.below {H:Nat}{w w':World}{a:Option Addr}{n:Nat}{cs:List Value}(h:pM H w a n cs)(hb:Below H w w'):pM H w' a n cs:=fun hp=>by
 obtain⟨b,off,e,hlt,hc⟩:=h hp
 exact⟨b,off,e,hlt,fun j u hj=>(hb.cell (p:=⟨b,off+j,none⟩) hlt).trans (hc j u hj)⟩
theorem dU.srcAt {Q:Nat->Prop}{w:World}{a:Option Addr}{n:Nat}{l:List Ent}(h:dU Q w a n l):pM w.heap.size w a n (bK l):=fun hp=>by
 obtain⟨b,off,rfl,hlt,_⟩:=h.2.2 hp
 exact⟨b,off,rfl,hlt,h.cells⟩
def cX0 (base:Nat)(L:Nat->Prop)(e:Ending)(w:World)(x:aK):Prop:=∃ v ms,e=.returned v.val/\fQ base L w v x ms
theorem aX4 (Q:Nat->Prop)(v:cB)(x:aK)(w:World)(hX:dK Q w v x)(h6:x.files.length<=6)(h3:x.snaps.length<=3)(hs6:∀ s∈x.snaps,s.files.length<=6):
 Calls Tryz.prog 33 #[v.val] w fun e w'=>cX0 (w.heap.size+2) (fun b=>w.heap.size+2<=b) e w' x/\Below w.heap.size w w':=by
 obtain⟨vn,fa,fn,fc,sa,sn,sc⟩:=v
 obtain⟨hnm,hsm,hFi,hSn,hcap⟩:=hX
 simp only at hnm hFi hSn
 subst hnm
 unfold cB.val
 simp only
 have b0:=aW w (.cells #[.string x.name,.slice fa fn fc,.slice sa sn sc] 84) (.cells #[.string ⟨#[]⟩,.slice none 0 0,.slice none 0 0] 84)
 have k0:aC _ w.heap.size #[.string x.name,.slice fa fn fc,.slice sa sn sc] 84:=(aB w _ _).below (aA _ (.cells #[.string ⟨#[]⟩,.slice none 0 0,.slice none 0 0] 84))
 have k1:=aF w (.cells #[.string x.name,.slice fa fn fc,.slice sa sn sc] 84) #[.string ⟨#[]⟩,.slice none 0 0,.slice none 0 0] 84
 have hz0:((w.alloc (.cells #[.string x.name,.slice fa fn fc,.slice sa sn sc] 84)).alloc (.cells #[.string ⟨#[]⟩,.slice none 0 0,.slice none 0 0] 84)).heap.size=w.heap.size+2:=by simp
 have hsl:=hid hSn.1
 have hfl:=hid hFi.1
 have hoks:=hid hFi.2.1
 have hfn:fn<=6:=by rw[<-hFi.1]; exact h6
 have hsn:sn<=3:=by rw[<-hSn.1]; exact h3
 have hcsE:=hid (hFi.srcAt.below b0)
 obtain⟨ms,hms1,hms2,hms3⟩:=(hSn.weaken (R:=fun b=>b<w.heap.size) (fun b hb _=>hb)).rows
 have hms3':pM w.heap.size w sa sn (dC ms):=hms3
 have hms2':∀ m∈ms,m.At (fun b=>b<w.heap.size) w:=hms2
 replace hms1:=hid hms1
 replace hms2:=hid hms2'
 replace hms3:=hid hms3'
 replace k0:=hid k0
 replace k1:=hid k1
 replace hs6:=hid hs6
 clear hcap h6 h3 hSn hFi hms2' hms3'
 go_enter Tryz.func33,Tryz.ntmps33
 go_wp2_with fail
 generalize (w.alloc (.cells #[.string x.name,.slice fa fn fc,.slice sa sn sc] 84)).alloc (.cells #[.string ⟨#[]⟩,.slice none 0 0,.slice none 0 0] 84)=w0 at *
 refine(mG fa fn fc (bK x.files) w0 (by omega) (by rw[fZ,hfl.out]) (fF _) (hcsE.out.src b0.size)).mono ?_
 rintro e w1 ⟨b1,fa', fc', rfl,hfc,hoF⟩
 have x0:=(b1.cell (p:=⟨w.heap.size,0,none⟩) k0.out.lt).trans (k0.out.cell 0)
 have x1:=(b1.cell (p:=⟨w.heap.size,1,none⟩) k0.out.lt).trans (k0.out.cell 1)
 have x2:=(b1.cell (p:=⟨w.heap.size,2,none⟩) k0.out.lt).trans (k0.out.cell 2)
 have f1:=(k0.out.below b1).frozen 1
 simp at x0 x1 x2
 replace k0:=hid (k0.out.below b1)
 replace k1:=hid (k1.out.below b1)
 replace hoF:=hid hoF
 go_wp2_with fail
 have kk:=Kept.setCell (g:=w.heap.size) (Kept.refl _ w1) (p:=⟨w.heap.size,1,none⟩) rfl (.slice fa' fn fc')
 have bb1:=Below.tr b0 b1
 have k0':=k0.out.set 1 (.slice fa' fn fc')
 have k1':=k1.out.past (a:=⟨w.heap.size,1,none⟩) (by simp) (.slice fa' fn fc')
 have on1:Only (fun b=>b=w.heap.size) w0 (w1.setCell ⟨w.heap.size,1,none⟩ (.slice fa' fn fc')):=(Only.of_below b1).trans (Only.of_kept kk rfl)
 have hoF':=(Only.of_kept (M:=fun b=>b=w.heap.size) kk rfl).row hoF.out (fun b hb e=>by subst e; have:=(hoF.out.lt _ hb).1; omega)
 have bb2:Below w.heap.size w (w1.setCell ⟨w.heap.size,1,none⟩ (.slice fa' fn fc')):=bb1.trans (kk.below (Nat.le_refl _))
 have hz2:w.heap.size+2<=(w1.setCell ⟨w.heap.size,1,none⟩ (.slice fa' fn fc')).heap.size:=by rw[kk.size]; have:=b1.size; omega
 simp only[List.setIfInBounds_toArray,List.set_cons_succ,List.set_cons_zero] at k0'
 clear x0 x1 x2 f1 kk b1 k0 k1 hoF bb1
 generalize w1.setCell ⟨w.heap.size,1,none⟩ (.slice fa' fn fc')=w2 at *
 have hml:ms.length=sn:=by rw[<-hsl.out,<-hms1.out,List.length_map]
 have x2:=k0'.cell 2
 simp at x2
 replace k0':=hid k0'
 replace k1':=hid k1'
 replace hoF':=hid hoF'
 go_wp2_with fail
 refine(bJ9 sa sn sc (dC ms) w2 (by omega) (by rw[iJ,hml]) (mU _) ((hms3.out.below bb2).src (by omega))).mono ?_
 rintro e w3 ⟨b3,sa', sc', rfl,hsc,hoS⟩
 clear x2
 have x2:=((k0'.out.below b3).cell 2)
 have f2:=(k0'.out.below b3).frozen 2
 simp at x2
 replace hoS:=hid hoS
 go_wp2_with fail
 have kk:=Kept.setCell (g:=w.heap.size) (Kept.refl _ w3) (p:=⟨w.heap.size,2,none⟩) rfl (.slice sa' sn sc')
 have hC:aD3 w.heap.size w (w3.setCell ⟨w.heap.size,2,none⟩ (.slice sa' sn sc')) x fa' fn fc' sa' sn sc' 0 ms:=by
  have k0'':=(k0'.out.below b3).set 2 (.slice sa' sn sc')
  simp only[List.setIfInBounds_toArray,List.set_cons_succ,List.set_cons_zero] at k0''
  have on3:Only (fun b=>b=w.heap.size) w2 (w3.setCell ⟨w.heap.size,2,none⟩ (.slice sa' sn sc')):=(Only.of_below b3).trans (Only.of_kept kk rfl)
  have bb3:Below w.heap.size w (w3.setCell ⟨w.heap.size,2,none⟩ (.slice sa' sn sc')):=bb2.trans ((b3.mono (by omega)).trans (kk.below (Nat.le_refl _)))
  refine⟨k0'', on3.cells k1'.out (by omega),dE (by omega) (on3.row hoF'.out (fun b hb e=>by subst e; have:=(hoF'.out.lt _ hb).1; omega)),dE hz2 ((Only.of_kept (M:=fun b=>b=w.heap.size) kk rfl).row hoS.out (fun b hb e=>by subst e; have:=(hoS.out.lt _ hb).1; omega)),hms1.out,fun i m _ hi=>absurd hi (by omega),fun i m hi _=>?_,fun b hb hb2=>?_,bb3,?_⟩
  ·have hm:=hms2.out m (List.mem_of_getElem? hi)
   exact⟨⟨hm.files.1,hm.files.2.1,fun hp=>by
    obtain⟨b,off,e,hlt,hq,hc⟩:=hm.files.2.2 hp
    exact⟨b,off,e,by have:=bb3.size; omega,hq,fun k hk=>⟨(bb3.cell (p:=⟨b,off+k*3,none⟩) hq).trans (hc k hk).c0,(bb3.cell (p:=⟨b,off+k*3+1,none⟩) hq).trans (hc k hk).c1,(bb3.cell (p:=⟨b,off+k*3+2,none⟩) hq).trans (hc k hk).c2⟩⟩⟩,hm.caps,hm.small⟩
  ·have h1:=(hoF'.out.lt b hb).2
   have h2:=(hoS.out.lt b hb2).1
   omega
  ·rw[kk.size]; have:=b3.size; omega
 clear x2 f2 kk k0' k1' hoF' hoS b3 hz2 bb2 on1 hcsE hms2 hms3
 generalize w3.setCell ⟨w.heap.size,2,none⟩ (.slice sa' sn sc')=w4 at *
 have y2:=hC.box.cell 2
 simp at y2
 replace hC:=hid hC
 go_wp2_with fail
 clear y2
 go_loopw [15] (fun v wr=>∃ (j:Nat) (ms:List aZ),j<=sn/\v=.int .i64 j/\aD3 w.heap.size w wr x fa' fn fc' sa' sn sc' j ms) (fun v _=>sn-(Go.RowKit.intOf v).toNat)
 case atStart=>exact⟨0,ms,Nat.zero_le _,rfl,hC.out⟩
 case round=>
  clear hC hms1 hml
  obtain⟨j,ms,hj,rfl,hC⟩:=hrel
  have hml:ms.length=sn:=by rw[<-hsl.out,<-hC.eq,List.length_map]
  by_cases hlt:j<sn
  ·have hjl:j<ms.length:=by omega
   obtain⟨sb,rfl⟩:∃ sb,sa'=some ⟨sb,0,none⟩:=by
    rcases hC.snaps.2 with⟨h0,h1⟩ | ⟨g,cap,cur,h0,_⟩
    ·omega
    ·simp only[Value.slice.injEq] at h0; exact⟨g,h0.1⟩
   have hx:ms[j]? =some ms[j]:=List.getElem?_eq_getElem hjl
   have hme:ms[j].e∈x.snaps:=by rw[<-hC.eq]; exact List.mem_map_of_mem (List.getElem_mem hjl)
   have hg6:=hs6.out _ hme
   have hAt:=hC.todo j _ hx (Nat.le_refl _)
   have c1:wr.cell? ⟨sb,j*2+1,none⟩=some (.slice ms[j].fa ms[j].fn ms[j].fc):=(hC.snaps.cellAt (j*2+1) (by omega)).trans (flat_get aZ.cells_len ms j 1 hjl (by omega))
   have fr:=hC.snaps.frozenAt (j*2+1)
   have y2:=hC.box.cell 2
   simp at y2
   have hgl:=hAt.files.1
   have hgn:ms[j].fn<=6:=by omega
   have hgok:=hid hAt.files.2.1
   have hgs:=hid hAt.files.srcAt
   replace hx:=hid hx
   generalize ms[j]=m at *
   have hsb:=hC.snaps.lt sb rfl
   have hj0:(0:Int)<=(j:Int):=by omega
   have hjs:(j:Int)<(sn:Int):=by omega
   have hbx:=hC.box.lt
   have J:Hid (∀ (w7:World) (a':Option Addr) (c':Nat),Below wr.heap.size wr w7->m.fn<=c'->w7.ownsRow wr.heap.size 106 3 (.slice a' m.fn c') m.fn (bK m.e.files)->aD3 w.heap.size w (w7.setCell ⟨sb,j*2+1,none⟩ (.slice a' m.fn c')) x fa' fn fc' (some ⟨sb,0,none⟩) sn sc' (j+1) (ms.set j { m with fa:=a', fc:=c' })):=hid (fun w7 a' c' b7 hc ho=>hC.next hx.out hgok.out b7 hc ho)
   clear hC hAt
   go_upto_region 6 with fail
   go_region_with (go_at_call 61; refine(mG m.fa m.fn m.fc (bK m.e.files) _ (by omega) (by rw[fZ,hgl]) (fF _) ?_).mono ?_; exact hgs.out.src (Nat.le_refl _); rintro e w7 ⟨b7,a', c', rfl,hc,ho⟩; replace b7:Below wr.heap.size wr w7:=(aD _ _).trans b7; have z2:=(b7.cell (p:=⟨w.heap.size,2,none⟩) hbx).trans y2; have d1:=(b7.cell (p:=⟨sb,j*2+1,none⟩) hsb.2).trans c1; have e1:=(b7.frozen (p:=⟨sb,j*2+1,none⟩) hsb.2).trans fr; replace ho:=hid ho; replace b7:=hid b7)
   all_goals (
    go_wp2_with fail
    go_roundw
    case rel=>exact⟨j+1,_,by omega,by go_num,J.out _ _ _ b7.out hc ho.out⟩
    case measure=>simp[Go.RowKit.intOf]; omega)
  ·obtain rfl:j=sn:=by omega
   have y0:=hC.box.cell 0
   have y1:=hC.box.cell 1
   have y2:=hC.box.cell 2
   have r0:=hC.res.cell 0
   have r1:=hC.res.cell 1
   have r2:=hC.res.cell 2
   have g0:=hC.res.frozen 0
   have g1:=hC.res.frozen 1
   have g2:=hC.res.frozen 2
   simp at y0 y1 y2 r0 r1 r2
   replace hC:=hid hC
   go_wp2_with fail
   clear y0 y1 y2 r0 r1 r2 g0 g1 g2
   have k3:=((hC.out.res.set 0 (.string x.name)).set 1 (.slice fa' fn fc')).set 2 (.slice sa' j sc')
   simp only[List.setIfInBounds_toArray,List.set_cons_succ,List.set_cons_zero] at k3
   have kk:Kept (w.heap.size+1) wr (((wr.setCell ⟨w.heap.size+1,0,none⟩ (.string x.name)).setCell ⟨w.heap.size+1,1,none⟩ (.slice fa' fn fc')).setCell ⟨w.heap.size+1,2,none⟩ (.slice sa' j sc')):=
    Kept.setCell (g:=w.heap.size+1) (Kept.setCell (g:=w.heap.size+1) (Kept.setCell (g:=w.heap.size+1) (Kept.refl _ _) (p:=⟨w.heap.size+1,0,none⟩) rfl _) (p:=⟨w.heap.size+1,1,none⟩) rfl _) (p:=⟨w.heap.size+1,2,none⟩) rfl _
   have on:=Only.of_kept (M:=fun b=>b=w.heap.size+1) kk rfl
   refine bodyPost_ret (v:=.agg #[.string x.name,.slice fa' fn fc', .slice sa' j sc']) ?_ rfl ⟨⟨⟨x.name,fa', fn,fc', sa', j,sc'⟩,ms,rfl,rfl,hsm,?_,?_,hC.out.eq,hoks.out,fun m hm=>?_,hC.out.apart⟩,hC.out.bel.trans (kk.below (by omega))⟩
   ·exact results_cell_row rfl _ _ (w.heap.size+1) _ _ _ _ rfl k3 Tryz.underlying84 rfl (by kernel_rfl)
   ·exact on.row hC.out.files (fun b hb e=>by subst e; have:=(hC.out.files.lt _ hb).1; omega)
   ·exact on.row hC.out.snaps (fun b hb e=>by subst e; have:=(hC.out.snaps.lt _ hb).1; omega)
   ·obtain⟨i,hi,rfl⟩:=List.mem_iff_getElem.1 hm
    refine(on.snap (hC.out.done i _ (List.getElem?_eq_getElem hi) (by omega)) (fun b q e=>by subst e; have:=q.1; omega)).weaken (fun b _ q=>⟨q.1,fun f=>?_⟩)
    rcases f with f | f
    ·exact q.2.1 f
    ·exact q.2.2 f
end Go.Proofs.YtjafgnohlkkopaaGreatDoor
