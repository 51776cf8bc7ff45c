import Derived.Test.YtjafgnohlkkopaaGreatDoorPart17
set_option linter.unusedVariables false
set_option maxHeartbeats 8000000
set_option maxRecDepth 100000
namespace Go.Proofs.YtjafgnohlkkopaaGreatDoor
open Go.RowKit
theorem cP3 {l:List Ent}{p:Nat}(hp:p<=l.length)(f:Ent):∃ h:p<(l.take p++f::l.drop p).length,(l.take p++f::l.drop p)[p]=f:=by
 have hl:(l.take p).length=p:=by rw[List.length_take]; omega
 refine⟨by rw[List.length_append,hl,List.length_cons]; omega,?_⟩
 rw[List.getElem_append_right (by omega)]
 simp[hl]
theorem cK6 {l:List Ent}{p:Nat}(hp:p<=l.length)(f g:Ent):(l.take p++f::l.drop p).set p g=l.take p++g::l.drop p:=by
 have hl:(l.take p).length=p:=by rw[List.length_take]; omega
 rw[List.set_append,if_neg (by omega),hl,Nat.sub_self,List.set_cons_zero]
theorem bL9 (base:Nat)(L:Nat->Prop)(ob yb g n:Nat)(B:Nat->Blk)(key:Int)(v:cB)(x:aK)(ms:List aZ)(a:aP)(ba:Option Addr)(bn bc:Nat)(cc:Int)(w:World)(hT:Two base L w ob yb g n B v x ms)(hx:aV n B key x)(hB:aI (fun _=>True) .u8 w ba bn a.bytes)(hao:a.ok)(h64:64<=cc)(hcm:cc<=999936)(hc:∀ k,k<n->(B k).refs<=cc)(hbw:base<=w.heap.size)(hth:¬∃ f∈x.files,f.nm=a.file.data.toList):
 Calls Tryz.prog 120 #[.pointer (some ⟨ob,0,none⟩),.int .i64 key,.pointer (some ⟨yb,0,none⟩),a.val ba bn bc] w fun e w'=>pO base w ob yb n B key v x a.file (0<=a.pos/\a.pos+(a.bytes.length:Int)<=256) (fun e=>e=pK a.pos (a.bytes.length:Int)) (fun root size=>gN ((aR key (aH B 3 root)).take size.toNat) a.pos.toNat a.bytes) cc e w':=by
 have hfl:=hT.set.entsAt.1
 have hfn:v.fn<=6:=by rw[<-hfl]; exact hx.files.few
 have ho:=hid hx.files.order
 unfold aP.val
 have b0:=aA w (.cells #[.int .i64 a.kind,.string a.set,.string a.file,.string a.to,.int .i64 a.pos,.int .i64 a.num,.slice ba bn bc] 30)
 have k0:aC _ w.heap.size #[.int .i64 a.kind,.string a.set,.string a.file,.string a.to,.int .i64 a.pos,.int .i64 a.num,.slice ba bn bc] 30:=aB w _ _
 have hnm:a.file.size<=maxLen:=hao.1.2.1
 have hobl:=hT.box.lt
 have hybl:=hT.set.box.lt
 replace hth:=hid hth
 have hT0:=hid hT
 have hB0:=hid hB
 replace hT:=hT.below b0
 replace hB:=hid (hB.below b0)
 replace hx:=hid hx
 replace hc:=hid hc
 replace hfl:=hid hfl
 go_enter Tryz.func120,Tryz.ntmps120
 go_wp2_with fail
 generalize w.alloc (.cells #[.int .i64 a.kind,.string a.set,.string a.file,.string a.to,.int .i64 a.pos,.int .i64 a.num,.slice ba bn bc] 30)=w0 at *
 refine(iO a.file w0 hnm).mono ?_
 rintro e w0' ⟨⟨t,rfl,ht⟩,rfl⟩
 have a2:=k0.cell 2
 simp at a2
 replace hT:=hid hT
 cases t
 ·have hno:Hid (¬aM a.file):=hid (fun f=>Bool.false_ne_true (ht.2 f))
  clear ht
  replace k0:=hid k0
  go_wp2_with fail
  go_ret2
  exact⟨0,1,rfl,Only.of_below b0,.inl ⟨by omega,fun _=>rfl,fun f=>absurd f hno.out,fun f=>absurd f hno.out⟩⟩
 have hyes:Hid (aM a.file):=hid (ht.1 rfl)
 clear ht
 replace k0:=hid k0
 go_upto_region 4 with fail
 have b1:=aA w0' (.cells #[.string a.file,.int .i64 0,.int .i64 0] 106)
 have k1:aC _ w0'.heap.size #[.string a.file,.int .i64 0,.int .i64 0] 106:=aB w0' _ _
 replace hT:=hT.out.below b1
 have hak:=k0.out.lt
 replace k0:=k0.out.below b1
 replace hB:=hid (hB.out.below b1)
 replace b1:=Below.tr b0 b1
 generalize hH1:w0'.heap.size=H1 at *
 generalize w0'.alloc (.cells #[.string a.file,.int .i64 0,.int .i64 0] 106)=w1 at *
 have y1:=hT.set.box.cell 1
 have a2:=k0.cell 2
 simp at y1 a2
 replace hT:=hid hT
 replace k0:=hid k0
 replace k1:=hid k1
 have hyl1:=hT.out.set.box.lt
 have hal1:=k0.out.lt
 go_region_held3 (fun w'=>w'.cell? ⟨yb,1,none⟩=some (.slice v.fa v.fn v.fc)/\w'.cell? ⟨w.heap.size,2,none⟩=some (.string a.file)) (first | go_keep | assumption) (first | (go_at_call 115; refine Calls.mono (iR _ v.fa v.fn v.fc x.files a.file _ (by omega) (hT.out.set.entsAt.below (aD _ _)) ho.out) ?_; rintro e w2 ⟨⟨p,b,rfl,hF⟩,b2⟩; replace b2:Below w1.heap.size w1 w2:=(aD _ _).trans b2; have y2:=(b2.cell (p:=⟨yb,1,none⟩) hyl1).trans y1; have a3:=(b2.cell (p:=⟨w.heap.size,2,none⟩) hal1).trans a2; replace hF:=hid hF))
 replace k1:=k1.out.below b2
 replace k0:=k0.out.below b2
 replace hB:=hid (hB.out.below b2)
 replace b2:=Below.tr b1 b2
 cases b
 case true=>exact absurd ((dI ho.out hF.out).1 rfl) hth.out
 case false=>
  have hfd:=hid (jX ho.out hF.out)
  have hpl:p<=x.files.length:=hF.out.le
  obtain⟨f,hff⟩:∃ f:Ent,f=⟨a.file,0,0⟩:=⟨_,rfl⟩
  have kE:aC w2 H1 #[.string f.name,.int .i64 f.root,.int .i64 f.size] 106:=by rw[hff]; exact k1
  have kA:=k0
  replace hff:=hid hff
  have hH1:w.heap.size<=H1:=by omega
  have b3:=b2
  clear k1 k0 hB
  replace kE:=hid kE
  replace kA:=hid kA
  go_upto_region 7 with fail
  clear y2 a3
  replace kE:=kE.out
  replace kA:=kA.out
  generalize w2=w3 at *
  have hT3:=hT0.out.below b3
  have hB3:=hB0.out.below b3
  have o0:=hT3.box.cell 0
  have e1:=kE.cell 1
  have e2:=kE.cell 2
  have a4:=kA.cell 4
  have a6:=kA.cell 6
  simp at o0 e1 e2 a4 a6
  have lo:=hT3.box.lt
  have le:=kE.lt
  have la:=kA.lt
  have hst:=hid (fun W0 (bb:Below w3.heap.size w3 W0)=>(hT3.own.store).below bb)
  have hby:=hid (fun W0 (bb:Below w3.heap.size w3 W0)=>hB3.below bb)
  have HB1:=hid (bDr (Below.refl _ w3))
  have HB2:=hid (bDr (bAl (Below.refl _ w3) dG))
  have HB3:=hid (bDr (bAl (Below.refl _ w3) gK))
  have HB4:=hid (bDr (bAl (bAl (Below.refl _ w3) dG) gK))
  have HB5:=hid (bDr (bAl (bAl (Below.refl _ w3) gK) dG))
  have HZ1:Hid (w3.heap.size<=w3.drew.heap.size):=hid (Nat.le_refl _)
  have HZ2:Hid (w3.heap.size+1<=(w3.alloc dG).drew.heap.size):=hid (by show _<=(w3.alloc dG).heap.size; simp)
  have HZ3:Hid (w3.heap.size+1<=(w3.alloc gK).drew.heap.size):=hid (by show _<=(w3.alloc gK).heap.size; simp)
  have HZ4:Hid (w3.heap.size+2<=((w3.alloc dG).alloc gK).drew.heap.size):=hid (by show _<=((w3.alloc dG).alloc gK).heap.size; simp)
  have HZ5:Hid (w3.heap.size+2<=((w3.alloc gK).alloc dG).drew.heap.size):=hid (by show _<=((w3.alloc gK).alloc dG).heap.size; simp)
  have ka2:=hid ((aB w3 #[.slice none 0 0] 24).below (aD _ _))
  have kb3:=hid ((aB w3 #[.int .i64 0,.int .i64 0] 104).below (aD _ _))
  have ka4:=hid (((aB w3 #[.slice none 0 0] 24).below (aA _ gK)).below (aD _ _))
  have kb4:=hid ((aF w3 dG #[.int .i64 0,.int .i64 0] 104).below (aD _ _))
  have kb5:=hid (((aB w3 #[.int .i64 0,.int .i64 0] 104).below (aA _ dG)).below (aD _ _))
  have ka5:=hid ((aF w3 gK #[.slice none 0 0] 24).below (aD _ _))
  have nlo:=Nat.ne_of_lt lo
  have nle:=Nat.ne_of_lt le
  have nla:=Nat.ne_of_lt la
  have nlo':=nlo.symm
  have nle':=nle.symm
  have nla':=nla.symm
  have nlo2:ob≠w3.heap.size+1:=by omega
  have nle2:H1≠w3.heap.size+1:=by omega
  have nla2:w.heap.size≠w3.heap.size+1:=by omega
  have nlo2':=nlo2.symm
  have nle2':=nle2.symm
  have nla2':=nla2.symm
  replace hT3:=hid hT3
  replace kE:=hid kE
  replace kA:=hid kA
  replace hB3:=hid hB3
  go_cut [13,14,15] from 41 (fun v13 v14 v15 wc=>cI7 w3 wc n B key f.root f.size (0<=a.pos/\a.pos+(a.bytes.length:Int)<=256) (fun e=>e=pK a.pos (a.bytes.length:Int)) (gN ((aR key (aH B 3 f.root)).take f.size.toNat) a.pos.toNat a.bytes) cc v13 v14 v15)
  case first=>
   go_region_held3 (fun w'=>w'.cell? ⟨ob,0,none⟩=some (.slice (some ⟨g,0,none⟩) n n)/\w'.cell? ⟨H1,1,none⟩=some (.int .i64 f.root)/\w'.cell? ⟨H1,2,none⟩=some (.int .i64 f.size)/\w'.cell? ⟨w.heap.size,4,none⟩=some (.int .i64 a.pos)/\w'.cell? ⟨w.heap.size,6,none⟩=some (.slice ba bn bc)) (first | go_keep | assumption) (first | (go_at_call 148; (refine Calls.mono (pV (some ⟨g,0,none⟩) n n B key f.root f.size a.pos ba bn bc a.bytes cc _ ?_ ?_ h64 hcm hc.out) ?_; (first | with_reducible exact hst.out _ HB1.out | with_reducible exact hst.out _ HB2.out | with_reducible exact hst.out _ HB3.out | with_reducible exact hst.out _ HB4.out | with_reducible exact hst.out _ HB5.out); (first | with_reducible exact hby.out _ HB1.out | with_reducible exact hby.out _ HB2.out | with_reducible exact hby.out _ HB3.out | with_reducible exact hby.out _ HB4.out | with_reducible exact hby.out _ HB5.out); rintro e w6 ⟨⟨x', ln,lc,ra,rs,e', rfl,hcase⟩,b6⟩; (first | (with_reducible have bb:=hid (Below.tr HB1.out b6); have hw:=hid (iW.base (base':=w3.heap.size) hcase HZ1.out)) | (with_reducible have bb:=hid (Below.tr HB2.out b6); have ka:=hid (ka2.out.below b6); have hw:=hid (iW.base (base':=w3.heap.size+1) hcase HZ2.out)) | (with_reducible have bb:=hid (Below.tr HB3.out b6); have kb:=hid (kb3.out.below b6); have hw:=hid (iW.base (base':=w3.heap.size+1) hcase HZ3.out)) | (with_reducible have bb:=hid (Below.tr HB4.out b6); have ka:=hid (ka4.out.below b6); have kb:=hid (kb4.out.below b6); have hw:=hid (iW.base (base':=w3.heap.size+2) hcase HZ4.out)) | (with_reducible have bb:=hid (Below.tr HB5.out b6); have ka:=hid (ka5.out.below b6); have kb:=hid (kb5.out.below b6); have hw:=hid (iW.base (base':=w3.heap.size+2) hcase HZ5.out))); have s0:=(bb.out.cell (p:=⟨ob,0,none⟩) lo).trans o0; have s1:=(bb.out.cell (p:=⟨H1,1,none⟩) le).trans e1; have s2:=(bb.out.cell (p:=⟨H1,2,none⟩) le).trans e2; have s4:=(bb.out.cell (p:=⟨w.heap.size,4,none⟩) la).trans a4; have s6:=(bb.out.cell (p:=⟨w.heap.size,6,none⟩) la).trans a6; have hs6:=bb.out.size; have m1:ob≠w6.heap.size:=(by omega); have m2:H1≠w6.heap.size:=(by omega); have m3:w.heap.size≠w6.heap.size:=(by omega); have m4:ob≠w6.heap.size+1:=(by omega); have m5:H1≠w6.heap.size+1:=(by omega); have m6:w.heap.size≠w6.heap.size+1:=(by omega); have m1':=m1.symm; have m2':=m2.symm; have m3':=m3.symm; have m4':=m4.symm; have m5':=m5.symm; have m6':=m6.symm; (try (have lka:=ka.out.lt; have nka:=Nat.ne_of_lt lka; have nka':=nka.symm; have ca:=ka.out.cell 0; have fra:=ka.out.frozen 0; simp only[List.getElem?_toArray,List.getElem?_cons_zero] at ca)); (try (have lkb:=kb.out.lt; have nkb:=Nat.ne_of_lt lkb; have nkb':=nkb.symm; have cb0:=kb.out.cell 0; have cb1:=kb.out.cell 1; have frb0:=kb.out.frozen 0; have frb1:=kb.out.frozen 1; simp only[List.getElem?_toArray,List.getElem?_cons_zero,List.getElem?_cons_succ] at cb0 cb1)); clear hcase b6)))
   all_goals (go_wp2_with fail; go_meet; first
    | with_reducible exact aV5 bb.out hw.out (Nat.le_refl _)
    | with_reducible exact aV4 bb.out hw.out (Nat.le_refl _)
    | with_reducible exact aV7 (a:=w3.heap.size) (Nat.le_refl _) (Nat.lt_succ_self _) ka.out bb.out hw.out (Nat.le_succ _)
    | with_reducible exact aV6 (a:=w3.heap.size) (Nat.le_refl _) (Nat.lt_succ_self _) kb.out bb.out hw.out (Nat.le_succ _)
    | with_reducible exact tH (a:=w3.heap.size) (b:=w3.heap.size+1) (Nat.le_refl _) (Nat.le_succ _) (by omega) (by omega) (by omega) ka.out kb.out bb.out hw.out (by omega)
    | with_reducible exact tH (a:=w3.heap.size+1) (b:=w3.heap.size) (Nat.le_succ _) (Nat.le_refl _) (by omega) (by omega) (by omega) ka.out kb.out bb.out hw.out (by omega))
  case rest=>
   obtain⟨a13,a14,x', ln,lc,ra,rs,e', rfl,rfl,rfl,k13,k14,bC,h13,h14,hW⟩:=hcut
   have bW:=Below.tr b3 bC
   have hok:Hid (bQ n B key f.root f.size):=hid (by rw[hff.out]; exact(aW1 hx.out.right hx.out.kb ⟨Int.le_refl (0:Int),show (0:Int)<=256 by decide⟩).1)
   have hNm:Hid (bX7 x a.file f.root f.size):=hid (.inr ⟨hth.out,by rw[hff.out],by rw[hff.out]⟩)
   clear HB1 HB2 HB3 HB4 HB5 HZ1 HZ2 HZ3 HZ4 HZ5 ka2 kb3 ka4 kb4 kb5 ka5 hst hby nlo nle nla nlo' nle' nla' nlo2 nle2 nla2 nlo2' nle2' nla2' o0 e1 e2 a4 a6
   rcases hW with⟨rfl,rfl,rfl,rfl,rfl,he,hwhy⟩ | ⟨rfl,hfok,hrng,g', C,rfl,hln,hlc,rfl,hg', hOw,hTu⟩
   ·have he':(e' == 0)=false:=by simp[he]
    replace hwhy:=hid hwhy
    go_wp2_with fail
    go_ret2
    exact⟨0,e', rfl,Only.of_below bW,.inl ⟨he,fun f=>absurd hyes.out f,fun _ h2=>(hwhy.out hok.out).2 h2,fun _ h2=>.inl ⟨((hwhy.out hok.out).1 h2).1,f.root,f.size,hNm.out,((hwhy.out hok.out).1 h2).2⟩⟩⟩
   ·obtain rfl:=hln.symm
    obtain rfl:=hlc.symm
    have hT9:=hT0.out.below bW
    have hmlt:∀ b,v.mine b->b<w.heap.size:=fun b hb=>(hT0.out.set.new.mine_ge hb).2
    have hlen:=aE8 key (aH B 3 f.root) f.size.toNat a.pos.toNat a.bytes (by have:=hrng.1; have:=hrng.2; omega)
    have hbw3:=b3.size
    have hS9:nL base (fun b=>L b/\b<w.heap.size) wc yb v x ms:=⟨hT9.set.box,(hT0.out.set.new.weaken (fun b hb h=>⟨h,hb⟩)).below bW,hT9.set.ny,fun h=>hT9.set.nl h.1⟩
    have q1:=hT9.set.box.cell 1
    simp at q1
    replace hrng:=hid hrng
    replace hTu:=hid hTu
    replace hOw:=hid hOw
    replace hfok:=hid hfok
    replace hT9:=hid hT9
    replace hS9:=hid hS9
    replace hmlt:=hid hmlt
    by_cases h6:(v.fn:Int)=6
    ·have h6':((v.fn:Int) == 6)=true:=by simp[h6]
     go_wp2_with fail
     go_ret2
     exact⟨0,2,rfl,Only.of_below bW,.inl ⟨by omega,fun f=>absurd hyes.out f,fun _ f=>absurd hrng.out f,fun _ _=>.inr ⟨rfl,hth.out,by rw[hfl.out]; omega⟩⟩⟩
    ·have h6':((v.fn:Int) == 6)=false:=by simp[h6]
     have kE9:=kE.out.below bC
     have g0:=kE9.cell 0
     have g1:=kE9.cell 1
     have g2:=kE9.cell 2
     simp at g0 g1 g2
     have hylc:=hT9.out.set.box.lt
     have hn6:=Nat.ne_of_lt hylc
     have hn6':=hn6.symm
     have hk6:=Nat.ne_of_lt kE9.lt
     have hk6':=hk6.symm
     have hpv:p<=v.fn:=by rw[<-hfl.out]; exact hpl
     have hfo:f.ok:=by rw[hff.out]; exact⟨hnm,⟨show (-9223372036854775808:Int)<=0 by decide,show (0:Int)<=9223372036854775807 by decide⟩,show (-9223372036854775808:Int)<=0 by decide,show (0:Int)<=9223372036854775807 by decide⟩
     have hbwc:base<=wc.heap.size:=Nat.le_trans hbw bW.size
     replace hfo:=hid hfo
     replace kE9:=hid kE9
     go_upto_region 13 with fail
     go_region_with (go_at_call 149; refine(uO base _ yb v x ms f p wc hS9.out hpv hfn hbwc hfo.out).mono ?_; rintro e w7 ⟨fa', fc', rfl,hbx,hfin⟩; have t1:=hbx.cell 1; have t2:=hbx.frozen 1; simp at t1; replace hfin:=hid hfin; replace hbx:=hid hbx)
     all_goals (
      obtain⟨v', hP7,hv1,hv2,hv3,on7,hm7⟩:=hfin.out
      obtain⟨hp', hpf⟩:=cP3 hpl f
      have hsz:wc.heap.size<=(w7.setCell ⟨yb,1,none⟩ (.slice fa' (v.fn+1) fc')).heap.size:=on7.size
      clear hfin hbx t1 t2 q1 g0 g1 g2
      have hyn:¬Mine yb v ob:=fun m=>by
       rcases m with m | m
       ·exact hT9.out.no.1 m
       ·exact hT9.out.no.2.1 m
      have hmb:∀ b,Mine yb v b->b<w.heap.size:=fun b m=>by
       rcases m with m | m
       ·omega
       ·exact hmlt.out b m
      have hO8:=rG hOw.out on7 (fun b _ m=>by have:=hmb b m; omega)
      have hb8:=on7.cells hT9.out.box hyn
      have k13':=on7.cells k13 (fun m=>by have:=hmb _ m; omega)
      have k14':=on7.cells k14 (fun m=>by have:=hmb _ m; omega)
      have hl8:dO (fun b=>b≠yb/\¬v'.mine b/\b≠ob) (w7.setCell ⟨yb,1,none⟩ (.slice fa' (v.fn+1) fc')) g' 0 n C:=by
       have h1:dO (fun b=>(b≠yb/\¬v'.mine b/\b≠ob)/\¬Mine yb v b) wc g' 0 n C:=hOw.out.blocks.weaken (fun b hb q=>⟨⟨by omega,fun m=>by
        rcases hm7 b m with h | h
        ·have:=hmlt.out b h; omega
        ·omega,by omega⟩,fun m=>by have:=hmb b m; omega⟩)
       exact(on7.blocks h1 (fun m=>by have:=hmb _ m; omega) hOw.out.lt (fun k q=>q.2)).weaken (fun b _ q=>q.1)
      generalize w7.setCell ⟨yb,1,none⟩ (.slice fa' (v.fn+1) fc')=w8 at *
      obtain⟨fb,hfb⟩:∃ fb,v'.fa=some ⟨fb,0,none⟩:=by
       rcases hP7.new.files.2 with⟨h0,h1⟩ | ⟨g,cap,cur,h0,_⟩
       ·omega
       ·simp only[Value.slice.injEq] at h0; exact⟨g,h0.1⟩
      have hnm':¬v'.mine ob:=fun m=>by
       rcases hm7 ob m with h | h
       ·exact hT9.out.no.2.1 h
       ·have:=hT9.out.box.lt; omega
      have hng':¬v'.mine g':=fun m=>by
       rcases hm7 g' m with h | h
       ·have:=hmlt.out g' h; omega
       ·have:=hOw.out.lt; omega
      obtain⟨hTwo,hOn⟩:=wE (p:=p) (ra:=ra) (rs:=((gN ((aR key (aH B 3 f.root)).take f.size.toNat) a.pos.toNat a.bytes).length:Int)) hP7 hfb hb8 rfl hO8 ⟨hT9.out.no.1,hnm', fun h=>hT9.out.no.2.2.1 h.1,by omega⟩ ⟨by omega,hng', fun h=>by omega,by omega⟩ hl8 hp' ⟨wG hTu.out.turned,by omega⟩ (fun b h=>hT9.out.lb b h.1)
      rw[hpf,cK6 hpl] at hTwo
      have hfr:=hP7.new.files
      rw[hfb] at hfr
      have q1:=hP7.box.cell 1
      simp at q1
      rw[hfb,hv2] at q1
      have hfm:v'.mine fb:=.inl (by rw[hfb]; rfl)
      have hfne:fb≠a13/\fb≠a14:=by
       have h1:=k13.lt
       have h2:=k14.lt
       rcases hm7 fb hfm with h | h
       ·have:=hmlt.out fb h; omega
       ·omega
      have u1:=(hfr.cellAt (p*3+1) (by omega)).trans (flat_get Ent.cells_len _ p 1 hp' (by omega))
      have u2:=(hfr.cellAt (p*3+2) (by omega)).trans (flat_get Ent.cells_len _ p 2 hp' (by omega))
      have uf1:=hfr.frozenAt (p*3+1)
      have uf2:=hfr.frozenAt (p*3+2)
      rw[hpf] at u1 u2
      simp only[Ent.cells,List.getElem?_cons_succ,List.getElem?_cons_zero] at u1 u2
      have o9:=hb8.cell 0
      have of9:=hb8.frozen 0
      have d13:=k13'.cell 0
      have d140:=k14'.cell 0
      have d141:=k14'.cell 1
      simp at o9 d13 d140 d141
      have z1:ob≠yb:=hT9.out.no.1
      have z2:ob≠fb:=fun e=>hnm' (e▸hfm)
      have z3:yb≠fb:=fun e=>hP7.ny (e▸hfm)
      have z4:ob≠a13:=by omega
      have z5:ob≠a14:=by omega
      have z6:fb≠a13:=hfne.1
      have z7:fb≠a14:=hfne.2
      have z1':=z1.symm
      have z2':=z2.symm
      have z3':=z3.symm
      have z4':=z4.symm
      have z5':=z5.symm
      have z6':=z6.symm
      have z7':=z7.symm
      have hon9:Only (fun b=>b=ob\/Mine yb v b) w _:=(Only.of_below bW).trans ((on7.mono (fun b _ m=>.inr m)).trans2 hOn (fun i hi m=>by
       rcases m with m | m | m
       ·exact .inl m
       ·exact .inr (.inl m)
       ·rcases hm7 i m with h | h
        ·exact .inr (.inr h)
        ·omega))
      have J:Hid (pO base w ob yb n B key v x a.file (0<=a.pos/\a.pos+(a.bytes.length:Int)<=256) (fun e=>e=pK a.pos (a.bytes.length:Int)) (fun root size=>gN ((aR key (aH B 3 root)).take size.toNat) a.pos.toNat a.bytes) cc (.returned (.tuple #[.int .i64 ra,.int .i64 0])) _):=hid ⟨ra,0,rfl,hon9,.inr ⟨rfl,hyes.out,hrng.out,f.root,f.size,hfok.out,g', C,_,v', _,ms,hTu.out,⟨p,.inr ⟨hth.out,by rw[hff.out],by rw[hff.out],by rw[hfl.out]; omega,hF.out.ahead,hfd.out,by rw[hff.out]⟩⟩,hTwo⟩⟩
      have hpI:(p:Int)<((v.fn+1:Nat):Int):=by omega
      have hpI0:(0:Int)<=(p:Int):=by omega
      have hpI1:(p:Int)<(v.fn:Int)+1:=by omega
      replace hfb:=hid hfb
      clear hTwo hOn hP7 hfr hO8 hb8 hl8 hon9 hv1 hv2 hv3
      go_upto_region 14 with fail
      go_region_held3 (fun w'=>w'.cell? ⟨yb,1,none⟩=some (.slice (some ⟨fb,0,none⟩) (v.fn+1) v'.fc)/\w'.cell? ⟨a13,0,none⟩=some (.slice (some ⟨g', 0,none⟩) n n)/\w'.cell? ⟨a14,0,none⟩=some (.int .i64 ra)/\w'.cell? ⟨a14,1,none⟩=some (.int .i64 ((gN ((aR key (aH B 3 f.root)).take f.size.toNat) a.pos.toNat a.bytes).length:Int))) (first | go_keep | assumption) (first | fail)
      all_goals (
       go_wp2_with fail
       go_ret2
       exact J.out.drew))
end Go.Proofs.YtjafgnohlkkopaaGreatDoor
