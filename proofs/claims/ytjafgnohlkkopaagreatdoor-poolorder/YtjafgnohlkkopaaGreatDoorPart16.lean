import Derived.Test.YtjafgnohlkkopaaGreatDoorPart15
import Derived.Deep.RegionWith
set_option linter.unusedVariables false
set_option maxHeartbeats 8000000
set_option maxRecDepth 100000
namespace Go.Proofs.YtjafgnohlkkopaaGreatDoor
open Go.RowKit
theorem aS4 (base:Nat)(L:Nat->Prop)(yb:Nat)(v:cB)(x:aK)(ms:List aZ)(nm:ByteArray)(p:Nat)(w1 w2:World)(a':Option Addr)(c':Nat)(hP:nL base L w1 yb v x ms)(hp:p<=v.sn)(hsn:v.sn<=3)(b2:Below w1.heap.size w1 w2)(hc:v.fn<=c')
 (hr:w2.ownsRow w1.heap.size 106 3 (.slice a' v.fn c') v.fn (bK x.files)) (hbw:base<=w1.heap.size) (hnm:nm.size<=maxLen):
 Calls Tryz.prog 152 #[.slice v.sa v.sn v.sc,.int .i64 p,.slice (some ⟨w2.heap.size,0,none⟩) 1 1] (w2.alloc (.cells #[.string nm,.slice a' v.fn c'] 113)) fun e w'=>
  ∃ sa' sc', e=.returned (.slice sa' (v.sn+1) sc')/\aC w' yb #[.string x.name,.slice v.fa v.fn v.fc,.slice v.sa v.sn v.sc] 84/\
   ∃ v' ms', nL base (fun b=>L b\/w1.heap.size<=b) (w'.setCell ⟨yb,2,none⟩ (.slice sa' (v.sn+1) sc')) yb v' { x with snaps:=x.snaps.take p++⟨nm,x.files⟩::x.snaps.drop p } ms'/\Only (Mine yb v) w1 (w'.setCell ⟨yb,2,none⟩ (.slice sa' (v.sn+1) sc'))/\∀ b,v'.mine b->v.mine b\/w1.heap.size<=b:=by
 have ba:=aA w2 (.cells #[.string nm,.slice a' v.fn c'] 113)
 have kv:aC _ w2.heap.size #[.string nm,.slice a' v.fn c'] 113:=aB w2 _ _
 have b3:=Below.tr b2 ba
 have hs3:=bY hP.new.snaps b3
 have hr3:=bY hr ba
 have hlt:=(hP.new.snaps.lt)
 have hsz:=b2.size
 have hsz3:=b3.size
 refine(aV0 v.sa v.sn v.sc p w2.heap.size 1 1 base (dC ms) [.string nm,.slice a' v.fn c'] 113 _ hp (by omega) (by omega) hs3 (by omega) kv rfl (fun e=>by have:=(hlt _ e).2; omega) (mU _) (by intro u hu; simp at hu; rcases hu with rfl | rfl<;>rfl)).mono ?_
 rintro e w' ⟨sa', sc', rfl,ho,on,hat⟩
 have hon:Only (fun b=>(Value.slice v.sa v.sn v.sc).ownBlock=some b) w1 w':=(Only.of_below b3).trans on
 have hins:=uX ms p ⟨⟨nm,x.files⟩,a', v.fn,c'⟩
 have hcl:(aZ.mk ⟨nm,x.files⟩ a' v.fn c').cells=[.string nm,.slice a' v.fn c']:=rfl
 rw[hcl] at hins
 rw[hins] at ho
 have hmm:∀ b,(Value.slice sa' (v.sn+1) sc').ownBlock=some b->(Value.slice v.sa v.sn v.sc).ownBlock=some b\/(w2.alloc (.cells #[.string nm,.slice a' v.fn c'] 113)).heap.size<=b:=fun b hb=>by
  rcases hat with h | h
  ·exact .inl (h▸hb)
  ·rw[h] at hb
   simp only[Option.some.injEq] at hb
   exact .inr (by omega)
 obtain⟨h1,h2,h3⟩:=hP.snaps (sa:=sa') (sn:=v.sn+1) (sc:=sc') (ms':=ms.take p++⟨⟨nm,x.files⟩,a', v.fn,c'⟩::ms.drop p) (l:=x.snaps.take p++⟨nm,x.files⟩::x.snaps.drop p) hon ho (by rw[List.map_append,List.map_cons,List.map_take,List.map_drop,hP.new.eq])
  (fun m hm=>by
    rcases mem_insert.1 hm with rfl | hm
    ·refine .inr ⟨?_,hc,hnm⟩
     have hE:=vT hP.new.ok hr3
     have hE2:=on.ents hE (fun k q e=>by have:=(hlt _ e).2; have:=q.1; omega)
     refine hE2.weaken (fun b _ q=>⟨q.1,fun f=>?_⟩)
     rcases hmm b f with f | f
     ·have:=(hlt _ f).2; have:=q.1; omega
     ·have:=(hr3.lt b q.2).2; omega
    ·exact .inl hm)
  (fun b hb=>by
    rcases hmm b hb with h | h
    ·exact .inl h
    ·exact .inr (by omega))
 exact⟨sa', sc', rfl,hon.cells hP.box (fun e=>hP.ny (.inr e)),_,_,h1,h2,h3⟩
def bE3 (x:aK)(nm:ByteArray)(e':Int):Prop:=(¬aM nm/\e'=1)\/(aM nm/\(∃ s∈x.snaps,s.nm=nm.data.toList)/\e'=6)\/(aM nm/\(¬∃ s∈x.snaps,s.nm=nm.data.toList)/\e'=2)
theorem aJ9 (base:Nat)(L:Nat->Prop)(yb:Nat)(v:cB)(x:aK)(ms:List aZ)(nm:ByteArray)(w:World)(hP:nL base L w yb v x ms)(hS:Shape x)(hnm:nm.size<=maxLen)(hbw:base<=w.heap.size):
 Calls Tryz.prog 124 #[.pointer (some ⟨yb,0,none⟩),.string nm] w fun e w'=>
  zM base L w yb v (aM nm/\(¬∃ s∈x.snaps,s.nm=nm.data.toList)/\x.snaps.length<3) (bE3 x nm) (fun y=>∃ q,(∀ s∈x.snaps.take q,s.nm<nm.data.toList)/\(∀ s∈x.snaps.drop q,nm.data.toList<s.nm)/\y={ x with snaps:=x.snaps.take q++⟨nm,x.files⟩::x.snaps.drop q }) e w':=by
 obtain⟨Q,hSn⟩:=hP.snapsAt
 have hyl:=hP.box.lt
 have hnl:=hid hP.nl
 have hsl:=hSn.1
 have hsn:v.sn<=3:=by rw[<-hSn.1]; exact hS.fewS
 have hfl:=hP.entsAt.1
 have hfn:v.fn<=6:=by rw[<-hfl]; exact hS.few
 have ho:=hS.orderS
 have y2:=hP.box.cell 2
 have y1:=hP.box.cell 1
 simp at y1 y2
 replace hP:=hid hP
 replace ho:=hid ho
 replace hS:=hid hS
 replace hSn:=hid hSn
 replace hsl:=hid hsl
 replace hfl:=hid hfl
 go_enter Tryz.func124,Tryz.ntmps124
 go_wp2_with fail
 refine(iO nm w hnm).mono ?_
 rintro e w1 ⟨⟨t,rfl,ht⟩,rfl⟩
 cases t
 ·have hno:Hid (¬aM nm):=hid (fun f=>Bool.false_ne_true (ht.2 f))
  clear ht
  go_wp2_with fail
  go_ret
  exact⟨Only.refl _ _,.inl ⟨1,rfl,by omega,fun f=>hno.out f.1,.inl ⟨hno.out,rfl⟩⟩⟩
 ·have hyes:Hid (aM nm):=hid (ht.1 rfl)
  clear ht
  go_wp2_with fail
  refine(yH Q v.sa v.sn v.sc x.snaps nm w1 (by omega) hSn.out ho.out).mono ?_
  rintro e w2 ⟨⟨p,b,rfl,hF⟩,b1⟩
  have hb:=dI ho.out hF
  cases b
  ·have hno:Hid (¬∃ s∈x.snaps,s.nm=nm.data.toList):=hid (fun f=>Bool.false_ne_true (hb.2 f))
   have hR:Hid ((∀ s∈x.snaps.take p,s.nm<nm.data.toList)/\∀ s∈x.snaps.drop p,nm.data.toList<s.nm):=hid ⟨hF.ahead,jX ho.out hF⟩
   have hps:p<=v.sn:=by have:=hF.le; rw[hsl.out] at this; exact this
   have z2:=(b1.cell (p:=⟨yb,2,none⟩) hyl).trans y2
   have z1:=(b1.cell (p:=⟨yb,1,none⟩) hyl).trans y1
   clear hb hF y1 y2
   by_cases h3:(v.sn:Int)=3
   ·have h3':((v.sn:Int) == 3)=true:=by simp[h3]
    go_wp2_with fail
    go_ret
    exact⟨Only.of_below b1,.inl ⟨2,rfl,by omega,fun f=>by have:=f.2.2; rw[hsl.out] at this; omega,.inr (.inr ⟨hyes.out,hno.out,rfl⟩)⟩⟩
   ·have h3':((v.sn:Int) == 3)=false:=by simp[h3]
    have hP2:=hid (hP.out.below b1)
    have hsrc:=hid hP2.out.entsAt.srcAt
    have hyl2:yb<w2.heap.size:=Nat.lt_of_lt_of_le hyl b1.size
    have hbw2:base<=w2.heap.size:=Nat.le_trans hbw b1.size
    have h33:Hid (x.snaps.length<3):=hid (by rw[hsl.out]; omega)
    go_upto_region 8 with fail
    go_region_with (first
     | (go_at_call 61; refine(mG v.fa v.fn v.fc (bK x.files) _ (by omega) (by rw[fZ,hfl.out]) (fF _) ?_).mono ?_; exact hsrc.out.src (Nat.le_refl _); rintro e w3 ⟨b3,a', c', rfl,hc,hr⟩; replace b3:Below w2.heap.size w2 w3:=(aD _ _).trans b3; have u1:=(b3.cell (p:=⟨yb,1,none⟩) hyl2).trans z1; have u2:=(b3.cell (p:=⟨yb,2,none⟩) hyl2).trans z2; have hs3:yb<w3.heap.size:=Nat.lt_of_lt_of_le hyl2 b3.size; have hn3:=Nat.ne_of_lt hs3; have hn4:=hn3.symm; replace hr:=hid hr; replace b3:=hid b3)
     | (go_at_call 152; refine(aS4 base L yb v x ms nm p w2 w3 a' c' hP2.out hps hsn b3.out hc hr.out hbw2 hnm).mono ?_; rintro e w4 ⟨sa', sc', rfl,hbx,hfin⟩; have t0:=hbx.cell 1; have t1:=hbx.cell 2; have t2:=hbx.frozen 2; simp at t0 t1; replace hfin:=hid hfin; replace hbx:=hid hbx))
    all_goals (
     go_wp2_with fail
     go_ret
     obtain⟨v', ms', hP', on', hm'⟩:=hfin.out
     exact vK b1 hyl hnl.out ⟨hyes.out,hno.out,h33.out⟩ ⟨p,hR.out.1,hR.out.2,rfl⟩ hP' (fun b hb=>by
      rcases hb with h | h
      ·exact .inl h
      ·exact .inr (Nat.le_trans b1.size h)) on' hm')
  ·have hth:=hid (hb.1 rfl)
   clear hb hF
   go_wp2_with fail
   go_ret
   exact⟨Only.of_below b1,.inl ⟨6,rfl,by omega,fun f=>f.2.1 hth.out,.inr (.inl ⟨hyes.out,hth.out,rfl⟩)⟩⟩
end Go.Proofs.YtjafgnohlkkopaaGreatDoor
