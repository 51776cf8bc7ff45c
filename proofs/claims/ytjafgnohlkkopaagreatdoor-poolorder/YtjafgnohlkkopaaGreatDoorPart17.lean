import Derived.Test.YtjafgnohlkkopaaGreatDoorPart16
import Derived.Test.YtjafgnohlkkopaaGreatDoorPart14
import Derived.Deep.RegionHeld3
import Derived.Test.YtjafgnohlkkopaaGreatDoorPart15
import Derived.Test.YtjafgnohlkkopaaGreatDoorPart10
set_option linter.unusedVariables false
set_option maxHeartbeats 8000000
set_option maxRecDepth 100000
namespace Go.Proofs.YtjafgnohlkkopaaGreatDoor
open Go.RowKit
theorem Only.trans2 {M N:Nat->Prop}{a b c:World}(h:Only M a b)(k:Only N b c)(hn:∀ i,i<a.heap.size->N i->M i):Only M a c:=
 ⟨k.os.trans h.os,k.tape.trans h.tape,k.output.trans h.output,Nat.le_trans h.size k.size,fun i hi hm=>(k.block i (Nat.lt_of_lt_of_le hi h.size) (fun f=>hm (hn i hi f))).trans (h.block i hi hm)⟩
theorem aW4 (base:Nat)(L:Nat->Prop)(yb:Nat)(v:cB)(x:aK)(ms:List aZ)(f:Ent)(p:Nat)(w:World)(hP:nL base L w yb v x ms)(hp:p<=v.fn)(hfn:v.fn<=6)(hbw:base<=w.heap.size)(hf:f.ok):
 Calls Tryz.prog 149 #[.slice v.fa v.fn v.fc,.int .i64 p,.slice (some ⟨w.heap.size,0,none⟩) 1 1] (w.alloc (.cells #[.string f.name,.int .i64 f.root,.int .i64 f.size] 106)) fun e w'=>
  ∃ fa' fc', e=.returned (.slice fa' (v.fn+1) fc')/\aC w' yb #[.string x.name,.slice v.fa v.fn v.fc,.slice v.sa v.sn v.sc] 84/\
   ∃ v', nL base L (w'.setCell ⟨yb,1,none⟩ (.slice fa' (v.fn+1) fc')) yb v' { x with files:=x.files.take p++f::x.files.drop p } ms/\v'.fa=fa'/\v'.fn=v.fn+1/\v'.fc=fc'/\Only (Mine yb v) w (w'.setCell ⟨yb,1,none⟩ (.slice fa' (v.fn+1) fc'))/\∀ b,v'.mine b->v.mine b\/w.heap.size<=b:=by
 have ba:=aA w (.cells #[.string f.name,.int .i64 f.root,.int .i64 f.size] 106)
 have kv:aC _ w.heap.size #[.string f.name,.int .i64 f.root,.int .i64 f.size] 106:=aB w _ _
 have hs3:=bY hP.new.files ba
 have hlt:=(hP.new.files.lt)
 have hsz:=ba.size
 refine(aV2 v.fa v.fn v.fc p w.heap.size 1 1 base (bK x.files) f.cells 106 _ hp (by omega) (by omega) hs3 (by omega) kv rfl (fun e=>by have:=(hlt _ e).2; omega) (fF _) f.cells_one).mono ?_
 rintro e w' ⟨fa', fc', rfl,ho,on,hat⟩
 have hon:Only (fun b=>(Value.slice v.fa v.fn v.fc).ownBlock=some b) w w':=(Only.of_below ba).trans on
 rw[yJ] at ho
 obtain⟨h1,h2,h3⟩:=hP.files (fa:=fa') (fn:=v.fn+1) (fc:=fc') (l:=x.files.take p++f::x.files.drop p) hon ho (fun e he=>by
  rcases mem_insert.1 he with rfl | he
  ·exact hf
  ·exact hP.new.ok e he)
  (fun b hb=>by
    rcases hat with h | h
    ·exact .inl (h▸hb)
    ·rw[h] at hb
     simp only[Option.some.injEq] at hb
     exact .inr (by omega))
 exact⟨fa', fc', rfl,hon.cells hP.box (fun e=>hP.ny (.inl e)),_,h1,rfl,rfl,rfl,h2,h3⟩
theorem uO (base:Nat)(L:Nat->Prop)(yb:Nat)(v:cB)(x:aK)(ms:List aZ)(f:Ent)(p:Nat)(w:World)(hP:nL base L w yb v x ms)(hp:p<=v.fn)(hfn:v.fn<=6)(hbw:base<=w.heap.size)(hf:f.ok):
 Calls Tryz.prog 149 #[.slice v.fa v.fn v.fc,.int .i64 p,.slice (some ⟨w.heap.size,0,none⟩) 1 1] (w.alloc (.cells #[.string f.name,.int .i64 f.root,.int .i64 f.size] 106)).drew fun e w'=>
  ∃ fa' fc', e=.returned (.slice fa' (v.fn+1) fc')/\aC w' yb #[.string x.name,.slice v.fa v.fn v.fc,.slice v.sa v.sn v.sc] 84/\
   ∃ v', nL base L (w'.setCell ⟨yb,1,none⟩ (.slice fa' (v.fn+1) fc')) yb v' { x with files:=x.files.take p++f::x.files.drop p } ms/\v'.fa=fa'/\v'.fn=v.fn+1/\v'.fc=fc'/\Only (Mine yb v) w (w'.setCell ⟨yb,1,none⟩ (.slice fa' (v.fn+1) fc'))/\∀ b,v'.mine b->v.mine b\/w.heap.size<=b:=by
 have h:=aW4 base L yb v x ms f p w.drew (hP.below (aD _ _)) hp hfn hbw hf
 refine Calls.mono (w:=w.drew.alloc (.cells #[.string f.name,.int .i64 f.root,.int .i64 f.size] 106)) h ?_
 rintro e w' ⟨fa', fc', he,hb,v', h1,h2,h3,h4,h5,h6⟩
 exact⟨fa', fc', he,hb,v', h1,h2,h3,h4,⟨h5.os,h5.tape,h5.output,h5.size,h5.block⟩,h6⟩
def cG3 (x:aK)(nm to:ByteArray)(e':Int):Prop:=((¬∃ f∈x.files,f.nm=nm.data.toList)/\e'=5)\/((∃ f∈x.files,f.nm=nm.data.toList)/\¬aM to/\e'=1)\/((∃ f∈x.files,f.nm=nm.data.toList)/\aM to/\e'=6)
theorem bG5 (base:Nat)(L:Nat->Prop)(yb:Nat)(v:cB)(x:aK)(ms:List aZ)(nm to:ByteArray)(w:World)(hP:nL base L w yb v x ms)(hS:Shape x)(hto:to.size<=maxLen)(hbw:base<=w.heap.size):
 Calls Tryz.prog 123 #[.pointer (some ⟨yb,0,none⟩),.string nm,.string to] w fun e w'=>
  zM base L w yb v ((∃ f∈x.files,f.nm=nm.data.toList)/\aM to/\¬∃ f∈x.files,f.nm=to.data.toList) (cG3 x nm to)
   (fun y=>∃ p q,∃ h:p<x.files.length,x.files[p].nm=nm.data.toList/\(∀ e∈(x.files.eraseIdx p).take q,e.nm<to.data.toList)/\(∀ e∈(x.files.eraseIdx p).drop q,to.data.toList<e.nm)/\y={ x with files:=(x.files.eraseIdx p).take q++⟨to,x.files[p].root,x.files[p].size⟩::(x.files.eraseIdx p).drop q }) e w':=by
 have hyl:=hP.box.lt
 have hnl:=hid hP.nl
 have hfl:=hP.entsAt.1
 have hfn:v.fn<=6:=by rw[<-hfl]; exact hS.few
 have ho:=hS.order
 have y1:=hP.box.cell 1
 simp at y1
 replace hP:=hid hP
 replace ho:=hid ho
 replace hS:=hid hS
 replace hfl:=hid hfl
 go_enter Tryz.func123,Tryz.ntmps123
 go_wp2_with fail
 refine(iR _ v.fa v.fn v.fc x.files nm w (by omega) hP.out.entsAt ho.out).mono ?_
 rintro e w1 ⟨⟨p,b,rfl,hF⟩,b1⟩
 have hb:=dI ho.out hF
 cases b
 ·have hno:Hid (¬∃ f∈x.files,f.nm=nm.data.toList):=hid (fun f=>Bool.false_ne_true (hb.2 f))
  clear hb hF
  go_wp2_with fail
  go_ret
  exact⟨Only.of_below b1,.inl ⟨5,rfl,by omega,fun f=>hno.out f.1,.inl ⟨hno.out,rfl⟩⟩⟩
 obtain⟨hp,hpn⟩:=jR hF
 have hth:=hid (hb.1 rfl)
 replace hpn:=hid hpn
 clear hb hF
 go_wp2_with fail
 refine(iO to w1 hto).mono ?_
 rintro e w1' ⟨⟨t,rfl,ht⟩,rfl⟩
 cases t
 ·have hno:Hid (¬aM to):=hid (fun f=>Bool.false_ne_true (ht.2 f))
  clear ht
  go_wp2_with fail
  go_ret
  exact⟨Only.of_below b1,.inl ⟨1,rfl,by omega,fun f=>hno.out f.2.1,.inr (.inl ⟨hth.out,hno.out,rfl⟩)⟩⟩
 have hyes:Hid (aM to):=hid (ht.1 rfl)
 clear ht
 replace y1:=(b1.cell (p:=⟨yb,1,none⟩) hyl).trans y1
 replace hP:=hid (hP.out.below b1)
 go_wp2_with fail
 refine(iR _ v.fa v.fn v.fc x.files to w1' (by omega) hP.out.entsAt ho.out).mono ?_
 rintro e w2 ⟨⟨p2,b,rfl,hF⟩,b2⟩
 have hb:=dI ho.out hF
 have hyl1:yb<w1'.heap.size:=Nat.lt_of_lt_of_le hyl b1.size
 cases b
 case true=>
  have htw:=hid (hb.1 rfl)
  clear hb hF
  go_wp2_with fail
  go_ret
  exact⟨Only.of_below (Below.tr b1 b2),.inl ⟨6,rfl,by omega,fun f=>f.2.2 htw.out,.inr (.inr ⟨hth.out,hyes.out,rfl⟩)⟩⟩
 have hnot:Hid (¬∃ f∈x.files,f.nm=to.data.toList):=hid (fun f=>Bool.false_ne_true (hb.2 f))
 clear hb hF
 replace y1:=(b2.cell (p:=⟨yb,1,none⟩) hyl1).trans y1
 replace hP:=hid (hP.out.below b2)
 replace b1:=Below.tr b1 b2
 clear b2
 have hpv:p<v.fn:=by rw[<-hfl.out]; exact hp
 obtain⟨fb,hfb⟩:∃ fb,v.fa=some ⟨fb,0,none⟩:=by
  rcases hP.out.new.files.2 with⟨h0,h1⟩ | ⟨g,cap,cur,h0,_⟩
  ·omega
  ·simp only[Value.slice.injEq] at h0; exact⟨g,h0.1⟩
 have hE:=hP.out.entsAt
 rw[hfb] at hE
 have hA:=hE.ent hpv
 have hgd:x.files.getD p Ent.zero=x.files[p]:=by simp[List.getD,hp]
 rw[hgd] at hA
 have hfok:=hid (hE.2.1 _ (List.getElem_mem hp))
 have c1:=hA.c1
 have c2:=hA.c2
 rw[Nat.zero_add] at c1 c2
 obtain⟨f,hff⟩:∃ f,f=x.files[p]:=⟨_,rfl⟩
 rw[<-hff] at c1 c2 hfok
 replace hff:=hid hff
 have y1':=y1
 rw[hfb] at y1'
 replace hfb:=hid hfb
 have hmlt:Hid (∀ b,v.mine b->b<w2.heap.size):=hid (fun b hb=>(hP.out.new.mine_ge hb).2)
 clear hA hE hgd y1
 go_upto_region 10 with fail
 clear c1 c2 y1'
 have b3:=aA w2 (.cells #[.int .i64 f.root,.int .i64 f.size] 104)
 have k3:aC _ w2.heap.size #[.int .i64 f.root,.int .i64 f.size] 104:=aB w2 _ _
 replace hP:=hP.out.below b3
 replace b3:=Below.tr b1 b3
 have hsz3:w2.heap.size<(w2.alloc (.cells #[.int .i64 f.root,.int .i64 f.size] 104)).heap.size:=by simp
 have hylw:yb<w2.heap.size:=Nat.lt_of_lt_of_le hyl b1.size
 have hmw:∀ b,v.mine b->b≠w2.heap.size:=fun b hb=>Nat.ne_of_lt (hmlt.out b hb)
 generalize w2.alloc (.cells #[.int .i64 f.root,.int .i64 f.size] 104)=w3 at *
 have y1:=hP.box.cell 1
 simp at y1
 replace hP:=hid hP
 replace k3:=hid k3
 replace hmw:=hid hmw
 go_wp2_with fail
 refine(yK v.fa v.fn v.fc p base (bK x.files) w3 hpv hP.out.new.files (fF _)).mono ?_
 rintro e w4 ⟨rfl,hr,on⟩
 rw[pW] at hr
 obtain⟨hP', on', hm'⟩:=hP.out.files (fa:=v.fa) (fn:=v.fn-1) (fc:=v.fc) on hr (fun e he=>hP.out.new.ok e ((List.eraseIdx_sublist _ _).subset he)) (fun b hb=>.inl ((xC v.fa v.fn v.fc (v.fn-1) v.fc).trans hb))
 have z1:=(on.cells hP.out.box (fun e=>hP.out.ny (.inl e))).cell 1
 have z2:=(on.cells hP.out.box (fun e=>hP.out.ny (.inl e))).frozen 1
 simp at z1
 have k5:aC (w4.setCell ⟨yb,1,none⟩ (.slice v.fa (v.fn-1) v.fc)) w2.heap.size #[.int .i64 f.root,.int .i64 f.size] 104:=on'.cells k3.out (fun e=>by
  rcases e with e | e
  ·omega
  ·exact hmw.out _ e rfl)
 clear on hr k3 y1
 replace hP':=hid hP'
 replace on':=hid on'
 replace hm':=hid hm'
 replace k5:=hid k5
 go_wp2_with fail
 clear z1 z2
 generalize w4.setCell ⟨yb,1,none⟩ (.slice v.fa (v.fn-1) v.fc)=w5 at *
 have y1:=hP'.out.box.cell 1
 simp at y1
 have ho1:(x.files.eraseIdx p).Pairwise fun a b=>a.nm<b.nm:=iM ho.out p
 go_wp2_with fail
 refine(iR _ v.fa (v.fn-1) v.fc (x.files.eraseIdx p) to w5 (by omega) hP'.out.entsAt ho1).mono ?_
 rintro e w6 ⟨⟨q,b,rfl,hF⟩,b6⟩
 have hb:=dI ho1 hF
 have hbf:b=false:=by
  cases b
  ·rfl
  ·obtain⟨g,hg,e⟩:=hb.1 rfl
   exact absurd ⟨g,(List.eraseIdx_sublist _ _).subset hg,e⟩ hnot.out
 subst hbf
 have hR1:=hid hF.ahead
 have hR2:=hid (jX ho1 hF)
 have hql:q<=v.fn-1:=by have:=hF.le; rw[List.length_eraseIdx_of_lt hp,hfl.out] at this; exact this
 have hP6:=hid (hP'.out.below b6)
 have y6:=(b6.cell (p:=⟨yb,1,none⟩) (fC y1)).trans y1
 have k6:=k5.out.below b6
 have d0:=k6.cell 0
 have d1:=k6.cell 1
 simp at d0 d1
 have hyl6:yb<w6.heap.size:=Nat.lt_of_lt_of_le (fC y1) b6.size
 have hbw6:base<=w6.heap.size:=by have:=on'.out.size; have:=b6.size; have:=b3.size; omega
 have hfok':Ent.ok ⟨to,f.root,f.size⟩:=⟨hto,hfok.out.2⟩
 have hn6:=Nat.ne_of_lt hyl6
 have hn6':=hn6.symm
 have hk6:=Nat.ne_of_lt k6.lt
 have hk6':=hk6.symm
 clear hb hF y1 k5 ho1 k6
 go_upto_region 12 with fail
 go_region_with (go_at_call 149; refine(uO base L yb _ _ ms ⟨to,f.root,f.size⟩ q w6 hP6.out hql (by simp; omega) hbw6 hfok').mono ?_; rintro e w7 ⟨fa', fc', rfl,hbx,hfin⟩; have t1:=hbx.cell 1; have t2:=hbx.frozen 1; simp at t1; replace hfin:=hid hfin; replace hbx:=hid hbx)
 all_goals (
  go_wp2_with fail
  go_ret
  obtain⟨v', hP7,_,_,_,on7,hm7⟩:=hfin.out
  refine vK (w1:=w3) b3 hyl hnl.out ⟨hth.out,hyes.out,hnot.out⟩ ⟨p,q,hp,hpn.out,hR1.out,hR2.out,by rw[<-hff.out]⟩ hP7 (fun b hb=>.inl hb) ((on'.out.trans (Only.of_below b6)).trans2 on7 (fun i hi h=>?_)) (fun b hb=>?_)
  ·rcases h with h | h
   ·exact .inl h
   ·rcases hm'.out i h with h | h
    ·exact .inr h
    ·omega
  ·rcases hm7 b hb with h | h
   ·exact hm'.out b h
   ·exact .inr (by have:=on'.out.size; have:=b6.size; omega))
theorem aW5 (a:Option Addr)(n c:Nat)(B:Nat->Blk)(key root size to:Int)(cc:Int)(w:World)(h:aN w a n B)(h1:64<=cc)(hcm:cc<=999936)(hc:∀ k,k<n->(B k).refs<=cc):
 Calls Tryz.prog 150 #[.agg #[.slice a n c],.int .i64 key,.agg #[.int .i64 root,.int .i64 size],.int .i64 to] w fun e w'=>
  cT1 w.heap.size e w' n B key root size (0<=to/\to<=256) (fun e=>e=3) ((aR key (aH B 3 root)).take to.toNat) cc/\Below w.heap.size w w':=by
 have b0:Below w.heap.size w _:=((aW w (.cells #[.slice a n c] 24) (.cells #[.int .i64 root,.int .i64 size] 104)).alloc (by simp; omega) (.cells #[.slice none 0 0] 24)).alloc (by simp; omega) (.cells #[.int .i64 0,.int .i64 0] 104)
 have ks:aC _ w.heap.size #[.slice a n c] 24:=(((aB w _ _).below (aA _ (.cells #[.int .i64 root,.int .i64 size] 104))).below (aA _ (.cells #[.slice none 0 0] 24))).below (aA _ (.cells #[.int .i64 0,.int .i64 0] 104))
 have kf:aC _ (w.heap.size+1) #[.int .i64 root,.int .i64 size] 104:=((aF w (.cells #[.slice a n c] 24) _ _).below (aA _ (.cells #[.slice none 0 0] 24))).below (aA _ (.cells #[.int .i64 0,.int .i64 0] 104))
 have hrc:RC w ((((w.alloc (.cells #[.slice a n c] 24)).alloc (.cells #[.int .i64 root,.int .i64 size] 104)).alloc (.cells #[.slice none 0 0] 24)).alloc (.cells #[.int .i64 0,.int .i64 0] 104)):=⟨b0,by simp,(eY w (.cells #[.slice a n c] 24) (.cells #[.int .i64 root,.int .i64 size] 104) _ _).below (aA _ (.cells #[.int .i64 0,.int .i64 0] 104)),qB w (.cells #[.slice a n c] 24) (.cells #[.int .i64 root,.int .i64 size] 104) (.cells #[.slice none 0 0] 24) _ _⟩
 replace ks:=hid ks
 replace kf:=hid kf
 replace hrc:=hid hrc
 replace h:=hid h
 replace hc:=hid hc
 clear b0
 go_enter Tryz.func150,Tryz.ntmps150
 go_wp2_with fail
 generalize ((((w.alloc (.cells #[.slice a n c] 24)).alloc (.cells #[.int .i64 root,.int .i64 size] 104)).alloc (.cells #[.slice none 0 0] 24)).alloc (.cells #[.int .i64 0,.int .i64 0] 104))=w0 at *
 refine(aE9 a n c B key root size w0 (h.out.below hrc.out.bel)).mono ?_
 rintro e w1 ⟨hO,b1⟩
 replace hrc:=hid (hrc.out.below b1)
 replace ks:=hid (ks.out.below b1)
 replace kf:=hid (kf.out.below b1)
 clear b1
 rcases hO with⟨e', rfl,he,hno⟩ | ⟨g1,rfl,hok,hg1,hrow⟩
 ·have he':(e' == 0)=false:=by simp[he]
  have q1:=hrc.out.r10.cell 0
  have q2:=hrc.out.r10.frozen 0
  have q3:=hrc.out.r11.cell 0
  have q4:=hrc.out.r11.frozen 0
  have q5:=hrc.out.r11.cell 1
  have q6:=hrc.out.r11.frozen 1
  simp at q1 q3 q5
  replace hno:=hid hno
  go_wp2_with fail
  refine bodyPost_ret (v:=.tuple #[.agg #[.slice none 0 0],.agg #[.int .i64 0,.int .i64 0],.int .i64 e']) (by rw[aS rfl]; go_simp) rfl ⟨⟨none,0,0,0,0,e', rfl,.inl ⟨rfl,rfl,rfl,rfl,rfl,he,fun f=>absurd f hno.out⟩⟩,hrc.out.put3 none 0 0 0 0⟩
 have hN:=fI (Q:=fun _=>True) trivial (jA key (aH B 3 root)) hrow
 rw[cK] at hN
 replace hN:=hid hN
 replace hok:=hid hok
 clear hrow
 by_cases hto:0<=to/\to<=256
 case neg=>
  have q1:=hrc.out.r10.cell 0
  have q2:=hrc.out.r10.frozen 0
  have q3:=hrc.out.r11.cell 0
  have q4:=hrc.out.r11.frozen 0
  have q5:=hrc.out.r11.cell 1
  have q6:=hrc.out.r11.frozen 1
  simp at q1 q3 q5
  go_wp2_with fail
  refine(mD to w1 hto).mono ?_
  rintro e w2 ⟨rfl,rfl⟩
  replace hto:=hid hto
  go_wp2_with fail
  refine bodyPost_ret (v:=.tuple #[.agg #[.slice none 0 0],.agg #[.int .i64 0,.int .i64 0],.int .i64 3]) (by rw[aS rfl]; go_simp) rfl ⟨⟨none,0,0,0,0,3,rfl,.inl ⟨rfl,rfl,rfl,rfl,rfl,by omega,fun _=>⟨fun f=>absurd f hto.out,fun _=>rfl⟩⟩⟩,hrc.out.put3 none 0 0 0 0⟩
 go_wp2_with fail
 refine(fV to w1 hto).mono ?_
 rintro e w2 ⟨rfl,rfl⟩
 obtain⟨S,rfl⟩:∃ S:Nat,to=(S:Int):=⟨to.toNat,by omega⟩
 have hS:S<=256:=by omega
 have f0:=kf.out.cell 0
 have s0:=ks.out.cell 0
 simp at f0 s0
 have hTk:=hN.out.takeN hS
 obtain⟨N,hNd⟩:∃ N,N=(aR key (aH B 3 root)).take S:=⟨_,rfl⟩
 rw[<-hNd] at hTk
 have hg4:=hrc.out.sz
 replace hNd:=hid hNd
 replace hTk:=hid hTk
 replace hto:=hid hto
 go_upto_region 6 with fail
 go_region_with (go_at_call 167; refine(aY9 a n c B key root g1 0 (aR key (aH B 3 root)) _ S _ N cc _ ?_ hok.out.right hok.out.rooted hok.out.kb ?_ ?_ hS h1 hcm hc.out).mono ?_; exact(h.out.below hrc.out.bel).below (aD _ _); exact hN.out.below (aD _ _); exact hTk.out.below (aD _ _); rintro e w3 ⟨⟨y,yn,yc,ra,rs,e', rfl,hcase⟩,b3⟩; have hrc3:=hrc.out.below ((aD _ _).trans b3); have q1:=hrc3.r10.cell 0; have q2:=hrc3.r10.frozen 0; have q3:=hrc3.r11.cell 0; have q4:=hrc3.r11.frozen 0; have q5:=hrc3.r11.cell 1; have q6:=hrc3.r11.frozen 1; simp at q1 q3 q5; replace hrc3:=hid hrc3; replace hcase:=hid hcase; replace b3:=hid b3)
 all_goals (
  have hfin:Hid (cT1 w.heap.size (.returned (.tuple #[.agg #[.slice y yn yc],.agg #[.int .i64 ra,.int .i64 rs],.int .i64 e'])) (put3 w w3 y yn yc ra rs) n B key root size (0<=(S:Int)/\(S:Int)<=256) (fun e=>e=3) ((aR key (aH B 3 root)).take S) cc):=hid ⟨y,yn,yc,ra,rs,e', rfl,by
   rw[<-hNd.out]
   rcases hcase.out with⟨h2,h3,h4,h5,h6,h7,h8⟩ | ⟨h2,g,C,h3,h4,h5,h6,h7,h8,h9⟩
   ·exact .inl ⟨h2,h3,h4,h5,h6,by omega,fun _=>⟨fun _=>⟨h7,h8⟩,fun f=>absurd hto.out f⟩⟩
   ·have h7':w2.heap.size<=g:=h7
    exact .inr ⟨h2,hok.out,hto.out,g,C,h3,h4,h5,h6,by omega,h8.put3 (by omega) _ _ _ _ _,h9⟩⟩
  clear hcase f0 s0
  go_wp2_with fail
  refine bodyPost_ret (v:=.tuple #[.agg #[.slice y yn yc],.agg #[.int .i64 ra,.int .i64 rs],.int .i64 e']) (by rw[aS rfl]; go_simp) rfl ⟨hfin.out,hrc3.out.put3 _ _ _ _ _⟩)
theorem rG {M:Nat->Prop}{w w':World}{g n:Nat}{B:Nat->Blk}(h:Own w g n B)(ho:Only M w w')(hM:∀ b,b<w.heap.size->M b->b<g):Own w' g n B:=by
 have hb:dO (fun b=>g<b/\b<w.heap.size) w g 0 n B:=h.blocks.weaken (fun b hb q=>⟨q,hb⟩)
 have hg:¬M g:=fun m=>by have:=hM g h.lt m; omega
 refine⟨Nat.lt_of_lt_of_le h.lt ho.size,?_,fun i hi=>?_⟩
 ·exact(ho.blocks hb hg h.lt (fun k q m=>by have:=hM k q.2 m; omega)).weaken (fun b _ q=>q.1)
 ·exact(World.frozen?_of_block (w:=w) (ho.block g h.lt hg)).trans (h.free i hi)
def iW (base:Nat)(w:World)(n:Nat)(B:Nat->Blk)(key root size:Int)(ok:Prop)(bad:Int->Prop)(N:List Int)(cc:Int)(x:Option Addr)(ln lc:Nat)(ra rs e':Int):Prop:=
 (x=none/\ln=0/\lc=0/\ra=0/\rs=0/\e'≠0/\(bQ n B key root size->(ok->e'=8/\sH n B (chg (aR key (aH B 3 root)) (bU N) 64))/\(¬ok->bad e')))\/
 (e'=0/\bQ n B key root size/\ok/\∃ (g:Nat) (C:Nat->Blk),x=some ⟨g,0,none⟩/\ln=n/\lc=n/\rs=(N.length:Int)/\base<=g/\Own w g n C/\eT n B C key root (aR key (aH B 3 root)) (bU N) 64 ra cc)
theorem iW.only {M:Nat->Prop}{base base':Nat}{w w':World}{n:Nat}{B:Nat->Blk}{key root size:Int}{ok:Prop}{bad:Int->Prop}{N:List Int}{cc:Int}{x:Option Addr}{ln lc:Nat}{ra rs e':Int}(h:iW base w n B key root size ok bad N cc x ln lc ra rs e')(ho:Only M w w')(hM:∀ b,b<w.heap.size->M b->b<base)(hb:base'<=base):iW base' w' n B key root size ok bad N cc x ln lc ra rs e':=by
 rcases h with h | ⟨h1,h2,h3,g,C,h4,h5,h6,h7,h8,h9,h10⟩
 ·exact .inl h
 ·exact .inr ⟨h1,h2,h3,g,C,h4,h5,h6,h7,by omega,rG h9 ho (fun b hb m=>by have:=hM b hb m; omega),h10⟩
def cI7 (W wc:World)(n:Nat)(B:Nat->Blk)(key root size:Int)(ok:Prop)(bad:Int->Prop)(N:List Int)(cc:Int)(v13 v14 v15:Value):Prop:=
 ∃ (a13 a14:Nat) (x:Option Addr) (ln lc:Nat) (ra rs e':Int),v13=.pointer (some ⟨a13,0,none⟩)/\v14=.pointer (some ⟨a14,0,none⟩)/\v15=.int .i64 e'/\aC wc a13 #[.slice x ln lc] 24/\aC wc a14 #[.int .i64 ra,.int .i64 rs] 104/\Below W.heap.size W wc/\W.heap.size<=a13/\W.heap.size<=a14/\iW W.heap.size wc n B key root size ok bad N cc x ln lc ra rs e'
section
variable {W w6:World} {n:Nat} {B:Nat->Blk} {key root size:Int} {ok:Prop} {bad:Int->Prop} {N:List Int} {cc:Int} {x:Option Addr} {ln lc:Nat} {ra rs e':Int} {base:Nat}
abbrev bL5 (x:Option Addr)(ln lc:Nat):Obj:=.cells #[.slice x ln lc] 24
abbrev cS9 (ra rs:Int):Obj:=.cells #[.int .i64 ra,.int .i64 rs] 104
theorem aV5 (bb:Below W.heap.size W w6)(h:iW base w6 n B key root size ok bad N cc x ln lc ra rs e')(hb:W.heap.size<=base):cI7 W ((w6.alloc (bL5 x ln lc)).alloc (cS9 ra rs)) n B key root size ok bad N cc (.pointer (some ⟨w6.heap.size,0,none⟩)) (.pointer (some ⟨w6.heap.size+1,0,none⟩)) (.int .i64 e'):=
 ⟨_,_,x,ln,lc,ra,rs,e', rfl,rfl,rfl,(aB w6 _ _).below (aA _ _),aF w6 _ _ _,Below.tr bb (aW _ _ _),bb.size,by have:=bb.size; omega,h.only (Only.of_below (M:=fun _=>False) (aW _ _ _)) (fun _ _ m=>m.elim) hb⟩
theorem aV4 (bb:Below W.heap.size W w6)(h:iW base w6 n B key root size ok bad N cc x ln lc ra rs e')(hb:W.heap.size<=base):cI7 W ((w6.alloc (cS9 ra rs)).alloc (bL5 x ln lc)) n B key root size ok bad N cc (.pointer (some ⟨w6.heap.size+1,0,none⟩)) (.pointer (some ⟨w6.heap.size,0,none⟩)) (.int .i64 e'):=
 ⟨_,_,x,ln,lc,ra,rs,e', rfl,rfl,rfl,aF w6 _ _ _,(aB w6 _ _).below (aA _ _),Below.tr bb (aW _ _ _),by have:=bb.size; omega,bb.size,h.only (Only.of_below (M:=fun _=>False) (aW _ _ _)) (fun _ _ m=>m.elim) hb⟩
theorem aV7 {a:Nat}(ha:W.heap.size<=a)(hab:a<base)(ka:aC w6 a #[.slice none 0 0] 24)(bb:Below W.heap.size W w6)(h:iW base w6 n B key root size ok bad N cc x ln lc ra rs e')(hb:W.heap.size<=base):cI7 W ((w6.setCell ⟨a,0,none⟩ (.slice x ln lc)).alloc (cS9 ra rs)) n B key root size ok bad N cc (.pointer (some ⟨a,0,none⟩)) (.pointer (some ⟨w6.heap.size,0,none⟩)) (.int .i64 e'):=by
 have kk:Kept a w6 (w6.setCell ⟨a,0,none⟩ (.slice x ln lc)):=Kept.setCell (g:=a) (Kept.refl _ _) (p:=⟨a,0,none⟩) rfl _
 have k2:=ka.set 0 (.slice x ln lc)
 simp only[List.setIfInBounds_toArray,List.set_cons_zero] at k2
 have k3:aC ((w6.setCell ⟨a,0,none⟩ (.slice x ln lc)).alloc (cS9 ra rs)) w6.heap.size #[.int .i64 ra,.int .i64 rs] 104:=by
  have:=aB (w6.setCell ⟨a,0,none⟩ (.slice x ln lc)) #[.int .i64 ra,.int .i64 rs] 104
  rwa [kk.size] at this
 exact⟨_,_,x,ln,lc,ra,rs,e', rfl,rfl,rfl,k2.below (aA _ _),k3,Below.tr (bb.trans (kk.below ha)) (aA _ _),ha,bb.size,h.only ((Only.of_kept (M:=fun b=>b=a) kk rfl).trans (Only.of_below (aA _ _))) (fun b _ m=>by omega) hb⟩
theorem aV6 {a:Nat}(ha:W.heap.size<=a)(hab:a<base)(ka:aC w6 a #[.int .i64 0,.int .i64 0] 104)(bb:Below W.heap.size W w6)(h:iW base w6 n B key root size ok bad N cc x ln lc ra rs e')(hb:W.heap.size<=base):cI7 W (((w6.setCell ⟨a,0,none⟩ (.int .i64 ra)).setCell ⟨a,1,none⟩ (.int .i64 rs)).alloc (bL5 x ln lc)) n B key root size ok bad N cc (.pointer (some ⟨w6.heap.size,0,none⟩)) (.pointer (some ⟨a,0,none⟩)) (.int .i64 e'):=by
 have kk:Kept a w6 ((w6.setCell ⟨a,0,none⟩ (.int .i64 ra)).setCell ⟨a,1,none⟩ (.int .i64 rs)):=Kept.setCell (g:=a) (Kept.setCell (g:=a) (Kept.refl _ _) (p:=⟨a,0,none⟩) rfl _) (p:=⟨a,1,none⟩) rfl _
 have k2:=(ka.set 0 (.int .i64 ra)).set 1 (.int .i64 rs)
 simp only[List.setIfInBounds_toArray,List.set_cons_zero,List.set_cons_succ] at k2
 have k3:aC (((w6.setCell ⟨a,0,none⟩ (.int .i64 ra)).setCell ⟨a,1,none⟩ (.int .i64 rs)).alloc (bL5 x ln lc)) w6.heap.size #[.slice x ln lc] 24:=by
  have:=aB ((w6.setCell ⟨a,0,none⟩ (.int .i64 ra)).setCell ⟨a,1,none⟩ (.int .i64 rs)) #[.slice x ln lc] 24
  rwa [kk.size] at this
 exact⟨_,_,x,ln,lc,ra,rs,e', rfl,rfl,rfl,k3,k2.below (aA _ _),Below.tr (bb.trans (kk.below ha)) (aA _ _),bb.size,ha,h.only ((Only.of_kept (M:=fun b=>b=a) kk rfl).trans (Only.of_below (aA _ _))) (fun b _ m=>by omega) hb⟩
theorem tH {a b:Nat}(ha:W.heap.size<=a)(hb':W.heap.size<=b)(hne:a≠b)(hab:a<base)(hbb:b<base)(ka:aC w6 a #[.slice none 0 0] 24)(kb:aC w6 b #[.int .i64 0,.int .i64 0] 104)(bb:Below W.heap.size W w6)(h:iW base w6 n B key root size ok bad N cc x ln lc ra rs e')(hb:W.heap.size<=base):cI7 W (((w6.setCell ⟨a,0,none⟩ (.slice x ln lc)).setCell ⟨b,0,none⟩ (.int .i64 ra)).setCell ⟨b,1,none⟩ (.int .i64 rs)) n B key root size ok bad N cc (.pointer (some ⟨a,0,none⟩)) (.pointer (some ⟨b,0,none⟩)) (.int .i64 e'):=by
 have k1:Kept a w6 (w6.setCell ⟨a,0,none⟩ (.slice x ln lc)):=Kept.setCell (g:=a) (Kept.refl _ _) (p:=⟨a,0,none⟩) rfl _
 have k2:Kept b (w6.setCell ⟨a,0,none⟩ (.slice x ln lc)) (((w6.setCell ⟨a,0,none⟩ (.slice x ln lc)).setCell ⟨b,0,none⟩ (.int .i64 ra)).setCell ⟨b,1,none⟩ (.int .i64 rs)):=Kept.setCell (g:=b) (Kept.setCell (g:=b) (Kept.refl _ _) (p:=⟨b,0,none⟩) rfl _) (p:=⟨b,1,none⟩) rfl _
 have ea:=((ka.set 0 (.slice x ln lc)).past (a:=⟨b,0,none⟩) (by simpa using hne) (.int .i64 ra)).past (a:=⟨b,1,none⟩) (by simpa using hne) (.int .i64 rs)
 have eb:=((kb.past (a:=⟨a,0,none⟩) (by simpa using hne.symm) (.slice x ln lc)).set 0 (.int .i64 ra)).set 1 (.int .i64 rs)
 simp only[List.setIfInBounds_toArray,List.set_cons_zero,List.set_cons_succ] at ea eb
 exact⟨_,_,x,ln,lc,ra,rs,e', rfl,rfl,rfl,ea,eb,(bb.trans (k1.below ha)).trans (k2.below hb'),ha,hb', h.only (((Only.of_kept (M:=fun k=>k=a\/k=b) k1 (.inl rfl))).trans (Only.of_kept k2 (.inr rfl))) (fun k _ m=>by omega) hb⟩
end
structure Two (base:Nat)(L:Nat->Prop)(w:World)(ob yb g n:Nat)(B:Nat->Blk)(v:cB)(x:aK)(ms:List aZ):Prop where
 own:Own w g n B
 box:aC w ob #[.slice (some ⟨g,0,none⟩) n n] 24
 set:nL base L w yb v x ms
 no:ob≠yb/\¬v.mine ob/\¬L ob/\ob≠g
 ng:g≠yb/\¬v.mine g/\¬L g/\base<=g
 lists:dO (fun b=>b≠yb/\¬v.mine b/\b≠ob) w g 0 n B
 lb:∀ b,L b->base<=b
theorem Two.ptr {base:Nat}{L:Nat->Prop}{w:World}{ob yb g n:Nat}{B:Nat->Blk}{v:cB}{x:aK}{ms:List aZ}(h:Two base L w ob yb g n B v x ms):dF w ⟨ob,0,none⟩ g n B:=⟨h.box.lt,h.no.2.2.2,by have:=h.box.cell 0; simpa using this,h.own⟩
theorem Two.below {base:Nat}{L:Nat->Prop}{w w':World}{ob yb g n:Nat}{B:Nat->Blk}{v:cB}{x:aK}{ms:List aZ}(h:Two base L w ob yb g n B v x ms)(b:Below w.heap.size w w'):Two base L w' ob yb g n B v x ms:=⟨h.own.below b,h.box.below b,h.set.below b,h.no,h.ng,h.lists.below b,h.lb⟩
theorem nC {Q R:Nat->Prop}{k:IntKind}{w:World}{a:Option Addr}{n:Nat}{l:List Int}(h:aI Q k w a n l)(h':aI R k w a n l):aI (fun b=>Q b/\R b) k w a n l:=by
 refine⟨h.1,h.2.1,fun hn=>?_⟩
 obtain⟨b,off,rfl,hlt,q,hc⟩:=h.2.2 hn
 obtain⟨b', off', e,_,r,_⟩:=h'.2.2 hn
 simp only[Option.some.injEq,Addr.mk.injEq,and_true] at e
 obtain⟨rfl,rfl⟩:=e
 exact⟨b,off,rfl,hlt,⟨q,r⟩,hc⟩
theorem bF6 {w:World}{base fb fn fc:Nat}{l:List Ent}{p:Nat}(hp:p<l.length)(ra rs:Int)(h:w.ownsRow base 106 3 (.slice (some ⟨fb,0,none⟩) fn fc) fn (bK l)):
 ((w.setCell ⟨fb,p*3+1,none⟩ (.int .i64 ra)).setCell ⟨fb,p*3+2,none⟩ (.int .i64 rs)).ownsRow base 106 3 (.slice (some ⟨fb,0,none⟩) fn fc) fn (bK (l.set p ⟨l[p].name,ra,rs⟩)):=by
 have h1:=(h.stored (p*3+1) (.int .i64 ra)).1
 have e1:(bK l).set (p*3+1) (.int .i64 ra)=bK (l.set p ⟨l[p].name,ra,l[p].size⟩):=jS Ent.cells_len l p 1 ⟨l[p].name,ra,l[p].size⟩ _ hp (by omega) rfl
 rw[e1] at h1
 have h2:=(h1.stored (p*3+2) (.int .i64 rs)).1
 have e2:(bK (l.set p ⟨l[p].name,ra,l[p].size⟩)).set (p*3+2) (.int .i64 rs)=bK ((l.set p ⟨l[p].name,ra,l[p].size⟩).set p ⟨l[p].name,ra,rs⟩):=jS Ent.cells_len (l.set p ⟨l[p].name,ra,l[p].size⟩) p 2 ⟨l[p].name,ra,rs⟩ _ (by simpa using hp) (by omega) (by simp[Ent.cells])
 rw[e2,List.set_set] at h2
 exact h2
theorem wE {base:Nat}{L:Nat->Prop}{w:World}{ob yb g n fb:Nat}{C:Nat->Blk}{v:cB}{x:aK}{ms:List aZ}{cs:Array Value}{p:Nat}{ra rs:Int}(hS:nL base L w yb v x ms)(hfb:v.fa=some ⟨fb,0,none⟩)(hbox:aC w ob cs 24)(hcs:cs.size=1)(hO:Own w g n C)(no:ob≠yb/\¬v.mine ob/\¬L ob/\ob≠g)(ng:g≠yb/\¬v.mine g/\¬L g/\base<=g)
 (hl:dO (fun b=>b≠yb/\¬v.mine b/\b≠ob) w g 0 n C) (hp:p<x.files.length) (hr:(-9223372036854775808<=ra/\ra<=9223372036854775807)/\(-9223372036854775808<=rs/\rs<=9223372036854775807)) (hlb:∀ b,L b->base<=b):
 Two base L (((w.setCell ⟨ob,0,none⟩ (.slice (some ⟨g,0,none⟩) n n)).setCell ⟨fb,p*3+1,none⟩ (.int .i64 ra)).setCell ⟨fb,p*3+2,none⟩ (.int .i64 rs)) ob yb g n C v { x with files:=x.files.set p ⟨x.files[p].name,ra,rs⟩ } ms/\
 Only (fun b=>b=ob\/Mine yb v b) w (((w.setCell ⟨ob,0,none⟩ (.slice (some ⟨g,0,none⟩) n n)).setCell ⟨fb,p*3+1,none⟩ (.int .i64 ra)).setCell ⟨fb,p*3+2,none⟩ (.int .i64 rs)):=by
 have hfm:v.mine fb:=.inl (by rw[hfb]; rfl)
 have k1:Kept ob w (w.setCell ⟨ob,0,none⟩ (.slice (some ⟨g,0,none⟩) n n)):=Kept.setCell (g:=ob) (Kept.refl _ _) (p:=⟨ob,0,none⟩) rfl _
 have k2:Kept fb (w.setCell ⟨ob,0,none⟩ (.slice (some ⟨g,0,none⟩) n n)) (((w.setCell ⟨ob,0,none⟩ (.slice (some ⟨g,0,none⟩) n n)).setCell ⟨fb,p*3+1,none⟩ (.int .i64 ra)).setCell ⟨fb,p*3+2,none⟩ (.int .i64 rs)):=Kept.setCell (g:=fb) (Kept.setCell (g:=fb) (Kept.refl _ _) (p:=⟨fb,p*3+1,none⟩) rfl _) (p:=⟨fb,p*3+2,none⟩) rfl _
 have on:Only (fun b=>b=ob\/b=fb) w (((w.setCell ⟨ob,0,none⟩ (.slice (some ⟨g,0,none⟩) n n)).setCell ⟨fb,p*3+1,none⟩ (.int .i64 ra)).setCell ⟨fb,p*3+2,none⟩ (.int .i64 rs)):=(Only.of_kept k1 (.inl rfl)).trans (Only.of_kept k2 (.inr rfl))
 have hof:ob≠fb:=fun e=>no.2.1 (e▸hfm)
 have hyf:yb≠fb:=fun e=>hS.ny (e▸hfm)
 have hsf:(Value.slice v.sa v.sn v.sc).ownBlock≠some fb:=hS.new.apart fb (by rw[hfb]; rfl)
 have hmm:∀ b,(b=ob\/b=fb)->b=ob\/Mine yb v b:=by
  rintro b (h | h)
  ·exact .inl h
  ·exact .inr (.inr (h▸hfm))
 have hgn:¬(g=ob\/g=fb):=by
  rintro (h | h)
  ·exact no.2.2.2 h.symm
  ·exact ng.2.1 (h▸hfm)
 have hfr:=hS.new.files
 rw[hfb] at hfr
 have hrow:=bF6 hp ra rs ((Only.of_kept (M:=fun b=>b=ob) k1 rfl).row hfr (fun b hb e=>no.2.1 (e▸(.inl (by rw[hfb]; exact hb)))))
 refine⟨⟨⟨Nat.lt_of_lt_of_le hO.lt on.size,?_,fun i hi=>?_⟩,?_,⟨?_,⟨hS.new.name,hS.new.small,by rw[hfb]; exact hrow,?_,hS.new.eq,fun e he=>?_,fun m hm=>?_,hS.new.apart⟩,hS.ny,hS.nl⟩,no,ng,?_,hlb⟩,on.mono (fun b _ h=>hmm b h)⟩
 ·have hb:dO (fun b=>g<b/\(b≠yb/\¬v.mine b/\b≠ob)) w g 0 n C:=by
   intro i hi
   obtain⟨ka,kn,kc,ba,bn,bc,h1⟩:=hO.blocks i hi
   obtain⟨ka', kn', kc', ba', bn', bc', h2⟩:=hl i hi
   have e1:Value.slice ka kn kc=.slice ka' kn' kc':=Option.some.inj (h1.c2.symm.trans h2.c2)
   have e2:Value.slice ba bn bc=.slice ba' bn' bc':=Option.some.inj (h1.c3.symm.trans h2.c3)
   simp only[Value.slice.injEq] at e1 e2
   obtain⟨rfl,rfl,rfl⟩:=e1
   obtain⟨rfl,rfl,rfl⟩:=e2
   exact⟨ka,kn,kc,ba,bn,bc,h1.c0,h1.c1,h1.c2,h1.c3,nC h1.kids h2.kids,nC h1.bytes h2.bytes,h1.refs,h1.level,h1.caps⟩
  refine(on.blocks hb hgn hO.lt (fun k q e=>?_)).weaken (fun b _ q=>q.1)
  rcases e with e | e
  ·exact q.2.2.2 e
  ·exact q.2.2.1 (e▸hfm)
 ·exact(World.frozen?_of_block (w:=w) (on.block g hO.lt hgn)).trans (hO.free i hi)
 ·have h1:=hbox.set 0 (.slice (some ⟨g,0,none⟩) n n)
  have h2:=(Only.of_kept (M:=fun b=>b=fb) k2 rfl).cells h1 hof
  have e:cs.setIfInBounds 0 (.slice (some ⟨g,0,none⟩) n n)=#[.slice (some ⟨g,0,none⟩) n n]:=by
   apply Array.ext
   ·simp[hcs]
   ·intro i h3 h4
    have:i=0:=by simp at h4; omega
    subst this
    simp
  rw[e] at h2
  exact h2
 ·exact on.cells hS.box (by
   rintro (h | h)
   ·exact no.1 h.symm
   ·exact hyf h)
 ·exact on.row hS.new.snaps (fun b hb e=>by
   rcases e with e | e
   ·exact no.2.1 (.inr (e▸hb))
   ·exact hsf (e▸hb))
 ·rcases lW he with rfl | he
  ·exact⟨(hS.new.ok _ (List.getElem_mem hp)).1,hr⟩
  ·exact hS.new.ok e he
 ·exact on.snap (hS.new.lists m hm) (fun b q e=>by
   rcases e with e | e
   ·exact no.2.2.1 (e▸q.1)
   ·exact q.2 (e▸hfm))
 ·exact on.blocks hl hgn hO.lt (fun k q e=>by
   rcases e with e | e
   ·exact q.2.2 e
   ·exact q.2.1 (e▸hfm))
theorem bDr {a w:World}(h:Below a.heap.size a w):Below a.heap.size a w.drew:=h.trans (aD _ _)
theorem bAl {a w:World}(h:Below a.heap.size a w)(o:Obj):Below a.heap.size a (w.alloc o):=h.alloc h.size o
theorem iW.base {base base':Nat}{w:World}{n:Nat}{B:Nat->Blk}{key root size:Int}{ok:Prop}{bad:Int->Prop}{N:List Int}{cc:Int}{x:Option Addr}{ln lc:Nat}{ra rs e':Int}(h:iW base w n B key root size ok bad N cc x ln lc ra rs e')(hb:base'<=base):iW base' w n B key root size ok bad N cc x ln lc ra rs e':=h.only (Only.refl (fun _=>False) _) (fun _ _ m=>m.elim) hb
def cM5 (base:Nat)(e:Ending)(w:World)(n:Nat)(B:Nat->Blk)(key root size:Int)(ok:Prop)(bad:Int->Prop)(N:List Int)(cc:Int):Prop:=
 ∃ (x:Option Addr) (ln lc:Nat) (ra rs e':Int),e=.returned (.tuple #[.agg #[.slice x ln lc],.agg #[.int .i64 ra,.int .i64 rs],.int .i64 e'])/\iW base w n B key root size ok bad N cc x ln lc ra rs e'
theorem pV (a:Option Addr)(n c:Nat)(B:Nat->Blk)(key root size at':Int)(ba:Option Addr)(bn bc:Nat)(b:List Int)(cc:Int)(w:World)(h:aN w a n B)(hb:aI (fun _=>True) .u8 w ba bn b)(h1:64<=cc)(hcm:cc<=999936)(hc:∀ k,k<n->(B k).refs<=cc):
 Calls Tryz.prog 148 #[.agg #[.slice a n c],.int .i64 key,.agg #[.int .i64 root,.int .i64 size],.int .i64 at', .slice ba bn bc] w fun e w'=>
  cM5 w.heap.size e w' n B key root size (0<=at'/\at'+(b.length:Int)<=256) (fun e=>e=pK at' (b.length:Int)) (gN ((aR key (aH B 3 root)).take size.toNat) at'.toNat b) cc/\Below w.heap.size w w':=by
 refine(aH0 a n c B key root size at' ba bn bc b cc w h hb h1 hcm hc).mono ?_
 rintro e w' ⟨⟨x,ln,lc,ra,rs,e', he,hcase⟩,hb'⟩
 exact⟨⟨x,ln,lc,ra,rs,e', he,hcase⟩,hb'⟩
theorem aO9 (a:Option Addr)(n c:Nat)(B:Nat->Blk)(key root size to:Int)(cc:Int)(w:World)(h:aN w a n B)(h1:64<=cc)(hcm:cc<=999936)(hc:∀ k,k<n->(B k).refs<=cc):
 Calls Tryz.prog 150 #[.agg #[.slice a n c],.int .i64 key,.agg #[.int .i64 root,.int .i64 size],.int .i64 to] w fun e w'=>
  cM5 w.heap.size e w' n B key root size (0<=to/\to<=256) (fun e=>e=3) ((aR key (aH B 3 root)).take to.toNat) cc/\Below w.heap.size w w':=by
 refine(aW5 a n c B key root size to cc w h h1 hcm hc).mono ?_
 rintro e w' ⟨⟨x,ln,lc,ra,rs,e', he,hcase⟩,hb'⟩
 exact⟨⟨x,ln,lc,ra,rs,e', he,hcase⟩,hb'⟩
abbrev dG:Obj:=.cells #[.slice none 0 0] 24
abbrev gK:Obj:=.cells #[.int .i64 0,.int .i64 0] 104
def bX7 (x:aK)(nm:ByteArray)(root size:Int):Prop:=(∃ f∈x.files,f.nm=nm.data.toList/\root=f.root/\size=f.size)\/((¬∃ f∈x.files,f.nm=nm.data.toList)/\root=0/\size=0)
def tX (x:aK)(nm:ByteArray)(root size ra rs:Int)(y:aK):Prop:=∃ p,(∃ h:p<x.files.length,x.files[p].nm=nm.data.toList/\root=x.files[p].root/\size=x.files[p].size/\y={ x with files:=x.files.set p ⟨x.files[p].name,ra,rs⟩ })\/
 ((¬∃ f∈x.files,f.nm=nm.data.toList)/\root=0/\size=0/\x.files.length<6/\(∀ e∈x.files.take p,e.nm<nm.data.toList)/\(∀ e∈x.files.drop p,nm.data.toList<e.nm)/\y={ x with files:=x.files.take p++⟨nm,ra,rs⟩::x.files.drop p })
def bX4 (n:Nat)(B:Nat->Blk)(key:Int)(x:aK)(nm:ByteArray)(ok:Prop)(bad:Int->Prop)(N:Int->Int->List Int)(e':Int):Prop:=
 (¬aM nm->e'=1)/\(aM nm->¬ok->bad e')/\(aM nm->ok->(e'=8/\∃ root size,bX7 x nm root size/\sH n B (chg (aR key (aH B 3 root)) (bU (N root size)) 64))\/(e'=2/\(¬∃ f∈x.files,f.nm=nm.data.toList)/\¬x.files.length<6))
def aR1 (x:aK)(nm:ByteArray)(e':Int):Prop:=((∃ f∈x.files,f.nm=nm.data.toList)/\e'=3)\/((¬∃ f∈x.files,f.nm=nm.data.toList)/\e'=5)
def pO (base:Nat)(w:World)(ob yb n:Nat)(B:Nat->Blk)(key:Int)(v:cB)(x:aK)(nm:ByteArray)(ok:Prop)(bad:Int->Prop)(N:Int->Int->List Int)(cc:Int)(e:Ending)(w':World):Prop:=
 ∃ made e':Int,e=.returned (.tuple #[.int .i64 made,.int .i64 e'])/\Only (fun b=>b=ob\/Mine yb v b) w w'/\
  ((e'≠0/\bX4 n B key x nm ok bad N e')\/
   (e'=0/\aM nm/\ok/\∃ root size,bQ n B key root size/\∃ (g:Nat) (C:Nat->Blk) (L:Nat->Prop) (v':cB) (y:aK) (ms:List aZ),eT n B C key root (aR key (aH B 3 root)) (bU (N root size)) 64 made cc/\tX x nm root size made ((N root size).length:Int) y/\Two base L w' ob yb g n C v' y ms))
theorem aE8 (key:Int)(lv:Nat->List Int)(size at':Nat)(b:List Int)(h:(at':Int)+(b.length:Int)<=256):(gN ((aR key lv).take size) at' b).length<=256:=by
 have h1:((aR key lv).take size).length<=256:=by rw[List.length_take,cK]; omega
 rw[nU]
 split<;>omega
theorem wG {n:Nat}{B C:Nat->Blk}{a cc:Int}(h:Turned n B C a cc):(-9223372036854775808<=a/\a<=9223372036854775807):=by
 have:=h.right.small
 rcases h.root with h0 | ⟨⟨h1,h2,_⟩,_⟩<;>omega
theorem aM6 {w:World}{g n H yb ob:Nat}{C:Nat->Blk}{v:cB}(hO:Own w g n C)(hg:H<=g)(hy:yb<H)(ho:ob<H)(hm:∀ b,v.mine b->b<H):dO (fun b=>b≠yb/\¬v.mine b/\b≠ob) w g 0 n C:=hO.blocks.weaken (fun b _ q=>⟨by omega,fun f=>by have:=hm b f; omega,by omega⟩)
theorem pO.drew {base:Nat}{w w':World}{ob yb n:Nat}{B:Nat->Blk}{key:Int}{v:cB}{x:aK}{nm:ByteArray}{ok:Prop}{bad:Int->Prop}{N:Int->Int->List Int}{cc:Int}{e:Ending}(h:pO base w ob yb n B key v x nm ok bad N cc e w'):pO base w ob yb n B key v x nm ok bad N cc e w'.drew:=by
 obtain⟨made,e', he,ho,h | ⟨h1,h2,h3,root,size,h4,g,C,L,v', y,ms,h5,h6,h7⟩⟩:=h
 ·exact⟨made,e', he,ho.trans (Only.of_below (aD _ _)),.inl h⟩
 ·exact⟨made,e', he,ho.trans (Only.of_below (aD _ _)),.inr ⟨h1,h2,h3,root,size,h4,g,C,L,v', y,ms,h5,h6,h7.below (aD _ _)⟩⟩
end Go.Proofs.YtjafgnohlkkopaaGreatDoor
namespace Go.Proofs.YtjafgnohlkkopaaGreatDoor
theorem gJ.zero {n:Nat}{B C:Nat->Blk}{l:List Int}(h:gJ n B C l):gJ n B C (0::l):=fun x hx=>h x (hx.mono fun r hr h0=>by
 rcases List.mem_cons.1 hr with e | hr
 ·exact absurd e h0
 ·exact Clo.root hr h0)
theorem dY.sub {n:Nat}{B C:Nat->Blk}{R T:List Int}(h:dY n B R)(ht:∀ r,T.count r<=R.count r)(ho:∀ k,k<n->outs n B k<=outs n C k):dY n C T:=fun k hk=>by
 have h1:=h k hk
 have h2:=ht ((k:Int)+1)
 have h3:=ho k hk
 omega
theorem Grow.more {n:Nat}{B C:Nat->Blk}{K:List Int}(h:Grow n B C K):∀ k,k<n->outs n B k<=outs n C k:=fun k hk=>by
 rw[h.out k hk]; omega
end Go.Proofs.YtjafgnohlkkopaaGreatDoor
namespace Go.Proofs.YtjafgnohlkkopaaGreatDoor
open Go.RowKit
def pJ (key:Int)(B:Nat->Blk)(a:aP):Int->Int->List Int:=fun root size=>gN ((aR key (aH B 3 root)).take size.toNat) a.pos.toNat a.bytes
def cL1 (key:Int)(B:Nat->Blk)(a:aP):Int->Int->List Int:=fun root _=>(aR key (aH B 3 root)).take a.num.toNat
def okW (a:aP):Prop:=0<=a.pos/\a.pos+(a.bytes.length:Int)<=256
def okC (x:aK)(a:aP):Prop:=(0<=a.num/\a.num<=256)/\∃ f∈x.files,f.nm=a.file.data.toList
def Wrote (n:Nat)(B C:Nat->Blk)(key:Int)(x:aK)(nm:ByteArray)(N:Int->Int->List Int)(cc made:Int)(y:aK):Prop:=
 ∃ root size,bQ n B key root size/\eT n B C key root (aR key (aH B 3 root)) (bU (N root size)) 64 made cc/\tX x nm root size made ((N root size).length:Int) y
def NoRoom (n:Nat)(B:Nat->Blk)(key:Int)(x:aK)(nm:ByteArray)(N:Int->Int->List Int):Prop:=∃ root size,bX7 x nm root size/\sH n B (chg (aR key (aH B 3 root)) (bU (N root size)) 64)
def cN1 (x:aK)(a:aP)(y:aK):Prop:=∃ p,∃ h:p<x.files.length,x.files[p].nm=a.file.data.toList/\y={ x with files:=x.files.eraseIdx p }
def oH (x:aK)(a:aP):Prop:=(∃ f∈x.files,f.nm=a.file.data.toList)/\aM a.to/\¬∃ f∈x.files,f.nm=a.to.data.toList
def cN0 (x:aK)(a:aP)(y:aK):Prop:=∃ p q,∃ h:p<x.files.length,x.files[p].nm=a.file.data.toList/\(∀ e∈(x.files.eraseIdx p).take q,e.nm<a.to.data.toList)/\(∀ e∈(x.files.eraseIdx p).drop q,a.to.data.toList<e.nm)/\y={ x with files:=(x.files.eraseIdx p).take q++⟨a.to,x.files[p].root,x.files[p].size⟩::(x.files.eraseIdx p).drop q }
def yZ (x:aK)(a:aP):Prop:=aM a.to/\(¬∃ s∈x.snaps,s.nm=a.to.data.toList)/\x.snaps.length<3
def cM4 (x:aK)(a:aP)(y:aK):Prop:=∃ q,(∀ s∈x.snaps.take q,s.nm<a.to.data.toList)/\(∀ s∈x.snaps.drop q,a.to.data.toList<s.nm)/\y={ x with snaps:=x.snaps.take q++⟨a.to,x.files⟩::x.snaps.drop q }
def oG (x:aK)(a:aP):Prop:=aM a.to/\∃ s∈x.snaps,s.nm=a.to.data.toList
def cS8 (x:aK)(a:aP)(y:aK):Prop:=∃ q,∃ h:q<x.snaps.length,x.snaps[q].nm=a.to.data.toList/\y={ x with snaps:=x.snaps.eraseIdx q }
def cG0 (x:aK)(a:aP)(y:aK):Prop:=∃ q,∃ h:q<x.snaps.length,x.snaps[q].nm=a.to.data.toList/\y={ x with files:=x.snaps[q].files }
def Plain (x:aK)(a:aP)(y:aK):Prop:=
 (a.kind=5/\cN1 x a y)\/(a.kind=6/\oH x a/\cN0 x a y)\/(a.kind=7/\yZ x a/\cM4 x a y)\/(a.kind=8/\oG x a/\cS8 x a y)\/(a.kind=9/\oG x a/\cG0 x a y)
def kV (n:Nat)(B C:Nat->Blk)(key:Int)(x:aK)(a:aP)(made:Int)(y:aK)(cc:Int):Prop:=
 (a.kind=3/\aM a.file/\okW a/\Wrote n B C key x a.file (pJ key B a) cc made y)\/(a.kind=4/\aM a.file/\okC x a/\Wrote n B C key x a.file (cL1 key B a) cc made y)\/(Plain x a y/\C=B/\made=0)
def zN (n:Nat)(B:Nat->Blk)(key:Int)(x:aK)(a:aP):Prop:=
 (a.kind=3->aM a.file->okW a->((∃ f∈x.files,f.nm=a.file.data.toList)\/x.files.length<6)->NoRoom n B key x a.file (pJ key B a))/\(a.kind=6->¬oH x a)/\(a.kind=7->¬yZ x a)/\(a.kind=8->¬oG x a)/\(a.kind=9->¬oG x a)
structure lQ (n:Nat)(B:Nat->Blk)(key:Int)(e:Int)(x:aK)(a:aP):Prop where
 write:a.kind=3->bX4 n B key x a.file (okW a) (fun e=>e=pK a.pos (a.bytes.length:Int)) (pJ key B a) e
 cut:a.kind=4->bX4 n B key x a.file (okC x a) (aR1 x a.file) (cL1 key B a) e
 remove:a.kind=5->e=5/\¬∃ f∈x.files,f.nm=a.file.data.toList
 rename:a.kind=6->cG3 x a.file a.to e
 snap:a.kind=7->bE3 x a.to e
 old:a.kind=8\/a.kind=9->aQ9 a.to e
 other:¬(3<=a.kind/\a.kind<=9)->e=4
theorem bX4.room {n:Nat}{B:Nat->Blk}{key:Int}{x:aK}{nm:ByteArray}{ok:Prop}{bad:Int->Prop}{N:Int->Int->List Int}{e:Int}(h:bX4 n B key x nm ok bad N e)(h1:aM nm)(h2:ok)(h3:(∃ f∈x.files,f.nm=nm.data.toList)\/x.files.length<6):e=8/\NoRoom n B key x nm N:=by
 rcases h.2.2 h1 h2 with h | ⟨_,h4,h5⟩
 ·exact h
 ·rcases h3 with h3 | h3
  ·exact absurd h3 h4
  ·exact absurd h3 h5
theorem lQ.w8 {n:Nat}{B:Nat->Blk}{key e:Int}{x:aK}{a:aP}(h:lQ n B key e x a)(hk:a.kind=3)(h1:aM a.file)(h2:okW a)(h3:(∃ f∈x.files,f.nm=a.file.data.toList)\/x.files.length<6):e=8:=((h.write hk).room h1 h2 h3).1
theorem cQ4 {n:Nat}{B:Nat->Blk}{key e:Int}{x:aK}{a:aP}(hk:a.kind=3)(h:bX4 n B key x a.file (okW a) (fun e=>e=pK a.pos (a.bytes.length:Int)) (pJ key B a) e):lQ n B key e x a:=⟨fun _=>h,fun f=>by omega,fun f=>by omega,fun f=>by omega,fun f=>by omega,fun f=>by omega,fun f=>by omega⟩
theorem cQ3 {n:Nat}{B:Nat->Blk}{key e:Int}{x:aK}{a:aP}(hk:a.kind=4)(h:bX4 n B key x a.file (okC x a) (aR1 x a.file) (cL1 key B a) e):lQ n B key e x a:=⟨fun f=>by omega,fun _=>h,fun f=>by omega,fun f=>by omega,fun f=>by omega,fun f=>by omega,fun f=>by omega⟩
theorem cQ2 {n:Nat}{B:Nat->Blk}{key e:Int}{x:aK}{a:aP}(hk:a.kind=5)(h:e=5/\¬∃ f∈x.files,f.nm=a.file.data.toList):lQ n B key e x a:=⟨fun f=>by omega,fun f=>by omega,fun _=>h,fun f=>by omega,fun f=>by omega,fun f=>by omega,fun f=>by omega⟩
theorem cQ1 {n:Nat}{B:Nat->Blk}{key e:Int}{x:aK}{a:aP}(hk:a.kind=6)(h:cG3 x a.file a.to e):lQ n B key e x a:=⟨fun f=>by omega,fun f=>by omega,fun f=>by omega,fun _=>h,fun f=>by omega,fun f=>by omega,fun f=>by omega⟩
theorem cQ0 {n:Nat}{B:Nat->Blk}{key e:Int}{x:aK}{a:aP}(hk:a.kind=7)(h:bE3 x a.to e):lQ n B key e x a:=⟨fun f=>by omega,fun f=>by omega,fun f=>by omega,fun f=>by omega,fun _=>h,fun f=>by omega,fun f=>by omega⟩
theorem cH8 {n:Nat}{B:Nat->Blk}{key e:Int}{x:aK}{a:aP}(hk:a.kind=8\/a.kind=9)(h:aQ9 a.to e):lQ n B key e x a:=⟨fun f=>by omega,fun f=>by omega,fun f=>by omega,fun f=>by omega,fun f=>by omega,fun _=>h,fun f=>by omega⟩
theorem cP9 {n:Nat}{B:Nat->Blk}{key:Int}{x:aK}{a:aP}(hk:¬(3<=a.kind/\a.kind<=9)):lQ n B key 4 x a:=⟨fun f=>by omega,fun f=>by omega,fun f=>by omega,fun f=>by omega,fun f=>by omega,fun f=>by omega,fun _=>rfl⟩
theorem mP {n:Nat}{B C:Nat->Blk}{key:Int}{x y:aK}{nm:ByteArray}{N:Int->Int->List Int}{cc made:Int}(hx:aV n B key x)(hn:aM nm)(hN:∀ root size,(N root size).length<=256/\Bytes (N root size))(h:Wrote n B C key x nm N cc made y):
 Grow n B C [made]/\(∀ k,k<n->(C k).refs<=cc+48)/\Shape y/\(∀ e∈kK y,bQ n C key e.root e.size)/\(∀ r:Int,(aG y).count r<=(aG x).count r+[made].count r)/\y.snaps=x.snaps:=by
 obtain⟨root,size,hok,hT,p,ht⟩:=h
 have hg:=hT.turned.grow
 have hs:=hx.shape
 have hF:=(hT.file hok (hN root size).1 (hN root size).2).1
 refine⟨hg,hT.turned.few,?_⟩
 rcases ht with⟨hp,_,_,_,rfl⟩ | ⟨_,_,_,h6,h1,h2,rfl⟩
 ·refine⟨⟨hs.name,by simpa using hs.few,fun e he=>?_,xH hs.order hp rfl,hs.fewS,hs.namesS,hs.orderS,hs.filesS⟩,fun e he=>?_,fun r=>?_,rfl⟩
  ·rcases lW he with rfl | h
   ·exact hs.names x.files[p] (List.getElem_mem hp)
   ·exact hs.names e h
  ·rcases List.mem_append.1 he with h | h
   ·rcases lW h with rfl | h
    ·exact hF
    ·exact jW hx hg e (List.mem_append_left _ h)
   ·exact jW hx hg e (List.mem_append_right _ h)
  ·have:=bV8 hp ⟨(x.files[p]).name,made,((N root size).length:Int)⟩ r
   have e:[(Ent.mk (x.files[p]).name made ((N root size).length:Int)).root].count r=[made].count r:=rfl
   rw[e] at this
   unfold aG
   simp only[List.count_append]
   omega
 ·refine⟨⟨hs.name,by show (_:Nat)<=6; rw[length_insert]; omega,fun e he=>?_,jC (f:=Ent.nm) hs.order h1 h2,hs.fewS,hs.namesS,hs.orderS,hs.filesS⟩,fun e he=>?_,fun r=>?_,rfl⟩
  ·rcases mem_insert.1 he with rfl | h
   ·exact hn
   ·exact hs.names e h
  ·rcases List.mem_append.1 he with h | h
   ·rcases mem_insert.1 h with rfl | h
    ·exact hF
    ·exact jW hx hg e (List.mem_append_left _ h)
   ·exact jW hx hg e (List.mem_append_right _ h)
  ·have:=uP (l:=x.files) p ⟨nm,made,((N root size).length:Int)⟩ r
   have e:[(Ent.mk nm made ((N root size).length:Int)).root].count r=[made].count r:=rfl
   rw[e] at this
   unfold aG
   simp only[List.count_append]
   omega
theorem iQ (l:List Ent):(aT l).length=l.length:=by simp[aT]
theorem aU0 {n:Nat}{B:Nat->Blk}{key:Int}{x y:aK}{a:aP}(hx:aV n B key x)(h:Plain x a y):
 Shape y/\(∀ e∈kK y,bQ n B key e.root e.size)/\(∀ r:Int,(aG y).count r<=(aG x).count r+6):=by
 have hs:=hx.shape
 rcases h with⟨_,p,hp,_,rfl⟩ | ⟨_,⟨_,hn,_⟩,p,q,hp,_,h1,h2,rfl⟩ | ⟨_,⟨hn,_,h3⟩,q,h1,h2,rfl⟩ | ⟨_,_,q,hq,_,rfl⟩ | ⟨_,_,q,hq,_,rfl⟩
 ·refine⟨⟨hs.name,Nat.le_trans (List.eraseIdx_sublist _ _).length_le hs.few,fun e he=>hs.names e ((List.eraseIdx_sublist _ _).subset he),iM hs.order p,hs.fewS,hs.namesS,hs.orderS,hs.filesS⟩,fun e he=>?_,fun r=>?_⟩
  ·rcases List.mem_append.1 he with h | h
   ·exact hx.ents e (List.mem_append_left _ ((List.eraseIdx_sublist _ _).subset h))
   ·exact hx.ents e (List.mem_append_right _ h)
  ·have:=yL hp r
   unfold aG
   simp only[List.count_append]
   omega
 ·have hmem:=List.getElem_mem hp
  refine⟨⟨hs.name,by show (_:Nat)<=6; rw[length_insert,List.length_eraseIdx,if_pos hp]; have:=hs.few; omega,fun e he=>?_,jC (f:=Ent.nm) (iM hs.order p) h1 h2,hs.fewS,hs.namesS,hs.orderS,hs.filesS⟩,fun e he=>?_,fun r=>?_⟩
  ·rcases mem_insert.1 he with rfl | h
   ·exact hn
   ·exact hs.names e ((List.eraseIdx_sublist _ _).subset h)
  ·rcases List.mem_append.1 he with h | h
   ·rcases mem_insert.1 h with rfl | h
    ·exact hx.ents x.files[p] (List.mem_append_left _ hmem)
    ·exact hx.ents e (List.mem_append_left _ ((List.eraseIdx_sublist _ _).subset h))
   ·exact hx.ents e (List.mem_append_right _ h)
  ·have:=yL hp r
   have h3:=uP (l:=x.files.eraseIdx p) q ⟨a.to,(x.files[p]).root,(x.files[p]).size⟩ r
   have e:[(Ent.mk a.to (x.files[p]).root (x.files[p]).size).root].count r=[(x.files[p]).root].count r:=rfl
   rw[e] at h3
   unfold aG
   simp only[List.count_append]
   omega
 ·refine⟨⟨hs.name,hs.few,hs.names,hs.order,by show (_:Nat)<=3; rw[length_insert]; omega,fun s hsm=>?_,jC (f:=bD.nm) hs.orderS h1 h2,fun s hsm=>?_⟩,fun e he=>?_,fun r=>?_⟩
  ·rcases mem_insert.1 hsm with rfl | h
   ·exact hn
   ·exact hs.namesS s h
  ·rcases mem_insert.1 hsm with rfl | h
   ·exact⟨hs.few,hs.names,hs.order⟩
   ·exact hs.filesS s h
  ·rcases List.mem_append.1 he with h | h
   ·exact hx.ents e (List.mem_append_left _ h)
   ·obtain⟨s,hsm,h⟩:=List.mem_flatMap.1 h
    rcases mem_insert.1 hsm with rfl | hsm
    ·exact hx.ents e (List.mem_append_left _ h)
    ·exact hx.ents e (List.mem_append_right _ (List.mem_flatMap.2 ⟨s,hsm,h⟩))
  ·have:=tN (l:=x.snaps) q ⟨a.to,x.files⟩ r
   have e:(aT (bD.mk a.to x.files).files).count r=(aT x.files).count r:=rfl
   rw[e] at this
   have h6:(aT x.files).count r<=6:=Nat.le_trans List.count_le_length (by rw[iQ]; exact hs.few)
   unfold aG
   simp only[List.count_append]
   omega
 ·have hsub:∀ s,s∈x.snaps.eraseIdx q->s∈x.snaps:=fun s h=>(List.eraseIdx_sublist _ _).subset h
  refine⟨⟨hs.name,hs.few,hs.names,hs.order,Nat.le_trans (List.eraseIdx_sublist _ _).length_le hs.fewS,fun s h=>hs.namesS s (hsub s h),iM hs.orderS q,fun s h=>hs.filesS s (hsub s h)⟩,fun e he=>?_,fun r=>?_⟩
  ·rcases List.mem_append.1 he with h | h
   ·exact hx.ents e (List.mem_append_left _ h)
   ·obtain⟨s,hsm,h⟩:=List.mem_flatMap.1 h
    exact hx.ents e (List.mem_append_right _ (List.mem_flatMap.2 ⟨s,hsub s hsm,h⟩))
  ·have:=vD hq r
   unfold aG
   simp only[List.count_append]
   omega
 ·have hmem:=List.getElem_mem hq
  refine⟨⟨hs.name,(hs.filesS _ hmem).1,(hs.filesS _ hmem).2.1,(hs.filesS _ hmem).2.2,hs.fewS,hs.namesS,hs.orderS,hs.filesS⟩,fun e he=>?_,fun r=>?_⟩
  ·rcases List.mem_append.1 he with h | h
   ·exact hx.ents e (List.mem_append_right _ (List.mem_flatMap.2 ⟨_,hmem,h⟩))
   ·exact hx.ents e (List.mem_append_right _ h)
  ·have h6:(aT (x.snaps[q]).files).count r<=6:=Nat.le_trans List.count_le_length (by rw[iQ]; exact(hs.filesS _ hmem).1)
   unfold aG
   simp only[List.count_append]
   omega
theorem sQ {key:Int}{B:Nat->Blk}{a:aP}(hb:Bytes a.bytes)(ho:okW a)(root size:Int):(pJ key B a root size).length<=256/\Bytes (pJ key B a root size):=
 ⟨aE8 key (aH B 3 root) size.toNat a.pos.toNat a.bytes (by have:=ho.1; have:=ho.2; omega),xD (fun z hz=>jA _ _ z (List.mem_of_mem_take hz)) hb⟩
theorem aP4 {key:Int}{B:Nat->Blk}{a:aP}{x:aK}(ho:okC x a)(root size:Int):(cL1 key B a root size).length<=256/\Bytes (cL1 key B a root size):=
 ⟨by unfold cL1; rw[List.length_take,cK]; omega,fun z hz=>jA _ _ z (List.mem_of_mem_take hz)⟩
def iP (a:aP):Int:=if a.kind=3\/a.kind=4 then 48 else 0
def leftOf (a:aP):Int:=if a.kind=3\/a.kind=4 then 48 else 6
structure Chg (n:Nat)(B C:Nat->Blk)(key:Int)(x:aK)(a:aP)(made:Int)(y:aK)(cc:Int):Prop where
 grow:Grow n B C [made]
 few:∀ k,k<n->(C k).refs<=cc+iP a
 shape:Shape y
 files:∀ e∈kK y,bQ n C key e.root e.size
 left:∀ r:Int,((aG y).count r:Int)<=((aG x).count r:Int)+([made].count r:Int)+leftOf a-iP a
theorem kV.chg {n:Nat}{B C:Nat->Blk}{key:Int}{x y:aK}{a:aP}{made cc:Int}(hx:aV n B key x)(hb:Bytes a.bytes)(hc:∀ k,k<n->(B k).refs<=cc)(h:kV n B C key x a made y cc):Chg n B C key x a made y cc:=by
 rcases h with⟨hk,hn,ho,h⟩ | ⟨hk,hn,ho,h⟩ | ⟨h,rfl,rfl⟩
 ·obtain⟨h1,h2,h3,h4,h5,_⟩:=mP hx hn (sQ hb ho) h
  refine⟨h1,fun k hk'=>?_,h3,h4,fun r=>?_⟩
  ·have:=h2 k hk'; unfold iP; rw[if_pos (.inl hk)]; exact this
  ·have:=h5 r; unfold iP leftOf; rw[if_pos (.inl hk),if_pos (.inl hk)]; omega
 ·obtain⟨h1,h2,h3,h4,h5,_⟩:=mP hx hn (aP4 ho) h
  refine⟨h1,fun k hk'=>?_,h3,h4,fun r=>?_⟩
  ·have:=h2 k hk'; unfold iP; rw[if_pos (.inr hk)]; exact this
  ·have:=h5 r; unfold iP leftOf; rw[if_pos (.inr hk),if_pos (.inr hk)]; omega
 ·have hk:¬(a.kind=3\/a.kind=4):=by
   rcases h with⟨h,_⟩ | ⟨h,_⟩ | ⟨h,_⟩ | ⟨h,_⟩ | ⟨h,_⟩<;>omega
  obtain⟨h3,h4,h5⟩:=aU0 hx h
  refine⟨(bC3 hx.right).zero,fun k hk'=>?_,h3,h4,fun r=>?_⟩
  ·have:=hc k hk'; unfold iP; rw[if_neg hk]; omega
  ·have:=h5 r; unfold iP leftOf; rw[if_neg hk,if_neg hk]; omega
theorem jP {x:aK}(h:Shape x):(aG x).length<=24:=by
 have h1:∀ l:List bD,(∀ s∈l,s.files.length<=6)->(dR l).length<=6*l.length:=by
  intro l
  induction l with
  | nil=>intro _; simp[dR]
  | cons s l ih=>
    intro hl
    have h2:=ih fun s hs=>hl s (List.mem_cons_of_mem _ hs)
    have h3:=hl s List.mem_cons_self
    show (aT s.files++dR l).length<=_
    rw[List.length_append,iQ,List.length_cons]
    omega
 have h2:=h1 x.snaps (fun s hs=>(h.filesS s hs).1)
 have h3:=h.fewS
 have h4:=h.few
 unfold aG
 rw[List.length_append,iQ]
 omega
theorem Chg.there {n:Nat}{B C:Nat->Blk}{key:Int}{x y:aK}{a:aP}{made cc:Int}(h:Chg n B C key x a made y cc):∀ r∈aG y,r=0\/There n C r:=fun r hr=>by
 rw[gL] at hr
 obtain⟨e,he,rfl⟩:=bV.1 hr
 rcases(h.files e he).rooted with h0 | ⟨h1,_⟩
 ·exact .inl h0
 ·exact .inr h1
theorem Chg.room {n:Nat}{B C:Nat->Blk}{key:Int}{x y:aK}{a:aP}{made cc:Int}(h:Chg n B C key x a made y cc)(hcc:cc+iP a+24<=1000000):∀ i,i<n->(C i).refs+((aG y).length:Int)<=1000000:=fun i hi=>by
 have h1:=h.few i hi
 have h2:=jP h.shape
 omega
theorem Chg.out {n:Nat}{B C:Nat->Blk}{key:Int}{x y:aK}{a:aP}{made cc:Int}(h:Chg n B C key x a made y cc)(hh:dY n B (aG x)):∀ k,k<n->((aG x++[made]).count ((k:Int)+1):Int)<=outs n C k+((aG y).count ((k:Int)+1):Int):=fun k hk=>by
 rw[h.grow.out k hk,List.count_append]
 have:=hh k hk
 omega
theorem Chg.done {n:Nat}{B C D:Nat->Blk}{key:Int}{x y:aK}{a:aP}{made cc:Int}(hx:aV n B key x)(hh:dY n B (aG x))(h:Chg n B C key x a made y cc)(hcc:cc+iP a+24<=1000000)(hD:Right n D)(hF:iU n (eX C (aG y)) D (aG x++[made])):
 After n key B D x y/\(∀ e∈kK y,aR key (aH D 3 e.root)=aR key (aH C 3 e.root))/\∀ k,k<n->(D k).refs<=cc+leftOf a:=by
 have hg2:=aB8 h.grow.right h.there (h.room hcc)
 have hg:=h.grow.trans hg2
 have h1:=cF8 (y:=y) hx hh hg hD hF (fun r _=>by simp only[List.count_append]; omega) h.shape (fun e he=>((h.files e he).ext hg2.ext hg2.right).1)
 refine⟨h1.1,fun e he=>(h1.2 e he).trans ((h.files e he).ext hg2.ext hg2.right).2,fun k hk=>?_⟩
 have h2:=bU6 hF k hk
 have h3:=h.few k hk
 have h4:=h.left ((k:Int)+1)
 rw[fO,List.count_append] at h2
 omega
end Go.Proofs.YtjafgnohlkkopaaGreatDoor
