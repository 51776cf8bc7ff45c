import Derived.Test.YtjafgnohlkkopaaGreatDoorPart16
import Derived.Test.YtjafgnohlkkopaaGreatDoorPart14
import Derived.Deep.RegionHeld3
set_option linter.unusedVariables false
set_option maxHeartbeats 8000000
set_option maxRecDepth 100000
namespace Go.Proofs.YtjafgnohlkkopaaGreatDoor
open Go.RowKit
theorem Only.trans2 {M N:Nat->Prop}{a b c:World}(h:Only M a b)(k:Only N b c)(hn:∀ i,i<a.heap.size->N i->M i):Only M a c:=
 ⟨k.os.trans h.os,k.tape.trans h.tape,k.output.trans h.output,Nat.le_trans h.size k.size,fun i hi hm=>(k.block i (Nat.lt_of_lt_of_le hi h.size) (fun f=>hm (hn i hi f))).trans (h.block i hi hm)⟩
theorem aW5 (base:Nat)(L:Nat->Prop)(yb:Nat)(v:cB)(x:aK)(ms:List aZ)(f:Ent)(p:Nat)(w:World)(hP:nJ base L w yb v x ms)(hp:p<=v.fn)(hfn:v.fn<=6)(hbw:base<=w.heap.size)(hf:f.ok):
 Calls Tryz.prog 149 #[.slice v.fa v.fn v.fc,.int .i64 p,.slice (some ⟨w.heap.size,0,none⟩) 1 1] (w.alloc (.cells #[.string f.name,.int .i64 f.root,.int .i64 f.size] 106)) fun e w'=>
  ∃ fa' fc', e=.returned (.slice fa' (v.fn+1) fc')/\aC w' yb #[.string x.name,.slice v.fa v.fn v.fc,.slice v.sa v.sn v.sc] 84/\
   ∃ v', nJ base L (w'.setCell ⟨yb,1,none⟩ (.slice fa' (v.fn+1) fc')) yb v' { x with files:=x.files.take p++f::x.files.drop p } ms/\v'.fa=fa'/\v'.fn=v.fn+1/\v'.fc=fc'/\Only (Mine yb v) w (w'.setCell ⟨yb,1,none⟩ (.slice fa' (v.fn+1) fc'))/\∀ b,v'.mine b->v.mine b\/w.heap.size<=b:=by
 have ba:=aA w (.cells #[.string f.name,.int .i64 f.root,.int .i64 f.size] 106)
 have kv:aC _ w.heap.size #[.string f.name,.int .i64 f.root,.int .i64 f.size] 106:=aB w _ _
 have hs3:=bI hP.new.files ba
 have hlt:=(hP.new.files.lt)
 have hsz:=ba.size
 refine(aV5 v.fa v.fn v.fc p w.heap.size 1 1 base (bK x.files) f.cells 106 _ hp (by omega) (by omega) hs3 (by omega) kv rfl (fun e=>by have:=(hlt _ e).2; omega) (fD _) f.cells_one).mono ?_
 rintro e w' ⟨fa', fc', rfl,ho,on,hat⟩
 have hon:Only (fun b=>(Value.slice v.fa v.fn v.fc).ownBlock=some b) w w':=(Only.of_below ba).trans on
 rw[yI] at ho
 obtain⟨h1,h2,h3⟩:=hP.files (fa:=fa') (fn:=v.fn+1) (fc:=fc') (l:=x.files.take p++f::x.files.drop p) hon ho (fun e he=>by
  rcases mem_insert.1 he with rfl | he
  ·exact hf
  ·exact hP.new.ok e he)
  (fun b hb=>by
    rcases hat with h | h
    ·exact .inl (h▸hb)
    ·rw[h] at hb
     simp only[Option.some.injEq] at hb
     exact .inr (by omega))
 exact⟨fa', fc', rfl,hon.cells hP.box (fun e=>hP.ny (.inl e)),_,h1,rfl,rfl,rfl,h2,h3⟩
theorem uM (base:Nat)(L:Nat->Prop)(yb:Nat)(v:cB)(x:aK)(ms:List aZ)(f:Ent)(p:Nat)(w:World)(hP:nJ base L w yb v x ms)(hp:p<=v.fn)(hfn:v.fn<=6)(hbw:base<=w.heap.size)(hf:f.ok):
 Calls Tryz.prog 149 #[.slice v.fa v.fn v.fc,.int .i64 p,.slice (some ⟨w.heap.size,0,none⟩) 1 1] (w.alloc (.cells #[.string f.name,.int .i64 f.root,.int .i64 f.size] 106)).drew fun e w'=>
  ∃ fa' fc', e=.returned (.slice fa' (v.fn+1) fc')/\aC w' yb #[.string x.name,.slice v.fa v.fn v.fc,.slice v.sa v.sn v.sc] 84/\
   ∃ v', nJ base L (w'.setCell ⟨yb,1,none⟩ (.slice fa' (v.fn+1) fc')) yb v' { x with files:=x.files.take p++f::x.files.drop p } ms/\v'.fa=fa'/\v'.fn=v.fn+1/\v'.fc=fc'/\Only (Mine yb v) w (w'.setCell ⟨yb,1,none⟩ (.slice fa' (v.fn+1) fc'))/\∀ b,v'.mine b->v.mine b\/w.heap.size<=b:=by
 have h:=aW5 base L yb v x ms f p w.drew (hP.below (aD _ _)) hp hfn hbw hf
 refine Calls.mono (w:=w.drew.alloc (.cells #[.string f.name,.int .i64 f.root,.int .i64 f.size] 106)) h ?_
 rintro e w' ⟨fa', fc', he,hb,v', h1,h2,h3,h4,h5,h6⟩
 exact⟨fa', fc', he,hb,v', h1,h2,h3,h4,⟨h5.os,h5.tape,h5.output,h5.size,h5.block⟩,h6⟩
def cE9 (x:aK)(nm to:ByteArray)(e':Int):Prop:=((¬∃ f∈x.files,f.nm=nm.data.toList)/\e'=5)\/((∃ f∈x.files,f.nm=nm.data.toList)/\¬aN to/\e'=1)\/((∃ f∈x.files,f.nm=nm.data.toList)/\aN to/\e'=6)
theorem bF6 (base:Nat)(L:Nat->Prop)(yb:Nat)(v:cB)(x:aK)(ms:List aZ)(nm to:ByteArray)(w:World)(hP:nJ base L w yb v x ms)(hS:Shape x)(hto:to.size<=maxLen)(hbw:base<=w.heap.size):
 Calls Tryz.prog 123 #[.pointer (some ⟨yb,0,none⟩),.string nm,.string to] w fun e w'=>
  zN base L w yb v ((∃ f∈x.files,f.nm=nm.data.toList)/\aN to/\¬∃ f∈x.files,f.nm=to.data.toList) (cE9 x nm to)
   (fun y=>∃ p q,∃ h:p<x.files.length,x.files[p].nm=nm.data.toList/\(∀ e∈(x.files.eraseIdx p).take q,e.nm<to.data.toList)/\(∀ e∈(x.files.eraseIdx p).drop q,to.data.toList<e.nm)/\y={ x with files:=(x.files.eraseIdx p).take q++⟨to,x.files[p].root,x.files[p].size⟩::(x.files.eraseIdx p).drop q }) e w':=by
 have hyl:=hP.box.lt
 have hnl:=hid hP.nl
 have hfl:=hP.entsAt.1
 have hfn:v.fn<=6:=by rw[<-hfl]; exact hS.few
 have ho:=hS.order
 have y1:=hP.box.cell 1
 simp at y1
 replace hP:=hid hP
 replace ho:=hid ho
 replace hS:=hid hS
 replace hfl:=hid hfl
 go_enter Tryz.func123,Tryz.ntmps123
 go_wp2_with fail
 refine(iP _ v.fa v.fn v.fc x.files nm w (by omega) hP.out.entsAt ho.out).mono ?_
 rintro e w1 ⟨⟨p,b,rfl,hF⟩,b1⟩
 have hb:=dJ ho.out hF
 cases b
 ·have hno:Hid (¬∃ f∈x.files,f.nm=nm.data.toList):=hid (fun f=>Bool.false_ne_true (hb.2 f))
  clear hb hF
  go_wp2_with fail
  go_ret
  exact⟨Only.of_below b1,.inl ⟨5,rfl,by omega,fun f=>hno.out f.1,.inl ⟨hno.out,rfl⟩⟩⟩
 obtain⟨hp,hpn⟩:=jR hF
 have hth:=hid (hb.1 rfl)
 replace hpn:=hid hpn
 clear hb hF
 go_wp2_with fail
 refine(iM to w1 hto).mono ?_
 rintro e w1' ⟨⟨t,rfl,ht⟩,rfl⟩
 cases t
 ·have hno:Hid (¬aN to):=hid (fun f=>Bool.false_ne_true (ht.2 f))
  clear ht
  go_wp2_with fail
  go_ret
  exact⟨Only.of_below b1,.inl ⟨1,rfl,by omega,fun f=>hno.out f.2.1,.inr (.inl ⟨hth.out,hno.out,rfl⟩)⟩⟩
 have hyes:Hid (aN to):=hid (ht.1 rfl)
 clear ht
 replace y1:=(b1.cell (p:=⟨yb,1,none⟩) hyl).trans y1
 replace hP:=hid (hP.out.below b1)
 go_wp2_with fail
 refine(iP _ v.fa v.fn v.fc x.files to w1' (by omega) hP.out.entsAt ho.out).mono ?_
 rintro e w2 ⟨⟨p2,b,rfl,hF⟩,b2⟩
 have hb:=dJ ho.out hF
 have hyl1:yb<w1'.heap.size:=Nat.lt_of_lt_of_le hyl b1.size
 cases b
 case true=>
  have htw:=hid (hb.1 rfl)
  clear hb hF
  go_wp2_with fail
  go_ret
  exact⟨Only.of_below (Below.tr b1 b2),.inl ⟨6,rfl,by omega,fun f=>f.2.2 htw.out,.inr (.inr ⟨hth.out,hyes.out,rfl⟩)⟩⟩
 have hnot:Hid (¬∃ f∈x.files,f.nm=to.data.toList):=hid (fun f=>Bool.false_ne_true (hb.2 f))
 clear hb hF
 replace y1:=(b2.cell (p:=⟨yb,1,none⟩) hyl1).trans y1
 replace hP:=hid (hP.out.below b2)
 replace b1:=Below.tr b1 b2
 clear b2
 have hpv:p<v.fn:=by rw[<-hfl.out]; exact hp
 obtain⟨fb,hfb⟩:∃ fb,v.fa=some ⟨fb,0,none⟩:=by
  rcases hP.out.new.files.2 with⟨h0,h1⟩ | ⟨g,cap,cur,h0,_⟩
  ·omega
  ·simp only[Value.slice.injEq] at h0; exact⟨g,h0.1⟩
 have hE:=hP.out.entsAt
 rw[hfb] at hE
 have hA:=hE.ent hpv
 have hgd:x.files.getD p Ent.zero=x.files[p]:=by simp[List.getD,hp]
 rw[hgd] at hA
 have hfok:=hid (hE.2.1 _ (List.getElem_mem hp))
 have c1:=hA.c1
 have c2:=hA.c2
 rw[Nat.zero_add] at c1 c2
 obtain⟨f,hff⟩:∃ f,f=x.files[p]:=⟨_,rfl⟩
 rw[<-hff] at c1 c2 hfok
 replace hff:=hid hff
 have y1':=y1
 rw[hfb] at y1'
 replace hfb:=hid hfb
 have hmlt:Hid (∀ b,v.mine b->b<w2.heap.size):=hid (fun b hb=>(hP.out.new.mine_ge hb).2)
 clear hA hE hgd y1
 go_upto_region 10 with fail
 clear c1 c2 y1'
 have b3:=aA w2 (.cells #[.int .i64 f.root,.int .i64 f.size] 104)
 have k3:aC _ w2.heap.size #[.int .i64 f.root,.int .i64 f.size] 104:=aB w2 _ _
 replace hP:=hP.out.below b3
 replace b3:=Below.tr b1 b3
 have hsz3:w2.heap.size<(w2.alloc (.cells #[.int .i64 f.root,.int .i64 f.size] 104)).heap.size:=by simp
 have hylw:yb<w2.heap.size:=Nat.lt_of_lt_of_le hyl b1.size
 have hmw:∀ b,v.mine b->b≠w2.heap.size:=fun b hb=>Nat.ne_of_lt (hmlt.out b hb)
 generalize w2.alloc (.cells #[.int .i64 f.root,.int .i64 f.size] 104)=w3 at *
 have y1:=hP.box.cell 1
 simp at y1
 replace hP:=hid hP
 replace k3:=hid k3
 replace hmw:=hid hmw
 go_wp2_with fail
 refine(yJ v.fa v.fn v.fc p base (bK x.files) w3 hpv hP.out.new.files (fD _)).mono ?_
 rintro e w4 ⟨rfl,hr,on⟩
 rw[pR] at hr
 obtain⟨hP', on', hm'⟩:=hP.out.files (fa:=v.fa) (fn:=v.fn-1) (fc:=v.fc) on hr (fun e he=>hP.out.new.ok e ((List.eraseIdx_sublist _ _).subset he)) (fun b hb=>.inl ((xD v.fa v.fn v.fc (v.fn-1) v.fc).trans hb))
 have z1:=(on.cells hP.out.box (fun e=>hP.out.ny (.inl e))).cell 1
 have z2:=(on.cells hP.out.box (fun e=>hP.out.ny (.inl e))).frozen 1
 simp at z1
 have k5:aC (w4.setCell ⟨yb,1,none⟩ (.slice v.fa (v.fn-1) v.fc)) w2.heap.size #[.int .i64 f.root,.int .i64 f.size] 104:=on'.cells k3.out (fun e=>by
  rcases e with e | e
  ·omega
  ·exact hmw.out _ e rfl)
 clear on hr k3 y1
 replace hP':=hid hP'
 replace on':=hid on'
 replace hm':=hid hm'
 replace k5:=hid k5
 go_wp2_with fail
 clear z1 z2
 generalize w4.setCell ⟨yb,1,none⟩ (.slice v.fa (v.fn-1) v.fc)=w5 at *
 have y1:=hP'.out.box.cell 1
 simp at y1
 have ho1:(x.files.eraseIdx p).Pairwise fun a b=>a.nm<b.nm:=iK ho.out p
 go_wp2_with fail
 refine(iP _ v.fa (v.fn-1) v.fc (x.files.eraseIdx p) to w5 (by omega) hP'.out.entsAt ho1).mono ?_
 rintro e w6 ⟨⟨q,b,rfl,hF⟩,b6⟩
 have hb:=dJ ho1 hF
 have hbf:b=false:=by
  cases b
  ·rfl
  ·obtain⟨g,hg,e⟩:=hb.1 rfl
   exact absurd ⟨g,(List.eraseIdx_sublist _ _).subset hg,e⟩ hnot.out
 subst hbf
 have hR1:=hid hF.ahead
 have hR2:=hid (jX ho1 hF)
 have hql:q<=v.fn-1:=by have:=hF.le; rw[List.length_eraseIdx_of_lt hp,hfl.out] at this; exact this
 have hP6:=hid (hP'.out.below b6)
 have y6:=(b6.cell (p:=⟨yb,1,none⟩) (eZ y1)).trans y1
 have k6:=k5.out.below b6
 have d0:=k6.cell 0
 have d1:=k6.cell 1
 simp at d0 d1
 have hyl6:yb<w6.heap.size:=Nat.lt_of_lt_of_le (eZ y1) b6.size
 have hbw6:base<=w6.heap.size:=by have:=on'.out.size; have:=b6.size; have:=b3.size; omega
 have hfok':Ent.ok ⟨to,f.root,f.size⟩:=⟨hto,hfok.out.2⟩
 have hn6:=Nat.ne_of_lt hyl6
 have hn6':=hn6.symm
 have hk6:=Nat.ne_of_lt k6.lt
 have hk6':=hk6.symm
 clear hb hF y1 k5 ho1 k6
 go_upto_region 12 with fail
 go_region_with (go_at_call 149; refine(uM base L yb _ _ ms ⟨to,f.root,f.size⟩ q w6 hP6.out hql (by simp; omega) hbw6 hfok').mono ?_; rintro e w7 ⟨fa', fc', rfl,hbx,hfin⟩; have t1:=hbx.cell 1; have t2:=hbx.frozen 1; simp at t1; replace hfin:=hid hfin; replace hbx:=hid hbx)
 all_goals (
  go_wp2_with fail
  go_ret
  obtain⟨v', hP7,_,_,_,on7,hm7⟩:=hfin.out
  refine vH (w1:=w3) b3 hyl hnl.out ⟨hth.out,hyes.out,hnot.out⟩ ⟨p,q,hp,hpn.out,hR1.out,hR2.out,by rw[<-hff.out]⟩ hP7 (fun b hb=>.inl hb) ((on'.out.trans (Only.of_below b6)).trans2 on7 (fun i hi h=>?_)) (fun b hb=>?_)
  ·rcases h with h | h
   ·exact .inl h
   ·rcases hm'.out i h with h | h
    ·exact .inr h
    ·omega
  ·rcases hm7 b hb with h | h
   ·exact hm'.out b h
   ·exact .inr (by have:=on'.out.size; have:=b6.size; omega))
theorem aW6 (a:Option Addr)(n c:Nat)(B:Nat->Blk)(key root size to:Int)(cc:Int)(w:World)(h:aO w a n B)(h1:64<=cc)(hcm:cc<=999936)(hc:∀ k,k<n->(B k).refs<=cc):
 Calls Tryz.prog 150 #[.agg #[.slice a n c],.int .i64 key,.agg #[.int .i64 root,.int .i64 size],.int .i64 to] w fun e w'=>
  cQ5 w.heap.size e w' n B key root size (0<=to/\to<=256) (fun e=>e=3) ((aT key (aH B 3 root)).take to.toNat) cc/\Below w.heap.size w w':=by
 have b0:Below w.heap.size w _:=((aW w (.cells #[.slice a n c] 24) (.cells #[.int .i64 root,.int .i64 size] 104)).alloc (by simp; omega) (.cells #[.slice none 0 0] 24)).alloc (by simp; omega) (.cells #[.int .i64 0,.int .i64 0] 104)
 have ks:aC _ w.heap.size #[.slice a n c] 24:=(((aB w _ _).below (aA _ (.cells #[.int .i64 root,.int .i64 size] 104))).below (aA _ (.cells #[.slice none 0 0] 24))).below (aA _ (.cells #[.int .i64 0,.int .i64 0] 104))
 have kf:aC _ (w.heap.size+1) #[.int .i64 root,.int .i64 size] 104:=((aF w (.cells #[.slice a n c] 24) _ _).below (aA _ (.cells #[.slice none 0 0] 24))).below (aA _ (.cells #[.int .i64 0,.int .i64 0] 104))
 have hrc:RC w ((((w.alloc (.cells #[.slice a n c] 24)).alloc (.cells #[.int .i64 root,.int .i64 size] 104)).alloc (.cells #[.slice none 0 0] 24)).alloc (.cells #[.int .i64 0,.int .i64 0] 104)):=⟨b0,by simp,(eY w (.cells #[.slice a n c] 24) (.cells #[.int .i64 root,.int .i64 size] 104) _ _).below (aA _ (.cells #[.int .i64 0,.int .i64 0] 104)),qA w (.cells #[.slice a n c] 24) (.cells #[.int .i64 root,.int .i64 size] 104) (.cells #[.slice none 0 0] 24) _ _⟩
 replace ks:=hid ks
 replace kf:=hid kf
 replace hrc:=hid hrc
 replace h:=hid h
 replace hc:=hid hc
 clear b0
 go_enter Tryz.func150,Tryz.ntmps150
 go_wp2_with fail
 generalize ((((w.alloc (.cells #[.slice a n c] 24)).alloc (.cells #[.int .i64 root,.int .i64 size] 104)).alloc (.cells #[.slice none 0 0] 24)).alloc (.cells #[.int .i64 0,.int .i64 0] 104))=w0 at *
 refine(vI a n c B key root size w0 (h.out.below hrc.out.bel)).mono ?_
 rintro e w1 ⟨hO,b1⟩
 replace hrc:=hid (hrc.out.below b1)
 replace ks:=hid (ks.out.below b1)
 replace kf:=hid (kf.out.below b1)
 clear b1
 rcases hO with⟨e', rfl,he,hno⟩ | ⟨g1,rfl,hok,hg1,hrow⟩
 ·have he':(e' == 0)=false:=by simp[he]
  have q1:=hrc.out.r10.cell 0
  have q2:=hrc.out.r10.frozen 0
  have q3:=hrc.out.r11.cell 0
  have q4:=hrc.out.r11.frozen 0
  have q5:=hrc.out.r11.cell 1
  have q6:=hrc.out.r11.frozen 1
  simp at q1 q3 q5
  replace hno:=hid hno
  go_wp2_with fail
  refine bodyPost_ret (v:=.tuple #[.agg #[.slice none 0 0],.agg #[.int .i64 0,.int .i64 0],.int .i64 e']) (by rw[aQ rfl]; go_simp) rfl ⟨⟨none,0,0,0,0,e', rfl,.inl ⟨rfl,rfl,rfl,rfl,rfl,he,fun f=>absurd f hno.out⟩⟩,hrc.out.put3 none 0 0 0 0⟩
 have hN:=fG (Q:=fun _=>True) trivial (iW key (aH B 3 root)) hrow
 rw[bY] at hN
 replace hN:=hid hN
 replace hok:=hid hok
 clear hrow
 by_cases hto:0<=to/\to<=256
 case neg=>
  have q1:=hrc.out.r10.cell 0
  have q2:=hrc.out.r10.frozen 0
  have q3:=hrc.out.r11.cell 0
  have q4:=hrc.out.r11.frozen 0
  have q5:=hrc.out.r11.cell 1
  have q6:=hrc.out.r11.frozen 1
  simp at q1 q3 q5
  go_wp2_with fail
  refine(mJ to w1 hto).mono ?_
  rintro e w2 ⟨rfl,rfl⟩
  replace hto:=hid hto
  go_wp2_with fail
  refine bodyPost_ret (v:=.tuple #[.agg #[.slice none 0 0],.agg #[.int .i64 0,.int .i64 0],.int .i64 3]) (by rw[aQ rfl]; go_simp) rfl ⟨⟨none,0,0,0,0,3,rfl,.inl ⟨rfl,rfl,rfl,rfl,rfl,by omega,fun _=>⟨fun f=>absurd f hto.out,fun _=>rfl⟩⟩⟩,hrc.out.put3 none 0 0 0 0⟩
 go_wp2_with fail
 refine(gH to w1 hto).mono ?_
 rintro e w2 ⟨rfl,rfl⟩
 obtain⟨S,rfl⟩:∃ S:Nat,to=(S:Int):=⟨to.toNat,by omega⟩
 have hS:S<=256:=by omega
 have f0:=kf.out.cell 0
 have s0:=ks.out.cell 0
 simp at f0 s0
 have hTk:=hN.out.takeN hS
 obtain⟨N,hNd⟩:∃ N,N=(aT key (aH B 3 root)).take S:=⟨_,rfl⟩
 rw[<-hNd] at hTk
 have hg4:=hrc.out.sz
 replace hNd:=hid hNd
 replace hTk:=hid hTk
 replace hto:=hid hto
 go_upto_region 6 with fail
 go_region_with (go_at_call 167; refine(aY3 a n c B key root g1 0 (aT key (aH B 3 root)) _ S _ N cc _ ?_ hok.out.right hok.out.rooted hok.out.kb ?_ ?_ hS h1 hcm hc.out).mono ?_; exact(h.out.below hrc.out.bel).below (aD _ _); exact hN.out.below (aD _ _); exact hTk.out.below (aD _ _); rintro e w3 ⟨⟨y,yn,yc,ra,rs,e', rfl,hcase⟩,b3⟩; have hrc3:=hrc.out.below ((aD _ _).trans b3); have q1:=hrc3.r10.cell 0; have q2:=hrc3.r10.frozen 0; have q3:=hrc3.r11.cell 0; have q4:=hrc3.r11.frozen 0; have q5:=hrc3.r11.cell 1; have q6:=hrc3.r11.frozen 1; simp at q1 q3 q5; replace hrc3:=hid hrc3; replace hcase:=hid hcase; replace b3:=hid b3)
 all_goals (
  have hfin:Hid (cQ5 w.heap.size (.returned (.tuple #[.agg #[.slice y yn yc],.agg #[.int .i64 ra,.int .i64 rs],.int .i64 e'])) (put3 w w3 y yn yc ra rs) n B key root size (0<=(S:Int)/\(S:Int)<=256) (fun e=>e=3) ((aT key (aH B 3 root)).take S) cc):=hid ⟨y,yn,yc,ra,rs,e', rfl,by
   rw[<-hNd.out]
   rcases hcase.out with⟨h2,h3,h4,h5,h6,h7,h8⟩ | ⟨h2,g,C,h3,h4,h5,h6,h7,h8,h9⟩
   ·exact .inl ⟨h2,h3,h4,h5,h6,by omega,fun _=>⟨fun _=>⟨h7,h8⟩,fun f=>absurd hto.out f⟩⟩
   ·have h7':w2.heap.size<=g:=h7
    exact .inr ⟨h2,hok.out,hto.out,g,C,h3,h4,h5,h6,by omega,h8.put3 (by omega) _ _ _ _ _,h9⟩⟩
  clear hcase f0 s0
  go_wp2_with fail
  refine bodyPost_ret (v:=.tuple #[.agg #[.slice y yn yc],.agg #[.int .i64 ra,.int .i64 rs],.int .i64 e']) (by rw[aQ rfl]; go_simp) rfl ⟨hfin.out,hrc3.out.put3 _ _ _ _ _⟩)
theorem rF {M:Nat->Prop}{w w':World}{g n:Nat}{B:Nat->Blk}(h:Own w g n B)(ho:Only M w w')(hM:∀ b,b<w.heap.size->M b->b<g):Own w' g n B:=by
 have hb:dO (fun b=>g<b/\b<w.heap.size) w g 0 n B:=h.blocks.weaken (fun b hb q=>⟨q,hb⟩)
 have hg:¬M g:=fun m=>by have:=hM g h.lt m; omega
 refine⟨Nat.lt_of_lt_of_le h.lt ho.size,?_,fun i hi=>?_⟩
 ·exact(ho.blocks hb hg h.lt (fun k q m=>by have:=hM k q.2 m; omega)).weaken (fun b _ q=>q.1)
 ·exact(World.frozen?_of_block (w:=w) (ho.block g h.lt hg)).trans (h.free i hi)
def iT (base:Nat)(w:World)(n:Nat)(B:Nat->Blk)(key root size:Int)(ok:Prop)(bad:Int->Prop)(N:List Int)(cc:Int)(x:Option Addr)(ln lc:Nat)(ra rs e':Int):Prop:=
 (x=none/\ln=0/\lc=0/\ra=0/\rs=0/\e'≠0/\(bU n B key root size->(ok->e'=8/\sJ n B (chg (aT key (aH B 3 root)) (dE N) 64))/\(¬ok->bad e')))\/
 (e'=0/\bU n B key root size/\ok/\∃ (g:Nat) (C:Nat->Blk),x=some ⟨g,0,none⟩/\ln=n/\lc=n/\rs=(N.length:Int)/\base<=g/\Own w g n C/\eU n B C key root (aT key (aH B 3 root)) (dE N) 64 ra cc)
theorem iT.only {M:Nat->Prop}{base base':Nat}{w w':World}{n:Nat}{B:Nat->Blk}{key root size:Int}{ok:Prop}{bad:Int->Prop}{N:List Int}{cc:Int}{x:Option Addr}{ln lc:Nat}{ra rs e':Int}(h:iT base w n B key root size ok bad N cc x ln lc ra rs e')(ho:Only M w w')(hM:∀ b,b<w.heap.size->M b->b<base)(hb:base'<=base):iT base' w' n B key root size ok bad N cc x ln lc ra rs e':=by
 rcases h with h | ⟨h1,h2,h3,g,C,h4,h5,h6,h7,h8,h9,h10⟩
 ·exact .inl h
 ·exact .inr ⟨h1,h2,h3,g,C,h4,h5,h6,h7,by omega,rF h9 ho (fun b hb m=>by have:=hM b hb m; omega),h10⟩
def cH0 (W wc:World)(n:Nat)(B:Nat->Blk)(key root size:Int)(ok:Prop)(bad:Int->Prop)(N:List Int)(cc:Int)(v13 v14 v15:Value):Prop:=
 ∃ (a13 a14:Nat) (x:Option Addr) (ln lc:Nat) (ra rs e':Int),v13=.pointer (some ⟨a13,0,none⟩)/\v14=.pointer (some ⟨a14,0,none⟩)/\v15=.int .i64 e'/\aC wc a13 #[.slice x ln lc] 24/\aC wc a14 #[.int .i64 ra,.int .i64 rs] 104/\Below W.heap.size W wc/\W.heap.size<=a13/\W.heap.size<=a14/\iT W.heap.size wc n B key root size ok bad N cc x ln lc ra rs e'
section
variable {W w6:World} {n:Nat} {B:Nat->Blk} {key root size:Int} {ok:Prop} {bad:Int->Prop} {N:List Int} {cc:Int} {x:Option Addr} {ln lc:Nat} {ra rs e':Int} {base:Nat}
abbrev bK5 (x:Option Addr)(ln lc:Nat):Obj:=.cells #[.slice x ln lc] 24
abbrev cQ3 (ra rs:Int):Obj:=.cells #[.int .i64 ra,.int .i64 rs] 104
theorem aV8 (bb:Below W.heap.size W w6)(h:iT base w6 n B key root size ok bad N cc x ln lc ra rs e')(hb:W.heap.size<=base):cH0 W ((w6.alloc (bK5 x ln lc)).alloc (cQ3 ra rs)) n B key root size ok bad N cc (.pointer (some ⟨w6.heap.size,0,none⟩)) (.pointer (some ⟨w6.heap.size+1,0,none⟩)) (.int .i64 e'):=
 ⟨_,_,x,ln,lc,ra,rs,e', rfl,rfl,rfl,(aB w6 _ _).below (aA _ _),aF w6 _ _ _,Below.tr bb (aW _ _ _),bb.size,by have:=bb.size; omega,h.only (Only.of_below (M:=fun _=>False) (aW _ _ _)) (fun _ _ m=>m.elim) hb⟩
theorem aV7 (bb:Below W.heap.size W w6)(h:iT base w6 n B key root size ok bad N cc x ln lc ra rs e')(hb:W.heap.size<=base):cH0 W ((w6.alloc (cQ3 ra rs)).alloc (bK5 x ln lc)) n B key root size ok bad N cc (.pointer (some ⟨w6.heap.size+1,0,none⟩)) (.pointer (some ⟨w6.heap.size,0,none⟩)) (.int .i64 e'):=
 ⟨_,_,x,ln,lc,ra,rs,e', rfl,rfl,rfl,aF w6 _ _ _,(aB w6 _ _).below (aA _ _),Below.tr bb (aW _ _ _),by have:=bb.size; omega,bb.size,h.only (Only.of_below (M:=fun _=>False) (aW _ _ _)) (fun _ _ m=>m.elim) hb⟩
theorem aW0 {a:Nat}(ha:W.heap.size<=a)(hab:a<base)(ka:aC w6 a #[.slice none 0 0] 24)(bb:Below W.heap.size W w6)(h:iT base w6 n B key root size ok bad N cc x ln lc ra rs e')(hb:W.heap.size<=base):cH0 W ((w6.setCell ⟨a,0,none⟩ (.slice x ln lc)).alloc (cQ3 ra rs)) n B key root size ok bad N cc (.pointer (some ⟨a,0,none⟩)) (.pointer (some ⟨w6.heap.size,0,none⟩)) (.int .i64 e'):=by
 have kk:Kept a w6 (w6.setCell ⟨a,0,none⟩ (.slice x ln lc)):=Kept.setCell (g:=a) (Kept.refl _ _) (p:=⟨a,0,none⟩) rfl _
 have k2:=ka.set 0 (.slice x ln lc)
 simp only[List.setIfInBounds_toArray,List.set_cons_zero] at k2
 have k3:aC ((w6.setCell ⟨a,0,none⟩ (.slice x ln lc)).alloc (cQ3 ra rs)) w6.heap.size #[.int .i64 ra,.int .i64 rs] 104:=by
  have:=aB (w6.setCell ⟨a,0,none⟩ (.slice x ln lc)) #[.int .i64 ra,.int .i64 rs] 104
  rwa [kk.size] at this
 exact⟨_,_,x,ln,lc,ra,rs,e', rfl,rfl,rfl,k2.below (aA _ _),k3,Below.tr (bb.trans (kk.below ha)) (aA _ _),ha,bb.size,h.only ((Only.of_kept (M:=fun b=>b=a) kk rfl).trans (Only.of_below (aA _ _))) (fun b _ m=>by omega) hb⟩
theorem aV9 {a:Nat}(ha:W.heap.size<=a)(hab:a<base)(ka:aC w6 a #[.int .i64 0,.int .i64 0] 104)(bb:Below W.heap.size W w6)(h:iT base w6 n B key root size ok bad N cc x ln lc ra rs e')(hb:W.heap.size<=base):cH0 W (((w6.setCell ⟨a,0,none⟩ (.int .i64 ra)).setCell ⟨a,1,none⟩ (.int .i64 rs)).alloc (bK5 x ln lc)) n B key root size ok bad N cc (.pointer (some ⟨w6.heap.size,0,none⟩)) (.pointer (some ⟨a,0,none⟩)) (.int .i64 e'):=by
 have kk:Kept a w6 ((w6.setCell ⟨a,0,none⟩ (.int .i64 ra)).setCell ⟨a,1,none⟩ (.int .i64 rs)):=Kept.setCell (g:=a) (Kept.setCell (g:=a) (Kept.refl _ _) (p:=⟨a,0,none⟩) rfl _) (p:=⟨a,1,none⟩) rfl _
 have k2:=(ka.set 0 (.int .i64 ra)).set 1 (.int .i64 rs)
 simp only[List.setIfInBounds_toArray,List.set_cons_zero,List.set_cons_succ] at k2
 have k3:aC (((w6.setCell ⟨a,0,none⟩ (.int .i64 ra)).setCell ⟨a,1,none⟩ (.int .i64 rs)).alloc (bK5 x ln lc)) w6.heap.size #[.slice x ln lc] 24:=by
  have:=aB ((w6.setCell ⟨a,0,none⟩ (.int .i64 ra)).setCell ⟨a,1,none⟩ (.int .i64 rs)) #[.slice x ln lc] 24
  rwa [kk.size] at this
 exact⟨_,_,x,ln,lc,ra,rs,e', rfl,rfl,rfl,k3,k2.below (aA _ _),Below.tr (bb.trans (kk.below ha)) (aA _ _),bb.size,ha,h.only ((Only.of_kept (M:=fun b=>b=a) kk rfl).trans (Only.of_below (aA _ _))) (fun b _ m=>by omega) hb⟩
theorem tK {a b:Nat}(ha:W.heap.size<=a)(hb':W.heap.size<=b)(hne:a≠b)(hab:a<base)(hbb:b<base)(ka:aC w6 a #[.slice none 0 0] 24)(kb:aC w6 b #[.int .i64 0,.int .i64 0] 104)(bb:Below W.heap.size W w6)(h:iT base w6 n B key root size ok bad N cc x ln lc ra rs e')(hb:W.heap.size<=base):cH0 W (((w6.setCell ⟨a,0,none⟩ (.slice x ln lc)).setCell ⟨b,0,none⟩ (.int .i64 ra)).setCell ⟨b,1,none⟩ (.int .i64 rs)) n B key root size ok bad N cc (.pointer (some ⟨a,0,none⟩)) (.pointer (some ⟨b,0,none⟩)) (.int .i64 e'):=by
 have k1:Kept a w6 (w6.setCell ⟨a,0,none⟩ (.slice x ln lc)):=Kept.setCell (g:=a) (Kept.refl _ _) (p:=⟨a,0,none⟩) rfl _
 have k2:Kept b (w6.setCell ⟨a,0,none⟩ (.slice x ln lc)) (((w6.setCell ⟨a,0,none⟩ (.slice x ln lc)).setCell ⟨b,0,none⟩ (.int .i64 ra)).setCell ⟨b,1,none⟩ (.int .i64 rs)):=Kept.setCell (g:=b) (Kept.setCell (g:=b) (Kept.refl _ _) (p:=⟨b,0,none⟩) rfl _) (p:=⟨b,1,none⟩) rfl _
 have ea:=((ka.set 0 (.slice x ln lc)).past (a:=⟨b,0,none⟩) (by simpa using hne) (.int .i64 ra)).past (a:=⟨b,1,none⟩) (by simpa using hne) (.int .i64 rs)
 have eb:=((kb.past (a:=⟨a,0,none⟩) (by simpa using hne.symm) (.slice x ln lc)).set 0 (.int .i64 ra)).set 1 (.int .i64 rs)
 simp only[List.setIfInBounds_toArray,List.set_cons_zero,List.set_cons_succ] at ea eb
 exact⟨_,_,x,ln,lc,ra,rs,e', rfl,rfl,rfl,ea,eb,(bb.trans (k1.below ha)).trans (k2.below hb'),ha,hb', h.only (((Only.of_kept (M:=fun k=>k=a\/k=b) k1 (.inl rfl))).trans (Only.of_kept k2 (.inr rfl))) (fun k _ m=>by omega) hb⟩
end
structure Two (base:Nat)(L:Nat->Prop)(w:World)(ob yb g n:Nat)(B:Nat->Blk)(v:cB)(x:aK)(ms:List aZ):Prop where
 own:Own w g n B
 box:aC w ob #[.slice (some ⟨g,0,none⟩) n n] 24
 set:nJ base L w yb v x ms
 no:ob≠yb/\¬v.mine ob/\¬L ob/\ob≠g
 ng:g≠yb/\¬v.mine g/\¬L g/\base<=g
 lists:dO (fun b=>b≠yb/\¬v.mine b/\b≠ob) w g 0 n B
 lb:∀ b,L b->base<=b
theorem Two.ptr {base:Nat}{L:Nat->Prop}{w:World}{ob yb g n:Nat}{B:Nat->Blk}{v:cB}{x:aK}{ms:List aZ}(h:Two base L w ob yb g n B v x ms):dF w ⟨ob,0,none⟩ g n B:=⟨h.box.lt,h.no.2.2.2,by have:=h.box.cell 0; simpa using this,h.own⟩
theorem Two.below {base:Nat}{L:Nat->Prop}{w w':World}{ob yb g n:Nat}{B:Nat->Blk}{v:cB}{x:aK}{ms:List aZ}(h:Two base L w ob yb g n B v x ms)(b:Below w.heap.size w w'):Two base L w' ob yb g n B v x ms:=⟨h.own.below b,h.box.below b,h.set.below b,h.no,h.ng,h.lists.below b,h.lb⟩
theorem mZ {Q R:Nat->Prop}{k:IntKind}{w:World}{a:Option Addr}{n:Nat}{l:List Int}(h:aI Q k w a n l)(h':aI R k w a n l):aI (fun b=>Q b/\R b) k w a n l:=by
 refine⟨h.1,h.2.1,fun hn=>?_⟩
 obtain⟨b,off,rfl,hlt,q,hc⟩:=h.2.2 hn
 obtain⟨b', off', e,_,r,_⟩:=h'.2.2 hn
 simp only[Option.some.injEq,Addr.mk.injEq,and_true] at e
 obtain⟨rfl,rfl⟩:=e
 exact⟨b,off,rfl,hlt,⟨q,r⟩,hc⟩
theorem bE6 {w:World}{base fb fn fc:Nat}{l:List Ent}{p:Nat}(hp:p<l.length)(ra rs:Int)(h:w.ownsRow base 106 3 (.slice (some ⟨fb,0,none⟩) fn fc) fn (bK l)):
 ((w.setCell ⟨fb,p*3+1,none⟩ (.int .i64 ra)).setCell ⟨fb,p*3+2,none⟩ (.int .i64 rs)).ownsRow base 106 3 (.slice (some ⟨fb,0,none⟩) fn fc) fn (bK (l.set p ⟨l[p].name,ra,rs⟩)):=by
 have h1:=(h.stored (p*3+1) (.int .i64 ra)).1
 have e1:(bK l).set (p*3+1) (.int .i64 ra)=bK (l.set p ⟨l[p].name,ra,l[p].size⟩):=jS Ent.cells_len l p 1 ⟨l[p].name,ra,l[p].size⟩ _ hp (by omega) rfl
 rw[e1] at h1
 have h2:=(h1.stored (p*3+2) (.int .i64 rs)).1
 have e2:(bK (l.set p ⟨l[p].name,ra,l[p].size⟩)).set (p*3+2) (.int .i64 rs)=bK ((l.set p ⟨l[p].name,ra,l[p].size⟩).set p ⟨l[p].name,ra,rs⟩):=jS Ent.cells_len (l.set p ⟨l[p].name,ra,l[p].size⟩) p 2 ⟨l[p].name,ra,rs⟩ _ (by simpa using hp) (by omega) (by simp[Ent.cells])
 rw[e2,List.set_set] at h2
 exact h2
theorem wE {base:Nat}{L:Nat->Prop}{w:World}{ob yb g n fb:Nat}{C:Nat->Blk}{v:cB}{x:aK}{ms:List aZ}{cs:Array Value}{p:Nat}{ra rs:Int}(hS:nJ base L w yb v x ms)(hfb:v.fa=some ⟨fb,0,none⟩)(hbox:aC w ob cs 24)(hcs:cs.size=1)(hO:Own w g n C)(no:ob≠yb/\¬v.mine ob/\¬L ob/\ob≠g)(ng:g≠yb/\¬v.mine g/\¬L g/\base<=g)
 (hl:dO (fun b=>b≠yb/\¬v.mine b/\b≠ob) w g 0 n C) (hp:p<x.files.length) (hr:(-9223372036854775808<=ra/\ra<=9223372036854775807)/\(-9223372036854775808<=rs/\rs<=9223372036854775807)) (hlb:∀ b,L b->base<=b):
 Two base L (((w.setCell ⟨ob,0,none⟩ (.slice (some ⟨g,0,none⟩) n n)).setCell ⟨fb,p*3+1,none⟩ (.int .i64 ra)).setCell ⟨fb,p*3+2,none⟩ (.int .i64 rs)) ob yb g n C v { x with files:=x.files.set p ⟨x.files[p].name,ra,rs⟩ } ms/\
 Only (fun b=>b=ob\/Mine yb v b) w (((w.setCell ⟨ob,0,none⟩ (.slice (some ⟨g,0,none⟩) n n)).setCell ⟨fb,p*3+1,none⟩ (.int .i64 ra)).setCell ⟨fb,p*3+2,none⟩ (.int .i64 rs)):=by
 have hfm:v.mine fb:=.inl (by rw[hfb]; rfl)
 have k1:Kept ob w (w.setCell ⟨ob,0,none⟩ (.slice (some ⟨g,0,none⟩) n n)):=Kept.setCell (g:=ob) (Kept.refl _ _) (p:=⟨ob,0,none⟩) rfl _
 have k2:Kept fb (w.setCell ⟨ob,0,none⟩ (.slice (some ⟨g,0,none⟩) n n)) (((w.setCell ⟨ob,0,none⟩ (.slice (some ⟨g,0,none⟩) n n)).setCell ⟨fb,p*3+1,none⟩ (.int .i64 ra)).setCell ⟨fb,p*3+2,none⟩ (.int .i64 rs)):=Kept.setCell (g:=fb) (Kept.setCell (g:=fb) (Kept.refl _ _) (p:=⟨fb,p*3+1,none⟩) rfl _) (p:=⟨fb,p*3+2,none⟩) rfl _
 have on:Only (fun b=>b=ob\/b=fb) w (((w.setCell ⟨ob,0,none⟩ (.slice (some ⟨g,0,none⟩) n n)).setCell ⟨fb,p*3+1,none⟩ (.int .i64 ra)).setCell ⟨fb,p*3+2,none⟩ (.int .i64 rs)):=(Only.of_kept k1 (.inl rfl)).trans (Only.of_kept k2 (.inr rfl))
 have hof:ob≠fb:=fun e=>no.2.1 (e▸hfm)
 have hyf:yb≠fb:=fun e=>hS.ny (e▸hfm)
 have hsf:(Value.slice v.sa v.sn v.sc).ownBlock≠some fb:=hS.new.apart fb (by rw[hfb]; rfl)
 have hmm:∀ b,(b=ob\/b=fb)->b=ob\/Mine yb v b:=by
  rintro b (h | h)
  ·exact .inl h
  ·exact .inr (.inr (h▸hfm))
 have hgn:¬(g=ob\/g=fb):=by
  rintro (h | h)
  ·exact no.2.2.2 h.symm
  ·exact ng.2.1 (h▸hfm)
 have hfr:=hS.new.files
 rw[hfb] at hfr
 have hrow:=bE6 hp ra rs ((Only.of_kept (M:=fun b=>b=ob) k1 rfl).row hfr (fun b hb e=>no.2.1 (e▸(.inl (by rw[hfb]; exact hb)))))
 refine⟨⟨⟨Nat.lt_of_lt_of_le hO.lt on.size,?_,fun i hi=>?_⟩,?_,⟨?_,⟨hS.new.name,hS.new.small,by rw[hfb]; exact hrow,?_,hS.new.eq,fun e he=>?_,fun m hm=>?_,hS.new.apart⟩,hS.ny,hS.nl⟩,no,ng,?_,hlb⟩,on.mono (fun b _ h=>hmm b h)⟩
 ·have hb:dO (fun b=>g<b/\(b≠yb/\¬v.mine b/\b≠ob)) w g 0 n C:=by
   intro i hi
   obtain⟨ka,kn,kc,ba,bn,bc,h1⟩:=hO.blocks i hi
   obtain⟨ka', kn', kc', ba', bn', bc', h2⟩:=hl i hi
   have e1:Value.slice ka kn kc=.slice ka' kn' kc':=Option.some.inj (h1.c2.symm.trans h2.c2)
   have e2:Value.slice ba bn bc=.slice ba' bn' bc':=Option.some.inj (h1.c3.symm.trans h2.c3)
   simp only[Value.slice.injEq] at e1 e2
   obtain⟨rfl,rfl,rfl⟩:=e1
   obtain⟨rfl,rfl,rfl⟩:=e2
   exact⟨ka,kn,kc,ba,bn,bc,h1.c0,h1.c1,h1.c2,h1.c3,mZ h1.kids h2.kids,mZ h1.bytes h2.bytes,h1.refs,h1.level,h1.caps⟩
  refine(on.blocks hb hgn hO.lt (fun k q e=>?_)).weaken (fun b _ q=>q.1)
  rcases e with e | e
  ·exact q.2.2.2 e
  ·exact q.2.2.1 (e▸hfm)
 ·exact(World.frozen?_of_block (w:=w) (on.block g hO.lt hgn)).trans (hO.free i hi)
 ·have h1:=hbox.set 0 (.slice (some ⟨g,0,none⟩) n n)
  have h2:=(Only.of_kept (M:=fun b=>b=fb) k2 rfl).cells h1 hof
  have e:cs.setIfInBounds 0 (.slice (some ⟨g,0,none⟩) n n)=#[.slice (some ⟨g,0,none⟩) n n]:=by
   apply Array.ext
   ·simp[hcs]
   ·intro i h3 h4
    have:i=0:=by simp at h4; omega
    subst this
    simp
  rw[e] at h2
  exact h2
 ·exact on.cells hS.box (by
   rintro (h | h)
   ·exact no.1 h.symm
   ·exact hyf h)
 ·exact on.row hS.new.snaps (fun b hb e=>by
   rcases e with e | e
   ·exact no.2.1 (.inr (e▸hb))
   ·exact hsf (e▸hb))
 ·rcases mF he with rfl | he
  ·exact⟨(hS.new.ok _ (List.getElem_mem hp)).1,hr⟩
  ·exact hS.new.ok e he
 ·exact on.snap (hS.new.lists m hm) (fun b q e=>by
   rcases e with e | e
   ·exact no.2.2.1 (e▸q.1)
   ·exact q.2 (e▸hfm))
 ·exact on.blocks hl hgn hO.lt (fun k q e=>by
   rcases e with e | e
   ·exact q.2.2 e
   ·exact q.2.1 (e▸hfm))
theorem bDr {a w:World}(h:Below a.heap.size a w):Below a.heap.size a w.drew:=h.trans (aD _ _)
theorem bAl {a w:World}(h:Below a.heap.size a w)(o:Obj):Below a.heap.size a (w.alloc o):=h.alloc h.size o
theorem iT.base {base base':Nat}{w:World}{n:Nat}{B:Nat->Blk}{key root size:Int}{ok:Prop}{bad:Int->Prop}{N:List Int}{cc:Int}{x:Option Addr}{ln lc:Nat}{ra rs e':Int}(h:iT base w n B key root size ok bad N cc x ln lc ra rs e')(hb:base'<=base):iT base' w n B key root size ok bad N cc x ln lc ra rs e':=h.only (Only.refl (fun _=>False) _) (fun _ _ m=>m.elim) hb
def cK6 (base:Nat)(e:Ending)(w:World)(n:Nat)(B:Nat->Blk)(key root size:Int)(ok:Prop)(bad:Int->Prop)(N:List Int)(cc:Int):Prop:=
 ∃ (x:Option Addr) (ln lc:Nat) (ra rs e':Int),e=.returned (.tuple #[.agg #[.slice x ln lc],.agg #[.int .i64 ra,.int .i64 rs],.int .i64 e'])/\iT base w n B key root size ok bad N cc x ln lc ra rs e'
theorem pQ (a:Option Addr)(n c:Nat)(B:Nat->Blk)(key root size at':Int)(ba:Option Addr)(bn bc:Nat)(b:List Int)(cc:Int)(w:World)(h:aO w a n B)(hb:aI (fun _=>True) .u8 w ba bn b)(h1:64<=cc)(hcm:cc<=999936)(hc:∀ k,k<n->(B k).refs<=cc):
 Calls Tryz.prog 148 #[.agg #[.slice a n c],.int .i64 key,.agg #[.int .i64 root,.int .i64 size],.int .i64 at', .slice ba bn bc] w fun e w'=>
  cK6 w.heap.size e w' n B key root size (0<=at'/\at'+(b.length:Int)<=256) (fun e=>e=pI at' (b.length:Int)) (gU ((aT key (aH B 3 root)).take size.toNat) at'.toNat b) cc/\Below w.heap.size w w':=by
 refine(aG5 a n c B key root size at' ba bn bc b cc w h hb h1 hcm hc).mono ?_
 rintro e w' ⟨⟨x,ln,lc,ra,rs,e', he,hcase⟩,hb'⟩
 exact⟨⟨x,ln,lc,ra,rs,e', he,hcase⟩,hb'⟩
theorem aO7 (a:Option Addr)(n c:Nat)(B:Nat->Blk)(key root size to:Int)(cc:Int)(w:World)(h:aO w a n B)(h1:64<=cc)(hcm:cc<=999936)(hc:∀ k,k<n->(B k).refs<=cc):
 Calls Tryz.prog 150 #[.agg #[.slice a n c],.int .i64 key,.agg #[.int .i64 root,.int .i64 size],.int .i64 to] w fun e w'=>
  cK6 w.heap.size e w' n B key root size (0<=to/\to<=256) (fun e=>e=3) ((aT key (aH B 3 root)).take to.toNat) cc/\Below w.heap.size w w':=by
 refine(aW6 a n c B key root size to cc w h h1 hcm hc).mono ?_
 rintro e w' ⟨⟨x,ln,lc,ra,rs,e', he,hcase⟩,hb'⟩
 exact⟨⟨x,ln,lc,ra,rs,e', he,hcase⟩,hb'⟩
abbrev dG:Obj:=.cells #[.slice none 0 0] 24
abbrev gP:Obj:=.cells #[.int .i64 0,.int .i64 0] 104
def bV9 (x:aK)(nm:ByteArray)(root size:Int):Prop:=(∃ f∈x.files,f.nm=nm.data.toList/\root=f.root/\size=f.size)\/((¬∃ f∈x.files,f.nm=nm.data.toList)/\root=0/\size=0)
def tZ (x:aK)(nm:ByteArray)(root size ra rs:Int)(y:aK):Prop:=∃ p,(∃ h:p<x.files.length,x.files[p].nm=nm.data.toList/\root=x.files[p].root/\size=x.files[p].size/\y={ x with files:=x.files.set p ⟨x.files[p].name,ra,rs⟩ })\/
 ((¬∃ f∈x.files,f.nm=nm.data.toList)/\root=0/\size=0/\x.files.length<6/\(∀ e∈x.files.take p,e.nm<nm.data.toList)/\(∀ e∈x.files.drop p,nm.data.toList<e.nm)/\y={ x with files:=x.files.take p++⟨nm,ra,rs⟩::x.files.drop p })
def bV6 (n:Nat)(B:Nat->Blk)(key:Int)(x:aK)(nm:ByteArray)(ok:Prop)(bad:Int->Prop)(N:Int->Int->List Int)(e':Int):Prop:=
 (¬aN nm->e'=1)/\(aN nm->¬ok->bad e')/\(aN nm->ok->(e'=8/\∃ root size,bV9 x nm root size/\sJ n B (chg (aT key (aH B 3 root)) (dE (N root size)) 64))\/(e'=2/\(¬∃ f∈x.files,f.nm=nm.data.toList)/\¬x.files.length<6))
def aR2 (x:aK)(nm:ByteArray)(e':Int):Prop:=((∃ f∈x.files,f.nm=nm.data.toList)/\e'=3)\/((¬∃ f∈x.files,f.nm=nm.data.toList)/\e'=5)
def pK (base:Nat)(w:World)(ob yb n:Nat)(B:Nat->Blk)(key:Int)(v:cB)(x:aK)(nm:ByteArray)(ok:Prop)(bad:Int->Prop)(N:Int->Int->List Int)(cc:Int)(e:Ending)(w':World):Prop:=
 ∃ made e':Int,e=.returned (.tuple #[.int .i64 made,.int .i64 e'])/\Only (fun b=>b=ob\/Mine yb v b) w w'/\
  ((e'≠0/\bV6 n B key x nm ok bad N e')\/
   (e'=0/\aN nm/\ok/\∃ root size,bU n B key root size/\∃ (g:Nat) (C:Nat->Blk) (L:Nat->Prop) (v':cB) (y:aK) (ms:List aZ),eU n B C key root (aT key (aH B 3 root)) (dE (N root size)) 64 made cc/\tZ x nm root size made ((N root size).length:Int) y/\Two base L w' ob yb g n C v' y ms))
theorem aE4 (key:Int)(lv:Nat->List Int)(size at':Nat)(b:List Int)(h:(at':Int)+(b.length:Int)<=256):(gU ((aT key lv).take size) at' b).length<=256:=by
 have h1:((aT key lv).take size).length<=256:=by rw[List.length_take,bY]; omega
 rw[nS]
 split<;>omega
theorem wG {n:Nat}{B C:Nat->Blk}{a cc:Int}(h:Turned n B C a cc):(-9223372036854775808<=a/\a<=9223372036854775807):=by
 have:=h.right.small
 rcases h.root with h0 | ⟨⟨h1,h2,_⟩,_⟩<;>omega
theorem aM3 {w:World}{g n H yb ob:Nat}{C:Nat->Blk}{v:cB}(hO:Own w g n C)(hg:H<=g)(hy:yb<H)(ho:ob<H)(hm:∀ b,v.mine b->b<H):dO (fun b=>b≠yb/\¬v.mine b/\b≠ob) w g 0 n C:=hO.blocks.weaken (fun b _ q=>⟨by omega,fun f=>by have:=hm b f; omega,by omega⟩)
theorem pK.drew {base:Nat}{w w':World}{ob yb n:Nat}{B:Nat->Blk}{key:Int}{v:cB}{x:aK}{nm:ByteArray}{ok:Prop}{bad:Int->Prop}{N:Int->Int->List Int}{cc:Int}{e:Ending}(h:pK base w ob yb n B key v x nm ok bad N cc e w'):pK base w ob yb n B key v x nm ok bad N cc e w'.drew:=by
 obtain⟨made,e', he,ho,h | ⟨h1,h2,h3,root,size,h4,g,C,L,v', y,ms,h5,h6,h7⟩⟩:=h
 ·exact⟨made,e', he,ho.trans (Only.of_below (aD _ _)),.inl h⟩
 ·exact⟨made,e', he,ho.trans (Only.of_below (aD _ _)),.inr ⟨h1,h2,h3,root,size,h4,g,C,L,v', y,ms,h5,h6,h7.below (aD _ _)⟩⟩
end Go.Proofs.YtjafgnohlkkopaaGreatDoor
