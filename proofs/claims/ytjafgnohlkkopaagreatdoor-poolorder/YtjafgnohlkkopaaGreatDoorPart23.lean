import Derived.Test.YtjafgnohlkkopaaGreatDoorPart22
import Derived.Test.YtjafgnohlkkopaaGreatDoorPart03
import Derived.Test.YtjafgnohlkkopaaGreatDoorPart17
set_option linter.unusedVariables false
set_option maxHeartbeats 8000000
set_option maxRecDepth 100000
namespace Go.Proofs.YtjafgnohlkkopaaGreatDoor
open Go.RowKit
theorem aU4 (x:Int)(w:World):Calls Tryz.prog 57 #[.int .i64 x] w fun e w'=>e=.returned (.bool (!(x == 0)))/\w'=w:=by
 go_enter Tryz.func57,Tryz.ntmps57
 go_wp2_with fail
 go_ret
 exact⟨by first | rfl | simp[bne],rfl⟩
def cR9 (e:Ending)(n:Nat)(f:Nat->Int):Prop:=(e=.returned (.int .i64 (-1))/\∀ k,k<n->f k=0)\/(∃ i:Nat,e=.returned (.int .i64 i)/\i<n/\f i≠0)
theorem aV3 (base g n:Nat)(f:Nat->Int)(w:World)(hn:n<=400)(h:Row w base g n f):
 Calls Tryz.prog 86 #[.slice (some ⟨g,0,none⟩) n n,.func (.func 57) #[] #[]] w fun e w'=>cR9 e n f/\w'=w:=by
 replace h:=hid h
 go_enter Tryz.func86,Tryz.ntmps86
 go_wp2_with fail
 go_loopw [8] (fun v wr=>∃ i:Nat,i<=n/\v=.int .i64 i/\(∀ k,k<i->f k=0)/\wr=w) (fun v _=>n-(Go.RowKit.intOf v).toNat)
 case atStart=>exact⟨0,Nat.zero_le _,rfl,fun k hk=>absurd hk (by omega),rfl⟩
 case round=>
  obtain⟨i,hin,rfl,hno,rfl⟩:=hrel
  replace hno:=hid hno
  by_cases hlt:i<n
  ·have c0:=h.out.cell hlt
   generalize hrf:f i=x at *
   replace hrf:=hid hrf
   go_wp2_with fail
   refine(aU4 x wr).mono ?_
   rintro e w1 ⟨rfl,rfl⟩
   by_cases h0:x=0
   ·have h0':(x == 0)=true:=by simp[h0]
    rw[h0']
    go_wp2_with fail
    go_roundw
    case rel=>
     refine⟨i+1,by omega,by go_num,fun k hk=>?_,trivial⟩
     rcases Nat.lt_or_ge k i with h' | h'
     ·exact hno.out k h'
     ·obtain rfl:k=i:=by omega
      rw[hrf.out]; exact h0
    case measure=>simp[Go.RowKit.intOf]; omega
   ·have h0':(x == 0)=false:=by simp[h0]
    rw[h0']
    go_wp2_with fail
    go_ret
    exact⟨.inr ⟨i,rfl,hlt,by rw[hrf.out]; exact h0⟩,rfl⟩
  ·obtain rfl:i=n:=by omega
   go_wp2_with fail
   go_ret
   exact⟨.inl ⟨rfl,hno.out⟩,rfl⟩
theorem zK (base g n:Nat)(f:Nat->Int)(w:World)(hn:n<=400)(h:Row w base g n f):
 Calls Tryz.prog 56 #[.slice (some ⟨g,0,none⟩) n n,.func (.func 57) #[] #[]] w fun e w'=>(∃ t,e=.returned (.bool t)/\(t=false↔∀ k,k<n->f k=0))/\w'=w:=by
 go_enter Tryz.func56,Tryz.ntmps56
 go_wp2_with fail
 refine(aV3 base g n f w hn h).mono ?_
 rintro e w1 ⟨⟨rfl,hno⟩ | ⟨i,rfl,hi,hf⟩,rfl⟩
 ·replace hno:=hid hno
  go_wp2_with fail
  go_ret
  exact⟨⟨_,rfl,fun _=>hno.out,fun _=>by first | rfl | simp⟩,rfl⟩
 ·replace hf:=hid hf
  go_wp2_with fail
  go_ret
  exact⟨⟨true,by first | rfl | (simp; try omega),(fun e=>Bool.noConfusion e),fun k=>absurd (k i hi) hf.out⟩,rfl⟩
theorem aT4 {l:List aO}{j:Nat}{x:aO}(hx:l[j]? =some x):gM (l.take (j+1))=gM (l.take j)++aL x:=by
 unfold gM
 rw[eF hx,List.flatMap_append]
 simp
theorem sO {n:Nat}{B:Nat->Blk}:∀ {l:List aO},(∀ t∈l,jK n B t)->(gM l).length<=l.length*72
 | [],_=>by simp[gM]
 | t::l,h=>by
   have h1:=sN (h t (by simp))
   have h2:=sO (l:=l) (fun y hy=>h y (by simp[hy]))
   simp only[gM,List.flatMap_cons,List.length_append,List.length_cons] at *
   omega
def aR2 (D R:List Int)(i:Nat)(k:Nat):Int:=((D++R.take i).count ((k:Int)+1):Int)
theorem bV9 (D R:List Int)(k:Nat):aR2 D R 0 k=(D.count ((k:Int)+1):Int):=by simp[aR2]
theorem cE2 {D R:List Int}{i:Nat}(h:R.length<=i)(k:Nat):aR2 D R i k=((D++R).count ((k:Int)+1):Int):=by simp[aR2,List.take_of_length_le h]
theorem aP6 {D R:List Int}{i:Nat}{r:Int}(hr:R[i]? =some r)(k:Nat):aR2 D R (i+1) k=aR2 D R i k+if r=(k:Int)+1 then 1 else 0:=by
 unfold aR2
 rw[List.count_append,List.count_append,jY hr]
 split<;>simp<;>omega
theorem cL3 (D R:List Int)(i k:Nat):0<=aR2 D R i k/\aR2 D R i k<=(D.length:Int)+(R.length:Int):=by
 unfold aR2
 have h1:=List.count_le_length (a:=(k:Int)+1) (l:=D++R.take i)
 have h2:(D++R.take i).length<=D.length+R.length:=by simp; omega
 omega
theorem bH4 (Q:Nat->Prop)(a:Option Addr)(n c:Nat)(B:Nat->Blk)(ta:Option Addr)(tn tc:Nat)(l:List aO)(w:World)(h:aN w a n B)(hT:gU Q w ta tn l)(hR:Right n B)(h3:l.length<=3)(hok:∀ t∈l,jK n B t):
 Calls Tryz.prog 27 #[.agg #[.slice a n c,.slice ta tn tc]] w fun e w'=>zB e (∀ k,k<n->outs n B k=((gM l).count ((k:Int)+1):Int)) (fun c=>c=7)/\Below w.heap.size w w':=by
 have hn:=hR.small
 have b0:=aA w (.cells #[.slice a n c,.slice ta tn tc] 27)
 have k0:aC _ w.heap.size #[.slice a n c,.slice ta tn tc] 27:=aB w _ _
 have htl:=hid hT.1
 have htn:tn<=3:=by rw[<-hT.1]; exact h3
 replace h:=hid (h.below b0)
 replace hT:=hid (hT.below b0)
 replace hR:=hid hR
 replace hok:=hid hok
 replace k0:=hid k0
 clear h3
 go_enter Tryz.func27,Tryz.ntmps27
 go_wp2_with fail
 generalize w.alloc (.cells #[.slice a n c,.slice ta tn tc] 27)=w0 at *
 have p0:=k0.out.cell 0
 have p1:=k0.out.cell 1
 simp at p0 p1
 refine(uW a n c B w0 h.out).mono ?_
 rintro e w1 ⟨b1,⟨e', rfl,he,hno⟩ | ⟨_,g,rfl,hrow⟩⟩
 ·exact absurd hR.out hno
 have hg1:=hrow.lt
 replace p1:=(b1.cell (p:=⟨w.heap.size,1,none⟩) k0.out.lt).trans p1
 replace hrow:=hid hrow
 replace b1:=hid b1
 clear p0
 go_wp2_with fail
 clear p1
 go_loopw [21] (fun v wr=>∃ j:Nat,j<=tn/\v=.int .i64 j/\Below w0.heap.size w0 wr/\w1.heap.size<=wr.heap.size/\Row wr w0.heap.size g n (fun k=>outs n B k-((gM (l.take j)).count ((k:Int)+1):Int))) (fun v _=>tn-(Go.RowKit.intOf v).toNat)
 case atStart=>exact⟨0,Nat.zero_le _,rfl,b1.out,Nat.le_refl _,hrow.out.congr (fun k _=>by simp[gM])⟩
 case round=>
  clear hrow
  obtain⟨j,hj,rfl,hb,hsz,hrow⟩:=hrel
  by_cases hlt:j<tn
  ·have hjl:j<l.length:=by rw[htl.out]; exact hlt
   have hE':=hT.out.below hb
   obtain⟨eb,off,rfl⟩:∃ b off,ta=some ⟨b,off,none⟩:=by
    obtain⟨b,off,e,_⟩:=hE'.2 (by omega)
    exact⟨b,off,e⟩
   have hx:l[j]? =some (l.getD j aO.zero):=by rw[List.getElem?_eq_getElem hjl]; simp[List.getD,hjl]
   obtain⟨sa,sn,sc,hA⟩:=hE'.ten hlt
   have c0:=hA.c0
   have c1:=hA.c1
   have c2:=hA.c2
   have hTa:=hA.ok
   have hTok:=hid (hok.out _ (List.mem_of_getElem? hx))
   replace hx:=hid hx
   clear hA hE' hjl
   generalize l.getD j aO.zero=t at *
   replace hrow:=hid hrow
   replace hTa:=hid hTa
   have ba:=aA wr (.cells #[.int .i64 t.key,.int .i64 t.quota,.slice sa sn sc] 64)
   have k2:aC _ wr.heap.size #[.int .i64 t.key,.int .i64 t.quota,.slice sa sn sc] 64:=aB wr _ _
   replace k2:=hid k2
   replace ba:=hid ba
   have hbh:=hid hb
   clear hb
   go_upto_region 7 with fail
   clear c0 c1 c2
   replace hTa:=hid (hTa.out.below ba.out)
   replace hrow:=hid (bY hrow.out ba.out)
   have hb:=hid (Below.tr hbh.out ba.out)
   have hsz5:w1.heap.size<=(wr.alloc (.cells #[.int .i64 t.key,.int .i64 t.quota,.slice sa sn sc] 64)).heap.size:=Nat.le_trans hsz ba.out.size
   clear ba hbh
   generalize wr.alloc (.cells #[.int .i64 t.key,.int .i64 t.quota,.slice sa sn sc] 64)=w5 at *
   have q0:=k2.out.cell 0
   have q1:=k2.out.cell 1
   have q2:=k2.out.cell 2
   simp at q0 q1 q2
   go_wp2_with fail
   refine(rA Q t sa sn sc w5 hTa.out hTok.out.shapes hTok.out.few).mono ?_
   rintro e w6 ⟨⟨ra,rc,rfl,hro,hrw⟩,b6⟩
   have hN:=hid (bA3 hro hrw)
   replace hrow:=hid (bY hrow.out b6)
   replace hb:=hid (Below.tr hb.out b6)
   have hsz6:=Nat.le_trans hsz5 b6.size
   have hbd:=hid hTok.out.rootBd
   have h72:=hid (sN hTok.out)
   have hD72:=hid (sO (l:=l.take j) (fun t ht=>hok.out t (List.mem_of_mem_take ht)))
   have hTake:=hid (aT4 hx.out)
   have hlj:Hid ((l.take j).length<=3):=hid (by rw[List.length_take]; omega)
   clear hro hrw q0 q1 q2 k2 hTa b6
   obtain⟨rn,hrn⟩:∃ rn,rn=(aL t).length:=⟨_,rfl⟩
   rw[<-hrn] at hN h72
   simp only[<-hrn]
   have hrn':=hid hrn.symm
   clear hrn
   generalize aL t=R at *
   generalize gM (l.take j)=D at *
   have hDl:Hid ((D.length:Int)+(R.length:Int)<=1000):=hid (by rw[hrn'.out]; have:=hD72.out; have:=hlj.out; have:=h72.out; omega)
   have hrn72:rn<=72:=h72.out
   clear hD72 hlj h72
   go_wp2_with fail
   go_loopw [28] (fun v wr'=>∃ i:Nat,i<=rn/\v=.int .i64 i/\Kept g w6 wr'/\Row wr' w0.heap.size g n (fun k=>outs n B k-aR2 D R i k)) (fun v _=>rn-(Go.RowKit.intOf v).toNat)
   case atStart=>exact⟨0,Nat.zero_le _,rfl,Kept.refl _ _,(Row.congr hrow.out (fun k _=>by rw[bV9]))⟩
   case round=>
    clear hrow
    obtain⟨i,hi,rfl,hkp,hrow⟩:=hrel
    by_cases hilt:i<rn
    ·have hil:i<R.length:=by rw[hrn'.out]; exact hilt
     obtain⟨kb,ko,rfl,hkb,hgk,hcc⟩:=hN.out.2.2 (by omega)
     have hck:=(hkp.cell (p:=⟨kb,ko+i,none⟩) (by simp; omega)).trans (hcc i hilt)
     have hx2:R[i]? =some (R.getD i 0):=by rw[List.getElem?_eq_getElem hil]; simp[List.getD,hil]
     have hmem:=hbd.out _ (List.mem_of_getElem? hx2)
     replace hx2:=hid hx2
     clear hcc hil
     generalize R.getD i 0=r at *
     by_cases h0:r=0
     ·subst h0
      have hrow':Hid (Row wr w0.heap.size g n (fun k=>outs n B k-aR2 D R (i+1) k)):=hid (hrow.congr (fun k hk=>by rw[aP6 hx2.out,if_neg (by omega)]; simp))
      clear hrow
      go_wp2_with fail
      go_roundw
      case rel=>exact⟨i+1,by omega,by go_num,hkp,hrow'.out⟩
      case measure=>simp[Go.RowKit.intOf]; omega
     ·obtain⟨m,rfl⟩:∃ m:Nat,r=(m:Int)+1:=⟨(r-1).toNat,by omega⟩
      have hmn:m<n:=by omega
      have r0:=hrow.cell hmn
      have r1:=hrow.frozen m
      have hbb:=(hR.out.one m hmn).bounds
      have hhd:=hR.out.held m hmn
      have hob:0<=outs n B m/\outs n B m<=1000000:=by unfold outs; simp at hhd; omega
      have hcl:=cL3 D R i m
      have hDl':=hDl.out
      have hrow':Hid (Row (wr.setCell ⟨g,m,none⟩ (.int .i64 (outs n B m-aR2 D R i m-1))) w0.heap.size g n (fun k=>outs n B k-aR2 D R (i+1) k)):=hid ((hrow.set m _).congr (fun k hk=>by
       rw[aP6 hx2.out]
       by_cases e:k=m
       ·subst e; simp; omega
       ·rw[if_neg e,if_neg (by omega)]; simp))
      have hkp':Hid (Kept g w6 (wr.setCell ⟨g,m,none⟩ (.int .i64 (outs n B m-aR2 D R i m-1)))):=hid (hkp.trans (Kept.setCell (g:=g) (Kept.refl _ _) (p:=⟨g,m,none⟩) rfl _))
      clear hrow hbb hhd
      generalize hd:outs n B m-aR2 D R i m=d at *
      replace hd:=hid hd
      have hd0:(-1000:Int)<=d:=by rw[<-hd.out]; omega
      have hd1:d<=1000000:=by rw[<-hd.out]; omega
      clear hob hcl hDl'
      go_wp2_with fail
      go_roundw
      case rel=>exact⟨i+1,by omega,by go_num,hkp'.out,hrow'.out⟩
      case measure=>simp[Go.RowKit.intOf]; omega
    ·obtain rfl:i=rn:=by omega
     have hrow':Hid (Row wr w0.heap.size g n (fun k=>outs n B k-((gM (l.take (j+1))).count ((k:Int)+1):Int))):=hid (hrow.congr (fun k hk=>by rw[cE2 (by rw[hrn'.out]; exact Nat.le_refl _),hTake.out]))
     have hbk:=hid (hb.out.trans (hkp.below hg1.1))
     have hszk:w1.heap.size<=wr.heap.size:=by rw[hkp.size]; exact hsz6
     clear hrow
     go_wp2_with fail
     go_roundw
     case rel=>exact⟨j+1,by omega,by go_num,hbk.out,hszk,hrow'.out⟩
     case measure=>simp[Go.RowKit.intOf]; omega
  ·obtain rfl:j=tn:=by omega
   have e1:l.take j=l:=List.take_of_length_le (by rw[htl.out]; exact Nat.le_refl _)
   rw[e1] at hrow
   replace hrow:=hid hrow
   clear e1
   go_wp2_with fail
   refine(zK w0.heap.size g n _ wr hn hrow.out).mono ?_
   rintro e w2 ⟨⟨t,rfl,ht⟩,rfl⟩
   replace ht:=hid ht
   cases t
   ·go_wp2_with fail
    go_ret
    exact⟨gV (fun k hk=>by have:=ht.out.1 (by simp) k hk; omega),Below.tr b0 hb⟩
   ·go_wp2_with fail
    go_ret
    exact⟨aU 7 (by omega) (fun f=>by have:=ht.out.2 (fun k hk=>by rw[f k hk]; omega); cases this) rfl,Below.tr b0 hb⟩
end Go.Proofs.YtjafgnohlkkopaaGreatDoor
namespace Go.Proofs.YtjafgnohlkkopaaGreatDoor
open Go.RowKit Go.Maps
structure fE (Q:Nat->Prop)(w:World)(a:Option Addr)(n:Nat)(B:Nat->Blk)(ta:Option Addr)(tn:Nat)(l:List aO):Prop where
 store:aN w a n B
 tens:gU Q w ta tn l
theorem fE.below {Q:Nat->Prop}{w w':World}{a:Option Addr}{n:Nat}{B:Nat->Blk}{ta:Option Addr}{tn:Nat}{l:List aO}(h:fE Q w a n B ta tn l)(hb:Below w.heap.size w w'):fE Q w' a n B ta tn l:=⟨h.store.below hb,h.tens.below hb⟩
theorem bM9 {l:List aO}{j:Nat}{t:aO}(hx:l[j]? =some t):nK (l.take (j+1))=nK (l.take j)+t.quota:=by
 unfold nK
 rw[eF hx,List.map_append,List.sum_append]
 simp
theorem qD:∀ {l:List aO},(∀ t∈l,0<=t.quota)->0<=nK l
 | [],_=>by simp[nK]
 | t::l,h=>by
   have h1:=h t (by simp)
   have h2:=qD (l:=l) (fun y hy=>h y (by simp[hy]))
   simp only[nK,List.map_cons,List.sum_cons] at *
   omega
theorem bN0:∀ {l:List aO},(∀ t∈l,t.quota<=400)->nK l<=(l.length:Int)*400
 | [],_=>by simp[nK]
 | t::l,h=>by
   have h1:=h t (by simp)
   have h2:=bN0 (l:=l) (fun y hy=>h y (by simp[hy]))
   simp only[nK,List.map_cons,List.sum_cons,List.length_cons] at *
   omega
theorem uG {l:List aO}(j:Nat)(h:∀ t∈l,0<=t.quota):nK (l.take j)<=nK l:=by
 have e:nK l=nK (l.take j)+nK (l.drop j):=by
  unfold nK
  rw[<-List.sum_append,<-List.map_append,List.take_append_drop]
 have h2:=qD (l:=l.drop j) (fun t ht=>h t (List.mem_of_mem_drop ht))
 omega
structure mJ (n:Nat)(B:Nat->Blk)(l:List aO)(j:Nat)(V:List Int):Prop where
 tens:∀ t∈l.take j,jK n B t
 room:0<j->nK (l.take j)+90<=n
 uses:∀ t∈l.take j,∃ m,qU B (aL t) m/\m<=t.quota
 apart:(l.take j).Pairwise fun t u=>∀ x,Clo B (aL t) x->¬Clo B (aL u) x
 taken:∀ x,x∈V↔∃ t∈l.take j,Clo B (aL t) x
theorem bE9 (n:Nat)(B:Nat->Blk)(l:List aO):mJ n B l 0 []:=⟨by simp,fun h=>absurd h (by omega),by simp,by simp,by simp⟩
theorem mJ.next {n:Nat}{B:Nat->Blk}{l:List aO}{j:Nat}{V L:List Int}{t:aO}(h:mJ n B l j V)(hx:l[j]? =some t)(ht:jK n B t)(hr:nK (l.take (j+1))+90<=n)(hL:jH L)(hm:∀ x,x∈L↔Clo B (aL t) x)(hq:(L.length:Int)<=t.quota)(hno:∀ x∈L,x∉V):mJ n B l (j+1) (V++L):=by
 refine⟨fun y hy=>?_,fun _=>hr,fun y hy=>?_,?_,fun x=>?_⟩
 ·rw[eF hx] at hy
  rcases List.mem_append.1 hy with hy | hy
  ·exact h.tens y hy
  ·rw[List.mem_singleton.1 hy]; exact ht
 ·rw[eF hx] at hy
  rcases List.mem_append.1 hy with hy | hy
  ·exact h.uses y hy
  ·rw[List.mem_singleton.1 hy]; exact⟨_,⟨L,hL,hm,rfl⟩,hq⟩
 ·rw[eF hx]
  refine List.pairwise_append.2 ⟨h.apart,by simp,fun u hu v hv x hc hd=>?_⟩
  rw[List.mem_singleton.1 hv] at hd
  exact hno x ((hm x).2 hd) ((h.taken x).2 ⟨u,hu,hc⟩)
 ·rw[eF hx]
  constructor
  ·intro hxm
   rcases List.mem_append.1 hxm with h1 | h1
   ·obtain⟨u,hu,hc⟩:=(h.taken x).1 h1
    exact⟨u,List.mem_append_left _ hu,hc⟩
   ·exact⟨t,by simp,(hm x).1 h1⟩
  ·rintro⟨u,hu,hc⟩
   rcases List.mem_append.1 hu with hu | hu
   ·exact List.mem_append_left _ ((h.taken x).2 ⟨u,hu,hc⟩)
   ·rw[List.mem_singleton.1 hu] at hc
    exact List.mem_append_right _ ((hm x).2 hc)
theorem bM1 {B:Nat->Blk}{R L:List Int}{q:Int}(hL:jH L)(hm:∀ x,x∈L↔Clo B R x)(h:∃ m,qU B R m/\m<=q):(L.length:Int)<=q:=by
 obtain⟨m,⟨M,hM,hmM,rfl⟩,hq⟩:=h
 rw[wU hL hM (fun x=>(hm x).trans (hmM x).symm)]
 exact hq
theorem aS0 {n:Nat}{B:Nat->Blk}{l:List aO}{j:Nat}{V:List Int}{t:aO}{x:Int}(h:mJ n B l j V)(hx:l[j]? =some t)(hc:Clo B (aL t) x)(hV:x∈V):¬aQ n B l:=by
 intro f
 obtain⟨u,hu,hd⟩:=(h.taken x).1 hV
 obtain⟨hj,e⟩:=List.getElem?_eq_some_iff.1 hx
 have hp:=f.apart
 rw[<-List.take_append_drop j l] at hp
 refine(List.pairwise_append.1 hp).2.2 u hu t ?_ x hd hc
 rw[List.drop_eq_getElem_cons hj,e]
 simp
theorem aK7 {L:List Int}(h:jH L):L.Nodup:=h.imp (fun h e=>by subst e; exact absurd h (Int.lt_irrefl _))
def cO0 (n:Nat)(B:Nat->Blk)(l:List aO)(j:Nat)(t:aO)(V:List Int)(c:Int):Prop:=¬jK n B t/\cO1 n B t c\/jK n B t/\c=8/\¬(nK (l.take (j+1))+90<=n/\∃ m,qU B (aL t) m/\m<=t.quota)\/jK n B t/\(nK (l.take (j+1))+90<=n/\∃ m,qU B (aL t) m/\m<=t.quota)/\c=7/\∃ x∈V,Clo B (aL t) x
def bP4 (n:Nat)(B:Nat->Blk)(l:List aO)(c:Int):Prop:=¬Right n B/\cQ9 n B c\/Right n B/\(c=2/\¬l.length<=3\/l.length<=3/\((∃ (j:Nat) (t:aO) (V:List Int),l[j]? =some t/\mJ n B l j V/\cO0 n B l j t V c)\/(∃ V,mJ n B l l.length V)/\c=7))
theorem mX (Q:Nat->Prop)(a:Option Addr)(n c:Nat)(B:Nat->Blk)(ta:Option Addr)(tn tc:Nat)(l:List aO)(w:World)(h:fE Q w a n B ta tn l):
 Calls Tryz.prog 14 #[.agg #[.slice a n c,.slice ta tn tc]] w fun e w'=>zB e (aQ n B l) (bP4 n B l)/\Below w.heap.size w w':=by
 have hmm:=@run_makeMap Tryz.prog
 have b0:=aA w (.cells #[.slice a n c,.slice ta tn tc] 27)
 have k0:aC _ w.heap.size #[.slice a n c,.slice ta tn tc] 27:=aB w _ _
 have htl:=hid h.tens.1
 replace h:=hid (h.below b0)
 replace k0:=hid k0
 go_enter Tryz.func14,Tryz.ntmps14
 go_wp2_with fail
 generalize w.alloc (.cells #[.slice a n c,.slice ta tn tc] 27)=w0 at *
 have p0:=k0.out.cell 0
 have p1:=k0.out.cell 1
 simp at p0 p1
 refine(aJ7 a n c B w0 h.out.store).mono ?_
 rintro e w1 ⟨⟨e', rfl,he,hsc⟩,b1⟩
 replace he:=hid he
 replace hsc:=hid hsc
 replace p1:=(b1.cell (p:=⟨w.heap.size,1,none⟩) k0.out.lt).trans p1
 replace p0:=(b1.cell (p:=⟨w.heap.size,0,none⟩) k0.out.lt).trans p0
 by_cases h0:e'=0
 ·have h0':(e' == 0)=true:=by simp[h0]
  have hR:=hid (he.out.1 h0)
  have hn:=hR.out.small
  by_cases h3:(3:Int)<(tn:Int)
  ·go_wp2_with fail
   go_ret
   exact⟨aU 2 (by omega) (fun f=>by have:=f.few; rw[htl.out] at this; omega) (.inr ⟨hR.out,.inl ⟨rfl,by rw[htl.out]; omega⟩⟩),Below.tr b0 b1⟩
  ·have htn:tn<=3:=by omega
   have hl3:Hid (l.length<=3):=hid (by rw[htl.out]; exact htn)
   have hSt:Hid (∀ (j:Nat) (t:aO) (V:List Int) (c:Int),l[j]? =some t->mJ n B l j V->cO0 n B l j t V c->bP4 n B l c):=hid fun j t V c h1 h2 h3=>.inr ⟨hR.out,.inr ⟨hl3.out,.inl ⟨j,t,V,h1,h2,h3⟩⟩⟩
   replace h:=hid (h.out.below b1)
   replace k0:=hid (k0.out.below b1)
   replace b1:=hid (Below.tr b0 b1)
   have bM:=aA w1 (.map #[] 0)
   have hSe:=aZ8 w1
   have p1M:=(bM.cell (p:=⟨w.heap.size,1,none⟩) k0.out.lt).trans p1
   replace bM:=hid bM
   replace hSe:=hid hSe
   go_wp2_with fail
   have hlm:(w1.alloc (.map #[] 0)).heap.size=w1.heap.size+1:=by simp
   replace hlm:=hid hlm
   clear p1M
   generalize w1.alloc (.map #[] 0)=wM at *
   clear h3
   go_loopw [4,31] (fun u v wr=>∃ (j:Nat) (V:List Int),j<=tn/\v=.int .i64 j/\u=.int .i64 ((n:Int)-90-nK (l.take j))/\Below w1.heap.size w1 wr/\w1.heap.size<wr.heap.size/\Seen wr w1.heap.size V/\mJ n B l j V) (fun _ v _=>tn-(Go.RowKit.intOf v).toNat)
   case atStart=>exact⟨0,[],Nat.zero_le _,rfl,by simp[nK],bM.out,by rw[hlm.out]; omega,hSe.out,bE9 n B l⟩
   case round=>
    clear hSe bM hlm
    obtain⟨j,V,hj,rfl,rfl,hb,hsz,hS,hTo⟩:=hrel
    have p0r:=(hb.cell (p:=⟨w.heap.size,0,none⟩) k0.out.lt).trans p0
    have p1r:=(hb.cell (p:=⟨w.heap.size,1,none⟩) k0.out.lt).trans p1
    have hsq0:=qD (l:=l.take j) (fun t ht=>(hTo.tens t ht).qb.1)
    have hsq1:=bN0 (l:=l.take j) (fun t ht=>(hTo.tens t ht).qb.2)
    have hlj:(l.take j).length<=3:=by rw[List.length_take]; omega
    by_cases hlt:j<tn
    ·have hjl:j<l.length:=by rw[htl.out]; exact hlt
     have hE':=h.out.tens.below hb
     obtain⟨eb,off,rfl⟩:∃ b off,ta=some ⟨b,off,none⟩:=by
      obtain⟨b,off,e,_⟩:=hE'.2 (by omega)
      exact⟨b,off,e⟩
     have hx:l[j]? =some (l.getD j aO.zero):=by rw[List.getElem?_eq_getElem hjl]; simp[List.getD,hjl]
     obtain⟨sa,sn,sc,hA⟩:=hE'.ten hlt
     have c0:=hA.c0
     have c1:=hA.c1
     have c2:=hA.c2
     have hTa:=hid hA.ok
     have hsumN:=hid (bM9 hx)
     replace hx:=hid hx
     clear hA hE' hjl
     generalize l.getD j aO.zero=t at *
     have ba:=hid (aA wr (.cells #[.int .i64 t.key,.int .i64 t.quota,.slice sa sn sc] 64))
     have k2:Hid (aC _ wr.heap.size #[.int .i64 t.key,.int .i64 t.quota,.slice sa sn sc] 64):=hid (aB wr _ _)
     replace hb:=hid hb
     replace hS:=hid hS
     replace hTo:=hid hTo
     go_upto_region 11 with fail
     clear c0 c1 c2 p0r p1r
     replace hTa:=hid (hTa.out.below ba.out)
     replace hS:=hid (hS.out.out (ba.out.block _ hsz))
     replace hb:=hid (Below.tr hb.out ba.out)
     have hsz5:w1.heap.size<(wr.alloc (.cells #[.int .i64 t.key,.int .i64 t.quota,.slice sa sn sc] 64)).heap.size:=Nat.lt_of_lt_of_le hsz ba.out.size
     clear ba
     generalize wr.alloc (.cells #[.int .i64 t.key,.int .i64 t.quota,.slice sa sn sc] 64)=w5 at *
     have q0:=k2.out.cell 0
     have q1:=k2.out.cell 1
     have q2:=k2.out.cell 2
     simp at q0 q1 q2
     have p0r:=(hb.out.cell (p:=⟨w.heap.size,0,none⟩) k0.out.lt).trans p0
     go_wp2_with fail
     refine(aH6 Q a n c B t sa sn sc w5 (h.out.store.below hb.out) hTa.out).mono ?_
     rintro e w6 ⟨⟨e2,rfl,he2,hst⟩,b6⟩
     replace he2:=hid he2
     replace hst:=hid hst
     replace hTa:=hid (hTa.out.below b6)
     replace hS:=hid (hS.out.out (b6.block _ hsz5))
     have hb6:=hid (Below.tr hb.out b6)
     have q0':=(b6.cell (p:=⟨wr.heap.size,0,none⟩) k2.out.lt).trans q0
     have q1':=(b6.cell (p:=⟨wr.heap.size,1,none⟩) k2.out.lt).trans q1
     have q2':=(b6.cell (p:=⟨wr.heap.size,2,none⟩) k2.out.lt).trans q2
     have p0':=(b6.cell (p:=⟨w.heap.size,0,none⟩) (fC p0r)).trans p0r
     have hk2:=hid (k2.out.below b6)
     have hsz6:=Nat.lt_of_lt_of_le hsz5 b6.size
     clear q0 q1 q2 p0r b6 hb k2
     by_cases h5:e2=0
     ·have h5':(e2 == 0)=true:=by simp[h5]
      have hOk:=hid (he2.out.1 h5)
      have hq0:=hOk.out.qb.1
      have hq1:=hOk.out.qb.2
      go_upto_region 15 with fail
      go_wp2_with fail
      refine(mW Q a n c B t sa sn sc w6 (h.out.store.below hb6.out) hTa.out hR.out hOk.out).mono ?_
      rintro e w7 ⟨⟨la,ln,lc,L,rfl,hNL,hri,hmL⟩,b7⟩
      have hlnL:=hid hNL.1
      have hNL':=hid hNL
      have hri':=hid hri
      have hmL':=hid hmL
      have q1'':=(b7.cell (p:=⟨wr.heap.size,1,none⟩) hk2.out.lt).trans q1'
      replace hS:=hid (hS.out.out (b7.block _ hsz6))
      have hb7:=hid (Below.tr hb6.out b7)
      have hsz7:=Nat.lt_of_lt_of_le hsz6 b7.size
      have hL400:Hid (ln<=400):=hid (by
       rw[<-hNL.1]
       have:=aA4 n L (aK7 hri) (fun x hx=>by have:=((hmL x).1 hx).there hR.out hOk.out.rootsOk; exact⟨this.1,this.2.1⟩)
       omega)
      have hln4:=hL400.out
      clear q0' q1' q2' p0' b7 hb6 hk2 hNL hri hmL hTa
      generalize hrm:(n:Int)-90-nK (l.take j)=rm at *
      have hrm0:-2000<=rm:=by omega
      have hrm1:rm<=400:=by omega
      replace hrm:=hid hrm
      clear hsq0 hsq1 hlj
      by_cases hneg:rm-t.quota<0
      ·have hneg':decide (rm-t.quota<0)=true:=by simp[hneg]
       go_wp2_with fail
       go_ret
       refine⟨aU 8 (by omega) (fun f=>?_) (hSt.out j t V 8 hx.out hTo.out (.inr (.inl ⟨hOk.out,rfl,fun f=>by have h1:=f.1; rw[hsumN.out] at h1; have h4:=hrm.out; omega⟩))),Below.tr b1.out hb7.out⟩
       have h1:=f.room (by rw[htl.out]; omega)
       have h2:=uG (l:=l) (j+1) (fun t ht=>(f.tens t ht).qb.1)
       rw[hsumN.out] at h2
       have h4:=hrm.out
       omega
      ·have hneg':decide (rm-t.quota<0)=false:=by simp[hneg]
       by_cases hbig:t.quota<(ln:Int)
       ·have hbig':decide (t.quota<(ln:Int))=true:=by simp[hbig]
        go_wp2_with fail
        go_ret
        refine⟨aU 8 (by omega) (fun f=>?_) (hSt.out j t V 8 hx.out hTo.out (.inr (.inl ⟨hOk.out,rfl,fun f=>by have h1:=bM1 hri'.out hmL'.out f.2; rw[hlnL.out] at h1; omega⟩))),Below.tr b1.out hb7.out⟩
        have h1:=bM1 hri'.out hmL'.out (f.uses t (List.mem_of_getElem? hx.out))
        rw[hlnL.out] at h1
        omega
       ·have hbig':decide (t.quota<(ln:Int))=false:=by simp[hbig]
        have hRU:Hid (nK (l.take (j+1))+90<=n/\∃ m,qU B (aL t) m/\m<=t.quota):=hid ⟨by have h1:=hsumN.out; have h2:=hrm.out; omega,_,⟨L,hri'.out,hmL'.out,rfl⟩,by rw[hlnL.out]; omega⟩
        clear hneg' hbig'
        go_wp2_with fail
        clear q1''
        go_loopw [61] (fun v wr'=>∃ i:Nat,i<=ln/\v=.int .i64 i/\w7.grownBy wr' (some w1.heap.size)/\Seen wr' w1.heap.size (V++L.take i)/\∀ x∈L.take i,x∉V) (fun v _=>ln-(Go.RowKit.intOf v).toNat)
        case atStart=>exact⟨0,Nat.zero_le _,rfl,⟨rfl,rfl,rfl,Nat.le_refl _,fun _ _ _=>rfl⟩,by simpa using hS.out,by simp⟩
        case round=>
         clear hS
         obtain⟨i,hi,rfl,hgr,hS,hno⟩:=hrel
         replace hno:=hid hno
         by_cases hilt:i<ln
         ·have hil:i<L.length:=by rw[hlnL.out]; exact hilt
          obtain⟨kb,ko,rfl,hkb,hgk,hcc⟩:=hNL'.out.2.2 (by omega)
          have hck:wr.cell? ⟨kb,ko+i,none⟩=some (.int .i64 (L.getD i 0)):=(World.cell?_of_block (hgr.block kb hkb (by simp; omega))).trans (hcc i hilt)
          have hmem:L.getD i 0∈L:=hNL'.out.getD hilt
          have hwf:(Lit.int .i64 (L.getD i 0)).wf=true:=hNL'.out.2.1 _ hmem
          have htk:=hid (fJ hil)
          have hnotin:Hid (L.getD i 0∉L.take i):=hid (fun hm=>by
           have e:L.getD i 0=L[i]:=by simp[List.getD,hil]
           rw[e] at hm
           obtain⟨k,hk,he⟩:=List.getElem_of_mem hm
           rw[List.getElem_take] at he
           rw[List.length_take] at hk
           have:=List.pairwise_iff_getElem.1 hri'.out k i (by omega) hil (by omega)
           omega)
          replace hmem:=hid hmem
          clear hcc hil
          generalize L.getD i 0=x at *
          obtain⟨D,hown,hD,hnd,hm,hat⟩:=hS
          obtain⟨cv,hrun,hcv,hwc⟩:=hown.lookup_int cP1 Tryz.underlying70 Tryz.underlying3 (bL8 _) (keyOf_int_mk Tryz.underlying3 hwf)
          by_cases hin:x∈V++L.take i
          ·have hc1:cv=1:=by
                rw[hat x hin] at hcv
                simpa using hcv.symm
           subst hc1
           have hinV:Hid (x∈V):=hid ((List.mem_append.1 hin).resolve_right hnotin.out)
           have bel:=hid (hb7.out.grown hgr (Nat.le_of_lt hsz7) (fun k hk=>by cases hk; exact Nat.le_refl _))
           clear hown hD hnd hm hat hcv hin hgr
           go_wp2_with fail
           go_ret
           exact⟨aU 7 (by omega) (aS0 hTo.out hx.out ((hmL'.out x).1 hmem.out) hinV.out) (hSt.out j t V 7 hx.out hTo.out (.inr (.inr ⟨hOk.out,hRU.out,rfl,x,hinV.out,(hmL'.out x).1 hmem.out⟩))),Below.tr b1.out bel.out⟩
          ·have hc0:cv=0:=by
                have h1:has D (.int .i64 x)=false:=by
                 cases h2:has D (.int .i64 x)
                 ·rfl
                 ·exact absurd ((hm x).2 h2) hin
                rw[atKey_of_not_has h1] at hcv
                simpa using hcv.symm
           subst hc0
           have hlen:(V++L.take i).length<=n:=aA4 n _ hnd (fun y hy=>by
                rcases List.mem_append.1 hy with hy | hy
                ·obtain⟨u,hu,hc⟩:=(hTo.out.taken y).1 hy
                 have:=hc.there hR.out (hTo.out.tens u hu).rootsOk
                 exact⟨this.1,this.2.1⟩
                ·have:=((hmL'.out y).1 (List.mem_of_mem_take hy)).there hR.out hOk.out.rootsOk
                 exact⟨this.1,this.2.1⟩)
           have hput:=hid (aZ7 hD hnd hin hm hat)
           have hinV:Hid (x∉V):=hid (fun h=>hin (List.mem_append_left _ h))
           replace hcv:=hid hcv
           have hgr':=hid hgr
           clear hnd hm hat hD hin hgr
           generalize hVl:(V++L.take i).length=vl at *
           replace hVl:=hid hVl
           go_wp2_with (at_mapUpdate; refine wpList_mapUpdate_own _ rfl _ _ _ 70 rfl 3 3 cP1 Tryz.underlying70 _ w1.heap.size vl _ rfl hown (by unfold maxLen; omega) _ _ _ rfl rfl (keyOf_int_mk Tryz.underlying3 hwf) _ [] (plainElem_int Tryz.underlying3 (WalkArith.wf_i64 (by omega))) ?_; intro w8 hown8 hgrow8)
           have hS8:Hid (Seen w8 w1.heap.size (V++L.take (i+1))):=hid (by
                have e8:V++L.take (i+1)=(V++L.take i)++[x]:=by rw[htk.out,List.append_assoc]
                rw[e8]
                exact⟨_,by rw[List.length_append,hVl.out]; exact hown8,hput.out.1,hput.out.2.1,hput.out.2.2.1,hput.out.2.2.2⟩)
           have hgr8:Hid (w7.grownBy w8 (some w1.heap.size)):=hid (hgr'.out.trans hgrow8)
           have hno8:Hid (∀ y∈L.take (i+1),y∉V):=hid (fun y hy=>by
                rw[htk.out] at hy
                rcases List.mem_append.1 hy with hy | hy
                ·exact hno.out y hy
                ·rw[List.mem_singleton.1 hy]; exact hinV.out)
           clear hown8 hgrow8 hput hown hrun hcv hwc hck hVl
           go_wp2_with fail
           go_roundw
           case rel=>exact⟨i+1,by omega,by go_num,hgr8.out,hS8.out,hno8.out⟩
           case measure=>simp[Go.RowKit.intOf]; omega
         ·obtain rfl:i=ln:=by omega
          have eL:L.take i=L:=List.take_of_length_le (by rw[hlnL.out]; exact Nat.le_refl _)
          have bel:=hid (hb7.out.grown hgr (Nat.le_of_lt hsz7) (fun k hk=>by cases hk; exact Nat.le_refl _))
          have hszF:=Nat.lt_of_lt_of_le hsz7 hgr.size
          have hNext:Hid (Seen wr w1.heap.size (V++L)/\mJ n B l (j+1) (V++L)):=hid (by
           rw[eL] at hS
           refine⟨hS,hTo.out.next hx.out hOk.out ?_ hri'.out hmL'.out (by rw[hlnL.out]; omega) (by have:=hno.out; rwa [eL] at this)⟩
           have h1:=hsumN.out
           have h2:=hrm.out
           omega)
          have hvN:Hid ((rm-t.quota:Int)=(n:Int)-90-nK (l.take (j+1))):=hid (by rw[hsumN.out,<-hrm.out]; omega)
          clear hS hgr eL
          go_wp2_with fail
          go_roundw
          case rel=>exact⟨j+1,V++L,by omega,by go_num,by rw[hvN.out],bel.out,hszF,hNext.out.1,hNext.out.2⟩
          case measure=>simp[Go.RowKit.intOf]; omega
     ·have h5':(e2 == 0)=false:=by simp[h5]
      go_wp2_with fail
      go_ret
      exact⟨aU e2 h5 (fun f=>h5 (he2.out.2 (f.tens t (List.mem_of_getElem? hx.out)))) (hSt.out j t V e2 hx.out hTo.out (.inl ⟨fun f=>h5 (he2.out.2 f),hst.out h5⟩)),Below.tr b1.out hb6.out⟩
    ·obtain rfl:j=tn:=by omega
     have e1:l.take j=l:=List.take_of_length_le (by rw[htl.out]; exact Nat.le_refl _)
     rw[e1] at hsq0 hsq1
     have hAll:Hid (mJ n B l j V):=hid hTo
     have hokl:Hid (∀ t∈l,jK n B t):=hid (by have:=hTo.tens; rwa [e1] at this)
     replace hb:=hid hb
     clear hTo hS
     go_wp2_with fail
     refine(bH4 Q a n c B ta j tc l wr (h.out.store.below hb.out) (h.out.tens.below hb.out) hR.out (by rw[htl.out]; exact htn) hokl.out).mono ?_
     rintro e w2 ⟨⟨e2,rfl,he2,hs7⟩,b2⟩
     replace he2:=hid he2
     replace hs7:=hid hs7
     have hb2:=hid (Below.tr b1.out (Below.tr hb.out b2))
     clear p0r p1r b2
     go_wp2_with fail
     go_ret
     refine⟨⟨e2,rfl,⟨fun f=>⟨hR.out,by rw[htl.out]; exact htn,hokl.out,fun hp=>?_,?_,?_,he2.out.1 f⟩,fun f=>he2.out.2 f.held⟩,fun f=>.inr ⟨hR.out,.inr ⟨hl3.out,.inr ⟨⟨V,by rw[htl.out]; exact hAll.out⟩,hs7.out f⟩⟩⟩⟩,hb2.out⟩
     ·have:=hAll.out.room (by rw[<-htl.out]; exact hp); rwa [e1] at this
     ·have:=hAll.out.uses; rwa [e1] at this
     ·have:=hAll.out.apart; rwa [e1] at this
 ·have h0':(e' == 0)=false:=by simp[h0]
  go_wp2_with fail
  go_ret
  exact⟨aU e' h0 (fun f=>h0 (he.out.2 f.right)) (.inl ⟨fun f=>h0 (he.out.2 f),hsc.out h0⟩),Below.tr b0 b1⟩
theorem jN (Q:Nat->Prop)(a:Option Addr)(n c:Nat)(B:Nat->Blk)(ta:Option Addr)(tn tc:Nat)(l:List aO)(w:World)(h:fE Q w a n B ta tn l):
 Calls Tryz.prog 14 #[.agg #[.slice a n c,.slice ta tn tc]] w fun e w'=>aY1 e (aQ n B l)/\Below w.heap.size w w':=(mX Q a n c B ta tn tc l w h).mono fun _ _ f=>⟨f.1.ret,f.2⟩
end Go.Proofs.YtjafgnohlkkopaaGreatDoor
namespace Go.Proofs.YtjafgnohlkkopaaGreatDoor
theorem gJ.back {n:Nat}{B C:Nat->Blk}{l:List Int}(h:gJ n B C l){x:Int}(hx:Clo C l x):Clo B l x:=
 hx (Clo B l) (fun r hr h0=>Clo.root hr h0) (fun y hy k hk h0=>hy.kid ((h y hy).2.2.1▸hk) h0)
theorem mF {l:List aO}{i:Nat}{t:aO}(hi:l[i]? =some t)(t':aO)(r:Int):(gM (l.set i t')).count r+(aL t).count r=(gM l).count r+(aL t').count r:=by
 obtain⟨h,rfl⟩:=List.getElem?_eq_some_iff.1 hi
 have e:l=l.take i++l[i]::l.drop (i+1):=by rw[List.getElem_cons_drop,List.take_append_drop]
 have e2:l.set i t'=l.take i++t'::l.drop (i+1):=by rw[List.set_eq_take_append_cons_drop,if_pos h]
 rw[e2]
 conv=>rhs; rw[e]
 simp only[gM,List.flatMap_append,List.flatMap_cons,List.count_append]
 omega
theorem bV7 {l:List aO}{i j:Nat}{t u:aO}(hi:l[i]? =some t)(hj:l[j]? =some u)(hij:i≠j)(r:Int):(aL t).count r+(aL u).count r<=(gM l).count r:=by
 have h1:=mF hi ⟨0,0,[]⟩ r
 have h2:=mF (l:=l.set i ⟨0,0,[]⟩) (i:=j) (t:=u) (by rw[List.getElem?_set_ne hij]; exact hj) ⟨0,0,[]⟩ r
 have h0:(aL ⟨0,0,[]⟩).count r=0:=by simp[aL,cZ]
 omega
theorem bY7 {l:List aO}{i:Nat}{t t':aO}(hi:l[i]? =some t)(hq:t'.quota=t.quota):nK (l.set i t')=nK l:=by
 obtain⟨h,rfl⟩:=List.getElem?_eq_some_iff.1 hi
 unfold nK
 rw[List.map_set,hq]
 congr 1
 apply List.ext_getElem?
 intro k
 rw[List.getElem?_set]
 split
 ·rename_i e
  subst e
  simp[h]
 ·rfl
structure Step (n:Nat)(B D:Nat->Blk)(l:List aO)(i:Nat)(t':aO):Prop where
 ok:aQ n D (l.set i t')
 oth:∀ (j:Nat) (u:aO),l[j]? =some u->j≠i->gJ n B D (aL u)
theorem aQ.move {n:Nat}{B D:Nat->Blk}{l:List aO}{i:Nat}{t t':aO}{R S:List Int}(h:aQ n B l)(hi:l[i]? =some t)(hq:t'.quota=t.quota)(hM:tZ n B D R S)(hRt:∀ r:Int,r≠0->R.count r<=(aL t).count r)(hc:∀ r:Int,r≠0->(aL t').count r+R.count r=(aL t).count r+S.count r)(htok:jK n D t')(huse:∃ m,qU D (aL t') m/\m<=t.quota)(hfrom:∀ x,Clo D (aL t') x->Clo B (aL t) x\/¬There n B x):Step n B D l i t':=by
 obtain⟨hil,hti⟩:=List.getElem?_eq_some_iff.1 hi
 have hoth:∀ (j:Nat) (u:aO),l[j]? =some u->j≠i->gJ n B D (0::aL u):=fun j u hj hji=>by
  have h1:gJ n B D (0::aQ1 n B R):=hM.stays.zero
  refine h1.mono (fun r hr=>?_)
  rcases List.mem_cons.1 hr with rfl | hr
  ·exact List.mem_cons_self
  ·have hb:=(h.tens u (List.mem_of_getElem? hj)).rootBd r hr
   rcases hb with rfl | ⟨h1,h2⟩
   ·exact List.mem_cons_self
   ·refine List.mem_cons_of_mem _ (rO.2 ⟨(r-1).toNat,by omega,?_,by omega⟩)
    have e:(((r-1).toNat:Nat):Int)+1=r:=by omega
    have h3:=h.held (r-1).toNat (by omega)
    have h4:=bV7 hi hj (fun f=>hji f.symm) r
    have h5:0<(aL u).count r:=List.count_pos_iff.2 hr
    have h6:=hRt r (by omega)
    rw[e] at h3 ⊢
    omega
 have hst:∀ (j:Nat) (u:aO),l[j]? =some u->j≠i->gJ n B D (aL u):=fun j u hj hji=>(hoth j u hj hji).mono (fun r hr=>List.mem_cons_of_mem _ hr)
 refine⟨?_,hst⟩
 refine⟨hM.right,by rw[List.length_set]; exact h.few,fun u hu=>?_,fun hp=>?_,fun u hu=>?_,?_,fun k hk=>?_⟩
 ·obtain⟨j,hj,rfl⟩:=List.mem_iff_getElem.1 hu
  by_cases e:i=j
  ·subst e
   rw[List.getElem_set_self]
   exact htok
  ·rw[List.getElem_set_ne e]
   have hjl:j<l.length:=by simpa using hj
   have hju:l[j]? =some l[j]:=List.getElem?_eq_getElem hjl
   have ho:=h.tens l[j] (List.getElem_mem hjl)
   exact⟨ho.kb,ho.qb,ho.few,fun x hx=>((ho.sets x hx).bytes hM.right (hoth j _ hju (fun f=>e f.symm)) (fun r hr=>List.mem_cons_of_mem _ (List.mem_flatMap.2 ⟨x,hx,hr⟩))).1,ho.order⟩
 ·rw[bY7 hi hq]
  exact h.room (by simpa using hp)
 ·obtain⟨j,hj,rfl⟩:=List.mem_iff_getElem.1 hu
  by_cases e:i=j
  ·subst e
   rw[List.getElem_set_self,hq]
   exact huse
  ·rw[List.getElem_set_ne e]
   have hjl:j<l.length:=by simpa using hj
   have hs:=hst j l[j] (List.getElem?_eq_getElem hjl) (fun f=>e f.symm)
   obtain⟨m,⟨V,h1,h2,h3⟩,h4⟩:=h.uses l[j] (List.getElem_mem hjl)
   exact⟨m,⟨V,h1,fun x=>(h2 x).trans ⟨fun f=>hs.clo f,fun f=>hs.back f⟩,h3⟩,h4⟩
 ·rw[List.pairwise_iff_getElem]
  intro a b ha hb hab x hx hy
  rw[List.length_set] at ha hb
  have hap:∀ c d (hc:c<l.length) (hd:d<l.length),c≠d->∀ x,Clo B (aL l[c]) x->¬Clo B (aL l[d]) x:=fun c d hc hd hcd x h1 h2=>by
   rcases Nat.lt_or_gt_of_ne hcd with q | q
   ·exact List.pairwise_iff_getElem.1 h.apart c d hc hd q x h1 h2
   ·exact List.pairwise_iff_getElem.1 h.apart d c hd hc q x h2 h1
  have key:∀ d (hd:d<l.length),d≠i->Clo D (aL t') x->Clo D (aL l[d]) x->False:=fun d hd hdi h1 h2=>by
   have h3:=(hst d l[d] (List.getElem?_eq_getElem hd) hdi).back h2
   rcases hfrom x h1 with h4 | h4
   ·rw[<-hti] at h4
    exact hap i d hil hd (fun f=>hdi f.symm) x h4 h3
   ·exact h4 (h3.there h.right (h.tens _ (List.getElem_mem hd)).rootsOk)
  by_cases ea:i=a
  ·subst ea
   rw[List.getElem_set_self] at hx
   rw[List.getElem_set_ne (by omega)] at hy
   exact key b hb (by omega) hx hy
  ·rw[List.getElem_set_ne ea] at hx
   by_cases eb:i=b
   ·subst eb
    rw[List.getElem_set_self] at hy
    exact key a ha (by omega) hy hx
   ·rw[List.getElem_set_ne eb] at hy
    exact hap a b ha hb (by omega) x ((hst a l[a] (List.getElem?_eq_getElem ha) (fun f=>ea f.symm)).back hx) ((hst b l[b] (List.getElem?_eq_getElem hb) (fun f=>eb f.symm)).back hy)
 ·have h1:=hM.out k hk
  have h2:=h.held k hk
  have h3:=mF hi t' ((k:Int)+1)
  have h4:=hc ((k:Int)+1) (by omega)
  have h5:=hRt ((k:Int)+1) (by omega)
  omega
theorem aQ.refs {n:Nat}{B:Nat->Blk}{l:List aO}(h:aQ n B l):∀ k,k<n->(B k).refs<=2000:=fun k hk=>by
 have h1:=h.held k hk
 have h2:=sO (l:=l) h.tens
 have h3:=h.few
 have h4:(gM l).count ((k:Int)+1)<=(gM l).length:=List.count_le_length
 have h5:=vW (n:=n) (B:=B) ((k:Int)+1) n (fun j hj=>(h.right.one j hj).few)
 have h6:=h.right.small
 unfold outs at h1
 omega
theorem aQ.heldX {n:Nat}{B:Nat->Blk}{l:List aO}{i:Nat}{t:aO}{x:aK}(h:aQ n B l)(hi:l[i]? =some t)(hx:x∈t.sets):aV n B t.key x/\dY n B (aG x)/\∀ r:Int,(aG x).count r<=(aL t).count r:=by
 have hle:∀ r:Int,(aG x).count r<=(aL t).count r:=fun r=>by
  obtain⟨j,hj,rfl⟩:=List.mem_iff_getElem.1 hx
  have e:t.sets=t.sets.take j++t.sets[j]::t.sets.drop (j+1):=by rw[List.getElem_cons_drop,List.take_append_drop]
  unfold aL cZ
  conv=>rhs; rw[e]
  simp only[List.flatMap_append,List.flatMap_cons,List.count_append]
  omega
 refine⟨(h.tens t (List.mem_of_getElem? hi)).sets x hx,fun k hk=>?_,hle⟩
 rw[h.held k hk]
 have h1:=hle ((k:Int)+1)
 have h2:=mF hi ⟨0,0,[]⟩ ((k:Int)+1)
 have h0:(aL ⟨0,0,[]⟩).count ((k:Int)+1)=0:=by simp[aL,cZ]
 omega
end Go.Proofs.YtjafgnohlkkopaaGreatDoor
namespace Go.Proofs.YtjafgnohlkkopaaGreatDoor
open Go.RowKit
theorem Did.after {n:Nat}{B D:Nat->Blk}{key:Int}{x y:aK}{a:aP}{cc:Int}(hx:aV n B key x)(hh:dY n B (aG x))(hb:Bytes a.bytes)(hc:∀ k,k<n->(B k).refs<=cc)(hcc:cc+iP a+24<=1000000)(h:Did n B key x a cc D y):After n key B D x y/\∀ k,k<n->(D k).refs<=cc+leftOf a:=by
 obtain⟨C,made,hY,hD,hF⟩:=h
 have:=(hY.chg hx hb hc).done hx hh hcc hD hF
 exact⟨this.1,this.2.2⟩
theorem Did.plain {n:Nat}{B D:Nat->Blk}{key:Int}{x y:aK}{a:aP}{cc:Int}(h:Did n B key x a cc D y)(h3:a.kind≠3)(h4:a.kind≠4):Plain x a y/\Right n D/\iU n (eX B (aG y)) D (aG x++[0]):=by
 obtain⟨C,made,hY,hD,hF⟩:=h
 rcases hY with⟨h,_⟩ | ⟨h,_⟩ | ⟨h,rfl,rfl⟩
 ·exact absurd h h3
 ·exact absurd h h4
 ·exact⟨h,hD,hF⟩
theorem aV.thereX {n:Nat}{B:Nat->Blk}{key:Int}{x:aK}(h:aV n B key x):∀ r∈aG x,r=0\/There n B r:=fun r hr=>by
 rw[gL] at hr
 obtain⟨e,he,rfl⟩:=bV.1 hr
 rcases(h.ents e he).rooted with h0 | ⟨h1,_⟩
 ·exact .inl h0
 ·exact .inr h1
theorem aL8 {α:Type}{f:α->List UInt8}{l:List α}(h:l.Pairwise fun a b=>f a<f b){p:Nat}(hp:p<l.length){z:α}:z∈l.eraseIdx p↔z∈l/\f z≠f l[p]:=by
 have e:l=l.take p++l[p]::l.drop (p+1):=by rw[List.getElem_cons_drop,List.take_append_drop]
 have h':=h
 rw[e] at h'
 rw[List.pairwise_append,List.pairwise_cons] at h'
 obtain⟨_,⟨h3,_⟩,h4⟩:=h'
 rw[List.eraseIdx_eq_take_drop_succ,List.mem_append]
 constructor
 ·rintro (hz | hz)
  ·refine⟨List.mem_of_mem_take hz,fun e2=>?_⟩
   have:=h4 z hz l[p] List.mem_cons_self
   rw[e2] at this
   exact absurd this (List.lt_irrefl _)
  ·refine⟨List.mem_of_mem_drop hz,fun e2=>?_⟩
   have:=h3 z hz
   rw[e2] at this
   exact absurd this (List.lt_irrefl _)
 ·rintro⟨hz,hne⟩
  rw[e] at hz
  rcases List.mem_append.1 hz with h | h
  ·exact .inl h
  ·rcases List.mem_cons.1 h with h | h
   ·exact absurd (congrArg f h) hne
   ·exact .inr h
end Go.Proofs.YtjafgnohlkkopaaGreatDoor
