import Derived.Test.YtjafgnohlkkopaaGreatDoorPart09
import Derived.Test.YtjafgnohlkkopaaGreatDoorPart08
import Derived.Test.YtjafgnohlkkopaaGreatDoorPart07
import Derived.Test.YtjafgnohlkkopaaGreatDoorPart02
import Derived.Test.YtjafgnohlkkopaaGreatDoorPart03
import Derived.Laws.AppendOwnNone
import Derived.Lib.AppendZeros
import Derived.Deep.DeepAppendRoom
set_option linter.unusedVariables false
set_option maxHeartbeats 8000000
set_option maxRecDepth 100000
namespace Go.Proofs.YtjafgnohlkkopaaGreatDoor
open Go.RowKit
def Ahead {α:Type}(f:α->List UInt8)(l:List α)(j:Nat)(s:List UInt8):Prop:=(j=0/\s=[])\/∃ x,l[j-1]? =some x/\0<j/\s=f x
theorem tY {α:Type}{f:α->List UInt8}{l:List α}{j:Nat}{x:α}(hx:l[j]? =some x):Ahead f l (j+1) (f x):=.inr ⟨x,hx,by omega,rfl⟩
theorem eF {α:Type}{l:List α}{j:Nat}{x:α}(hx:l[j]? =some x):l.take (j+1)=l.take j++[x]:=by
 rw[List.take_add_one,hx]; rfl
theorem sZ {α:Type}{f:α->List UInt8}{l:List α}{j:Nat}{x:α}{s:List UInt8}(hx:l[j]? =some x)(ho:(l.take j).Pairwise fun a b=>f a<f b)(ha:Ahead f l j s)(hlt:s<f x):(l.take (j+1)).Pairwise fun a b=>f a<f b:=by
 rw[eF hx,List.pairwise_append]
 refine⟨ho,by simp,fun a ha' b hb=>?_⟩
 rw[List.mem_singleton.1 hb]
 obtain⟨k,hk,rfl⟩:=List.mem_iff_getElem.1 ha'
 have hkj:=hk
 rw[List.length_take] at hkj
 rcases ha with⟨h0,_⟩ | ⟨y,hy,h0,rfl⟩
 ·omega
 ·obtain⟨hy1,hy2⟩:=List.getElem?_eq_some_iff.1 hy
  by_cases e:k=j-1
  ·subst e
   rw[List.getElem_take,hy2]
   exact hlt
  ·refine List.lt_trans ?_ hlt
   have:=List.pairwise_iff_getElem.1 ho k (j-1) hk (by rw[List.length_take]; omega) (by omega)
   rw[List.getElem_take (i:=j-1),hy2] at this
   exact this
theorem qK {α:Type}{f:α->List UInt8}{l:List α}{j:Nat}{x:α}{s:List UInt8}(hx:l[j]? =some x)(ho:l.Pairwise fun a b=>f a<f b)(ha:Ahead f l j s)(hn:1<=(f x).length):s<f x:=by
 obtain⟨hj,rfl⟩:=List.getElem?_eq_some_iff.1 hx
 rcases ha with⟨h0,rfl⟩ | ⟨y,hy,h0,rfl⟩
 ·cases h:f l[j] with
  | nil=>rw[h] at hn; simp at hn
  | cons a b=>exact List.nil_lt_cons a b
 ·obtain⟨hy1,rfl⟩:=List.getElem?_eq_some_iff.1 hy
  exact List.pairwise_iff_getElem.1 ho (j-1) j hy1 hj (by omega)
structure aI0 (n:Nat)(B:Nat->Blk)(key:Int)(l:List Ent)(j:Nat):Prop where
 names:∀ x∈l.take j,aN x.name
 order:(l.take j).Pairwise fun a b=>a.nm<b.nm
 files:∀ x∈l.take j,bU n B key x.root x.size
theorem aI0.next {n:Nat}{B:Nat->Blk}{key:Int}{l:List Ent}{j:Nat}{x:Ent}{s:List UInt8}(h:aI0 n B key l j)(hx:l[j]? =some x)(ha:Ahead Ent.nm l j s)(hn:aN x.name/\s<x.name.data.toList)(hf:bU n B key x.root x.size):aI0 n B key l (j+1):=by
 refine⟨fun y hy=>?_,sZ hx h.order ha hn.2,fun y hy=>?_⟩
 ·rw[eF hx] at hy
  rcases List.mem_append.1 hy with hy | hy
  ·exact h.names y hy
  ·rw[List.mem_singleton.1 hy]; exact hn.1
 ·rw[eF hx] at hy
  rcases List.mem_append.1 hy with hy | hy
  ·exact h.files y hy
  ·rw[List.mem_singleton.1 hy]; exact hf
theorem pX (Q:Nat->Prop)(a:Option Addr)(n c:Nat)(B:Nat->Blk)(key:Int)(fa:Option Addr)(fn fc:Nat)(l:List Ent)(w:World)(h:aO w a n B)(hE:dS Q w fa fn l):
 Calls Tryz.prog 81 #[.agg #[.slice a n c],.int .i64 key,.slice fa fn fc] w fun e w'=>vV e (oF n B key l)/\Below w.heap.size w w':=by
 have b0:=aA w (.cells #[.slice a n c] 24)
 have k0:aC _ w.heap.size #[.slice a n c] 24:=aB w _ _
 have hl:=hid hE.1
 replace h:=hid (h.below b0)
 replace hE:=hid (hE.below b0)
 replace k0:=hid k0
 go_enter Tryz.func81,Tryz.ntmps81
 by_cases h6:(6:Int)<(fn:Int)
 ·go_wp2_with fail
  go_ret
  exact⟨aU 2 (by omega) (fun f=>by have:=f.few; rw[hl.out] at this; omega),b0⟩
 ·go_wp2_with fail
  generalize w.alloc (.cells #[.slice a n c] 24)=w0 at *
  go_loopw [7,17] (fun u v wr=>∃ (j:Nat) (s:ByteArray),j<=fn/\v=.int .i64 j/\u=.string s/\Below w0.heap.size w0 wr/\Ahead Ent.nm l j s.data.toList/\aI0 n B key l j) (fun _ v _=>fn-(Go.RowKit.intOf v).toNat)
  case atStart=>exact⟨0,⟨#[]⟩,Nat.zero_le _,rfl,rfl,Below.refl _ _,.inl ⟨rfl,rfl⟩,by simp,by simp,by simp⟩
  case round=>
   obtain⟨j,s,hj,rfl,rfl,hb,ha,hF⟩:=hrel
   replace ha:=hid ha
   replace hF:=hid hF
   by_cases hlt:j<fn
   ·have hjl:j<l.length:=by rw[hl.out]; exact hlt
    have hE':=hE.out.below hb
    obtain⟨eb,off,rfl⟩:∃ b off,fa=some ⟨b,off,none⟩:=by
     obtain⟨b,off,e,_⟩:=hE'.2.2 (by omega)
     exact⟨b,off,e⟩
    have hx:l[j]? =some (l.getD j Ent.zero):=by rw[List.getElem?_eq_getElem hjl]; simp[List.getD,hjl]
    have hok:=hE'.2.1 _ (hE'.getD hlt)
    have hA:=hE'.ent hlt
    have c0:=hA.c0
    have c1:=hA.c1
    have c2:=hA.c2
    replace hx:=hid hx
    have hsm:=hok.1
    clear hA hE' hok hjl
    generalize l.getD j Ent.zero=x at *
    go_wp2_with fail
    have b1:=aA wr (.cells #[.string x.name,.int .i64 x.root,.int .i64 x.size] 106)
    have k1:aC _ wr.heap.size #[.string x.name,.int .i64 x.root,.int .i64 x.size] 106:=aB wr _ _
    clear c0 c1 c2
    replace hb:=Below.tr hb b1
    generalize wr.alloc (.cells #[.string x.name,.int .i64 x.root,.int .i64 x.size] 106)=w1 at *
    refine(sD s x.name w1 hsm).mono ?_
    rintro e w2 ⟨⟨e', rfl,he⟩,rfl⟩
    have q0:=k1.cell 0
    have q1:=k1.cell 1
    have q2:=k1.cell 2
    have s0:=(hb.cell (p:=⟨w.heap.size,0,none⟩) k0.out.lt).trans (k0.out.cell 0)
    simp at q0 q1 q2 s0
    replace he:=hid he
    replace k1:=hid k1
    by_cases h0:e'=0
    ·have h0':(e' == 0)=true:=by simp[h0]
     have hN:=hid (he.out.1 h0)
     go_wp2_with fail
     refine(aG7 a n c B key x.root x.size w2 (h.out.below hb)).mono ?_
     rintro e w3 ⟨⟨e2,rfl,he2⟩,b3⟩
     have q3:=(b3.cell (p:=⟨wr.heap.size,0,none⟩) k1.out.lt).trans q0
     replace he2:=hid he2
     replace hb:=Below.tr hb b3
     clear q0 q1 q2 s0
     by_cases h2:e2=0
     ·have h2':(e2 == 0)=true:=by simp[h2]
      have hf:=hid (he2.out.1 h2)
      go_wp2_with fail
      go_roundw
      case rel=>exact⟨j+1,x.name,by omega,by go_num,rfl,hb,tY (f:=Ent.nm) hx.out,hF.out.next hx.out ha.out hN.out hf.out⟩
      case measure=>simp[Go.RowKit.intOf]; omega
     ·have h2':(e2 == 0)=false:=by simp[h2]
      go_wp2_with fail
      go_ret
      exact⟨aU e2 h2 (fun f=>h2 (he2.out.2 (f.files x (List.mem_of_getElem? hx.out)))),Below.tr b0 hb⟩
    ·have h0':(e' == 0)=false:=by simp[h0]
     go_wp2_with fail
     go_ret
     exact⟨aU e' h0 (fun f=>h0 (he.out.2 ⟨f.names x (List.mem_of_getElem? hx.out),qK (f:=Ent.nm) hx.out f.order ha.out (f.names x (List.mem_of_getElem? hx.out)).1⟩)),Below.tr b0 hb⟩
   ·obtain rfl:j=fn:=by omega
    have e1:l.take j=l:=List.take_of_length_le (by rw[hl.out]; exact Nat.le_refl _)
    go_wp2_with fail
    go_ret
    refine⟨iB ⟨by rw[hl.out]; omega,?_,?_,?_⟩,Below.tr b0 hb⟩
    ·have:=hF.out.names; rwa [e1] at this
    ·have:=hF.out.order; rwa [e1] at this
    ·have:=hF.out.files; rwa [e1] at this
structure aH5 (n:Nat)(B:Nat->Blk)(key:Int)(l:List bQ)(j:Nat):Prop where
 names:∀ x∈l.take j,aN x.name
 order:(l.take j).Pairwise fun a b=>a.nm<b.nm
 files:∀ x∈l.take j,oF n B key x.files
theorem aH5.next {n:Nat}{B:Nat->Blk}{key:Int}{l:List bQ}{j:Nat}{x:bQ}{s:List UInt8}(h:aH5 n B key l j)(hx:l[j]? =some x)(ha:Ahead bQ.nm l j s)(hn:aN x.name/\s<x.name.data.toList)(hf:oF n B key x.files):aH5 n B key l (j+1):=by
 refine⟨fun y hy=>?_,sZ hx h.order ha hn.2,fun y hy=>?_⟩
 ·rw[eF hx] at hy
  rcases List.mem_append.1 hy with hy | hy
  ·exact h.names y hy
  ·rw[List.mem_singleton.1 hy]; exact hn.1
 ·rw[eF hx] at hy
  rcases List.mem_append.1 hy with hy | hy
  ·exact h.files y hy
  ·rw[List.mem_singleton.1 hy]; exact hf
theorem nN (Q:Nat->Prop)(a:Option Addr)(n c:Nat)(B:Nat->Blk)(key:Int)(v:cB)(x:aK)(w:World)(h:aO w a n B)(hX:dN Q w v x):
 Calls Tryz.prog 52 #[.agg #[.slice a n c],.int .i64 key,v.val] w fun e w'=>vV e (bD n B key x)/\Below w.heap.size w w':=by
 obtain⟨vn,fa,fn,fc,sa,sn,sc⟩:=v
 obtain⟨hnm,hsm,hFi,hSn,hcap⟩:=hX
 simp only at hnm hFi hSn
 subst hnm
 unfold cB.val
 simp only
 have b0:=aW w (.cells #[.slice a n c] 24) (.cells #[.string x.name,.slice fa fn fc,.slice sa sn sc] 84)
 have k0:aC _ w.heap.size #[.slice a n c] 24:=(aB w _ _).below (aA _ (.cells #[.string x.name,.slice fa fn fc,.slice sa sn sc] 84))
 have k1:=aF w (.cells #[.slice a n c] 24) #[.string x.name,.slice fa fn fc,.slice sa sn sc] 84
 have hsl:=hid hSn.1
 replace h:=hid (h.below b0)
 replace hFi:=hid (hFi.below b0)
 replace hSn:=hid (hSn.below b0)
 replace k0:=hid k0
 replace k1:=hid k1
 clear hcap
 go_enter Tryz.func52,Tryz.ntmps52
 go_wp2_with fail
 generalize (w.alloc (.cells #[.slice a n c] 24)).alloc (.cells #[.string x.name,.slice fa fn fc,.slice sa sn sc] 84)=w0 at *
 by_cases hk:aI1 key 0=true
 ·have hkb:=mI hk
  refine(rZ key 0 w0 hk).mono ?_
  rintro e w1 ⟨rfl,rfl⟩
  have s0:=k0.out.cell 0
  have x0:=k1.out.cell 0
  have x1:=k1.out.cell 1
  have x2:=k1.out.cell 2
  simp at s0 x0 x1 x2
  clear hk
  go_wp2_with fail
  refine(kK ⟨w.heap.size,0,none⟩ a n c B w1 ⟨k0.out.lt,s0,h.out⟩).mono ?_
  rintro e w2 ⟨⟨e', rfl,he⟩,b2⟩
  replace he:=hid he
  replace x0:=(b2.cell (p:=⟨w.heap.size+1,0,none⟩) k1.out.lt).trans x0
  replace x1:=(b2.cell (p:=⟨w.heap.size+1,1,none⟩) k1.out.lt).trans x1
  replace x2:=(b2.cell (p:=⟨w.heap.size+1,2,none⟩) k1.out.lt).trans x2
  replace s0:=(b2.cell (p:=⟨w.heap.size,0,none⟩) k0.out.lt).trans s0
  by_cases h0:e'=0
  ·have h0':(e' == 0)=true:=by simp[h0]
   have hR:=hid (he.out.1 h0)
   go_wp2_with fail
   refine(iM x.name w2 hsm).mono ?_
   rintro e w3 ⟨⟨t,rfl,ht⟩,rfl⟩
   replace ht:=hid ht
   cases t
   ·go_wp2_with fail
    go_ret
    exact⟨aU 1 (by omega) (fun f=>Bool.false_ne_true (ht.out.2 f.name)),Below.tr b0 b2⟩
   ·have hNm:=hid (ht.out.1 rfl)
    go_wp2_with fail
    refine(pX Q a n c B key fa fn fc x.files w3 (h.out.below b2) (hFi.out.below b2)).mono ?_
    rintro e w4 ⟨⟨e2,rfl,he2⟩,b4⟩
    replace he2:=hid he2
    replace x2:=(b4.cell (p:=⟨w.heap.size+1,2,none⟩) (Nat.lt_of_lt_of_le k1.out.lt b2.size)).trans x2
    replace s0:=(b4.cell (p:=⟨w.heap.size,0,none⟩) (Nat.lt_of_lt_of_le k0.out.lt b2.size)).trans s0
    replace b4:=Below.tr b2 b4
    clear x0 x1 b2
    by_cases h2:e2=0
    ·have h2':(e2 == 0)=true:=by simp[h2]
     have hFO:=hid (he2.out.1 h2)
     by_cases h3:(3:Int)<(sn:Int)
     ·go_wp2_with fail
      go_ret
      exact⟨aU 2 (by omega) (fun f=>by have:=f.fewS; rw[hsl.out] at this; omega),Below.tr b0 b4⟩
     ·go_wp2_with fail
      replace h:=hid (h.out.below b4)
      replace hSn:=hid (hSn.out.below b4)
      replace b4:=hid (Below.tr b0 b4)
      clear x2 he he2 ht
      go_loopw [10,43] (fun u v wr=>∃ (j:Nat) (s:ByteArray),j<=sn/\v=.int .i64 j/\u=.string s/\Below w4.heap.size w4 wr/\Ahead bQ.nm x.snaps j s.data.toList/\aH5 n B key x.snaps j) (fun _ v _=>sn-(Go.RowKit.intOf v).toNat)
      case atStart=>exact⟨0,⟨#[]⟩,Nat.zero_le _,rfl,rfl,Below.refl _ _,.inl ⟨rfl,rfl⟩,by simp,by simp,by simp⟩
      case round=>
       obtain⟨j,s,hj,rfl,rfl,hb,ha,hF⟩:=hrel
       replace ha:=hid ha
       replace hF:=hid hF
       by_cases hlt:j<sn
       ·have hjl:j<x.snaps.length:=by rw[hsl.out]; exact hlt
        have hE':=hSn.out.below hb
        obtain⟨eb,off,rfl⟩:∃ b off,sa=some ⟨b,off,none⟩:=by
             obtain⟨b,off,e,_⟩:=hE'.2 (by omega)
             exact⟨b,off,e⟩
        have hx:x.snaps[j]? =some (x.snaps.getD j bQ.zero):=by rw[List.getElem?_eq_getElem hjl]; simp[List.getD,hjl]
        obtain⟨ga,gn,gc,hA⟩:=hE'.snap hlt
        have c0:=hA.c0
        have c1:=hA.c1
        have hsz:=hA.small
        have hGf:=hid hA.files
        replace hx:=hid hx
        clear hA hE' hjl
        generalize x.snaps.getD j bQ.zero=y at *
        go_wp2_with fail
        have b1:=aA wr (.cells #[.string y.name,.slice ga gn gc] 113)
        have k2:aC _ wr.heap.size #[.string y.name,.slice ga gn gc] 113:=aB wr _ _
        clear c0 c1
        replace hGf:=hid (hGf.out.below b1)
        replace hb:=Below.tr hb b1
        generalize wr.alloc (.cells #[.string y.name,.slice ga gn gc] 113)=w5 at *
        refine(sD s y.name w5 hsz).mono ?_
        rintro e w6 ⟨⟨e3,rfl,he3⟩,rfl⟩
        have q0:=k2.cell 0
        have q1:=k2.cell 1
        have s1:=(hb.cell (p:=⟨w.heap.size,0,none⟩) (eZ s0)).trans s0
        simp at q0 q1
        replace he3:=hid he3
        replace k2:=hid k2
        by_cases h5:e3=0
        ·have h5':(e3 == 0)=true:=by simp[h5]
         have hN:=hid (he3.out.1 h5)
         go_wp2_with fail
         refine(pX Q a n c B key ga gn gc y.files w6 (h.out.below hb) hGf.out).mono ?_
         rintro e w7 ⟨⟨e4,rfl,he4⟩,b7⟩
         have q3:=(b7.cell (p:=⟨wr.heap.size,0,none⟩) k2.out.lt).trans q0
         replace he4:=hid he4
         replace hb:=Below.tr hb b7
         clear q0 q1 s1
         by_cases h7:e4=0
         ·have h7':(e4 == 0)=true:=by simp[h7]
          have hf:=hid (he4.out.1 h7)
          go_wp2_with fail
          go_roundw
          case rel=>exact⟨j+1,y.name,by omega,by go_num,rfl,hb,tY (f:=bQ.nm) hx.out,hF.out.next hx.out ha.out hN.out hf.out⟩
          case measure=>simp[Go.RowKit.intOf]; omega
         ·have h7':(e4 == 0)=false:=by simp[h7]
          go_wp2_with fail
          go_ret
          exact⟨aU e4 h7 (fun f=>h7 (he4.out.2 (f.filesS y (List.mem_of_getElem? hx.out)))),Below.tr b4.out hb⟩
        ·have h5':(e3 == 0)=false:=by simp[h5]
         go_wp2_with fail
         go_ret
         exact⟨aU e3 h5 (fun f=>h5 (he3.out.2 ⟨f.namesS y (List.mem_of_getElem? hx.out),qK (f:=bQ.nm) hx.out f.orderS ha.out (f.namesS y (List.mem_of_getElem? hx.out)).1⟩)),Below.tr b4.out hb⟩
       ·obtain rfl:j=sn:=by omega
        have e1:x.snaps.take j=x.snaps:=List.take_of_length_le (by rw[hsl.out]; exact Nat.le_refl _)
        have hTo:=hF.out
        go_wp2_with fail
        go_ret
        refine⟨iB ⟨⟨hkb.1,hkb.2.1⟩,hR.out,hNm.out,hFO.out,by rw[hsl.out]; omega,?_,?_,?_⟩,Below.tr b4.out hb⟩
        ·have:=hTo.names; rwa [e1] at this
        ·have:=hTo.order; rwa [e1] at this
        ·have:=hTo.files; rwa [e1] at this
    ·have h2':(e2 == 0)=false:=by simp[h2]
     go_wp2_with fail
     go_ret
     exact⟨aU e2 h2 (fun f=>h2 (he2.out.2 f.files)),Below.tr b0 b4⟩
  ·have h0':(e' == 0)=false:=by simp[h0]
   go_wp2_with fail
   go_ret
   exact⟨aU e' h0 (fun f=>h0 (he.out.2 f.right)),Below.tr b0 b2⟩
 ·have hk':aI1 key 0=false:=by simpa using hk
  have hno:=oO hk'
  refine(aH0 key 0 w0 hk').mono ?_
  rintro e w1 ⟨rfl,rfl⟩
  replace hno:=hid hno
  clear hk hk'
  go_wp2_with fail
  go_ret
  exact⟨aU 3 (by omega) (fun f=>hno.out ⟨f.kb.1,f.kb.2,by omega,by omega⟩),b0⟩
def eX (B:Nat->Blk)(K:List Int):Nat->Blk:=fun i=>{ B i with refs:=(B i).refs+(K.count ((i:Int)+1):Int) }
theorem xN (B:Nat->Blk):eX B []=B:=by
 funext i
 unfold eX
 simp
theorem fO (B:Nat->Blk)(K:List Int)(i:Nat):(eX B K i).refs=(B i).refs+(K.count ((i:Int)+1):Int):=rfl
theorem bG7 (B:Nat->Blk)(K:List Int):eX B (K++[0])=eX B K:=by
 funext i
 unfold eX
 rw[List.count_append,List.count_cons_of_ne (by omega)]
 simp
theorem bP8 (B:Nat->Blk)(K:List Int)(m:Nat):eX B (K++[(m:Int)+1])=upd (eX B K) m { eX B K m with refs:=(eX B K m).refs+1 }:=by
 funext i
 by_cases e:i=m
 ·subst e
  rw[upd_same]
  unfold eX
  rw[List.count_append,List.count_cons_self]
  simp
  omega
 ·rw[bG _ _ _ _ e]
  unfold eX
  rw[List.count_append,List.count_cons_of_ne (by omega)]
  simp
theorem yY (n:Nat)(B:Nat->Blk)(K:List Int)(x:Int):among n (eX B K) x=among n B x:=iD x fun _ _=>rfl
theorem oN (n:Nat)(B:Nat->Blk)(K:List Int)(k:Nat):outs n (eX B K) k=outs n B k+(K.count ((k:Int)+1):Int):=by
 unfold outs
 rw[yY,fO]
 omega
theorem aS1 {n:Nat}{B:Nat->Blk}{K:List Int}(hB:Right n B){x:Int}(h:There n B x):There n (eX B K) x:=by
 obtain⟨h1,h2,h3⟩:=h
 have:=(hB.one _ (ix h1 h2).1).bounds
 exact⟨h1,h2,by rw[fO]; omega⟩
theorem qH {n:Nat}{B:Nat->Blk}{K:List Int}(hB:Right n B)(hK:∀ x∈K,x=0\/There n B x)(hc:∀ i,i<n->(B i).refs+(K.length:Int)<=1000000):Right n (eX B K):=by
 refine⟨hB.small,fun i hi=>?_,fun i hi=>?_,fun k hk=>absurd hk (by simp)⟩
 ·have hb:=(hB.one i hi).bounds
  have hcl:=List.count_le_length (a:=(i:Int)+1) (l:=K)
  have hci:=hc i hi
  refine(hB.one i hi).turn (c:=eX B K i) rfl rfl rfl ?_ fun k _ ht=>⟨aS1 hB ht,rfl⟩
  by_cases e:(K.count ((i:Int)+1))=0
  ·left; rw[fO,e]; simp
  ·right
   have hm:((i:Int)+1)∈K:=List.count_pos_iff.1 (by omega)
   rcases hK _ hm with h | ⟨_,_,h⟩
   ·omega
   ·rw[show ((i:Int)+1-1).toNat=i by omega] at h
    rw[fO]
    omega
 ·rw[yY,fO]
  have:=hB.held i hi
  simp at this ⊢
  omega
theorem aC1 {n:Nat}{B:Nat->Blk}{K:List Int}(hB:Right n B)(hK:∀ x∈K,x=0\/There n B x)(hc:∀ i,i<n->(B i).refs+(K.length:Int)<=1000000):Grow n B (eX B K) K:=by
 refine⟨qH hB hK hc,⟨fun k hk h0=>?_⟩,fun k _=>oN n B K k⟩
 have:=(hB.one k hk).bounds
 exact⟨by rw[fO]; omega,rfl,rfl,rfl⟩
theorem wU {n:Nat}{B:Nat->Blk}{T:List Int}(hB:Right n B)(hT:dY n B T)(hb:∀ x∈T,x=0\/(1<=x/\x<=n)):fE n B T:=by
 refine⟨hB.small,hB.one,fun i hi=>?_,hb⟩
 have:=hT i hi
 unfold outs at this
 omega
theorem bS8 {n:Nat}{C D:Nat->Blk}{T:List Int}(hF:iQ n C D T):∀ k,k<n->(D k).refs<=(C k).refs-(T.count ((k:Int)+1):Int):=fun k hk=>by
 have h1:=hF.out k hk
 have h2:among n D ((k:Int)+1)<=among n C ((k:Int)+1):=by
  unfold among
  refine sumTo_le fun i hi=>?_
  rcases hF.same i hi with e | ⟨_,_,_,e,_⟩
  ·rw[e]; simp[Blk.zero]
  ·rw[e]; exact Nat.le_refl _
 omega
theorem qW (p:Addr)(g n:Nat)(B:Nat->Blk)(ma:Option Addr)(mn mc:Nat)(K:List Int)(la:Option Addr)(ln lc:Nat)(T:List Int)(w:World)(h:dF w p g n B)
 (hM:aI (fun b=>b≠g) .i64 w ma mn K) (hL:aI (fun b=>b≠g) .i64 w la ln T) (hln:ln<=1000) (hmn:mn<=1000) (hB:Right n B) (hK:∀ x∈K,x=0\/There n B x) (hc:∀ i,i<n->(B i).refs+(K.length:Int)<=1000000)
 (hT:∀ k,k<n->(T.count ((k:Int)+1):Int)<=outs n B k+(K.count ((k:Int)+1):Int)) (hTb:∀ x∈T,x=0\/(1<=x/\x<=n)):
 Calls Tryz.prog 95 #[.pointer (some p),.slice ma mn mc,.slice la ln lc] w fun e w'=>e=.returned (.tuple #[])/\Out g w w'/\∃ D,dF w' p g n D/\Right n D/\iQ n (eX B K) D T:=by
 have hRT:fE n (eX B K) T:=wU (qH hB hK hc) (fun k hk=>by rw[oN]; exact hT k hk) hTb
 have hn:=hB.small
 have hKl:=hid hM.1
 have hbd:Hid (∀ i,i<n->0<=(B i).refs/\(B i).refs+(K.length:Int)<=1000000):=hid fun i hi=>⟨(hB.one i hi).bounds.1,hc i hi⟩
 replace hRT:=hid hRT
 replace hM:=hid hM
 replace hL:=hid hL
 replace h:=hid h
 replace hK:=hid hK
 clear hB hc hT hTb
 go_enter Tryz.func95,Tryz.ntmps95
 go_wp2_with fail
 go_loopw [10] (fun v wr=>∃ j:Nat,j<=mn/\v=.int .i64 j/\Kept g w wr/\dF wr p g n (eX B (K.take j))) (fun v _=>mn-(Go.RowKit.intOf v).toNat)
 case atStart=>exact⟨0,Nat.zero_le _,rfl,Kept.refl _ _,by rw[List.take_zero,xN]; exact h.out⟩
 case round=>
  obtain⟨j,hjn,rfl,hkp,hP⟩:=hrel
  by_cases hlt:j<mn
  ·obtain⟨kb,ko,rfl,hkb,hgk,hcc⟩:=hM.out.2.2 (by omega)
   have hck:wr.cell? ⟨kb,ko+j,none⟩=some (.int .i64 (K.getD j 0)):=(hkp.cell (p:=⟨kb,ko+j,none⟩) hgk).trans (hcc j hlt)
   have hjl:j<K.length:=by rw[hKl.out]; exact hlt
   have hmem:K.getD j 0∈K:=hM.out.getD hlt
   have htk:=fI hjl
   replace htk:=hid htk
   replace hmem:=hid hmem
   clear hcc
   generalize K.getD j 0=x at *
   by_cases hx0:x=0
   ·have hx0':(x == 0)=true:=by simp[hx0]
    have hP':Hid (dF wr p g n (eX B (K.take (j+1)))):=hid (by rw[htk.out,hx0,bG7]; exact hP)
    clear hP
    go_wp2_with fail
    go_roundw
    case rel=>exact⟨j+1,by omega,by go_num,hkp,hP'.out⟩
    case measure=>simp[Go.RowKit.intOf]; omega
   ·have hx0':(x == 0)=false:=by simp[hx0]
    have hth:=(hK.out x hmem.out).resolve_left hx0
    obtain⟨m,rfl⟩:∃ m:Nat,x=(m:Int)+1:=⟨(x-1).toNat,by have:=hth.1; omega⟩
    have hm:m<n:=by have:=hth.2.1; omega
    have hb1:=hbd.out m hm
    have hb2:0<=(eX B (K.take j) m).refs/\(eX B (K.take j) m).refs+1<=1000000:=by
     have:=List.count_le_length (a:=(m:Int)+1) (l:=K.take j)
     rw[List.length_take] at this
     rw[fO]
     omega
    have s2:=hP.cell
    obtain⟨ka,kn,kc,ba,bn,bc,hb⟩:=hP.own.cell hm
    have c0:=hb.c0
    have f0:=hP.own.free (m*4) (by omega)
    have J:Hid (∀ w', w'=wr.setCell ⟨g,m*4,none⟩ (.int .i64 ((eX B (K.take j) m).refs+1))->∃ j':Nat,j'<=mn/\Value.int .i64 ((j:Int)+1)=.int .i64 j'/\Kept g w w'/\dF w' p g n (eX B (K.take j'))):=hid (by
     intro w' hw
     subst hw
     have kk:Kept g wr (wr.setCell ⟨g,m*4,none⟩ (.int .i64 ((eX B (K.take j) m).refs+1))):=Kept.setCell (g:=g) (Kept.refl _ _) (p:=⟨g,m*4,none⟩) rfl _
     refine⟨j+1,by omega,by go_num,hkp.trans kk,?_⟩
     rw[htk.out,bP8]
     exact hP.kept kk (hP.own.refs hm _ (by omega)))
    clear hb hP hth hb1
    generalize (eX B (K.take j) m).refs=r at *
    go_wp2_with fail
    refine(yS p g n n m _ hn s2 hm).mono ?_
    rintro e w1 ⟨rfl,rfl⟩
    go_wp2_with fail
    go_roundw
    case rel=>exact J.out _ rfl
    case measure=>simp[Go.RowKit.intOf]; omega
  ·obtain rfl:j=mn:=by omega
   have e2:K.take j=K:=List.take_of_length_le (by rw[hKl.out]; exact Nat.le_refl _)
   rw[e2] at hP
   have hL':=hL.out.kept (fun b h=>h) hkp
   replace hP:=hid hP
   replace hL':=hid hL'
   clear e2
   go_wp2_with fail
   refine(aM5 p g n (eX B K) la ln lc T wr hP.out hL'.out hln hRT.out).mono ?_
   rintro e w4 ⟨rfl,hk4,C,h4,hR4,hF4⟩
   replace h4:=hid h4
   replace hR4:=hid hR4
   replace hF4:=hid hF4
   replace hk4:=hid ((Out.of_kept (g:=g) hkp).trans hk4)
   go_wp2_with fail
   go_end0
   exact⟨rfl,hk4.out,C,h4.out,hR4.out,hF4.out⟩
theorem bI {w w':World}{base:Nat}{e:TypeId}{size:Nat}{v:Value}{n:Nat}{xs:List Value}(h:w.ownsRow base e size v n xs)(b:Below w.heap.size w w'):w'.ownsRow base e size v n xs:=(Only.of_below (M:=fun _=>False) b).row h (fun _ _ m=>m)
theorem wQ (Q:Nat->Prop)(fa:Option Addr)(fn fc:Nat)(l:List Ent)(w:World)(hfn:fn<=1000)(hE:dS Q w fa fn l):
 Calls Tryz.prog 112 #[.slice fa fn fc] w fun e w'=>Below w.heap.size w w'/\e=.returned (.slice (some ⟨w.heap.size,0,none⟩) fn fn)/\w'.ownsRow w.heap.size 3 1 (.slice (some ⟨w.heap.size,0,none⟩) fn fn) fn ((aS l).map (Value.int .i64)):=by
 obtain⟨i0,hi,hz0,hz1,hz2⟩:=info_parts Tryz.infoInt
 have hl:=hid hE.1
 replace hE:=hid hE
 go_enter Tryz.func112,Tryz.ntmps112
 go_wp2_with (at_make; refine wpList_make_full _ rfl (.tmp 7) (.tmp 7) 36 rfl w.heap.size 3 i0 (.int .i64 0) 1 Tryz.underlying36 hi hz0 hz1 .i64 .i64 fn fn fn rfl rfl rfl rfl (by rw[hz2]; omega) (by unfold maxLen; omega) (by simp) ?_; intro w2 hown hgr; have hb2:Below w.heap.size w w2:=(Below.refl _ _).grown hgr (by simp) (by simp))
 rw[xQ] at hown
 go_loopw [11] (fun v wr=>∃ i:Nat,i<=fn/\v=.int .i64 i/\Row wr w.heap.size w.heap.size fn (fun k=>if k<i then (l.getD k Ent.zero).root else 0)/\Below w.heap.size w wr) (fun v _=>fn-(Go.RowKit.intOf v).toNat)
 case atStart=>exact⟨0,Nat.zero_le _,rfl,Row.congr (f:=fun _=>0) hown (fun k _=>by simp),hb2⟩
 case round=>
  clear hown hgr hb2
  obtain⟨i,hin,rfl,hrow,hbel⟩:=hrel
  by_cases hlt:i<fn
  ·have hE':=hE.out.below hbel
   obtain⟨eb,off,rfl⟩:∃ b off,fa=some ⟨b,off,none⟩:=by
    obtain⟨b,off,e,_⟩:=hE'.2.2 (by omega)
    exact⟨b,off,e⟩
   have hA:=hE'.ent hlt
   have c0:=hA.c0
   have c1:=hA.c1
   have c2:=hA.c2
   clear hA hE'
   generalize hx:l.getD i Ent.zero=x at *
   replace hx:=hid hx
   have r0:=hrow.cell hlt
   have r1:=hrow.frozen i
   have hlt1:=hrow.lt.2
   have b1:=aA (wr.setCell ⟨w.heap.size,i,none⟩ (.int .i64 x.root)) (.cells #[.string x.name,.int .i64 x.root,.int .i64 x.size] 106)
   have hrow2:Hid (Row _ w.heap.size w.heap.size fn _):=hid (bI (hrow.set i x.root) b1)
   have hbel2:=hid (Below.tr (hbel.trans ((Kept.setCell (g:=w.heap.size) (Kept.refl _ wr) (p:=⟨w.heap.size,i,none⟩) rfl (.int .i64 x.root)).below (Nat.le_refl _))) b1)
   clear hrow b1
   go_wp2_with fail
   clear c0 c1 c2 r0 r1
   go_roundw
   case rel=>
    refine⟨i+1,by omega,by go_num,hrow2.out.congr (fun k hk=>?_),hbel2.out⟩
    by_cases e:k=i
    ·subst e
     show (if k=k then x.root else _)=if k<k+1 then (l.getD k Ent.zero).root else 0
     rw[if_pos rfl,if_pos (by omega),hx.out]
    ·by_cases e2:k<i
     ·simp[e,e2,show k<i+1 by omega]
     ·simp[e,e2,show ¬k<i+1 by omega]
   case measure=>simp[Go.RowKit.intOf]; omega
  ·obtain rfl:i=fn:=by omega
   have hfin:wr.ownsRow w.heap.size 3 1 (.slice (some ⟨w.heap.size,0,none⟩) i i) i ((aS l).map (Value.int .i64)):=by
    have e:(aS l).map (Value.int .i64)=(List.range i).map fun k=>Value.int .i64 (if k<i then (l.getD k Ent.zero).root else 0):=by
     apply List.ext_getElem
     ·simp[aS,hl.out]
     ·intro k h1 h2
      have hk:k<l.length:=by simpa [aS] using h1
      have hki:k<i:=by rw[<-hl.out]; exact hk
      simp[aS,List.getD,hk,hki]
    rw[e]
    exact hrow
   replace hfin:=hid hfin
   clear hrow
   go_wp2_with fail
   go_ret
   exact⟨hbel,rfl,hfin.out⟩
theorem bN1 {l:List Ent}(h:∀ x∈l,x.ok):∀ r∈aS l,(Lit.int .i64 r).wf=true:=fun r hr=>by
 obtain⟨f,hf,rfl⟩:=bV.1 hr
 exact WalkArith.wf_i64 (h f hf).2.1
theorem aT6 {l:List bQ}{j:Nat}{x:bQ}(hx:l[j]? =some x):dQ (l.take (j+1))=dQ (l.take j)++aS x.files:=by
 rw[eF hx,iJ]
 simp[dQ]
def cE4 (base:Nat)(e:Ending)(w:World)(R:List Int):Prop:=∃ a c,e=.returned (.slice a R.length c)/\w.ownsRow base 3 1 (.slice a R.length c) R.length (R.map (Value.int .i64))/\∀ r∈R,(Lit.int .i64 r).wf=true
theorem wP (Q:Nat->Prop)(v:cB)(x:aK)(w:World)(hX:dN Q w v x)(h6:x.files.length<=6)(h3:x.snaps.length<=3)(hs6:∀ s∈x.snaps,s.files.length<=6):
 Calls Tryz.prog 84 #[v.val] w fun e w'=>cE4 w.heap.size e w' (aG x)/\Below w.heap.size w w':=by
 obtain⟨i0,hi,hz0,hz1,hz2⟩:=info_parts Tryz.infoInt
 obtain⟨vn,fa,fn,fc,sa,sn,sc⟩:=v
 obtain⟨hnm,hsm,hFi,hSn,hcap⟩:=hX
 simp only at hnm hFi hSn
 subst hnm
 unfold cB.val
 simp only
 have b0:=aA w (.cells #[.string x.name,.slice fa fn fc,.slice sa sn sc] 84)
 have k1:aC _ w.heap.size #[.string x.name,.slice fa fn fc,.slice sa sn sc] 84:=aB w _ _
 have hfl:=hid hFi.1
 have hsl:=hid hSn.1
 have hwf:=hid (bN1 hFi.2.1)
 replace hFi:=hid (hFi.below b0)
 replace hSn:=hid (hSn.below b0)
 replace k1:=hid k1
 have hfn:fn<=6:=by rw[<-hFi.out.1]; exact h6
 have hsn:sn<=3:=by rw[<-hSn.out.1]; exact h3
 replace hs6:=hid hs6
 clear hcap h6 h3
 go_enter Tryz.func84,Tryz.ntmps84
 go_wp2_with fail
 generalize w.alloc (.cells #[.string x.name,.slice fa fn fc,.slice sa sn sc] 84)=w0 at *
 refine(wQ Q fa fn fc x.files w0 (by omega) hFi.out).mono ?_
 rintro e w1 ⟨b1,rfl,ho⟩
 have x2:=(b1.cell (p:=⟨w.heap.size,2,none⟩) k1.out.lt).trans (k1.out.cell 2)
 simp at x2
 replace ho:=hid ho
 clear hFi
 go_wp2_with fail
 clear x2
 go_loopw [3,12] (fun u v wr=>∃ (j k:Nat) (xs:List Int),j<=sn/\v=.int .i64 j/\Below w0.heap.size w0 wr/\k<=fn+j*6/\xs=aS x.files++dQ (x.snaps.take j)/\xs.length=k/\(∃ a c,u=.slice a k c)/\wr.ownsRow w0.heap.size 3 1 u k (xs.map (Value.int .i64))/\∀ r∈xs,(Lit.int .i64 r).wf=true) (fun _ v _=>sn-(Go.RowKit.intOf v).toNat)
 case atStart=>exact⟨0,fn,aS x.files,Nat.zero_le _,rfl,b1,by omega,by simp[dQ],by simp[aS,hfl.out],⟨_,_,rfl⟩,ho.out,hwf.out⟩
 case round=>
  clear ho b1
  obtain⟨j,k,xs,hj,rfl,hb,hk,hxs,hxl,⟨ua,uc,rfl⟩,hown,hw⟩:=hrel
  replace hxs:=hid hxs
  replace hxl:=hid hxl
  replace hw:=hid hw
  by_cases hlt:j<sn
  ·have hjl:j<x.snaps.length:=by rw[hsl.out]; exact hlt
   have hE':=hSn.out.below hb
   obtain⟨eb,off,rfl⟩:∃ b off,sa=some ⟨b,off,none⟩:=by
    obtain⟨b,off,e,_⟩:=hE'.2 (by omega)
    exact⟨b,off,e⟩
   have hx:x.snaps[j]? =some (x.snaps.getD j bQ.zero):=by rw[List.getElem?_eq_getElem hjl]; simp[List.getD,hjl]
   obtain⟨ga,gn,gc,hA⟩:=hE'.snap hlt
   have c0:=hA.c0
   have c1:=hA.c1
   have hGf:=hA.files
   have hg6:gn<=6:=by rw[<-hGf.1]; exact hs6.out _ (List.mem_of_getElem? hx)
   have hgw:=hid (bN1 hGf.2.1)
   have hgl:=hid hGf.1
   replace hx:=hid hx
   clear hA hE' hjl
   generalize x.snaps.getD j bQ.zero=y at *
   replace hown:=hid hown
   replace hGf:=hid hGf
   go_wp2_with fail
   have ba:=aA wr (.cells #[.string y.name,.slice ga gn gc] 113)
   clear c0 c1
   replace hGf:=hGf.out.below ba
   replace hown:=bI hown.out ba
   replace hb:=Below.tr hb ba
   clear ba
   generalize wr.alloc (.cells #[.string y.name,.slice ga gn gc] 113)=w5 at *
   refine(wQ Q ga gn gc y.files w5 (by omega) hGf).mono ?_
   rintro e w6 ⟨b6,rfl,ho6⟩
   have hown6:=hid (bI hown b6)
   have hsrc:Hid (∀ j u,((aS y.files).map (Value.int .i64))[j]? =some u->w6.cell? ((⟨w5.heap.size,0,none⟩:Addr).add j)=some u):=hid (ho6.cells rfl)
   have hb6:Hid (w0.heap.size<=w6.heap.size):=hid (Nat.le_trans hb.size b6.size)
   replace hb:=Below.tr hb b6
   have hnl:Hid (((aS y.files).map (Value.int .i64)).length=gn*1):=hid (by simp[aS,hgl.out])
   clear hown b6 ho6 hGf
   go_wp2_with (at_builtin; refine wpList_append_own _ rfl _ _ 36 rfl w0.heap.size 3 i0 (.int .i64 0) 1 8 Tryz.underlying36 hi hz0 hz1 hz2 rfl (by decide) _ _ _ rfl hown6.out ⟨w5.heap.size,0,none⟩ gn gn ((aS y.files).map (Value.int .i64)) rfl hnl.out hsrc.out (by intro u hu; simp at hu; obtain⟨_,_,rfl⟩:=hu; rfl) (by unfold maxLen; omega) (by omega) hb6.out ?_)
   intro v' w7 hown7 hgrow hnil
   have b7:Below w0.heap.size w0 w7:=hb.grown hgrow hb6.out (fun i hi=>(hown6.out.lt i hi).1)
   rw[<-List.map_append] at hown7
   obtain⟨a', c', rfl⟩:∃ a' c', v'=.slice a' (k+gn) c':=by
    rcases hown7.2 with⟨hv,h0⟩ | ⟨g,cap,cur,hv,_⟩
    ·exact⟨none,0,by rw[hv,h0]⟩
    ·exact⟨_,_,hv⟩
   have hw7:∀ r∈xs++aS y.files,(Lit.int .i64 r).wf=true:=fun r hr=>by
    rcases List.mem_append.1 hr with h | h
    ·exact hw.out r h
    ·exact hgw.out r h
   have hl7:(xs++aS y.files).length=k+gn:=by rw[List.length_append,hxl.out]; simp[aS,hgl.out]
   have hx7:xs++aS y.files=aS x.files++dQ (x.snaps.take (j+1)):=by rw[hxs.out,aT6 hx.out,List.append_assoc]
   replace hown7:=hid hown7
   replace hw7:=hid hw7
   replace hl7:=hid hl7
   replace hx7:=hid hx7
   clear hown6 hgrow hnil hsrc hnl hb
   go_wp2_with fail
   go_roundw
   case rel=>exact⟨j+1,k+gn,xs++aS y.files,by omega,by go_num,b7,by omega,hx7.out,hl7.out,⟨_,_,rfl⟩,hown7.out,hw7.out⟩
   case measure=>simp[Go.RowKit.intOf]; omega
  ·obtain rfl:j=sn:=by omega
   have e1:x.snaps.take j=x.snaps:=List.take_of_length_le (by rw[hsl.out]; exact Nat.le_refl _)
   have hxs':Hid (xs=aG x):=hid (by rw[hxs.out,e1]; rfl)
   have J:Hid (cE4 w.heap.size (.returned (.slice ua k uc)) wr (aG x)):=hid (by
    rw[<-hxs'.out]
    exact⟨ua,uc,by rw[hxl.out],by rw[hxl.out]; exact dD b0.size hown,hw.out⟩)
   clear hown
   go_wp2_with fail
   go_ret
   exact⟨J.out,Below.tr b0 hb⟩
theorem zZ:∀ l:List bQ,(∀ s∈l,s.files.length<=6)->(dQ l).length<=l.length*6
 | [],_=>by simp[dQ]
 | s::l,hl=>by
   have e:dQ (s::l)=aS s.files++dQ l:=rfl
   rw[e,List.length_append,List.length_cons]
   have h3:=hl s (by simp)
   have h4:=zZ l (fun t ht=>hl t (by simp[ht]))
   have h5:(aS s.files).length=s.files.length:=by simp[aS]
   omega
theorem wL {x:aK}(h:Shape x):(aG x).length<=24:=by
 unfold aG
 rw[List.length_append]
 have h1:(aS x.files).length<=6:=by unfold aS; rw[List.length_map]; exact h.few
 have h6:=zZ x.snaps (fun s hs=>(h.filesS s hs).1)
 have:=h.fewS
 omega
theorem bF1 {n:Nat}{B:Nat->Blk}{key:Int}{x:aK}(h:bD n B key x):(aG x).length<=24:=wL h.shape
theorem jY {R:List Int}{j:Nat}{r:Int}(hr:R[j]? =some r)(k:Int):(R.take (j+1)).count k=(R.take j).count k+if r=k then 1 else 0:=by
 rw[eF hr,List.count_append]
 by_cases e:r=k
 ·subst e; simp
 ·rw[List.count_cons_of_ne e]; simp[e]
theorem aG8 (R:List Int)(j:Nat)(k:Int):(R.take j).count k<=R.count k:=(List.take_sublist j R).count_le k
theorem bR9 (Q:Nat->Prop)(a:Option Addr)(n c:Nat)(B:Nat->Blk)(key:Int)(v:cB)(x:aK)(w:World)(h:aO w a n B)(hX:dN Q w v x)(hok:bD n B key x):
 Calls Tryz.prog 116 #[.agg #[.slice a n c],v.val] w fun e w'=>(vV e (dY n B (aG x))/\(e=.returned (.int .i64 0)\/e=.returned (.int .i64 7)))/\Below w.heap.size w w':=by
 have hbd:=hid hok.rootBd
 have hR:=hid hok.right
 have hn:=hok.right.small
 have h24:=bF1 hok
 have hc6:=hid (show x.files.length<=6/\x.snaps.length<=3/\∀ s∈x.snaps,s.files.length<=6 from⟨hok.files.few,hok.fewS,fun s hs=>(hok.filesS s hs).few⟩)
 clear hok
 obtain⟨vn,fa,fn,fc,sa,sn,sc⟩:=v
 have hnm:=hX.name
 simp only at hnm
 subst hnm
 unfold cB.val
 simp only
 have b0:=aW w (.cells #[.slice a n c] 24) (.cells #[.string x.name,.slice fa fn fc,.slice sa sn sc] 84)
 have k0:aC _ w.heap.size #[.slice a n c] 24:=(aB w _ _).below (aA _ (.cells #[.string x.name,.slice fa fn fc,.slice sa sn sc] 84))
 have k1:=aF w (.cells #[.slice a n c] 24) #[.string x.name,.slice fa fn fc,.slice sa sn sc] 84
 replace h:=hid (h.below b0)
 replace hX:=hid (hX.below b0)
 replace k0:=hid k0
 replace k1:=hid k1
 go_enter Tryz.func116,Tryz.ntmps116
 go_wp2_with fail
 generalize (w.alloc (.cells #[.slice a n c] 24)).alloc (.cells #[.string x.name,.slice fa fn fc,.slice sa sn sc] 84)=w0 at *
 have s0:=k0.out.cell 0
 simp at s0
 refine(xG ⟨w.heap.size,0,none⟩ a n c B w0 ⟨k0.out.lt,s0,h.out⟩).mono ?_
 rintro e w1 ⟨b1,⟨e', rfl,he,hno⟩ | ⟨_,g,rfl,hrow⟩⟩
 ·exact absurd hR.out hno
 have x0:=(b1.cell (p:=⟨w.heap.size+1,0,none⟩) k1.out.lt).trans (k1.out.cell 0)
 have x1:=(b1.cell (p:=⟨w.heap.size+1,1,none⟩) k1.out.lt).trans (k1.out.cell 1)
 have x2:=(b1.cell (p:=⟨w.heap.size+1,2,none⟩) k1.out.lt).trans (k1.out.cell 2)
 simp at x0 x1 x2
 have hglt:=hrow.lt
 replace hrow:=hid hrow
 clear s0
 go_wp2_with fail
 refine(wP Q ⟨x.name,fa,fn,fc,sa,sn,sc⟩ x w1 (hX.out.below b1) hc6.out.1 hc6.out.2.1 hc6.out.2.2).mono ?_
 rintro e w2 ⟨⟨ra,rc,rfl,hro,hrw⟩,b2⟩
 obtain⟨ra', rc', hv,hrc,hN⟩:=fM hrw hro
 simp only[Value.slice.injEq,true_and] at hv
 obtain⟨rfl,rfl⟩:=hv
 have hrow2:Row w2 w0.heap.size g n (outs n B):=bI hrow.out b2
 replace hrow2:=hid hrow2
 replace hN:=hid hN
 have hb2:=hid (Below.tr b1 b2)
 clear hrow hro b1 b2 x0 x1 x2 hrw hX h k0 k1
 obtain⟨rn,hrn⟩:∃ rn,rn=(aG x).length:=⟨_,rfl⟩
 rw[<-hrn] at hN h24
 simp only[<-hrn]
 have hrn':=hid hrn.symm
 clear hrn
 generalize hRR:aG x=R at *
 go_wp2_with fail
 go_loopw [19] (fun v wr=>∃ j:Nat,j<=rn/\v=.int .i64 j/\Kept g w2 wr/\Row wr w0.heap.size g n (fun k=>outs n B k-((R.take j).count ((k:Int)+1):Int))/\∀ k,k<n->((R.take j).count ((k:Int)+1):Int)<=outs n B k) (fun v _=>rn-(Go.RowKit.intOf v).toNat)
 case atStart=>exact⟨0,Nat.zero_le _,rfl,Kept.refl _ _,hrow2.out.congr (fun k _=>by simp),fun k hk=>by simp; have:=hR.out.held k hk; simp at this; unfold outs; omega⟩
 case round=>
  clear hrow2
  obtain⟨j,hj,rfl,hkp,hrow,hle⟩:=hrel
  replace hle:=hid hle
  by_cases hlt:j<rn
  ·have hjl:j<R.length:=by rw[hrn'.out]; exact hlt
   obtain⟨kb,ko,rfl,hkb,hgk,hcc⟩:=hN.out.2.2 (by omega)
   have hck:wr.cell? ⟨kb,ko+j,none⟩=some (.int .i64 (R.getD j 0)):=(hkp.cell (p:=⟨kb,ko+j,none⟩) (by simp; omega)).trans (hcc j hlt)
   have hx:R[j]? =some (R.getD j 0):=by rw[List.getElem?_eq_getElem hjl]; simp[List.getD,hjl]
   have hmem:=hbd.out _ (List.mem_of_getElem? hx)
   replace hx:=hid hx
   clear hcc hjl
   generalize R.getD j 0=r at *
   by_cases h0:r=0
   ·subst h0
    have hrow':Hid (Row wr w0.heap.size g n (fun k=>outs n B k-((R.take (j+1)).count ((k:Int)+1):Int))):=hid (hrow.congr (fun k hk=>by rw[jY hx.out,if_neg (by omega)]; simp))
    have hle':Hid (∀ k,k<n->((R.take (j+1)).count ((k:Int)+1):Int)<=outs n B k):=hid (fun k hk=>by have:=hle.out k hk; rw[jY hx.out,if_neg (by omega)]; simpa using this)
    clear hrow
    go_wp2_with fail
    go_roundw
    case rel=>exact⟨j+1,by omega,by go_num,hkp,hrow'.out,hle'.out⟩
    case measure=>simp[Go.RowKit.intOf]; omega
   ·obtain⟨m,rfl⟩:∃ m:Nat,r=(m:Int)+1:=⟨(r-1).toNat,by omega⟩
    have hmn:m<n:=by omega
    have hr1:¬((m:Int)+1<1):=by omega
    have hr2:¬((n:Int)<(m:Int)+1):=by omega
    have r0:=hrow.cell hmn
    have r1:=hrow.frozen m
    have hle0:=hle.out m hmn
    have hbb:=(hR.out.one m hmn).bounds
    have hob:outs n B m<=1000000:=by unfold outs; omega
    have hrow':Hid (Row (wr.setCell ⟨g,m,none⟩ (.int .i64 (outs n B m-((R.take j).count ((m:Int)+1):Int)-1))) w0.heap.size g n (fun k=>outs n B k-((R.take (j+1)).count ((k:Int)+1):Int))):=hid ((hrow.set m _).congr (fun k hk=>by
     rw[jY hx.out]
     by_cases e:k=m
     ·subst e; simp; omega
     ·rw[if_neg e,if_neg (by omega)]; simp))
    have hkp':Hid (Kept g w2 (wr.setCell ⟨g,m,none⟩ (.int .i64 (outs n B m-((R.take j).count ((m:Int)+1):Int)-1)))):=hid (hkp.trans (Kept.setCell (g:=g) (Kept.refl _ _) (p:=⟨g,m,none⟩) rfl _))
    have hcn:Hid (((R.take (j+1)).count ((m:Int)+1):Int)=((R.take j).count ((m:Int)+1):Int)+1):=hid (by rw[jY hx.out,if_pos rfl]; simp)
    have hcq:Hid (∀ k:Nat,k≠m->(R.take (j+1)).count ((k:Int)+1)=(R.take j).count ((k:Int)+1)):=hid (fun k hk=>by rw[jY hx.out,if_neg (by omega)]; rfl)
    clear hrow hbb
    generalize hd:outs n B m-((R.take j).count ((m:Int)+1):Int)=d at *
    replace hd:=hid hd
    have hd0:(0:Int)<=d:=by rw[<-hd.out]; omega
    have hd1:d<=1000000:=by rw[<-hd.out]; omega
    by_cases hneg:d-1<0
    ·have hneg':decide (d-1<0)=true:=by simp[hneg]
     go_wp2_with fail
     go_ret
     refine⟨⟨aU 7 (by omega) (fun f=>?_),.inr rfl⟩,Below.tr b0 (hb2.out.trans (hkp'.out.below (by omega)))⟩
     have h1:=f m hmn
     have h2:=aG8 R (j+1) ((m:Int)+1)
     have h3:=hcn.out
     have h4:=hd.out
     omega
    ·have hneg':decide (d-1<0)=false:=by simp[hneg]
     have hle':Hid (∀ k,k<n->((R.take (j+1)).count ((k:Int)+1):Int)<=outs n B k):=hid (fun k hk=>by
      by_cases e:k=m
      ·subst e; have h3:=hcn.out; have h4:=hd.out; omega
      ·rw[hcq.out k e]; exact hle.out k hk)
     go_wp2_with fail
     go_roundw
     case rel=>exact⟨j+1,by omega,by go_num,hkp'.out,hrow'.out,hle'.out⟩
     case measure=>simp[Go.RowKit.intOf]; omega
  ·obtain rfl:j=rn:=by omega
   have e1:R.take j=R:=List.take_of_length_le (by rw[hrn'.out]; exact Nat.le_refl _)
   have hfin:Hid (dY n B R):=hid (fun k hk=>by have:=hle.out k hk; rwa [e1] at this)
   clear hrow e1
   go_wp2_with fail
   go_ret
   exact⟨⟨iB (hRR▸hfin.out),.inl rfl⟩,Below.tr b0 (hb2.out.trans (hkp.below (by omega)))⟩
theorem cA8 (Q:Nat->Prop)(a:Option Addr)(n c:Nat)(B:Nat->Blk)(key:Int)(v:cB)(x:aK)(w:World)(h:aO w a n B)(hX:dN Q w v x)(hok:bD n B key x):
 Calls Tryz.prog 116 #[.agg #[.slice a n c],v.val] w fun e w'=>vV e (dY n B (aG x))/\Below w.heap.size w w':=
 (bR9 Q a n c B key v x w h hX hok).mono (fun _ _ h=>⟨h.1.1,h.2⟩)
theorem nD (Q:Nat->Prop)(a:Option Addr)(n c:Nat)(B:Nat->Blk)(key:Int)(v:cB)(x:aK)(w:World)(h:aO w a n B)(hX:dN Q w v x):
 Calls Tryz.prog 94 #[.agg #[.slice a n c],.int .i64 key,v.val] w fun e w'=>vV e (bD n B key x/\dY n B (aG x))/\Below w.heap.size w w':=by
 obtain⟨vn,fa,fn,fc,sa,sn,sc⟩:=v
 have hnm:=hX.name
 simp only at hnm
 subst hnm
 unfold cB.val
 simp only
 have b0:=aW w (.cells #[.slice a n c] 24) (.cells #[.string x.name,.slice fa fn fc,.slice sa sn sc] 84)
 have k0:aC _ w.heap.size #[.slice a n c] 24:=(aB w _ _).below (aA _ (.cells #[.string x.name,.slice fa fn fc,.slice sa sn sc] 84))
 have k1:=aF w (.cells #[.slice a n c] 24) #[.string x.name,.slice fa fn fc,.slice sa sn sc] 84
 replace h:=hid (h.below b0)
 replace hX:=hid (hX.below b0)
 replace k0:=hid k0
 replace k1:=hid k1
 go_enter Tryz.func94,Tryz.ntmps94
 go_wp2_with fail
 generalize (w.alloc (.cells #[.slice a n c] 24)).alloc (.cells #[.string x.name,.slice fa fn fc,.slice sa sn sc] 84)=w0 at *
 refine(nN Q a n c B key ⟨x.name,fa,fn,fc,sa,sn,sc⟩ x w0 h.out hX.out).mono ?_
 rintro e w1 ⟨⟨e', rfl,he⟩,b1⟩
 replace he:=hid he
 have s0:=(b1.cell (p:=⟨w.heap.size,0,none⟩) k0.out.lt).trans (k0.out.cell 0)
 have x0:=(b1.cell (p:=⟨w.heap.size+1,0,none⟩) k1.out.lt).trans (k1.out.cell 0)
 have x1:=(b1.cell (p:=⟨w.heap.size+1,1,none⟩) k1.out.lt).trans (k1.out.cell 1)
 have x2:=(b1.cell (p:=⟨w.heap.size+1,2,none⟩) k1.out.lt).trans (k1.out.cell 2)
 simp at s0 x0 x1 x2
 by_cases h0:e'=0
 ·have h0':(e' == 0)=true:=by simp[h0]
  have hok:=hid (he.out.1 h0)
  go_wp2_with fail
  refine(cA8 Q a n c B key ⟨x.name,fa,fn,fc,sa,sn,sc⟩ x w1 (h.out.below b1) (hX.out.below b1) hok.out).mono ?_
  rintro e w2 ⟨⟨e2,rfl,he2⟩,b2⟩
  replace he2:=hid he2
  replace b1:=Below.tr (Below.tr b0 b1) b2
  clear s0 x0 x1 x2 b2
  go_wp2_with fail
  go_ret
  exact⟨⟨e2,rfl,fun f=>⟨hok.out,he2.out.1 f⟩,fun f=>he2.out.2 f.2⟩,b1⟩
 ·have h0':(e' == 0)=false:=by simp[h0]
  go_wp2_with fail
  go_ret
  exact⟨aU e' h0 (fun f=>h0 (he.out.2 f.1)),Below.tr b0 b1⟩
def aK.zero:aK:=⟨ByteArray.empty,[],[]⟩
instance : Inhabited aK:=⟨aK.zero⟩
def aK.nm (x:aK):List UInt8:=x.name.data.toList
structure aH6 (Q:Nat->Prop)(w:World)(b off:Nat)(x:aK)(v:cB):Prop where
 c0:w.cell? ⟨b,off,none⟩=some (.string v.name)
 c1:w.cell? ⟨b,off+1,none⟩=some (.slice v.fa v.fn v.fc)
 c2:w.cell? ⟨b,off+2,none⟩=some (.slice v.sa v.sn v.sc)
 ok:dN Q w v x
theorem aH6.below {Q:Nat->Prop}{w w':World}{b off:Nat}{x:aK}{v:cB}(h:aH6 Q w b off x v)(hb:Below w.heap.size w w'):aH6 Q w' b off x v:=by
 have hlt:=eZ h.c0
 exact⟨(hb.cell (p:=⟨b,off,none⟩) hlt).trans h.c0,(hb.cell (p:=⟨b,off+1,none⟩) hlt).trans h.c1,(hb.cell (p:=⟨b,off+2,none⟩) hlt).trans h.c2,h.ok.below hb⟩
theorem aH6.weaken {Q R:Nat->Prop}{w:World}{b off:Nat}{x:aK}{v:cB}(h:aH6 Q w b off x v)(hq:∀ b,b<w.heap.size->Q b->R b):aH6 R w b off x v:=⟨h.c0,h.c1,h.c2,h.ok.weaken hq⟩
def fQ (Q:Nat->Prop)(w:World)(a:Option Addr)(n:Nat)(l:List aK):Prop:=
 l.length=n/\(0<n->∃ b off,a=some ⟨b,off,none⟩/\b<w.heap.size/\Q b/\∀ i,i<n->∃ v,aH6 Q w b (off+i*3) (l.getD i aK.zero) v)
theorem sO (Q:Nat->Prop)(w:World)(a:Option Addr):fQ Q w a 0 []:=⟨rfl,fun h=>absurd h (by omega)⟩
theorem fQ.below {Q:Nat->Prop}{w w':World}{a:Option Addr}{n:Nat}{l:List aK}(h:fQ Q w a n l)(hb:Below w.heap.size w w'):fQ Q w' a n l:=by
 refine⟨h.1,fun hn=>?_⟩
 obtain⟨b,off,rfl,hlt,hq,hc⟩:=h.2 hn
 refine⟨b,off,rfl,Nat.lt_of_lt_of_le hlt hb.size,hq,fun i hi=>?_⟩
 obtain⟨v,hs⟩:=hc i hi
 exact⟨v,hs.below hb⟩
theorem fQ.weaken {Q R:Nat->Prop}{w:World}{a:Option Addr}{n:Nat}{l:List aK}(h:fQ Q w a n l)(hq:∀ b,b<w.heap.size->Q b->R b):fQ R w a n l:=by
 refine⟨h.1,fun hn=>?_⟩
 obtain⟨b,off,rfl,hlt,q,hc⟩:=h.2 hn
 refine⟨b,off,rfl,hlt,hq b hlt q,fun i hi=>?_⟩
 obtain⟨v,hs⟩:=hc i hi
 exact⟨v,hs.weaken hq⟩
theorem fQ.set {Q:Nat->Prop}{w:World}{b off n:Nat}{l:List aK}(h:fQ Q w (some ⟨b,off,none⟩) n l){i:Nat}(hi:i<n):∃ v,aH6 Q w b (off+i*3) (l.getD i aK.zero) v:=by
 obtain⟨b', off', e,_,_,hc⟩:=h.2 (by omega)
 simp only[Option.some.injEq,Addr.mk.injEq,and_true] at e
 obtain⟨rfl,rfl⟩:=e
 exact hc i hi
structure aP where
 key:Int
 quota:Int
 sets:List aK
def aP.zero:aP:=⟨0,0,[]⟩
instance : Inhabited aP:=⟨aP.zero⟩
def aP.val (t:aP)(sa:Option Addr)(sn sc:Nat):Value:=.agg #[.int .i64 t.key,.int .i64 t.quota,.slice sa sn sc]
structure sK (Q:Nat->Prop)(w:World)(t:aP)(sa:Option Addr)(sn sc:Nat):Prop where
 sets:fQ Q w sa sn t.sets
 kb:-9223372036854775808<=t.key/\t.key<=9223372036854775807
 qb:-9223372036854775808<=t.quota/\t.quota<=9223372036854775807
 caps:sn<=sc
theorem sK.below {Q:Nat->Prop}{w w':World}{t:aP}{sa:Option Addr}{sn sc:Nat}(h:sK Q w t sa sn sc)(hb:Below w.heap.size w w'):sK Q w' t sa sn sc:=⟨h.sets.below hb,h.kb,h.qb,h.caps⟩
theorem sK.weaken {Q R:Nat->Prop}{w:World}{t:aP}{sa:Option Addr}{sn sc:Nat}(h:sK Q w t sa sn sc)(hq:∀ b,b<w.heap.size->Q b->R b):sK R w t sa sn sc:=⟨h.sets.weaken hq,h.kb,h.qb,h.caps⟩
structure aQ5 (Q:Nat->Prop)(w:World)(b off:Nat)(t:aP)(sa:Option Addr)(sn sc:Nat):Prop where
 c0:w.cell? ⟨b,off,none⟩=some (.int .i64 t.key)
 c1:w.cell? ⟨b,off+1,none⟩=some (.int .i64 t.quota)
 c2:w.cell? ⟨b,off+2,none⟩=some (.slice sa sn sc)
 ok:sK Q w t sa sn sc
theorem aQ5.below {Q:Nat->Prop}{w w':World}{b off:Nat}{t:aP}{sa:Option Addr}{sn sc:Nat}(h:aQ5 Q w b off t sa sn sc)(hb:Below w.heap.size w w'):aQ5 Q w' b off t sa sn sc:=by
 have hlt:=eZ h.c0
 exact⟨(hb.cell (p:=⟨b,off,none⟩) hlt).trans h.c0,(hb.cell (p:=⟨b,off+1,none⟩) hlt).trans h.c1,(hb.cell (p:=⟨b,off+2,none⟩) hlt).trans h.c2,h.ok.below hb⟩
theorem aQ5.weaken {Q R:Nat->Prop}{w:World}{b off:Nat}{t:aP}{sa:Option Addr}{sn sc:Nat}(h:aQ5 Q w b off t sa sn sc)(hq:∀ b,b<w.heap.size->Q b->R b):aQ5 R w b off t sa sn sc:=⟨h.c0,h.c1,h.c2,h.ok.weaken hq⟩
def iA (Q:Nat->Prop)(w:World)(a:Option Addr)(n:Nat)(l:List aP):Prop:=
 l.length=n/\(0<n->∃ b off,a=some ⟨b,off,none⟩/\b<w.heap.size/\Q b/\∀ i,i<n->∃ sa sn sc,aQ5 Q w b (off+i*3) (l.getD i aP.zero) sa sn sc)
theorem bD9 (Q:Nat->Prop)(w:World)(a:Option Addr):iA Q w a 0 []:=⟨rfl,fun h=>absurd h (by omega)⟩
theorem iA.below {Q:Nat->Prop}{w w':World}{a:Option Addr}{n:Nat}{l:List aP}(h:iA Q w a n l)(hb:Below w.heap.size w w'):iA Q w' a n l:=by
 refine⟨h.1,fun hn=>?_⟩
 obtain⟨b,off,rfl,hlt,hq,hc⟩:=h.2 hn
 refine⟨b,off,rfl,Nat.lt_of_lt_of_le hlt hb.size,hq,fun i hi=>?_⟩
 obtain⟨sa,sn,sc,hs⟩:=hc i hi
 exact⟨sa,sn,sc,hs.below hb⟩
theorem iA.weaken {Q R:Nat->Prop}{w:World}{a:Option Addr}{n:Nat}{l:List aP}(h:iA Q w a n l)(hq:∀ b,b<w.heap.size->Q b->R b):iA R w a n l:=by
 refine⟨h.1,fun hn=>?_⟩
 obtain⟨b,off,rfl,hlt,q,hc⟩:=h.2 hn
 refine⟨b,off,rfl,hlt,hq b hlt q,fun i hi=>?_⟩
 obtain⟨sa,sn,sc,hs⟩:=hc i hi
 exact⟨sa,sn,sc,hs.weaken hq⟩
theorem iA.ten {Q:Nat->Prop}{w:World}{b off n:Nat}{l:List aP}(h:iA Q w (some ⟨b,off,none⟩) n l){i:Nat}(hi:i<n):∃ sa sn sc,aQ5 Q w b (off+i*3) (l.getD i aP.zero) sa sn sc:=by
 obtain⟨b', off', e,_,_,hc⟩:=h.2 (by omega)
 simp only[Option.some.injEq,Addr.mk.injEq,and_true] at e
 obtain⟨rfl,rfl⟩:=e
 exact hc i hi
def cK (l:List aK):List Int:=l.flatMap aG
def aL (t:aP):List Int:=cK t.sets
def gT (l:List aP):List Int:=l.flatMap aL
structure lD (n:Nat)(B:Nat->Blk)(t:aP):Prop where
 kb:0<=t.key/\t.key<=1000
 qb:0<=t.quota/\t.quota<=400
 few:t.sets.length<=3
 sets:∀ x∈t.sets,bD n B t.key x
 order:t.sets.Pairwise fun a b=>a.nm<b.nm
def sI (B:Nat->Blk)(R:List Int)(m:Int):Prop:=∃ L:List Int,jE L/\(∀ x,x∈L↔Clo B R x)/\(L.length:Int)=m
def pG (l:List aP):Int:=(l.map (·.quota)).sum
structure aR (n:Nat)(B:Nat->Blk)(l:List aP):Prop where
 right:Right n B
 few:l.length<=3
 tens:∀ t∈l,lD n B t
 room:0<l.length->pG l+90<=n
 uses:∀ t∈l,∃ m,sI B (aL t) m/\m<=t.quota
 apart:l.Pairwise fun t u=>∀ x,Clo B (aL t) x->¬Clo B (aL u) x
 held:∀ k,k<n->outs n B k=((gT l).count ((k:Int)+1):Int)
theorem aT8 {l:List aK}{j:Nat}{x:aK}(hx:l[j]? =some x):cK (l.take (j+1))=cK (l.take j)++aG x:=by
 unfold cK
 rw[eF hx,List.flatMap_append]
 simp
theorem lD.rootBd {n:Nat}{B:Nat->Blk}{t:aP}(h:lD n B t):∀ r∈aL t,r=0\/(1<=r/\r<=n):=fun r hr=>by
 obtain⟨x,hx,hr⟩:=List.mem_flatMap.1 hr
 exact(h.sets x hx).rootBd r hr
theorem aA0:∀ (l:List aK),(∀ x∈l,Shape x)->(cK l).length<=l.length*24
 | [],_=>by simp[cK]
 | x::l,h=>by
   have h1:=wL (h x (by simp))
   have h2:=aA0 l (fun y hy=>h y (by simp[hy]))
   simp only[cK,List.flatMap_cons,List.length_append,List.length_cons] at *
   omega
theorem lD.shapes {n:Nat}{B:Nat->Blk}{t:aP}(h:lD n B t):∀ x∈t.sets,Shape x:=fun x hx=>(h.sets x hx).shape
theorem sP {n:Nat}{B:Nat->Blk}{t:aP}(h:lD n B t):(aL t).length<=72:=by
 have h1:=aA0 t.sets h.shapes
 have:=h.few
 unfold aL
 omega
theorem zH (w:World)(base:Nat)(ty:TypeId)(v:Value)(k:Nat)(xs:List Value)(hv:w.ownsRow base 3 1 v k xs)(xa:Option Addr)(m c:Nat)(ys:List Int)(hN:aI (fun _=>True) .i64 w xa m ys)
 (hx:xa=none->m=0/\c=0) (hbase:base<=w.heap.size) (hk:k<=100000) (hm:m<=100000):
 ∃ v' w', (Builtin.append_ #[36,36] ty #[v,.slice xa m c]).run Tryz.prog w=.ok v' w'/\w'.ownsRow base 3 1 v' (k+m) (xs++ys.map (Value.int .i64))/\w.grownBy w' v.ownBlock:=by
 obtain⟨i0,hi,hz0,hz1,hz2⟩:=info_parts Tryz.infoInt
 cases xa with
 | none=>
   obtain⟨rfl,rfl⟩:=hx rfl
   obtain rfl:ys=[]:=List.eq_nil_of_length_eq_zero hN.1
   exact⟨v,w,run_append_owned_none (P:=Tryz.prog) (w:=w) base 36 ty 3 i0 1 Tryz.underlying36 hi v k xs hv,by simpa using hv,⟨rfl,rfl,rfl,Nat.le_refl _,fun _ _ _=>rfl⟩⟩
 | some a=>
   have hl:(ys.map (Value.int .i64)).length=m*1:=by simp[hN.1]
   have hnews:∀ j u,(ys.map (Value.int .i64))[j]? =some u->w.cell? (a.add j)=some u:=by
    intro j u hj
    obtain⟨hj1,hj2⟩:=List.getElem?_eq_some_iff.1 hj
    have hjm:j<m:=by simpa [hN.1] using hj1
    obtain⟨b,off,ha,_,_,hc⟩:=hN.2.2 (by omega)
    cases ha
    have:=hc j hjm
    have hjy:j<ys.length:=by rw[hN.1]; exact hjm
    rw[show ((⟨b,off,none⟩:Addr).add j)=⟨b,off+j,none⟩ by simp[Addr.add],this,<-hj2]
    simp[List.getD,hjy]
   have h1:∀ u∈ys.map (Value.int .i64),u.oneCell'=true:=by
    intro u hu
    obtain⟨y,_,rfl⟩:=List.mem_map.1 hu
    rfl
   obtain⟨v', w', hr,ho,hg,hn⟩:=run_append_own (P:=Tryz.prog) w base 36 ty 3 i0 (.int .i64 0) 1 8 Tryz.underlying36 hi hz0 hz1 hz2 rfl (by decide) _ k xs hv a m c _ hl hnews h1 (by unfold maxLen; omega) (by omega) hbase
   exact⟨v', w', hr,ho,hg⟩
theorem aZ5 {w:World}{lo:Nat}{a:Option Addr}{c:Nat}{R:List Int}(hr:w.ownsRow lo 3 1 (.slice a R.length c) R.length (R.map (Value.int .i64)))(hw:∀ r∈R,(Lit.int .i64 r).wf=true):aI (fun b=>lo<=b) .i64 w a R.length R:=by
 obtain⟨a', c', hv,_,hN⟩:=fM hw hr
 simp only[Value.slice.injEq] at hv
 obtain⟨rfl,_,rfl⟩:=hv
 exact hN
theorem bX7 {w:World}{base:Nat}{e:TypeId}{size n c m:Nat}{a:Option Addr}{xs:List Value}(h:w.ownsRow base e size (.slice a n c) m xs):a=none->n=0/\c=0:=by
 intro ha
 rcases h.2 with⟨hv,h0⟩ | ⟨g,cap,cur,hv,_⟩
 ·simp only[Value.slice.injEq] at hv
  exact⟨hv.2.1,hv.2.2⟩
 ·simp only[Value.slice.injEq] at hv
  rw[ha] at hv
  cases hv.1
theorem rA (Q:Nat->Prop)(t:aP)(sa:Option Addr)(sn sc:Nat)(w:World)(hT:sK Q w t sa sn sc)(hsh:∀ x∈t.sets,Shape x)(h3:t.sets.length<=3):
 Calls Tryz.prog 54 #[t.val sa sn sc] w fun e w'=>cE4 w.heap.size e w' (aL t)/\Below w.heap.size w w':=by
 obtain⟨i0,hi,hz0,hz1,hz2⟩:=info_parts Tryz.infoInt
 unfold aP.val
 have b0:=aA w (.cells #[.int .i64 t.key,.int .i64 t.quota,.slice sa sn sc] 64)
 have k1:aC _ w.heap.size #[.int .i64 t.key,.int .i64 t.quota,.slice sa sn sc] 64:=aB w _ _
 have hsl:=hid hT.sets.1
 have hS:=hid (hT.sets.below b0)
 replace k1:=hid k1
 have hsn:sn<=3:=by rw[<-hT.sets.1]; exact h3
 replace hsh:=hid hsh
 clear hT h3
 go_enter Tryz.func54,Tryz.ntmps54
 go_wp2_with fail
 generalize w.alloc (.cells #[.int .i64 t.key,.int .i64 t.quota,.slice sa sn sc] 64)=w0 at *
 go_loopw [3,9] (fun u v wr=>∃ (j k:Nat) (xs:List Int),j<=sn/\v=.int .i64 j/\Below w0.heap.size w0 wr/\k<=j*24/\xs=cK (t.sets.take j)/\xs.length=k/\(∃ a c,u=.slice a k c)/\wr.ownsRow w0.heap.size 3 1 u k (xs.map (Value.int .i64))/\∀ r∈xs,(Lit.int .i64 r).wf=true) (fun _ v _=>sn-(Go.RowKit.intOf v).toNat)
 case atStart=>exact⟨0,0,[],Nat.zero_le _,rfl,Below.refl _ _,by omega,by simp[cK],rfl,⟨_,_,rfl⟩,World.ownsRow_nil _ _ _ _,by simp⟩
 case round=>
  obtain⟨j,k,xs,hj,rfl,hb,hk,hxs,hxl,⟨ua,uc,rfl⟩,hown,hw⟩:=hrel
  replace hxs:=hid hxs
  replace hxl:=hid hxl
  replace hw:=hid hw
  by_cases hlt:j<sn
  ·have hjl:j<t.sets.length:=by rw[hsl.out]; exact hlt
   have hE':=hS.out.below hb
   obtain⟨eb,off,rfl⟩:∃ b off,sa=some ⟨b,off,none⟩:=by
    obtain⟨b,off,e,_⟩:=hE'.2 (by omega)
    exact⟨b,off,e⟩
   have hx:t.sets[j]? =some (t.sets.getD j aK.zero):=by rw[List.getElem?_eq_getElem hjl]; simp[List.getD,hjl]
   obtain⟨v,hA⟩:=hE'.set hlt
   have c0:=hA.c0
   have c1:=hA.c1
   have c2:=hA.c2
   have hXa:=hA.ok
   have hShx:=hid (hsh.out _ (List.mem_of_getElem? hx))
   replace hx:=hid hx
   clear hA hE' hjl
   generalize t.sets.getD j aK.zero=y at *
   replace hown:=hid hown
   replace hXa:=hid hXa
   go_wp2_with fail
   have ba:=aA wr (.cells #[.string v.name,.slice v.fa v.fn v.fc,.slice v.sa v.sn v.sc] 84)
   clear c0 c1 c2
   replace hXa:=hXa.out.below ba
   replace hown:=bI hown.out ba
   replace hb:=Below.tr hb ba
   clear ba
   generalize wr.alloc (.cells #[.string v.name,.slice v.fa v.fn v.fc,.slice v.sa v.sn v.sc] 84)=w5 at *
   refine(wP Q v y w5 hXa hShx.out.few hShx.out.fewS (fun s hs=>(hShx.out.filesS s hs).1)).mono ?_
   rintro e w6 ⟨⟨ra,rc,rfl,ho6,hrw6⟩,b6⟩
   have hown6:=hid (bI hown b6)
   obtain⟨rn,hrn⟩:∃ rn,rn=(aG y).length:=⟨_,rfl⟩
   have h24:rn<=24:=by rw[hrn]; exact wL hShx.out
   obtain⟨ra', rc', hv,hrc,hN6⟩:=fM hrw6 ho6
   simp only[Value.slice.injEq,true_and] at hv
   obtain⟨rfl,rfl⟩:=hv
   have ho6':=ho6
   rw[<-hrn] at hN6 ho6'
   simp only[<-hrn]
   have hrn':=hid hrn
   have hb6:Hid (w0.heap.size<=w6.heap.size):=hid (Nat.le_trans hb.size b6.size)
   replace hb:=Below.tr hb b6
   replace hrw6:=hid hrw6
   replace hN6:=hid hN6
   clear hown b6 ho6 hXa hrn
   have hnone:=bX7 ho6'
   have hw7:∀ r∈xs++aG y,(Lit.int .i64 r).wf=true:=fun r hr=>by
    rcases List.mem_append.1 hr with h | h
    ·exact hw.out r h
    ·exact hrw6.out r h
   have hl7:(xs++aG y).length=k+rn:=by rw[List.length_append,hxl.out,hrn'.out]
   have hx7:xs++aG y=cK (t.sets.take (j+1)):=by rw[hxs.out,aT8 hx.out]
   obtain⟨v', w7,hrun,hown7,hgrow⟩:=zH w6 w0.heap.size 36 (.slice ua k uc) k _ hown6.out ra rn rc (aG y) (hN6.out.weaken fun _ _ _=>trivial) hnone hb6.out (by omega) (by omega)
   have b7:Below w0.heap.size w0 w7:=hb.grown hgrow hb6.out (fun i hi=>(hown6.out.lt i hi).1)
   rw[<-List.map_append] at hown7
   obtain⟨a', c', rfl⟩:∃ a' c', v'=.slice a' (k+rn) c':=by
    rcases hown7.2 with⟨hv,h0⟩ | ⟨g,cap,cur,hv,_⟩
    ·exact⟨none,0,by rw[hv,h0]⟩
    ·exact⟨_,_,hv⟩
   replace hown7:=hid hown7
   replace hw7:=hid hw7
   replace hl7:=hid hl7
   replace hx7:=hid hx7
   replace hnone:=hid hnone
   clear hown6 hgrow hb ho6'
   go_wp2_with (at_builtin; refine Lib.wpList_append_run _ rfl _ _ _ _ rfl _ _ rfl rfl _ _ hrun ?_)
   go_roundw
   case rel=>exact⟨j+1,k+rn,xs++aG y,by omega,by go_num,b7,by omega,hx7.out,hl7.out,⟨_,_,rfl⟩,hown7.out,hw7.out⟩
   case measure=>simp[Go.RowKit.intOf]; omega
  ·obtain rfl:j=sn:=by omega
   have e1:t.sets.take j=t.sets:=List.take_of_length_le (by rw[hsl.out]; exact Nat.le_refl _)
   have hxs':Hid (xs=aL t):=hid (by rw[hxs.out,e1]; rfl)
   have J:Hid (cE4 w.heap.size (.returned (.slice ua k uc)) wr (aL t)):=hid (by
    rw[<-hxs'.out]
    exact⟨ua,uc,by rw[hxl.out],by rw[hxl.out]; exact dD b0.size hown,hw.out⟩)
   clear hown
   go_wp2_with fail
   go_ret
   exact⟨J.out,Below.tr b0 hb⟩
end Go.Proofs.YtjafgnohlkkopaaGreatDoor
