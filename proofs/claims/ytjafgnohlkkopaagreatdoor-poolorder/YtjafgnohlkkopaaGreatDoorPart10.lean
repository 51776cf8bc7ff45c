import Derived.Test.YtjafgnohlkkopaaGreatDoorPart09
import Derived.Test.YtjafgnohlkkopaaGreatDoorPart08
import Derived.Test.YtjafgnohlkkopaaGreatDoorPart07
import Derived.Test.YtjafgnohlkkopaaGreatDoorPart02
import Derived.Test.YtjafgnohlkkopaaGreatDoorPart03
import Derived.Laws.AppendOwnNone
import Derived.Lib.AppendZeros
import Derived.Deep.DeepAppendRoom
set_option linter.unusedVariables false
set_option maxHeartbeats 8000000
set_option maxRecDepth 100000
namespace Go.Proofs.YtjafgnohlkkopaaGreatDoor
open Go.RowKit
def Ahead {α:Type}(f:α->List UInt8)(l:List α)(j:Nat)(s:List UInt8):Prop:=(j=0/\s=[])\/∃ x,l[j-1]? =some x/\0<j/\s=f x
theorem tV {α:Type}{f:α->List UInt8}{l:List α}{j:Nat}{x:α}(hx:l[j]? =some x):Ahead f l (j+1) (f x):=.inr ⟨x,hx,by omega,rfl⟩
theorem eF {α:Type}{l:List α}{j:Nat}{x:α}(hx:l[j]? =some x):l.take (j+1)=l.take j++[x]:=by
 rw[List.take_add_one,hx]; rfl
theorem sS {α:Type}{f:α->List UInt8}{l:List α}{j:Nat}{x:α}{s:List UInt8}(hx:l[j]? =some x)(ho:(l.take j).Pairwise fun a b=>f a<f b)(ha:Ahead f l j s)(hlt:s<f x):(l.take (j+1)).Pairwise fun a b=>f a<f b:=by
 rw[eF hx,List.pairwise_append]
 refine⟨ho,by simp,fun a ha' b hb=>?_⟩
 rw[List.mem_singleton.1 hb]
 obtain⟨k,hk,rfl⟩:=List.mem_iff_getElem.1 ha'
 have hkj:=hk
 rw[List.length_take] at hkj
 rcases ha with⟨h0,_⟩ | ⟨y,hy,h0,rfl⟩
 ·omega
 ·obtain⟨hy1,hy2⟩:=List.getElem?_eq_some_iff.1 hy
  by_cases e:k=j-1
  ·subst e
   rw[List.getElem_take,hy2]
   exact hlt
  ·refine List.lt_trans ?_ hlt
   have:=List.pairwise_iff_getElem.1 ho k (j-1) hk (by rw[List.length_take]; omega) (by omega)
   rw[List.getElem_take (i:=j-1),hy2] at this
   exact this
theorem mZ {α:Type}{f:α->List UInt8}{l:List α}{j:Nat}{x:α}{s:List UInt8}(hx:l[j]? =some x)(ho:l.Pairwise fun a b=>f a<f b)(ha:Ahead f l j s)(hn:1<=(f x).length):s<f x:=by
 obtain⟨hj,rfl⟩:=List.getElem?_eq_some_iff.1 hx
 rcases ha with⟨h0,rfl⟩ | ⟨y,hy,h0,rfl⟩
 ·cases h:f l[j] with
  | nil=>rw[h] at hn; simp at hn
  | cons a b=>exact List.nil_lt_cons a b
 ·obtain⟨hy1,rfl⟩:=List.getElem?_eq_some_iff.1 hy
  exact List.pairwise_iff_getElem.1 ho (j-1) j hy1 hj (by omega)
structure uB (n:Nat)(B:Nat->Blk)(key:Int)(l:List Ent)(j:Nat):Prop where
 names:∀ x∈l.take j,aM x.name
 order:(l.take j).Pairwise fun a b=>a.nm<b.nm
 files:∀ x∈l.take j,bQ n B key x.root x.size
theorem uB.next {n:Nat}{B:Nat->Blk}{key:Int}{l:List Ent}{j:Nat}{x:Ent}{s:List UInt8}(h:uB n B key l j)(hx:l[j]? =some x)(ha:Ahead Ent.nm l j s)(hn:aM x.name/\s<x.name.data.toList)(hf:bQ n B key x.root x.size):uB n B key l (j+1):=by
 refine⟨fun y hy=>?_,sS hx h.order ha hn.2,fun y hy=>?_⟩
 ·rw[eF hx] at hy
  rcases List.mem_append.1 hy with hy | hy
  ·exact h.names y hy
  ·rw[List.mem_singleton.1 hy]; exact hn.1
 ·rw[eF hx] at hy
  rcases List.mem_append.1 hy with hy | hy
  ·exact h.files y hy
  ·rw[List.mem_singleton.1 hy]; exact hf
def nE {α:Type}(f:α->List UInt8)(l:List α)(G:α->Prop)(T:List UInt8->α->Int->Prop)(c:Int):Prop:=∃ (j:Nat) (x:α) (s:List UInt8),l[j]? =some x/\Ahead f l j s/\(∀ y∈l.take j,G y)/\((l.take j).Pairwise fun a b=>f a<f b)/\T s x c
def nmT (N lt G:Prop)(S:Int->Prop)(c:Int):Prop:=c=1/\¬N\/c=6/\N/\¬lt\/(N/\lt)/\¬G/\S c
theorem bB1 {s:ByteArray}{lt G:Prop}{S:Int->Prop}{c:Int}(hc:c=0↔aM s/\lt)(h0:c≠0)(h:cO9 s c):nmT (aM s) lt G S c:=by
 rcases h with⟨rfl,h⟩ | ⟨rfl,h⟩
 ·exact .inl ⟨rfl,h⟩
 ·exact .inr (.inl ⟨rfl,h,fun f=>h0 (hc.2 ⟨h,f⟩)⟩)
def cV9 (n:Nat)(B:Nat->Blk)(key:Int)(s:List UInt8)(x:Ent)(c:Int):Prop:=nmT (aM x.name) (s<x.nm) (bQ n B key x.root x.size) (aL5 n B key x.root x.size) c
def filesS (n:Nat)(B:Nat->Blk)(key:Int)(l:List Ent)(c:Int):Prop:=c=2/\¬l.length<=6\/l.length<=6/\nE Ent.nm l (fun x=>aM x.name/\bQ n B key x.root x.size) (cV9 n B key) c
theorem uB.first {n:Nat}{B:Nat->Blk}{key:Int}{l:List Ent}{j:Nat}{x:Ent}{s:List UInt8}{c:Int}(h:uB n B key l j)(hx:l[j]? =some x)(ha:Ahead Ent.nm l j s)(h6:l.length<=6)(t:cV9 n B key s x c):filesS n B key l c:=.inr ⟨h6,j,x,s,hx,ha,fun y hy=>⟨h.names y hy,h.files y hy⟩,h.order,t⟩
theorem uR (Q:Nat->Prop)(a:Option Addr)(n c:Nat)(B:Nat->Blk)(key:Int)(fa:Option Addr)(fn fc:Nat)(l:List Ent)(w:World)(h:aN w a n B)(hE:dU Q w fa fn l):
 Calls Tryz.prog 81 #[.agg #[.slice a n c],.int .i64 key,.slice fa fn fc] w fun e w'=>zB e (gZ n B key l) (filesS n B key l)/\Below w.heap.size w w':=by
 have b0:=aA w (.cells #[.slice a n c] 24)
 have k0:aC _ w.heap.size #[.slice a n c] 24:=aB w _ _
 have hl:=hid hE.1
 replace h:=hid (h.below b0)
 replace hE:=hid (hE.below b0)
 replace k0:=hid k0
 go_enter Tryz.func81,Tryz.ntmps81
 by_cases h6:(6:Int)<(fn:Int)
 ·go_wp2_with fail
  go_ret
  exact⟨aU 2 (by omega) (fun f=>by have:=f.few; rw[hl.out] at this; omega) (.inl ⟨rfl,by rw[hl.out]; omega⟩),b0⟩
 ·go_wp2_with fail
  generalize w.alloc (.cells #[.slice a n c] 24)=w0 at *
  go_loopw [7,17] (fun u v wr=>∃ (j:Nat) (s:ByteArray),j<=fn/\v=.int .i64 j/\u=.string s/\Below w0.heap.size w0 wr/\Ahead Ent.nm l j s.data.toList/\uB n B key l j) (fun _ v _=>fn-(Go.RowKit.intOf v).toNat)
  case atStart=>exact⟨0,⟨#[]⟩,Nat.zero_le _,rfl,rfl,Below.refl _ _,.inl ⟨rfl,rfl⟩,by simp,by simp,by simp⟩
  case round=>
   obtain⟨j,s,hj,rfl,rfl,hb,ha,hF⟩:=hrel
   replace ha:=hid ha
   replace hF:=hid hF
   by_cases hlt:j<fn
   ·have hjl:j<l.length:=by rw[hl.out]; exact hlt
    have hE':=hE.out.below hb
    obtain⟨eb,off,rfl⟩:∃ b off,fa=some ⟨b,off,none⟩:=by
     obtain⟨b,off,e,_⟩:=hE'.2.2 (by omega)
     exact⟨b,off,e⟩
    have hx:l[j]? =some (l.getD j Ent.zero):=by rw[List.getElem?_eq_getElem hjl]; simp[List.getD,hjl]
    have hok:=hE'.2.1 _ (hE'.getD hlt)
    have hA:=hE'.ent hlt
    have c0:=hA.c0
    have c1:=hA.c1
    have c2:=hA.c2
    replace hx:=hid hx
    have hsm:=hok.1
    clear hA hE' hok hjl
    generalize l.getD j Ent.zero=x at *
    go_wp2_with fail
    have b1:=aA wr (.cells #[.string x.name,.int .i64 x.root,.int .i64 x.size] 106)
    have k1:aC _ wr.heap.size #[.string x.name,.int .i64 x.root,.int .i64 x.size] 106:=aB wr _ _
    clear c0 c1 c2
    replace hb:=Below.tr hb b1
    generalize wr.alloc (.cells #[.string x.name,.int .i64 x.root,.int .i64 x.size] 106)=w1 at *
    refine(yM s x.name w1 hsm).mono ?_
    rintro e w2 ⟨⟨e', rfl,he,hsn⟩,rfl⟩
    have q0:=k1.cell 0
    have q1:=k1.cell 1
    have q2:=k1.cell 2
    have s0:=(hb.cell (p:=⟨w.heap.size,0,none⟩) k0.out.lt).trans (k0.out.cell 0)
    simp at q0 q1 q2 s0
    replace he:=hid he
    replace hsn:=hid hsn
    have hl6:Hid (l.length<=6):=hid (by rw[hl.out]; omega)
    replace k1:=hid k1
    by_cases h0:e'=0
    ·have h0':(e' == 0)=true:=by simp[h0]
     have hN:=hid (he.out.1 h0)
     go_wp2_with fail
     refine(aW6 a n c B key x.root x.size w2 (h.out.below hb)).mono ?_
     rintro e w3 ⟨⟨e2,rfl,he2,hsf⟩,b3⟩
     have q3:=(b3.cell (p:=⟨wr.heap.size,0,none⟩) k1.out.lt).trans q0
     replace he2:=hid he2
     replace hsf:=hid hsf
     replace hb:=Below.tr hb b3
     clear q0 q1 q2 s0
     by_cases h2:e2=0
     ·have h2':(e2 == 0)=true:=by simp[h2]
      have hf:=hid (he2.out.1 h2)
      go_wp2_with fail
      go_roundw
      case rel=>exact⟨j+1,x.name,by omega,by go_num,rfl,hb,tV (f:=Ent.nm) hx.out,hF.out.next hx.out ha.out hN.out hf.out⟩
      case measure=>simp[Go.RowKit.intOf]; omega
     ·have h2':(e2 == 0)=false:=by simp[h2]
      go_wp2_with fail
      go_ret
      exact⟨aU e2 h2 (fun f=>h2 (he2.out.2 (f.files x (List.mem_of_getElem? hx.out)))) (hF.out.first hx.out ha.out hl6.out (.inr (.inr ⟨hN.out,fun f=>h2 (he2.out.2 f),hsf.out h2⟩))),Below.tr b0 hb⟩
    ·have h0':(e' == 0)=false:=by simp[h0]
     go_wp2_with fail
     go_ret
     exact⟨aU e' h0 (fun f=>h0 (he.out.2 ⟨f.names x (List.mem_of_getElem? hx.out),mZ (f:=Ent.nm) hx.out f.order ha.out (f.names x (List.mem_of_getElem? hx.out)).1⟩)) (hF.out.first hx.out ha.out hl6.out (bB1 he.out h0 (hsn.out h0))),Below.tr b0 hb⟩
   ·obtain rfl:j=fn:=by omega
    have e1:l.take j=l:=List.take_of_length_le (by rw[hl.out]; exact Nat.le_refl _)
    go_wp2_with fail
    go_ret
    refine⟨gV ⟨by rw[hl.out]; omega,?_,?_,?_⟩,Below.tr b0 hb⟩
    ·have:=hF.out.names; rwa [e1] at this
    ·have:=hF.out.order; rwa [e1] at this
    ·have:=hF.out.files; rwa [e1] at this
structure tY (n:Nat)(B:Nat->Blk)(key:Int)(l:List bD)(j:Nat):Prop where
 names:∀ x∈l.take j,aM x.name
 order:(l.take j).Pairwise fun a b=>a.nm<b.nm
 files:∀ x∈l.take j,gZ n B key x.files
theorem tY.next {n:Nat}{B:Nat->Blk}{key:Int}{l:List bD}{j:Nat}{x:bD}{s:List UInt8}(h:tY n B key l j)(hx:l[j]? =some x)(ha:Ahead bD.nm l j s)(hn:aM x.name/\s<x.name.data.toList)(hf:gZ n B key x.files):tY n B key l (j+1):=by
 refine⟨fun y hy=>?_,sS hx h.order ha hn.2,fun y hy=>?_⟩
 ·rw[eF hx] at hy
  rcases List.mem_append.1 hy with hy | hy
  ·exact h.names y hy
  ·rw[List.mem_singleton.1 hy]; exact hn.1
 ·rw[eF hx] at hy
  rcases List.mem_append.1 hy with hy | hy
  ·exact h.files y hy
  ·rw[List.mem_singleton.1 hy]; exact hf
def bZ1 (n:Nat)(B:Nat->Blk)(key:Int)(s:List UInt8)(x:bD)(c:Int):Prop:=nmT (aM x.name) (s<x.nm) (gZ n B key x.files) (filesS n B key x.files) c
def cO4 (n:Nat)(B:Nat->Blk)(key:Int)(x:aK)(c:Int):Prop:=Right n B->c=3/\¬(0<=key/\key<=1000)\/(0<=key/\key<=1000)/\(c=1/\¬aM x.name\/aM x.name/\(¬gZ n B key x.files/\filesS n B key x.files c\/gZ n B key x.files/\(c=2/\¬x.snaps.length<=3\/x.snaps.length<=3/\nE bD.nm x.snaps (fun y=>aM y.name/\gZ n B key y.files) (bZ1 n B key) c)))
theorem tY.first {n:Nat}{B:Nat->Blk}{key:Int}{v:aK}{j:Nat}{x:bD}{s:List UInt8}{c:Int}(h:tY n B key v.snaps j)(hx:v.snaps[j]? =some x)(ha:Ahead bD.nm v.snaps j s)(h3:v.snaps.length<=3)(hk:0<=key/\key<=1000)(hN:aM v.name)(hF:gZ n B key v.files)(t:bZ1 n B key s x c):cO4 n B key v c:=fun _=>.inr ⟨hk,.inr ⟨hN,.inr ⟨hF,.inr ⟨h3,j,x,s,hx,ha,fun y hy=>⟨h.names y hy,h.files y hy⟩,h.order,t⟩⟩⟩⟩
theorem zU (Q:Nat->Prop)(a:Option Addr)(n c:Nat)(B:Nat->Blk)(key:Int)(v:cB)(x:aK)(w:World)(h:aN w a n B)(hX:dK Q w v x):
 Calls Tryz.prog 52 #[.agg #[.slice a n c],.int .i64 key,v.val] w fun e w'=>zB e (aV n B key x) (cO4 n B key x)/\Below w.heap.size w w':=by
 obtain⟨vn,fa,fn,fc,sa,sn,sc⟩:=v
 obtain⟨hnm,hsm,hFi,hSn,hcap⟩:=hX
 simp only at hnm hFi hSn
 subst hnm
 unfold cB.val
 simp only
 have b0:=aW w (.cells #[.slice a n c] 24) (.cells #[.string x.name,.slice fa fn fc,.slice sa sn sc] 84)
 have k0:aC _ w.heap.size #[.slice a n c] 24:=(aB w _ _).below (aA _ (.cells #[.string x.name,.slice fa fn fc,.slice sa sn sc] 84))
 have k1:=aF w (.cells #[.slice a n c] 24) #[.string x.name,.slice fa fn fc,.slice sa sn sc] 84
 have hsl:=hid hSn.1
 replace h:=hid (h.below b0)
 replace hFi:=hid (hFi.below b0)
 replace hSn:=hid (hSn.below b0)
 replace k0:=hid k0
 replace k1:=hid k1
 clear hcap
 go_enter Tryz.func52,Tryz.ntmps52
 go_wp2_with fail
 generalize (w.alloc (.cells #[.slice a n c] 24)).alloc (.cells #[.string x.name,.slice fa fn fc,.slice sa sn sc] 84)=w0 at *
 by_cases hk:aI4 key 0=true
 ·have hkb:=lZ hk
  have hk2:Hid (0<=key/\key<=1000):=hid ⟨hkb.1,hkb.2.1⟩
  refine(rZ key 0 w0 hk).mono ?_
  rintro e w1 ⟨rfl,rfl⟩
  have s0:=k0.out.cell 0
  have x0:=k1.out.cell 0
  have x1:=k1.out.cell 1
  have x2:=k1.out.cell 2
  simp at s0 x0 x1 x2
  clear hk
  go_wp2_with fail
  refine(mH ⟨w.heap.size,0,none⟩ a n c B w1 ⟨k0.out.lt,s0,h.out⟩).mono ?_
  rintro e w2 ⟨⟨e', rfl,he⟩,b2⟩
  replace he:=hid he
  replace x0:=(b2.cell (p:=⟨w.heap.size+1,0,none⟩) k1.out.lt).trans x0
  replace x1:=(b2.cell (p:=⟨w.heap.size+1,1,none⟩) k1.out.lt).trans x1
  replace x2:=(b2.cell (p:=⟨w.heap.size+1,2,none⟩) k1.out.lt).trans x2
  replace s0:=(b2.cell (p:=⟨w.heap.size,0,none⟩) k0.out.lt).trans s0
  by_cases h0:e'=0
  ·have h0':(e' == 0)=true:=by simp[h0]
   have hR:=hid (he.out.1 h0)
   go_wp2_with fail
   refine(iO x.name w2 hsm).mono ?_
   rintro e w3 ⟨⟨t,rfl,ht⟩,rfl⟩
   replace ht:=hid ht
   cases t
   ·go_wp2_with fail
    go_ret
    exact⟨aU 1 (by omega) (fun f=>Bool.false_ne_true (ht.out.2 f.name)) (fun _=>.inr ⟨hk2.out,.inl ⟨rfl,fun f=>Bool.false_ne_true (ht.out.2 f)⟩⟩),Below.tr b0 b2⟩
   ·have hNm:=hid (ht.out.1 rfl)
    go_wp2_with fail
    refine(uR Q a n c B key fa fn fc x.files w3 (h.out.below b2) (hFi.out.below b2)).mono ?_
    rintro e w4 ⟨⟨e2,rfl,he2,hsf⟩,b4⟩
    replace he2:=hid he2
    replace hsf:=hid hsf
    replace x2:=(b4.cell (p:=⟨w.heap.size+1,2,none⟩) (Nat.lt_of_lt_of_le k1.out.lt b2.size)).trans x2
    replace s0:=(b4.cell (p:=⟨w.heap.size,0,none⟩) (Nat.lt_of_lt_of_le k0.out.lt b2.size)).trans s0
    replace b4:=Below.tr b2 b4
    clear x0 x1 b2
    by_cases h2:e2=0
    ·have h2':(e2 == 0)=true:=by simp[h2]
     have hFO:=hid (he2.out.1 h2)
     by_cases h3:(3:Int)<(sn:Int)
     ·go_wp2_with fail
      go_ret
      exact⟨aU 2 (by omega) (fun f=>by have:=f.fewS; rw[hsl.out] at this; omega) (fun _=>.inr ⟨hk2.out,.inr ⟨hNm.out,.inr ⟨hFO.out,.inl ⟨rfl,by rw[hsl.out]; omega⟩⟩⟩⟩),Below.tr b0 b4⟩
     ·go_wp2_with fail
      replace h:=hid (h.out.below b4)
      replace hSn:=hid (hSn.out.below b4)
      replace b4:=hid (Below.tr b0 b4)
      clear x2 he he2 ht hsf
      have hl3:Hid (x.snaps.length<=3):=hid (by rw[hsl.out]; omega)
      go_loopw [10,43] (fun u v wr=>∃ (j:Nat) (s:ByteArray),j<=sn/\v=.int .i64 j/\u=.string s/\Below w4.heap.size w4 wr/\Ahead bD.nm x.snaps j s.data.toList/\tY n B key x.snaps j) (fun _ v _=>sn-(Go.RowKit.intOf v).toNat)
      case atStart=>exact⟨0,⟨#[]⟩,Nat.zero_le _,rfl,rfl,Below.refl _ _,.inl ⟨rfl,rfl⟩,by simp,by simp,by simp⟩
      case round=>
       obtain⟨j,s,hj,rfl,rfl,hb,ha,hF⟩:=hrel
       replace ha:=hid ha
       replace hF:=hid hF
       by_cases hlt:j<sn
       ·have hjl:j<x.snaps.length:=by rw[hsl.out]; exact hlt
        have hE':=hSn.out.below hb
        obtain⟨eb,off,rfl⟩:∃ b off,sa=some ⟨b,off,none⟩:=by
             obtain⟨b,off,e,_⟩:=hE'.2 (by omega)
             exact⟨b,off,e⟩
        have hx:x.snaps[j]? =some (x.snaps.getD j bD.zero):=by rw[List.getElem?_eq_getElem hjl]; simp[List.getD,hjl]
        obtain⟨ga,gn,gc,hA⟩:=hE'.snap hlt
        have c0:=hA.c0
        have c1:=hA.c1
        have hsz:=hA.small
        have hGf:=hid hA.files
        replace hx:=hid hx
        clear hA hE' hjl
        generalize x.snaps.getD j bD.zero=y at *
        go_wp2_with fail
        have b1:=aA wr (.cells #[.string y.name,.slice ga gn gc] 113)
        have k2:aC _ wr.heap.size #[.string y.name,.slice ga gn gc] 113:=aB wr _ _
        clear c0 c1
        replace hGf:=hid (hGf.out.below b1)
        replace hb:=Below.tr hb b1
        generalize wr.alloc (.cells #[.string y.name,.slice ga gn gc] 113)=w5 at *
        refine(yM s y.name w5 hsz).mono ?_
        rintro e w6 ⟨⟨e3,rfl,he3,hsn⟩,rfl⟩
        have q0:=k2.cell 0
        have q1:=k2.cell 1
        have s1:=(hb.cell (p:=⟨w.heap.size,0,none⟩) (fC s0)).trans s0
        simp at q0 q1
        replace he3:=hid he3
        replace hsn:=hid hsn
        replace k2:=hid k2
        by_cases h5:e3=0
        ·have h5':(e3 == 0)=true:=by simp[h5]
         have hN:=hid (he3.out.1 h5)
         go_wp2_with fail
         refine(uR Q a n c B key ga gn gc y.files w6 (h.out.below hb) hGf.out).mono ?_
         rintro e w7 ⟨⟨e4,rfl,he4,hsg⟩,b7⟩
         have q3:=(b7.cell (p:=⟨wr.heap.size,0,none⟩) k2.out.lt).trans q0
         replace he4:=hid he4
         replace hsg:=hid hsg
         replace hb:=Below.tr hb b7
         clear q0 q1 s1
         by_cases h7:e4=0
         ·have h7':(e4 == 0)=true:=by simp[h7]
          have hf:=hid (he4.out.1 h7)
          go_wp2_with fail
          go_roundw
          case rel=>exact⟨j+1,y.name,by omega,by go_num,rfl,hb,tV (f:=bD.nm) hx.out,hF.out.next hx.out ha.out hN.out hf.out⟩
          case measure=>simp[Go.RowKit.intOf]; omega
         ·have h7':(e4 == 0)=false:=by simp[h7]
          go_wp2_with fail
          go_ret
          exact⟨aU e4 h7 (fun f=>h7 (he4.out.2 (f.filesS y (List.mem_of_getElem? hx.out)))) (hF.out.first hx.out ha.out hl3.out hk2.out hNm.out hFO.out (.inr (.inr ⟨hN.out,fun f=>h7 (he4.out.2 f),hsg.out h7⟩))),Below.tr b4.out hb⟩
        ·have h5':(e3 == 0)=false:=by simp[h5]
         go_wp2_with fail
         go_ret
         exact⟨aU e3 h5 (fun f=>h5 (he3.out.2 ⟨f.namesS y (List.mem_of_getElem? hx.out),mZ (f:=bD.nm) hx.out f.orderS ha.out (f.namesS y (List.mem_of_getElem? hx.out)).1⟩)) (hF.out.first hx.out ha.out hl3.out hk2.out hNm.out hFO.out (bB1 he3.out h5 (hsn.out h5))),Below.tr b4.out hb⟩
       ·obtain rfl:j=sn:=by omega
        have e1:x.snaps.take j=x.snaps:=List.take_of_length_le (by rw[hsl.out]; exact Nat.le_refl _)
        have hTo:=hF.out
        go_wp2_with fail
        go_ret
        refine⟨gV ⟨⟨hkb.1,hkb.2.1⟩,hR.out,hNm.out,hFO.out,by rw[hsl.out]; omega,?_,?_,?_⟩,Below.tr b4.out hb⟩
        ·have:=hTo.names; rwa [e1] at this
        ·have:=hTo.order; rwa [e1] at this
        ·have:=hTo.files; rwa [e1] at this
    ·have h2':(e2 == 0)=false:=by simp[h2]
     go_wp2_with fail
     go_ret
     exact⟨aU e2 h2 (fun f=>h2 (he2.out.2 f.files)) (fun _=>.inr ⟨hk2.out,.inr ⟨hNm.out,.inl ⟨fun f=>h2 (he2.out.2 f),hsf.out h2⟩⟩⟩),Below.tr b0 b4⟩
  ·have h0':(e' == 0)=false:=by simp[h0]
   go_wp2_with fail
   go_ret
   exact⟨aU e' h0 (fun f=>h0 (he.out.2 f.right)) (fun f=>absurd (he.out.2 f) h0),Below.tr b0 b2⟩
 ·have hk':aI4 key 0=false:=by simpa using hk
  have hno:=oU hk'
  refine(aH5 key 0 w0 hk').mono ?_
  rintro e w1 ⟨rfl,rfl⟩
  replace hno:=hid hno
  clear hk hk'
  go_wp2_with fail
  go_ret
  exact⟨aU 3 (by omega) (fun f=>hno.out ⟨f.kb.1,f.kb.2,by omega,by omega⟩) (fun _=>.inl ⟨rfl,fun f=>hno.out ⟨f.1,f.2,by omega,by omega⟩⟩),b0⟩
theorem uH (Q:Nat->Prop)(a:Option Addr)(n c:Nat)(B:Nat->Blk)(key:Int)(v:cB)(x:aK)(w:World)(h:aN w a n B)(hX:dK Q w v x):
 Calls Tryz.prog 52 #[.agg #[.slice a n c],.int .i64 key,v.val] w fun e w'=>aY1 e (aV n B key x)/\Below w.heap.size w w':=(zU Q a n c B key v x w h hX).mono fun _ _ f=>⟨f.1.ret,f.2⟩
def eX (B:Nat->Blk)(K:List Int):Nat->Blk:=fun i=>{ B i with refs:=(B i).refs+(K.count ((i:Int)+1):Int) }
theorem xN (B:Nat->Blk):eX B []=B:=by
 funext i
 unfold eX
 simp
theorem fO (B:Nat->Blk)(K:List Int)(i:Nat):(eX B K i).refs=(B i).refs+(K.count ((i:Int)+1):Int):=rfl
theorem bI1 (B:Nat->Blk)(K:List Int):eX B (K++[0])=eX B K:=by
 funext i
 unfold eX
 rw[List.count_append,List.count_cons_of_ne (by omega)]
 simp
theorem bR3 (B:Nat->Blk)(K:List Int)(m:Nat):eX B (K++[(m:Int)+1])=upd (eX B K) m { eX B K m with refs:=(eX B K m).refs+1 }:=by
 funext i
 by_cases e:i=m
 ·subst e
  rw[upd_same]
  unfold eX
  rw[List.count_append,List.count_cons_self]
  simp
  omega
 ·rw[bI _ _ _ _ e]
  unfold eX
  rw[List.count_append,List.count_cons_of_ne (by omega)]
  simp
theorem yV (n:Nat)(B:Nat->Blk)(K:List Int)(x:Int):among n (eX B K) x=among n B x:=gY x fun _ _=>rfl
theorem oQ (n:Nat)(B:Nat->Blk)(K:List Int)(k:Nat):outs n (eX B K) k=outs n B k+(K.count ((k:Int)+1):Int):=by
 unfold outs
 rw[yV,fO]
 omega
theorem aR9 {n:Nat}{B:Nat->Blk}{K:List Int}(hB:Right n B){x:Int}(h:There n B x):There n (eX B K) x:=by
 obtain⟨h1,h2,h3⟩:=h
 have:=(hB.one _ (ix h1 h2).1).bounds
 exact⟨h1,h2,by rw[fO]; omega⟩
theorem qH {n:Nat}{B:Nat->Blk}{K:List Int}(hB:Right n B)(hK:∀ x∈K,x=0\/There n B x)(hc:∀ i,i<n->(B i).refs+(K.length:Int)<=1000000):Right n (eX B K):=by
 refine⟨hB.small,fun i hi=>?_,fun i hi=>?_,fun k hk=>absurd hk (by simp)⟩
 ·have hb:=(hB.one i hi).bounds
  have hcl:=List.count_le_length (a:=(i:Int)+1) (l:=K)
  have hci:=hc i hi
  refine(hB.one i hi).turn (c:=eX B K i) rfl rfl rfl ?_ fun k _ ht=>⟨aR9 hB ht,rfl⟩
  by_cases e:(K.count ((i:Int)+1))=0
  ·left; rw[fO,e]; simp
  ·right
   have hm:((i:Int)+1)∈K:=List.count_pos_iff.1 (by omega)
   rcases hK _ hm with h | ⟨_,_,h⟩
   ·omega
   ·rw[show ((i:Int)+1-1).toNat=i by omega] at h
    rw[fO]
    omega
 ·rw[yV,fO]
  have:=hB.held i hi
  simp at this ⊢
  omega
theorem aB8 {n:Nat}{B:Nat->Blk}{K:List Int}(hB:Right n B)(hK:∀ x∈K,x=0\/There n B x)(hc:∀ i,i<n->(B i).refs+(K.length:Int)<=1000000):Grow n B (eX B K) K:=by
 refine⟨qH hB hK hc,⟨fun k hk h0=>?_⟩,fun k _=>oQ n B K k⟩
 have:=(hB.one k hk).bounds
 exact⟨by rw[fO]; omega,rfl,rfl,rfl⟩
theorem wV {n:Nat}{B:Nat->Blk}{T:List Int}(hB:Right n B)(hT:dY n B T)(hb:∀ x∈T,x=0\/(1<=x/\x<=n)):fG n B T:=by
 refine⟨hB.small,hB.one,fun i hi=>?_,hb⟩
 have:=hT i hi
 unfold outs at this
 omega
theorem bU6 {n:Nat}{C D:Nat->Blk}{T:List Int}(hF:iU n C D T):∀ k,k<n->(D k).refs<=(C k).refs-(T.count ((k:Int)+1):Int):=fun k hk=>by
 have h1:=hF.out k hk
 have h2:among n D ((k:Int)+1)<=among n C ((k:Int)+1):=by
  unfold among
  refine sumTo_le fun i hi=>?_
  rcases hF.same i hi with e | ⟨_,_,_,e,_⟩
  ·rw[e]; simp[Blk.zero]
  ·rw[e]; exact Nat.le_refl _
 omega
theorem qX (p:Addr)(g n:Nat)(B:Nat->Blk)(ma:Option Addr)(mn mc:Nat)(K:List Int)(la:Option Addr)(ln lc:Nat)(T:List Int)(w:World)(h:dF w p g n B)
 (hM:aI (fun b=>b≠g) .i64 w ma mn K) (hL:aI (fun b=>b≠g) .i64 w la ln T) (hln:ln<=1000) (hmn:mn<=1000) (hB:Right n B) (hK:∀ x∈K,x=0\/There n B x) (hc:∀ i,i<n->(B i).refs+(K.length:Int)<=1000000)
 (hT:∀ k,k<n->(T.count ((k:Int)+1):Int)<=outs n B k+(K.count ((k:Int)+1):Int)) (hTb:∀ x∈T,x=0\/(1<=x/\x<=n)):
 Calls Tryz.prog 95 #[.pointer (some p),.slice ma mn mc,.slice la ln lc] w fun e w'=>e=.returned (.tuple #[])/\Out g w w'/\∃ D,dF w' p g n D/\Right n D/\iU n (eX B K) D T:=by
 have hRT:fG n (eX B K) T:=wV (qH hB hK hc) (fun k hk=>by rw[oQ]; exact hT k hk) hTb
 have hn:=hB.small
 have hKl:=hid hM.1
 have hbd:Hid (∀ i,i<n->0<=(B i).refs/\(B i).refs+(K.length:Int)<=1000000):=hid fun i hi=>⟨(hB.one i hi).bounds.1,hc i hi⟩
 replace hRT:=hid hRT
 replace hM:=hid hM
 replace hL:=hid hL
 replace h:=hid h
 replace hK:=hid hK
 clear hB hc hT hTb
 go_enter Tryz.func95,Tryz.ntmps95
 go_wp2_with fail
 go_loopw [10] (fun v wr=>∃ j:Nat,j<=mn/\v=.int .i64 j/\Kept g w wr/\dF wr p g n (eX B (K.take j))) (fun v _=>mn-(Go.RowKit.intOf v).toNat)
 case atStart=>exact⟨0,Nat.zero_le _,rfl,Kept.refl _ _,by rw[List.take_zero,xN]; exact h.out⟩
 case round=>
  obtain⟨j,hjn,rfl,hkp,hP⟩:=hrel
  by_cases hlt:j<mn
  ·obtain⟨kb,ko,rfl,hkb,hgk,hcc⟩:=hM.out.2.2 (by omega)
   have hck:wr.cell? ⟨kb,ko+j,none⟩=some (.int .i64 (K.getD j 0)):=(hkp.cell (p:=⟨kb,ko+j,none⟩) hgk).trans (hcc j hlt)
   have hjl:j<K.length:=by rw[hKl.out]; exact hlt
   have hmem:K.getD j 0∈K:=hM.out.getD hlt
   have htk:=fJ hjl
   replace htk:=hid htk
   replace hmem:=hid hmem
   clear hcc
   generalize K.getD j 0=x at *
   by_cases hx0:x=0
   ·have hx0':(x == 0)=true:=by simp[hx0]
    have hP':Hid (dF wr p g n (eX B (K.take (j+1)))):=hid (by rw[htk.out,hx0,bI1]; exact hP)
    clear hP
    go_wp2_with fail
    go_roundw
    case rel=>exact⟨j+1,by omega,by go_num,hkp,hP'.out⟩
    case measure=>simp[Go.RowKit.intOf]; omega
   ·have hx0':(x == 0)=false:=by simp[hx0]
    have hth:=(hK.out x hmem.out).resolve_left hx0
    obtain⟨m,rfl⟩:∃ m:Nat,x=(m:Int)+1:=⟨(x-1).toNat,by have:=hth.1; omega⟩
    have hm:m<n:=by have:=hth.2.1; omega
    have hb1:=hbd.out m hm
    have hb2:0<=(eX B (K.take j) m).refs/\(eX B (K.take j) m).refs+1<=1000000:=by
     have:=List.count_le_length (a:=(m:Int)+1) (l:=K.take j)
     rw[List.length_take] at this
     rw[fO]
     omega
    have s2:=hP.cell
    obtain⟨ka,kn,kc,ba,bn,bc,hb⟩:=hP.own.cell hm
    have c0:=hb.c0
    have f0:=hP.own.free (m*4) (by omega)
    have J:Hid (∀ w', w'=wr.setCell ⟨g,m*4,none⟩ (.int .i64 ((eX B (K.take j) m).refs+1))->∃ j':Nat,j'<=mn/\Value.int .i64 ((j:Int)+1)=.int .i64 j'/\Kept g w w'/\dF w' p g n (eX B (K.take j'))):=hid (by
     intro w' hw
     subst hw
     have kk:Kept g wr (wr.setCell ⟨g,m*4,none⟩ (.int .i64 ((eX B (K.take j) m).refs+1))):=Kept.setCell (g:=g) (Kept.refl _ _) (p:=⟨g,m*4,none⟩) rfl _
     refine⟨j+1,by omega,by go_num,hkp.trans kk,?_⟩
     rw[htk.out,bR3]
     exact hP.kept kk (hP.own.refs hm _ (by omega)))
    clear hb hP hth hb1
    generalize (eX B (K.take j) m).refs=r at *
    go_wp2_with fail
    refine(yR p g n n m _ hn s2 hm).mono ?_
    rintro e w1 ⟨rfl,rfl⟩
    go_wp2_with fail
    go_roundw
    case rel=>exact J.out _ rfl
    case measure=>simp[Go.RowKit.intOf]; omega
  ·obtain rfl:j=mn:=by omega
   have e2:K.take j=K:=List.take_of_length_le (by rw[hKl.out]; exact Nat.le_refl _)
   rw[e2] at hP
   have hL':=hL.out.kept (fun b h=>h) hkp
   replace hP:=hid hP
   replace hL':=hid hL'
   clear e2
   go_wp2_with fail
   refine(aM8 p g n (eX B K) la ln lc T wr hP.out hL'.out hln hRT.out).mono ?_
   rintro e w4 ⟨rfl,hk4,C,h4,hR4,hF4⟩
   replace h4:=hid h4
   replace hR4:=hid hR4
   replace hF4:=hid hF4
   replace hk4:=hid ((Out.of_kept (g:=g) hkp).trans hk4)
   go_wp2_with fail
   go_end0
   exact⟨rfl,hk4.out,C,h4.out,hR4.out,hF4.out⟩
theorem bY {w w':World}{base:Nat}{e:TypeId}{size:Nat}{v:Value}{n:Nat}{xs:List Value}(h:w.ownsRow base e size v n xs)(b:Below w.heap.size w w'):w'.ownsRow base e size v n xs:=(Only.of_below (M:=fun _=>False) b).row h (fun _ _ m=>m)
theorem wT (Q:Nat->Prop)(fa:Option Addr)(fn fc:Nat)(l:List Ent)(w:World)(hfn:fn<=1000)(hE:dU Q w fa fn l):
 Calls Tryz.prog 112 #[.slice fa fn fc] w fun e w'=>Below w.heap.size w w'/\e=.returned (.slice (some ⟨w.heap.size,0,none⟩) fn fn)/\w'.ownsRow w.heap.size 3 1 (.slice (some ⟨w.heap.size,0,none⟩) fn fn) fn ((aT l).map (Value.int .i64)):=by
 obtain⟨i0,hi,hz0,hz1,hz2⟩:=info_parts Tryz.infoInt
 have hl:=hid hE.1
 replace hE:=hid hE
 go_enter Tryz.func112,Tryz.ntmps112
 go_wp2_with (at_make; refine wpList_make_full _ rfl (.tmp 7) (.tmp 7) 36 rfl w.heap.size 3 i0 (.int .i64 0) 1 Tryz.underlying36 hi hz0 hz1 .i64 .i64 fn fn fn rfl rfl rfl rfl (by rw[hz2]; omega) (by unfold maxLen; omega) (by simp) ?_; intro w2 hown hgr; have hb2:Below w.heap.size w w2:=(Below.refl _ _).grown hgr (by simp) (by simp))
 rw[aM4] at hown
 go_loopw [11] (fun v wr=>∃ i:Nat,i<=fn/\v=.int .i64 i/\Row wr w.heap.size w.heap.size fn (fun k=>if k<i then (l.getD k Ent.zero).root else 0)/\Below w.heap.size w wr) (fun v _=>fn-(Go.RowKit.intOf v).toNat)
 case atStart=>exact⟨0,Nat.zero_le _,rfl,Row.congr (f:=fun _=>0) hown (fun k _=>by simp),hb2⟩
 case round=>
  clear hown hgr hb2
  obtain⟨i,hin,rfl,hrow,hbel⟩:=hrel
  by_cases hlt:i<fn
  ·have hE':=hE.out.below hbel
   obtain⟨eb,off,rfl⟩:∃ b off,fa=some ⟨b,off,none⟩:=by
    obtain⟨b,off,e,_⟩:=hE'.2.2 (by omega)
    exact⟨b,off,e⟩
   have hA:=hE'.ent hlt
   have c0:=hA.c0
   have c1:=hA.c1
   have c2:=hA.c2
   clear hA hE'
   generalize hx:l.getD i Ent.zero=x at *
   replace hx:=hid hx
   have r0:=hrow.cell hlt
   have r1:=hrow.frozen i
   have hlt1:=hrow.lt.2
   have b1:=aA (wr.setCell ⟨w.heap.size,i,none⟩ (.int .i64 x.root)) (.cells #[.string x.name,.int .i64 x.root,.int .i64 x.size] 106)
   have hrow2:Hid (Row _ w.heap.size w.heap.size fn _):=hid (bY (hrow.set i x.root) b1)
   have hbel2:=hid (Below.tr (hbel.trans ((Kept.setCell (g:=w.heap.size) (Kept.refl _ wr) (p:=⟨w.heap.size,i,none⟩) rfl (.int .i64 x.root)).below (Nat.le_refl _))) b1)
   clear hrow b1
   go_wp2_with fail
   clear c0 c1 c2 r0 r1
   go_roundw
   case rel=>
    refine⟨i+1,by omega,by go_num,hrow2.out.congr (fun k hk=>?_),hbel2.out⟩
    by_cases e:k=i
    ·subst e
     show (if k=k then x.root else _)=if k<k+1 then (l.getD k Ent.zero).root else 0
     rw[if_pos rfl,if_pos (by omega),hx.out]
    ·by_cases e2:k<i
     ·simp[e,e2,show k<i+1 by omega]
     ·simp[e,e2,show ¬k<i+1 by omega]
   case measure=>simp[Go.RowKit.intOf]; omega
  ·obtain rfl:i=fn:=by omega
   have hfin:wr.ownsRow w.heap.size 3 1 (.slice (some ⟨w.heap.size,0,none⟩) i i) i ((aT l).map (Value.int .i64)):=by
    have e:(aT l).map (Value.int .i64)=(List.range i).map fun k=>Value.int .i64 (if k<i then (l.getD k Ent.zero).root else 0):=by
     apply List.ext_getElem
     ·simp[aT,hl.out]
     ·intro k h1 h2
      have hk:k<l.length:=by simpa [aT] using h1
      have hki:k<i:=by rw[<-hl.out]; exact hk
      simp[aT,List.getD,hk,hki]
    rw[e]
    exact hrow
   replace hfin:=hid hfin
   clear hrow
   go_wp2_with fail
   go_ret
   exact⟨hbel,rfl,hfin.out⟩
theorem bO4 {l:List Ent}(h:∀ x∈l,x.ok):∀ r∈aT l,(Lit.int .i64 r).wf=true:=fun r hr=>by
 obtain⟨f,hf,rfl⟩:=bV.1 hr
 exact WalkArith.wf_i64 (h f hf).2.1
theorem aT3 {l:List bD}{j:Nat}{x:bD}(hx:l[j]? =some x):dR (l.take (j+1))=dR (l.take j)++aT x.files:=by
 rw[eF hx,iL]
 simp[dR]
def cG1 (base:Nat)(e:Ending)(w:World)(R:List Int):Prop:=∃ a c,e=.returned (.slice a R.length c)/\w.ownsRow base 3 1 (.slice a R.length c) R.length (R.map (Value.int .i64))/\∀ r∈R,(Lit.int .i64 r).wf=true
theorem wR (Q:Nat->Prop)(v:cB)(x:aK)(w:World)(hX:dK Q w v x)(h6:x.files.length<=6)(h3:x.snaps.length<=3)(hs6:∀ s∈x.snaps,s.files.length<=6):
 Calls Tryz.prog 84 #[v.val] w fun e w'=>cG1 w.heap.size e w' (aG x)/\Below w.heap.size w w':=by
 obtain⟨i0,hi,hz0,hz1,hz2⟩:=info_parts Tryz.infoInt
 obtain⟨vn,fa,fn,fc,sa,sn,sc⟩:=v
 obtain⟨hnm,hsm,hFi,hSn,hcap⟩:=hX
 simp only at hnm hFi hSn
 subst hnm
 unfold cB.val
 simp only
 have b0:=aA w (.cells #[.string x.name,.slice fa fn fc,.slice sa sn sc] 84)
 have k1:aC _ w.heap.size #[.string x.name,.slice fa fn fc,.slice sa sn sc] 84:=aB w _ _
 have hfl:=hid hFi.1
 have hsl:=hid hSn.1
 have hwf:=hid (bO4 hFi.2.1)
 replace hFi:=hid (hFi.below b0)
 replace hSn:=hid (hSn.below b0)
 replace k1:=hid k1
 have hfn:fn<=6:=by rw[<-hFi.out.1]; exact h6
 have hsn:sn<=3:=by rw[<-hSn.out.1]; exact h3
 replace hs6:=hid hs6
 clear hcap h6 h3
 go_enter Tryz.func84,Tryz.ntmps84
 go_wp2_with fail
 generalize w.alloc (.cells #[.string x.name,.slice fa fn fc,.slice sa sn sc] 84)=w0 at *
 refine(wT Q fa fn fc x.files w0 (by omega) hFi.out).mono ?_
 rintro e w1 ⟨b1,rfl,ho⟩
 have x2:=(b1.cell (p:=⟨w.heap.size,2,none⟩) k1.out.lt).trans (k1.out.cell 2)
 simp at x2
 replace ho:=hid ho
 clear hFi
 go_wp2_with fail
 clear x2
 go_loopw [3,12] (fun u v wr=>∃ (j k:Nat) (xs:List Int),j<=sn/\v=.int .i64 j/\Below w0.heap.size w0 wr/\k<=fn+j*6/\xs=aT x.files++dR (x.snaps.take j)/\xs.length=k/\(∃ a c,u=.slice a k c)/\wr.ownsRow w0.heap.size 3 1 u k (xs.map (Value.int .i64))/\∀ r∈xs,(Lit.int .i64 r).wf=true) (fun _ v _=>sn-(Go.RowKit.intOf v).toNat)
 case atStart=>exact⟨0,fn,aT x.files,Nat.zero_le _,rfl,b1,by omega,by simp[dR],by simp[aT,hfl.out],⟨_,_,rfl⟩,ho.out,hwf.out⟩
 case round=>
  clear ho b1
  obtain⟨j,k,xs,hj,rfl,hb,hk,hxs,hxl,⟨ua,uc,rfl⟩,hown,hw⟩:=hrel
  replace hxs:=hid hxs
  replace hxl:=hid hxl
  replace hw:=hid hw
  by_cases hlt:j<sn
  ·have hjl:j<x.snaps.length:=by rw[hsl.out]; exact hlt
   have hE':=hSn.out.below hb
   obtain⟨eb,off,rfl⟩:∃ b off,sa=some ⟨b,off,none⟩:=by
    obtain⟨b,off,e,_⟩:=hE'.2 (by omega)
    exact⟨b,off,e⟩
   have hx:x.snaps[j]? =some (x.snaps.getD j bD.zero):=by rw[List.getElem?_eq_getElem hjl]; simp[List.getD,hjl]
   obtain⟨ga,gn,gc,hA⟩:=hE'.snap hlt
   have c0:=hA.c0
   have c1:=hA.c1
   have hGf:=hA.files
   have hg6:gn<=6:=by rw[<-hGf.1]; exact hs6.out _ (List.mem_of_getElem? hx)
   have hgw:=hid (bO4 hGf.2.1)
   have hgl:=hid hGf.1
   replace hx:=hid hx
   clear hA hE' hjl
   generalize x.snaps.getD j bD.zero=y at *
   replace hown:=hid hown
   replace hGf:=hid hGf
   go_wp2_with fail
   have ba:=aA wr (.cells #[.string y.name,.slice ga gn gc] 113)
   clear c0 c1
   replace hGf:=hGf.out.below ba
   replace hown:=bY hown.out ba
   replace hb:=Below.tr hb ba
   clear ba
   generalize wr.alloc (.cells #[.string y.name,.slice ga gn gc] 113)=w5 at *
   refine(wT Q ga gn gc y.files w5 (by omega) hGf).mono ?_
   rintro e w6 ⟨b6,rfl,ho6⟩
   have hown6:=hid (bY hown b6)
   have hsrc:Hid (∀ j u,((aT y.files).map (Value.int .i64))[j]? =some u->w6.cell? ((⟨w5.heap.size,0,none⟩:Addr).add j)=some u):=hid (ho6.cells rfl)
   have hb6:Hid (w0.heap.size<=w6.heap.size):=hid (Nat.le_trans hb.size b6.size)
   replace hb:=Below.tr hb b6
   have hnl:Hid (((aT y.files).map (Value.int .i64)).length=gn*1):=hid (by simp[aT,hgl.out])
   clear hown b6 ho6 hGf
   go_wp2_with (at_builtin; refine wpList_append_own _ rfl _ _ 36 rfl w0.heap.size 3 i0 (.int .i64 0) 1 8 Tryz.underlying36 hi hz0 hz1 hz2 rfl (by decide) _ _ _ rfl hown6.out ⟨w5.heap.size,0,none⟩ gn gn ((aT y.files).map (Value.int .i64)) rfl hnl.out hsrc.out (by intro u hu; simp at hu; obtain⟨_,_,rfl⟩:=hu; rfl) (by unfold maxLen; omega) (by omega) hb6.out ?_)
   intro v' w7 hown7 hgrow hnil
   have b7:Below w0.heap.size w0 w7:=hb.grown hgrow hb6.out (fun i hi=>(hown6.out.lt i hi).1)
   rw[<-List.map_append] at hown7
   obtain⟨a', c', rfl⟩:∃ a' c', v'=.slice a' (k+gn) c':=by
    rcases hown7.2 with⟨hv,h0⟩ | ⟨g,cap,cur,hv,_⟩
    ·exact⟨none,0,by rw[hv,h0]⟩
    ·exact⟨_,_,hv⟩
   have hw7:∀ r∈xs++aT y.files,(Lit.int .i64 r).wf=true:=fun r hr=>by
    rcases List.mem_append.1 hr with h | h
    ·exact hw.out r h
    ·exact hgw.out r h
   have hl7:(xs++aT y.files).length=k+gn:=by rw[List.length_append,hxl.out]; simp[aT,hgl.out]
   have hx7:xs++aT y.files=aT x.files++dR (x.snaps.take (j+1)):=by rw[hxs.out,aT3 hx.out,List.append_assoc]
   replace hown7:=hid hown7
   replace hw7:=hid hw7
   replace hl7:=hid hl7
   replace hx7:=hid hx7
   clear hown6 hgrow hnil hsrc hnl hb
   go_wp2_with fail
   go_roundw
   case rel=>exact⟨j+1,k+gn,xs++aT y.files,by omega,by go_num,b7,by omega,hx7.out,hl7.out,⟨_,_,rfl⟩,hown7.out,hw7.out⟩
   case measure=>simp[Go.RowKit.intOf]; omega
  ·obtain rfl:j=sn:=by omega
   have e1:x.snaps.take j=x.snaps:=List.take_of_length_le (by rw[hsl.out]; exact Nat.le_refl _)
   have hxs':Hid (xs=aG x):=hid (by rw[hxs.out,e1]; rfl)
   have J:Hid (cG1 w.heap.size (.returned (.slice ua k uc)) wr (aG x)):=hid (by
    rw[<-hxs'.out]
    exact⟨ua,uc,by rw[hxl.out],by rw[hxl.out]; exact dE b0.size hown,hw.out⟩)
   clear hown
   go_wp2_with fail
   go_ret
   exact⟨J.out,Below.tr b0 hb⟩
theorem zY:∀ l:List bD,(∀ s∈l,s.files.length<=6)->(dR l).length<=l.length*6
 | [],_=>by simp[dR]
 | s::l,hl=>by
   have e:dR (s::l)=aT s.files++dR l:=rfl
   rw[e,List.length_append,List.length_cons]
   have h3:=hl s (by simp)
   have h4:=zY l (fun t ht=>hl t (by simp[ht]))
   have h5:(aT s.files).length=s.files.length:=by simp[aT]
   omega
theorem wN {x:aK}(h:Shape x):(aG x).length<=24:=by
 unfold aG
 rw[List.length_append]
 have h1:(aT x.files).length<=6:=by unfold aT; rw[List.length_map]; exact h.few
 have h6:=zY x.snaps (fun s hs=>(h.filesS s hs).1)
 have:=h.fewS
 omega
theorem bG1 {n:Nat}{B:Nat->Blk}{key:Int}{x:aK}(h:aV n B key x):(aG x).length<=24:=wN h.shape
theorem jY {R:List Int}{j:Nat}{r:Int}(hr:R[j]? =some r)(k:Int):(R.take (j+1)).count k=(R.take j).count k+if r=k then 1 else 0:=by
 rw[eF hr,List.count_append]
 by_cases e:r=k
 ·subst e; simp
 ·rw[List.count_cons_of_ne e]; simp[e]
theorem aH3 (R:List Int)(j:Nat)(k:Int):(R.take j).count k<=R.count k:=(List.take_sublist j R).count_le k
theorem bT6 (Q:Nat->Prop)(a:Option Addr)(n c:Nat)(B:Nat->Blk)(key:Int)(v:cB)(x:aK)(w:World)(h:aN w a n B)(hX:dK Q w v x)(hok:aV n B key x):
 Calls Tryz.prog 116 #[.agg #[.slice a n c],v.val] w fun e w'=>(aY1 e (dY n B (aG x))/\(e=.returned (.int .i64 0)\/e=.returned (.int .i64 7)))/\Below w.heap.size w w':=by
 have hbd:=hid hok.rootBd
 have hR:=hid hok.right
 have hn:=hok.right.small
 have h24:=bG1 hok
 have hc6:=hid (show x.files.length<=6/\x.snaps.length<=3/\∀ s∈x.snaps,s.files.length<=6 from⟨hok.files.few,hok.fewS,fun s hs=>(hok.filesS s hs).few⟩)
 clear hok
 obtain⟨vn,fa,fn,fc,sa,sn,sc⟩:=v
 have hnm:=hX.name
 simp only at hnm
 subst hnm
 unfold cB.val
 simp only
 have b0:=aW w (.cells #[.slice a n c] 24) (.cells #[.string x.name,.slice fa fn fc,.slice sa sn sc] 84)
 have k0:aC _ w.heap.size #[.slice a n c] 24:=(aB w _ _).below (aA _ (.cells #[.string x.name,.slice fa fn fc,.slice sa sn sc] 84))
 have k1:=aF w (.cells #[.slice a n c] 24) #[.string x.name,.slice fa fn fc,.slice sa sn sc] 84
 replace h:=hid (h.below b0)
 replace hX:=hid (hX.below b0)
 replace k0:=hid k0
 replace k1:=hid k1
 go_enter Tryz.func116,Tryz.ntmps116
 go_wp2_with fail
 generalize (w.alloc (.cells #[.slice a n c] 24)).alloc (.cells #[.string x.name,.slice fa fn fc,.slice sa sn sc] 84)=w0 at *
 have s0:=k0.out.cell 0
 simp at s0
 refine(xE ⟨w.heap.size,0,none⟩ a n c B w0 ⟨k0.out.lt,s0,h.out⟩).mono ?_
 rintro e w1 ⟨b1,⟨e', rfl,he,hno⟩ | ⟨_,g,rfl,hrow⟩⟩
 ·exact absurd hR.out hno
 have x0:=(b1.cell (p:=⟨w.heap.size+1,0,none⟩) k1.out.lt).trans (k1.out.cell 0)
 have x1:=(b1.cell (p:=⟨w.heap.size+1,1,none⟩) k1.out.lt).trans (k1.out.cell 1)
 have x2:=(b1.cell (p:=⟨w.heap.size+1,2,none⟩) k1.out.lt).trans (k1.out.cell 2)
 simp at x0 x1 x2
 have hglt:=hrow.lt
 replace hrow:=hid hrow
 clear s0
 go_wp2_with fail
 refine(wR Q ⟨x.name,fa,fn,fc,sa,sn,sc⟩ x w1 (hX.out.below b1) hc6.out.1 hc6.out.2.1 hc6.out.2.2).mono ?_
 rintro e w2 ⟨⟨ra,rc,rfl,hro,hrw⟩,b2⟩
 obtain⟨ra', rc', hv,hrc,hN⟩:=gH hrw hro
 simp only[Value.slice.injEq,true_and] at hv
 obtain⟨rfl,rfl⟩:=hv
 have hrow2:Row w2 w0.heap.size g n (outs n B):=bY hrow.out b2
 replace hrow2:=hid hrow2
 replace hN:=hid hN
 have hb2:=hid (Below.tr b1 b2)
 clear hrow hro b1 b2 x0 x1 x2 hrw hX h k0 k1
 obtain⟨rn,hrn⟩:∃ rn,rn=(aG x).length:=⟨_,rfl⟩
 rw[<-hrn] at hN h24
 simp only[<-hrn]
 have hrn':=hid hrn.symm
 clear hrn
 generalize hRR:aG x=R at *
 go_wp2_with fail
 go_loopw [19] (fun v wr=>∃ j:Nat,j<=rn/\v=.int .i64 j/\Kept g w2 wr/\Row wr w0.heap.size g n (fun k=>outs n B k-((R.take j).count ((k:Int)+1):Int))/\∀ k,k<n->((R.take j).count ((k:Int)+1):Int)<=outs n B k) (fun v _=>rn-(Go.RowKit.intOf v).toNat)
 case atStart=>exact⟨0,Nat.zero_le _,rfl,Kept.refl _ _,hrow2.out.congr (fun k _=>by simp),fun k hk=>by simp; have:=hR.out.held k hk; simp at this; unfold outs; omega⟩
 case round=>
  clear hrow2
  obtain⟨j,hj,rfl,hkp,hrow,hle⟩:=hrel
  replace hle:=hid hle
  by_cases hlt:j<rn
  ·have hjl:j<R.length:=by rw[hrn'.out]; exact hlt
   obtain⟨kb,ko,rfl,hkb,hgk,hcc⟩:=hN.out.2.2 (by omega)
   have hck:wr.cell? ⟨kb,ko+j,none⟩=some (.int .i64 (R.getD j 0)):=(hkp.cell (p:=⟨kb,ko+j,none⟩) (by simp; omega)).trans (hcc j hlt)
   have hx:R[j]? =some (R.getD j 0):=by rw[List.getElem?_eq_getElem hjl]; simp[List.getD,hjl]
   have hmem:=hbd.out _ (List.mem_of_getElem? hx)
   replace hx:=hid hx
   clear hcc hjl
   generalize R.getD j 0=r at *
   by_cases h0:r=0
   ·subst h0
    have hrow':Hid (Row wr w0.heap.size g n (fun k=>outs n B k-((R.take (j+1)).count ((k:Int)+1):Int))):=hid (hrow.congr (fun k hk=>by rw[jY hx.out,if_neg (by omega)]; simp))
    have hle':Hid (∀ k,k<n->((R.take (j+1)).count ((k:Int)+1):Int)<=outs n B k):=hid (fun k hk=>by have:=hle.out k hk; rw[jY hx.out,if_neg (by omega)]; simpa using this)
    clear hrow
    go_wp2_with fail
    go_roundw
    case rel=>exact⟨j+1,by omega,by go_num,hkp,hrow'.out,hle'.out⟩
    case measure=>simp[Go.RowKit.intOf]; omega
   ·obtain⟨m,rfl⟩:∃ m:Nat,r=(m:Int)+1:=⟨(r-1).toNat,by omega⟩
    have hmn:m<n:=by omega
    have hr1:¬((m:Int)+1<1):=by omega
    have hr2:¬((n:Int)<(m:Int)+1):=by omega
    have r0:=hrow.cell hmn
    have r1:=hrow.frozen m
    have hle0:=hle.out m hmn
    have hbb:=(hR.out.one m hmn).bounds
    have hob:outs n B m<=1000000:=by unfold outs; omega
    have hrow':Hid (Row (wr.setCell ⟨g,m,none⟩ (.int .i64 (outs n B m-((R.take j).count ((m:Int)+1):Int)-1))) w0.heap.size g n (fun k=>outs n B k-((R.take (j+1)).count ((k:Int)+1):Int))):=hid ((hrow.set m _).congr (fun k hk=>by
     rw[jY hx.out]
     by_cases e:k=m
     ·subst e; simp; omega
     ·rw[if_neg e,if_neg (by omega)]; simp))
    have hkp':Hid (Kept g w2 (wr.setCell ⟨g,m,none⟩ (.int .i64 (outs n B m-((R.take j).count ((m:Int)+1):Int)-1)))):=hid (hkp.trans (Kept.setCell (g:=g) (Kept.refl _ _) (p:=⟨g,m,none⟩) rfl _))
    have hcn:Hid (((R.take (j+1)).count ((m:Int)+1):Int)=((R.take j).count ((m:Int)+1):Int)+1):=hid (by rw[jY hx.out,if_pos rfl]; simp)
    have hcq:Hid (∀ k:Nat,k≠m->(R.take (j+1)).count ((k:Int)+1)=(R.take j).count ((k:Int)+1)):=hid (fun k hk=>by rw[jY hx.out,if_neg (by omega)]; rfl)
    clear hrow hbb
    generalize hd:outs n B m-((R.take j).count ((m:Int)+1):Int)=d at *
    replace hd:=hid hd
    have hd0:(0:Int)<=d:=by rw[<-hd.out]; omega
    have hd1:d<=1000000:=by rw[<-hd.out]; omega
    by_cases hneg:d-1<0
    ·have hneg':decide (d-1<0)=true:=by simp[hneg]
     go_wp2_with fail
     go_ret
     refine⟨⟨aE2 7 (by omega) (fun f=>?_),.inr rfl⟩,Below.tr b0 (hb2.out.trans (hkp'.out.below (by omega)))⟩
     have h1:=f m hmn
     have h2:=aH3 R (j+1) ((m:Int)+1)
     have h3:=hcn.out
     have h4:=hd.out
     omega
    ·have hneg':decide (d-1<0)=false:=by simp[hneg]
     have hle':Hid (∀ k,k<n->((R.take (j+1)).count ((k:Int)+1):Int)<=outs n B k):=hid (fun k hk=>by
      by_cases e:k=m
      ·subst e; have h3:=hcn.out; have h4:=hd.out; omega
      ·rw[hcq.out k e]; exact hle.out k hk)
     go_wp2_with fail
     go_roundw
     case rel=>exact⟨j+1,by omega,by go_num,hkp'.out,hrow'.out,hle'.out⟩
     case measure=>simp[Go.RowKit.intOf]; omega
  ·obtain rfl:j=rn:=by omega
   have e1:R.take j=R:=List.take_of_length_le (by rw[hrn'.out]; exact Nat.le_refl _)
   have hfin:Hid (dY n B R):=hid (fun k hk=>by have:=hle.out k hk; rwa [e1] at this)
   clear hrow e1
   go_wp2_with fail
   go_ret
   exact⟨⟨bA4 (hRR▸hfin.out),.inl rfl⟩,Below.tr b0 (hb2.out.trans (hkp.below (by omega)))⟩
theorem cC7 (Q:Nat->Prop)(a:Option Addr)(n c:Nat)(B:Nat->Blk)(key:Int)(v:cB)(x:aK)(w:World)(h:aN w a n B)(hX:dK Q w v x)(hok:aV n B key x):
 Calls Tryz.prog 116 #[.agg #[.slice a n c],v.val] w fun e w'=>aY1 e (dY n B (aG x))/\Below w.heap.size w w':=
 (bT6 Q a n c B key v x w h hX hok).mono (fun _ _ h=>⟨h.1.1,h.2⟩)
theorem nG (Q:Nat->Prop)(a:Option Addr)(n c:Nat)(B:Nat->Blk)(key:Int)(v:cB)(x:aK)(w:World)(h:aN w a n B)(hX:dK Q w v x):
 Calls Tryz.prog 94 #[.agg #[.slice a n c],.int .i64 key,v.val] w fun e w'=>aY1 e (aV n B key x/\dY n B (aG x))/\Below w.heap.size w w':=by
 obtain⟨vn,fa,fn,fc,sa,sn,sc⟩:=v
 have hnm:=hX.name
 simp only at hnm
 subst hnm
 unfold cB.val
 simp only
 have b0:=aW w (.cells #[.slice a n c] 24) (.cells #[.string x.name,.slice fa fn fc,.slice sa sn sc] 84)
 have k0:aC _ w.heap.size #[.slice a n c] 24:=(aB w _ _).below (aA _ (.cells #[.string x.name,.slice fa fn fc,.slice sa sn sc] 84))
 have k1:=aF w (.cells #[.slice a n c] 24) #[.string x.name,.slice fa fn fc,.slice sa sn sc] 84
 replace h:=hid (h.below b0)
 replace hX:=hid (hX.below b0)
 replace k0:=hid k0
 replace k1:=hid k1
 go_enter Tryz.func94,Tryz.ntmps94
 go_wp2_with fail
 generalize (w.alloc (.cells #[.slice a n c] 24)).alloc (.cells #[.string x.name,.slice fa fn fc,.slice sa sn sc] 84)=w0 at *
 refine(uH Q a n c B key ⟨x.name,fa,fn,fc,sa,sn,sc⟩ x w0 h.out hX.out).mono ?_
 rintro e w1 ⟨⟨e', rfl,he⟩,b1⟩
 replace he:=hid he
 have s0:=(b1.cell (p:=⟨w.heap.size,0,none⟩) k0.out.lt).trans (k0.out.cell 0)
 have x0:=(b1.cell (p:=⟨w.heap.size+1,0,none⟩) k1.out.lt).trans (k1.out.cell 0)
 have x1:=(b1.cell (p:=⟨w.heap.size+1,1,none⟩) k1.out.lt).trans (k1.out.cell 1)
 have x2:=(b1.cell (p:=⟨w.heap.size+1,2,none⟩) k1.out.lt).trans (k1.out.cell 2)
 simp at s0 x0 x1 x2
 by_cases h0:e'=0
 ·have h0':(e' == 0)=true:=by simp[h0]
  have hok:=hid (he.out.1 h0)
  go_wp2_with fail
  refine(cC7 Q a n c B key ⟨x.name,fa,fn,fc,sa,sn,sc⟩ x w1 (h.out.below b1) (hX.out.below b1) hok.out).mono ?_
  rintro e w2 ⟨⟨e2,rfl,he2⟩,b2⟩
  replace he2:=hid he2
  replace b1:=Below.tr (Below.tr b0 b1) b2
  clear s0 x0 x1 x2 b2
  go_wp2_with fail
  go_ret
  exact⟨⟨e2,rfl,fun f=>⟨hok.out,he2.out.1 f⟩,fun f=>he2.out.2 f.2⟩,b1⟩
 ·have h0':(e' == 0)=false:=by simp[h0]
  go_wp2_with fail
  go_ret
  exact⟨aE2 e' h0 (fun f=>h0 (he.out.2 f.1)),Below.tr b0 b1⟩
def aK.zero:aK:=⟨ByteArray.empty,[],[]⟩
instance : Inhabited aK:=⟨aK.zero⟩
def aK.nm (x:aK):List UInt8:=x.name.data.toList
structure aI0 (Q:Nat->Prop)(w:World)(b off:Nat)(x:aK)(v:cB):Prop where
 c0:w.cell? ⟨b,off,none⟩=some (.string v.name)
 c1:w.cell? ⟨b,off+1,none⟩=some (.slice v.fa v.fn v.fc)
 c2:w.cell? ⟨b,off+2,none⟩=some (.slice v.sa v.sn v.sc)
 ok:dK Q w v x
theorem aI0.below {Q:Nat->Prop}{w w':World}{b off:Nat}{x:aK}{v:cB}(h:aI0 Q w b off x v)(hb:Below w.heap.size w w'):aI0 Q w' b off x v:=by
 have hlt:=fC h.c0
 exact⟨(hb.cell (p:=⟨b,off,none⟩) hlt).trans h.c0,(hb.cell (p:=⟨b,off+1,none⟩) hlt).trans h.c1,(hb.cell (p:=⟨b,off+2,none⟩) hlt).trans h.c2,h.ok.below hb⟩
theorem aI0.weaken {Q R:Nat->Prop}{w:World}{b off:Nat}{x:aK}{v:cB}(h:aI0 Q w b off x v)(hq:∀ b,b<w.heap.size->Q b->R b):aI0 R w b off x v:=⟨h.c0,h.c1,h.c2,h.ok.weaken hq⟩
def fP (Q:Nat->Prop)(w:World)(a:Option Addr)(n:Nat)(l:List aK):Prop:=
 l.length=n/\(0<n->∃ b off,a=some ⟨b,off,none⟩/\b<w.heap.size/\Q b/\∀ i,i<n->∃ v,aI0 Q w b (off+i*3) (l.getD i aK.zero) v)
theorem sM (Q:Nat->Prop)(w:World)(a:Option Addr):fP Q w a 0 []:=⟨rfl,fun h=>absurd h (by omega)⟩
theorem fP.below {Q:Nat->Prop}{w w':World}{a:Option Addr}{n:Nat}{l:List aK}(h:fP Q w a n l)(hb:Below w.heap.size w w'):fP Q w' a n l:=by
 refine⟨h.1,fun hn=>?_⟩
 obtain⟨b,off,rfl,hlt,hq,hc⟩:=h.2 hn
 refine⟨b,off,rfl,Nat.lt_of_lt_of_le hlt hb.size,hq,fun i hi=>?_⟩
 obtain⟨v,hs⟩:=hc i hi
 exact⟨v,hs.below hb⟩
theorem fP.weaken {Q R:Nat->Prop}{w:World}{a:Option Addr}{n:Nat}{l:List aK}(h:fP Q w a n l)(hq:∀ b,b<w.heap.size->Q b->R b):fP R w a n l:=by
 refine⟨h.1,fun hn=>?_⟩
 obtain⟨b,off,rfl,hlt,q,hc⟩:=h.2 hn
 refine⟨b,off,rfl,hlt,hq b hlt q,fun i hi=>?_⟩
 obtain⟨v,hs⟩:=hc i hi
 exact⟨v,hs.weaken hq⟩
theorem fP.set {Q:Nat->Prop}{w:World}{b off n:Nat}{l:List aK}(h:fP Q w (some ⟨b,off,none⟩) n l){i:Nat}(hi:i<n):∃ v,aI0 Q w b (off+i*3) (l.getD i aK.zero) v:=by
 obtain⟨b', off', e,_,_,hc⟩:=h.2 (by omega)
 simp only[Option.some.injEq,Addr.mk.injEq,and_true] at e
 obtain⟨rfl,rfl⟩:=e
 exact hc i hi
structure aO where
 key:Int
 quota:Int
 sets:List aK
def aO.zero:aO:=⟨0,0,[]⟩
instance : Inhabited aO:=⟨aO.zero⟩
def aO.val (t:aO)(sa:Option Addr)(sn sc:Nat):Value:=.agg #[.int .i64 t.key,.int .i64 t.quota,.slice sa sn sc]
structure sI (Q:Nat->Prop)(w:World)(t:aO)(sa:Option Addr)(sn sc:Nat):Prop where
 sets:fP Q w sa sn t.sets
 kb:-9223372036854775808<=t.key/\t.key<=9223372036854775807
 qb:-9223372036854775808<=t.quota/\t.quota<=9223372036854775807
 caps:sn<=sc
theorem sI.below {Q:Nat->Prop}{w w':World}{t:aO}{sa:Option Addr}{sn sc:Nat}(h:sI Q w t sa sn sc)(hb:Below w.heap.size w w'):sI Q w' t sa sn sc:=⟨h.sets.below hb,h.kb,h.qb,h.caps⟩
theorem sI.weaken {Q R:Nat->Prop}{w:World}{t:aO}{sa:Option Addr}{sn sc:Nat}(h:sI Q w t sa sn sc)(hq:∀ b,b<w.heap.size->Q b->R b):sI R w t sa sn sc:=⟨h.sets.weaken hq,h.kb,h.qb,h.caps⟩
structure aQ5 (Q:Nat->Prop)(w:World)(b off:Nat)(t:aO)(sa:Option Addr)(sn sc:Nat):Prop where
 c0:w.cell? ⟨b,off,none⟩=some (.int .i64 t.key)
 c1:w.cell? ⟨b,off+1,none⟩=some (.int .i64 t.quota)
 c2:w.cell? ⟨b,off+2,none⟩=some (.slice sa sn sc)
 ok:sI Q w t sa sn sc
theorem aQ5.below {Q:Nat->Prop}{w w':World}{b off:Nat}{t:aO}{sa:Option Addr}{sn sc:Nat}(h:aQ5 Q w b off t sa sn sc)(hb:Below w.heap.size w w'):aQ5 Q w' b off t sa sn sc:=by
 have hlt:=fC h.c0
 exact⟨(hb.cell (p:=⟨b,off,none⟩) hlt).trans h.c0,(hb.cell (p:=⟨b,off+1,none⟩) hlt).trans h.c1,(hb.cell (p:=⟨b,off+2,none⟩) hlt).trans h.c2,h.ok.below hb⟩
theorem aQ5.weaken {Q R:Nat->Prop}{w:World}{b off:Nat}{t:aO}{sa:Option Addr}{sn sc:Nat}(h:aQ5 Q w b off t sa sn sc)(hq:∀ b,b<w.heap.size->Q b->R b):aQ5 R w b off t sa sn sc:=⟨h.c0,h.c1,h.c2,h.ok.weaken hq⟩
def gU (Q:Nat->Prop)(w:World)(a:Option Addr)(n:Nat)(l:List aO):Prop:=
 l.length=n/\(0<n->∃ b off,a=some ⟨b,off,none⟩/\b<w.heap.size/\Q b/\∀ i,i<n->∃ sa sn sc,aQ5 Q w b (off+i*3) (l.getD i aO.zero) sa sn sc)
theorem bF0 (Q:Nat->Prop)(w:World)(a:Option Addr):gU Q w a 0 []:=⟨rfl,fun h=>absurd h (by omega)⟩
theorem gU.below {Q:Nat->Prop}{w w':World}{a:Option Addr}{n:Nat}{l:List aO}(h:gU Q w a n l)(hb:Below w.heap.size w w'):gU Q w' a n l:=by
 refine⟨h.1,fun hn=>?_⟩
 obtain⟨b,off,rfl,hlt,hq,hc⟩:=h.2 hn
 refine⟨b,off,rfl,Nat.lt_of_lt_of_le hlt hb.size,hq,fun i hi=>?_⟩
 obtain⟨sa,sn,sc,hs⟩:=hc i hi
 exact⟨sa,sn,sc,hs.below hb⟩
theorem gU.weaken {Q R:Nat->Prop}{w:World}{a:Option Addr}{n:Nat}{l:List aO}(h:gU Q w a n l)(hq:∀ b,b<w.heap.size->Q b->R b):gU R w a n l:=by
 refine⟨h.1,fun hn=>?_⟩
 obtain⟨b,off,rfl,hlt,q,hc⟩:=h.2 hn
 refine⟨b,off,rfl,hlt,hq b hlt q,fun i hi=>?_⟩
 obtain⟨sa,sn,sc,hs⟩:=hc i hi
 exact⟨sa,sn,sc,hs.weaken hq⟩
theorem gU.ten {Q:Nat->Prop}{w:World}{b off n:Nat}{l:List aO}(h:gU Q w (some ⟨b,off,none⟩) n l){i:Nat}(hi:i<n):∃ sa sn sc,aQ5 Q w b (off+i*3) (l.getD i aO.zero) sa sn sc:=by
 obtain⟨b', off', e,_,_,hc⟩:=h.2 (by omega)
 simp only[Option.some.injEq,Addr.mk.injEq,and_true] at e
 obtain⟨rfl,rfl⟩:=e
 exact hc i hi
def cZ (l:List aK):List Int:=l.flatMap aG
def aL (t:aO):List Int:=cZ t.sets
def gM (l:List aO):List Int:=l.flatMap aL
structure jK (n:Nat)(B:Nat->Blk)(t:aO):Prop where
 kb:0<=t.key/\t.key<=1000
 qb:0<=t.quota/\t.quota<=400
 few:t.sets.length<=3
 sets:∀ x∈t.sets,aV n B t.key x
 order:t.sets.Pairwise fun a b=>a.nm<b.nm
def qU (B:Nat->Blk)(R:List Int)(m:Int):Prop:=∃ L:List Int,jH L/\(∀ x,x∈L↔Clo B R x)/\(L.length:Int)=m
def nK (l:List aO):Int:=(l.map (·.quota)).sum
structure aQ (n:Nat)(B:Nat->Blk)(l:List aO):Prop where
 right:Right n B
 few:l.length<=3
 tens:∀ t∈l,jK n B t
 room:0<l.length->nK l+90<=n
 uses:∀ t∈l,∃ m,qU B (aL t) m/\m<=t.quota
 apart:l.Pairwise fun t u=>∀ x,Clo B (aL t) x->¬Clo B (aL u) x
 held:∀ k,k<n->outs n B k=((gM l).count ((k:Int)+1):Int)
theorem aT5 {l:List aK}{j:Nat}{x:aK}(hx:l[j]? =some x):cZ (l.take (j+1))=cZ (l.take j)++aG x:=by
 unfold cZ
 rw[eF hx,List.flatMap_append]
 simp
theorem jK.rootBd {n:Nat}{B:Nat->Blk}{t:aO}(h:jK n B t):∀ r∈aL t,r=0\/(1<=r/\r<=n):=fun r hr=>by
 obtain⟨x,hx,hr⟩:=List.mem_flatMap.1 hr
 exact(h.sets x hx).rootBd r hr
theorem zZ:∀ (l:List aK),(∀ x∈l,Shape x)->(cZ l).length<=l.length*24
 | [],_=>by simp[cZ]
 | x::l,h=>by
   have h1:=wN (h x (by simp))
   have h2:=zZ l (fun y hy=>h y (by simp[hy]))
   simp only[cZ,List.flatMap_cons,List.length_append,List.length_cons] at *
   omega
theorem jK.shapes {n:Nat}{B:Nat->Blk}{t:aO}(h:jK n B t):∀ x∈t.sets,Shape x:=fun x hx=>(h.sets x hx).shape
theorem sN {n:Nat}{B:Nat->Blk}{t:aO}(h:jK n B t):(aL t).length<=72:=by
 have h1:=zZ t.sets h.shapes
 have:=h.few
 unfold aL
 omega
theorem zF (w:World)(base:Nat)(ty:TypeId)(v:Value)(k:Nat)(xs:List Value)(hv:w.ownsRow base 3 1 v k xs)(xa:Option Addr)(m c:Nat)(ys:List Int)(hN:aI (fun _=>True) .i64 w xa m ys)
 (hx:xa=none->m=0/\c=0) (hbase:base<=w.heap.size) (hk:k<=100000) (hm:m<=100000):
 ∃ v' w', (Builtin.append_ #[36,36] ty #[v,.slice xa m c]).run Tryz.prog w=.ok v' w'/\w'.ownsRow base 3 1 v' (k+m) (xs++ys.map (Value.int .i64))/\w.grownBy w' v.ownBlock:=by
 obtain⟨i0,hi,hz0,hz1,hz2⟩:=info_parts Tryz.infoInt
 cases xa with
 | none=>
   obtain⟨rfl,rfl⟩:=hx rfl
   obtain rfl:ys=[]:=List.eq_nil_of_length_eq_zero hN.1
   exact⟨v,w,run_append_owned_none (P:=Tryz.prog) (w:=w) base 36 ty 3 i0 1 Tryz.underlying36 hi v k xs hv,by simpa using hv,⟨rfl,rfl,rfl,Nat.le_refl _,fun _ _ _=>rfl⟩⟩
 | some a=>
   have hl:(ys.map (Value.int .i64)).length=m*1:=by simp[hN.1]
   have hnews:∀ j u,(ys.map (Value.int .i64))[j]? =some u->w.cell? (a.add j)=some u:=by
    intro j u hj
    obtain⟨hj1,hj2⟩:=List.getElem?_eq_some_iff.1 hj
    have hjm:j<m:=by simpa [hN.1] using hj1
    obtain⟨b,off,ha,_,_,hc⟩:=hN.2.2 (by omega)
    cases ha
    have:=hc j hjm
    have hjy:j<ys.length:=by rw[hN.1]; exact hjm
    rw[show ((⟨b,off,none⟩:Addr).add j)=⟨b,off+j,none⟩ by simp[Addr.add],this,<-hj2]
    simp[List.getD,hjy]
   have h1:∀ u∈ys.map (Value.int .i64),u.oneCell'=true:=by
    intro u hu
    obtain⟨y,_,rfl⟩:=List.mem_map.1 hu
    rfl
   obtain⟨v', w', hr,ho,hg,hn⟩:=run_append_own (P:=Tryz.prog) w base 36 ty 3 i0 (.int .i64 0) 1 8 Tryz.underlying36 hi hz0 hz1 hz2 rfl (by decide) _ k xs hv a m c _ hl hnews h1 (by unfold maxLen; omega) (by omega) hbase
   exact⟨v', w', hr,ho,hg⟩
theorem bA3 {w:World}{lo:Nat}{a:Option Addr}{c:Nat}{R:List Int}(hr:w.ownsRow lo 3 1 (.slice a R.length c) R.length (R.map (Value.int .i64)))(hw:∀ r∈R,(Lit.int .i64 r).wf=true):aI (fun b=>lo<=b) .i64 w a R.length R:=by
 obtain⟨a', c', hv,_,hN⟩:=gH hw hr
 simp only[Value.slice.injEq] at hv
 obtain⟨rfl,_,rfl⟩:=hv
 exact hN
theorem bZ7 {w:World}{base:Nat}{e:TypeId}{size n c m:Nat}{a:Option Addr}{xs:List Value}(h:w.ownsRow base e size (.slice a n c) m xs):a=none->n=0/\c=0:=by
 intro ha
 rcases h.2 with⟨hv,h0⟩ | ⟨g,cap,cur,hv,_⟩
 ·simp only[Value.slice.injEq] at hv
  exact⟨hv.2.1,hv.2.2⟩
 ·simp only[Value.slice.injEq] at hv
  rw[ha] at hv
  cases hv.1
theorem rA (Q:Nat->Prop)(t:aO)(sa:Option Addr)(sn sc:Nat)(w:World)(hT:sI Q w t sa sn sc)(hsh:∀ x∈t.sets,Shape x)(h3:t.sets.length<=3):
 Calls Tryz.prog 54 #[t.val sa sn sc] w fun e w'=>cG1 w.heap.size e w' (aL t)/\Below w.heap.size w w':=by
 obtain⟨i0,hi,hz0,hz1,hz2⟩:=info_parts Tryz.infoInt
 unfold aO.val
 have b0:=aA w (.cells #[.int .i64 t.key,.int .i64 t.quota,.slice sa sn sc] 64)
 have k1:aC _ w.heap.size #[.int .i64 t.key,.int .i64 t.quota,.slice sa sn sc] 64:=aB w _ _
 have hsl:=hid hT.sets.1
 have hS:=hid (hT.sets.below b0)
 replace k1:=hid k1
 have hsn:sn<=3:=by rw[<-hT.sets.1]; exact h3
 replace hsh:=hid hsh
 clear hT h3
 go_enter Tryz.func54,Tryz.ntmps54
 go_wp2_with fail
 generalize w.alloc (.cells #[.int .i64 t.key,.int .i64 t.quota,.slice sa sn sc] 64)=w0 at *
 go_loopw [3,9] (fun u v wr=>∃ (j k:Nat) (xs:List Int),j<=sn/\v=.int .i64 j/\Below w0.heap.size w0 wr/\k<=j*24/\xs=cZ (t.sets.take j)/\xs.length=k/\(∃ a c,u=.slice a k c)/\wr.ownsRow w0.heap.size 3 1 u k (xs.map (Value.int .i64))/\∀ r∈xs,(Lit.int .i64 r).wf=true) (fun _ v _=>sn-(Go.RowKit.intOf v).toNat)
 case atStart=>exact⟨0,0,[],Nat.zero_le _,rfl,Below.refl _ _,by omega,by simp[cZ],rfl,⟨_,_,rfl⟩,World.ownsRow_nil _ _ _ _,by simp⟩
 case round=>
  obtain⟨j,k,xs,hj,rfl,hb,hk,hxs,hxl,⟨ua,uc,rfl⟩,hown,hw⟩:=hrel
  replace hxs:=hid hxs
  replace hxl:=hid hxl
  replace hw:=hid hw
  by_cases hlt:j<sn
  ·have hjl:j<t.sets.length:=by rw[hsl.out]; exact hlt
   have hE':=hS.out.below hb
   obtain⟨eb,off,rfl⟩:∃ b off,sa=some ⟨b,off,none⟩:=by
    obtain⟨b,off,e,_⟩:=hE'.2 (by omega)
    exact⟨b,off,e⟩
   have hx:t.sets[j]? =some (t.sets.getD j aK.zero):=by rw[List.getElem?_eq_getElem hjl]; simp[List.getD,hjl]
   obtain⟨v,hA⟩:=hE'.set hlt
   have c0:=hA.c0
   have c1:=hA.c1
   have c2:=hA.c2
   have hXa:=hA.ok
   have hShx:=hid (hsh.out _ (List.mem_of_getElem? hx))
   replace hx:=hid hx
   clear hA hE' hjl
   generalize t.sets.getD j aK.zero=y at *
   replace hown:=hid hown
   replace hXa:=hid hXa
   go_wp2_with fail
   have ba:=aA wr (.cells #[.string v.name,.slice v.fa v.fn v.fc,.slice v.sa v.sn v.sc] 84)
   clear c0 c1 c2
   replace hXa:=hXa.out.below ba
   replace hown:=bY hown.out ba
   replace hb:=Below.tr hb ba
   clear ba
   generalize wr.alloc (.cells #[.string v.name,.slice v.fa v.fn v.fc,.slice v.sa v.sn v.sc] 84)=w5 at *
   refine(wR Q v y w5 hXa hShx.out.few hShx.out.fewS (fun s hs=>(hShx.out.filesS s hs).1)).mono ?_
   rintro e w6 ⟨⟨ra,rc,rfl,ho6,hrw6⟩,b6⟩
   have hown6:=hid (bY hown b6)
   obtain⟨rn,hrn⟩:∃ rn,rn=(aG y).length:=⟨_,rfl⟩
   have h24:rn<=24:=by rw[hrn]; exact wN hShx.out
   obtain⟨ra', rc', hv,hrc,hN6⟩:=gH hrw6 ho6
   simp only[Value.slice.injEq,true_and] at hv
   obtain⟨rfl,rfl⟩:=hv
   have ho6':=ho6
   rw[<-hrn] at hN6 ho6'
   simp only[<-hrn]
   have hrn':=hid hrn
   have hb6:Hid (w0.heap.size<=w6.heap.size):=hid (Nat.le_trans hb.size b6.size)
   replace hb:=Below.tr hb b6
   replace hrw6:=hid hrw6
   replace hN6:=hid hN6
   clear hown b6 ho6 hXa hrn
   have hnone:=bZ7 ho6'
   have hw7:∀ r∈xs++aG y,(Lit.int .i64 r).wf=true:=fun r hr=>by
    rcases List.mem_append.1 hr with h | h
    ·exact hw.out r h
    ·exact hrw6.out r h
   have hl7:(xs++aG y).length=k+rn:=by rw[List.length_append,hxl.out,hrn'.out]
   have hx7:xs++aG y=cZ (t.sets.take (j+1)):=by rw[hxs.out,aT5 hx.out]
   obtain⟨v', w7,hrun,hown7,hgrow⟩:=zF w6 w0.heap.size 36 (.slice ua k uc) k _ hown6.out ra rn rc (aG y) (hN6.out.weaken fun _ _ _=>trivial) hnone hb6.out (by omega) (by omega)
   have b7:Below w0.heap.size w0 w7:=hb.grown hgrow hb6.out (fun i hi=>(hown6.out.lt i hi).1)
   rw[<-List.map_append] at hown7
   obtain⟨a', c', rfl⟩:∃ a' c', v'=.slice a' (k+rn) c':=by
    rcases hown7.2 with⟨hv,h0⟩ | ⟨g,cap,cur,hv,_⟩
    ·exact⟨none,0,by rw[hv,h0]⟩
    ·exact⟨_,_,hv⟩
   replace hown7:=hid hown7
   replace hw7:=hid hw7
   replace hl7:=hid hl7
   replace hx7:=hid hx7
   replace hnone:=hid hnone
   clear hown6 hgrow hb ho6'
   go_wp2_with (at_builtin; refine Lib.wpList_append_run _ rfl _ _ _ _ rfl _ _ rfl rfl _ _ hrun ?_)
   go_roundw
   case rel=>exact⟨j+1,k+rn,xs++aG y,by omega,by go_num,b7,by omega,hx7.out,hl7.out,⟨_,_,rfl⟩,hown7.out,hw7.out⟩
   case measure=>simp[Go.RowKit.intOf]; omega
  ·obtain rfl:j=sn:=by omega
   have e1:t.sets.take j=t.sets:=List.take_of_length_le (by rw[hsl.out]; exact Nat.le_refl _)
   have hxs':Hid (xs=aL t):=hid (by rw[hxs.out,e1]; rfl)
   have J:Hid (cG1 w.heap.size (.returned (.slice ua k uc)) wr (aL t)):=hid (by
    rw[<-hxs'.out]
    exact⟨ua,uc,by rw[hxl.out],by rw[hxl.out]; exact dE b0.size hown,hw.out⟩)
   clear hown
   go_wp2_with fail
   go_ret
   exact⟨J.out,Below.tr b0 hb⟩
end Go.Proofs.YtjafgnohlkkopaaGreatDoor
