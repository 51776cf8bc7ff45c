import Derived.Test.YtjafgnohlkkopaaGreatDoorPart10
import Derived.Test.YtjafgnohlkkopaaGreatDoorPart03
import Derived.Test.YtjafgnohlkkopaaGreatDoorPart08
import Derived.Laws.CopyRow
import Derived.Laws.IdiomCopy
import Derived.Deep.RegionLaw
import Derived.Lib.Overlaps
import Derived.Lib.Walk
import Derived.Lib.AppendZerosOnto
set_option linter.unusedVariables false
set_option maxHeartbeats 8000000
set_option maxRecDepth 100000
namespace Go.Proofs.YtjafgnohlkkopaaGreatDoor
open Go.RowKit
theorem bU.rootOk {n:Nat}{B:Nat->Blk}{key r s:Int}(h:bU n B key r s):r=0\/There n B r:=by
 rcases h.rooted with h | h
 ·exact .inl h
 ·exact .inr h.1
theorem bD.rootsOk {n:Nat}{B:Nat->Blk}{key:Int}{x:aK}(h:bD n B key x):bE n B (aG x):=fun r hr=>by
 rw[gQ] at hr
 obtain⟨e,he,rfl⟩:=bV.1 hr
 exact(h.ents e he).rootOk
theorem lD.rootsOk {n:Nat}{B:Nat->Blk}{t:aP}(h:lD n B t):bE n B (aL t):=fun r hr=>by
 obtain⟨x,hx,hr⟩:=List.mem_flatMap.1 hr
 exact(h.sets x hx).rootsOk r hr
def cR7 (base:Nat)(e:Ending)(w:World)(B:Nat->Blk)(R:List Int):Prop:=∃ (a:Option Addr) (ln c:Nat) (L:List Int),e=.returned (.slice a ln c)/\aI (fun b=>base<=b) .i64 w a ln L/\jE L/\∀ x,x∈L↔Clo B R x
theorem mX (Q:Nat->Prop)(a:Option Addr)(n c:Nat)(B:Nat->Blk)(t:aP)(sa:Option Addr)(sn sc:Nat)(w:World)(h:aO w a n B)(hT:sK Q w t sa sn sc)(hR:Right n B)(hok:lD n B t):
 Calls Tryz.prog 26 #[.agg #[.slice a n c],t.val sa sn sc] w fun e w'=>cR7 w.heap.size e w' B (aL t)/\Below w.heap.size w w':=by
 have b0:=aW w (.cells #[.slice a n c] 24) (.cells #[.int .i64 t.key,.int .i64 t.quota,.slice sa sn sc] 64)
 have k0:aC _ w.heap.size #[.slice a n c] 24:=(aB w _ _).below (aA _ (.cells #[.int .i64 t.key,.int .i64 t.quota,.slice sa sn sc] 64))
 have k1:=aF w (.cells #[.slice a n c] 24) #[.int .i64 t.key,.int .i64 t.quota,.slice sa sn sc] 64
 replace h:=hid (h.below b0)
 replace hT:=hid (hT.below b0)
 have hsh:=hid hok.shapes
 have h3:=hid hok.few
 have h72:=hid (sP hok)
 have hro:=hid hok.rootsOk
 replace hR:=hid hR
 replace hok:=hid hok
 replace k0:=hid k0
 replace k1:=hid k1
 unfold aP.val
 go_enter Tryz.func26,Tryz.ntmps26
 go_wp2_with fail
 generalize (w.alloc (.cells #[.slice a n c] 24)).alloc (.cells #[.int .i64 t.key,.int .i64 t.quota,.slice sa sn sc] 64)=w0 at *
 have s0:=k0.out.cell 0
 have x0:=k1.out.cell 0
 have x1:=k1.out.cell 1
 have x2:=k1.out.cell 2
 simp at s0 x0 x1 x2
 go_region_with (first | (go_at_call 54; refine Calls.mono (rA Q t sa sn sc _ ?_ hsh.out h3.out) ?_; exact hT.out.below (aD _ _); rintro e w2 ⟨⟨ra,rc,rfl,hrow,hrw⟩,b2⟩; have b12:=hid (Below.tr (aD _ w0) b2); have s2:=(b12.out.cell (p:=⟨w.heap.size,0,none⟩) k0.out.lt).trans s0; have hN2:=hid (aZ5 hrow hrw); clear b2 hrow hrw) | (go_at_call 53; refine Calls.mono (zD a n c B ra _ rc (aL t) _ ?_ ?_ ?_) ?_; exact h.out.below b12.out; exact hN2.out.weaken (fun _ _ _=>trivial); (have:=h72.out; omega); rintro e w3 ⟨hRR,b3⟩; have b13:=hid (Below.tr b12.out b3); rcases hRR with⟨e', rfl,he,hno⟩ | ⟨_,v,L,rfl,hL,hri,hm⟩; (exact absurd ⟨hR.out,hro.out⟩ hno); obtain⟨la,lc,rfl,_,hNL⟩:=fM hL.2 hL.1; replace hNL:=hid hNL; replace hri:=hid hri; replace hm:=hid hm; clear hL b3))
 all_goals (clear s0 x0 x1 x2; go_wp2_with fail; go_ret; exact⟨⟨la,_,lc,L,rfl,hNL.out.weaken (fun b _ q=>by have:=b0.size; have:=b12.out.size; omega),hri.out,hm.out⟩,Below.tr b0 b13.out⟩)
structure bD2 (n:Nat)(B:Nat->Blk)(key:Int)(l:List aK)(j:Nat):Prop where
 sets:∀ x∈l.take j,bD n B key x
 order:(l.take j).Pairwise fun a b=>a.nm<b.nm
theorem bD2.next {n:Nat}{B:Nat->Blk}{key:Int}{l:List aK}{j:Nat}{x:aK}{s:List UInt8}(h:bD2 n B key l j)(hx:l[j]? =some x)(ha:Ahead aK.nm l j s)(hs:bD n B key x)(hn:s<x.nm):bD2 n B key l (j+1):=by
 refine⟨fun y hy=>?_,sZ hx h.order ha hn⟩
 rw[eF hx] at hy
 rcases List.mem_append.1 hy with hy | hy
 ·exact h.sets y hy
 ·rw[List.mem_singleton.1 hy]; exact hs
theorem yM (Q:Nat->Prop)(a:Option Addr)(n c:Nat)(B:Nat->Blk)(t:aP)(sa:Option Addr)(sn sc:Nat)(w:World)(h:aO w a n B)(hT:sK Q w t sa sn sc):
 Calls Tryz.prog 25 #[.agg #[.slice a n c],t.val sa sn sc] w fun e w'=>vV e (lD n B t)/\Below w.heap.size w w':=by
 unfold aP.val
 have b0:=aW w (.cells #[.slice a n c] 24) (.cells #[.int .i64 t.key,.int .i64 t.quota,.slice sa sn sc] 64)
 have k0:aC _ w.heap.size #[.slice a n c] 24:=(aB w _ _).below (aA _ (.cells #[.int .i64 t.key,.int .i64 t.quota,.slice sa sn sc] 64))
 have k1:=aF w (.cells #[.slice a n c] 24) #[.int .i64 t.key,.int .i64 t.quota,.slice sa sn sc] 64
 have hsl:=hid hT.sets.1
 replace h:=hid (h.below b0)
 have hqb:=hT.qb
 have hS:=hid (hT.sets.below b0)
 clear hT
 replace k0:=hid k0
 replace k1:=hid k1
 obtain⟨key,quota,sets⟩:=t
 simp only at *
 go_enter Tryz.func25,Tryz.ntmps25
 go_wp2_with fail
 generalize (w.alloc (.cells #[.slice a n c] 24)).alloc (.cells #[.int .i64 key,.int .i64 quota,.slice sa sn sc] 64)=w0 at *
 have s0:=k0.out.cell 0
 have x0:=k1.out.cell 0
 have x1:=k1.out.cell 1
 have x2:=k1.out.cell 2
 simp at s0 x0 x1 x2
 by_cases hk:aI1 key 0=true
 ·have hkb:=mI hk
  refine(rZ key 0 w0 hk).mono ?_
  rintro e w1 ⟨rfl,rfl⟩
  clear hk
  by_cases hq1:quota<0
  ·go_wp2_with fail
   go_ret
   exact⟨aU 3 (by omega) (fun f=>by have:=f.qb.1; simp only at this; omega),b0⟩
  ·by_cases hq2:400<quota
   ·go_wp2_with fail
    go_ret
    exact⟨aU 3 (by omega) (fun f=>by have:=f.qb.2; simp only at this; omega),b0⟩
   ·by_cases h3:(3:Int)<(sn:Int)
    ·go_wp2_with fail
     go_ret
     exact⟨aU 2 (by omega) (fun f=>by have:=f.few; simp only at this; rw[hsl.out] at this; omega),b0⟩
    ·go_wp2_with fail
     clear x1 x2
     go_loopw [6,31] (fun u v wr=>∃ (j:Nat) (s:ByteArray),j<=sn/\v=.int .i64 j/\u=.string s/\Below w1.heap.size w1 wr/\Ahead aK.nm sets j s.data.toList/\bD2 n B key sets j) (fun _ v _=>sn-(Go.RowKit.intOf v).toNat)
     case atStart=>exact⟨0,⟨#[]⟩,Nat.zero_le _,rfl,rfl,Below.refl _ _,.inl ⟨rfl,rfl⟩,by simp,by simp⟩
     case round=>
      obtain⟨j,s,hj,rfl,rfl,hb,ha,hF⟩:=hrel
      replace ha:=hid ha
      replace hF:=hid hF
      by_cases hlt:j<sn
      ·have hjl:j<sets.length:=by rw[hsl.out]; exact hlt
       have hE':=hS.out.below hb
       obtain⟨eb,off,rfl⟩:∃ b off,sa=some ⟨b,off,none⟩:=by
            obtain⟨b,off,e,_⟩:=hE'.2 (by omega)
            exact⟨b,off,e⟩
       have hx:sets[j]? =some (sets.getD j aK.zero):=by rw[List.getElem?_eq_getElem hjl]; simp[List.getD,hjl]
       obtain⟨v,hA⟩:=hE'.set hlt
       have c0:=hA.c0
       have c1:=hA.c1
       have c2:=hA.c2
       have hXa:=hid hA.ok
       replace hx:=hid hx
       clear hA hE' hjl
       generalize sets.getD j aK.zero=y at *
       have x0':=(hb.cell (p:=⟨w.heap.size+1,0,none⟩) k1.out.lt).trans x0
       have s0':=(hb.cell (p:=⟨w.heap.size,0,none⟩) k0.out.lt).trans s0
       have lt1:=Nat.lt_of_lt_of_le k1.out.lt hb.size
       have lt0:=Nat.lt_of_lt_of_le k0.out.lt hb.size
       have b1:=aA wr (.cells #[.string v.name,.slice v.fa v.fn v.fc,.slice v.sa v.sn v.sc] 84)
       have k2:aC _ wr.heap.size #[.string v.name,.slice v.fa v.fn v.fc,.slice v.sa v.sn v.sc] 84:=aB wr _ _
       have hbA:=Below.tr hb b1
       have x0A:=(b1.cell (p:=⟨w.heap.size+1,0,none⟩) lt1).trans x0'
       have s0A:=(b1.cell (p:=⟨w.heap.size,0,none⟩) lt0).trans s0'
       replace hXa:=hid (hXa.out.below b1)
       replace hb:=hid hb
       replace k2:=hid k2
       replace b1:=hid b1
       go_upto_region 12 with fail
       clear c0 c1 c2 x0' s0'
       generalize wr.alloc (.cells #[.string v.name,.slice v.fa v.fn v.fc,.slice v.sa v.sn v.sc] 84)=w5 at *
       have q0:=k2.out.cell 0
       have q1:=k2.out.cell 1
       have q2:=k2.out.cell 2
       simp at q0 q1 q2
       go_wp2_with fail
       refine(nN Q a n c B key v y w5 (h.out.below hbA) hXa.out).mono ?_
       rintro e w6 ⟨⟨e3,rfl,he3⟩,b6⟩
       have q3:=(b6.cell (p:=⟨wr.heap.size,0,none⟩) k2.out.lt).trans q0
       replace he3:=hid he3
       have hb6:=hid (Below.tr hbA b6)
       have hnm:=hid hXa.out.name
       clear q0 q1 q2 x0A s0A b6 hbA
       by_cases h5:e3=0
       ·have h5':(e3 == 0)=true:=by simp[h5]
        have hOk:=hid (he3.out.1 h5)
        have hle:=fun w=>bL9 (P:=Tryz.prog) 9 v.name s w
        by_cases hls:s.data.toList<v.name.data.toList
        ·have hd:decide (s.data.toList<v.name.data.toList)=true:=by simp[hls]
         rw[hd] at hle
         have hls':Hid (s.data.toList<y.nm):=hid (by unfold aK.nm; rw[<-hnm.out]; exact hls)
         clear hd hls
         go_wp2_with fail
         go_roundw
         case rel=>exact⟨j+1,v.name,by omega,by go_num,rfl,hb6.out,(by rw[hnm.out]; exact tY (f:=aK.nm) hx.out),hF.out.next hx.out ha.out hOk.out hls'.out⟩
         case measure=>simp[Go.RowKit.intOf]; omega
        ·have hd:decide (s.data.toList<v.name.data.toList)=false:=by simp[hls]
         rw[hd] at hle
         have hls':Hid (¬s.data.toList<y.nm):=hid (by unfold aK.nm; rw[<-hnm.out]; exact hls)
         clear hd hls
         go_wp2_with fail
         go_ret
         exact⟨aU 6 (by omega) (fun f=>hls'.out (qK (f:=aK.nm) hx.out f.order ha.out hOk.out.name.1)),Below.tr b0 hb6.out⟩
       ·have h5':(e3 == 0)=false:=by simp[h5]
        go_wp2_with fail
        go_ret
        exact⟨aU e3 h5 (fun f=>h5 (he3.out.2 (f.sets y (List.mem_of_getElem? hx.out)))),Below.tr b0 hb6.out⟩
      ·obtain rfl:j=sn:=by omega
       have e1:sets.take j=sets:=List.take_of_length_le (by rw[hsl.out]; exact Nat.le_refl _)
       have hTo:=hF.out
       go_wp2_with fail
       go_ret
       refine⟨iB ⟨⟨hkb.1,hkb.2.1⟩,⟨by simp only; omega,by simp only; omega⟩,by simp only; rw[hsl.out]; omega,?_,?_⟩,Below.tr b0 hb⟩
       ·have:=hTo.sets; rwa [e1] at this
       ·have:=hTo.order; rwa [e1] at this
 ·have hk':aI1 key 0=false:=by simpa using hk
  have hno:=oO hk'
  refine(aH0 key 0 w0 hk').mono ?_
  rintro e w1 ⟨rfl,rfl⟩
  replace hno:=hid hno
  clear hk hk'
  go_wp2_with fail
  go_ret
  exact⟨aU 3 (by omega) (fun f=>hno.out ⟨f.kb.1,f.kb.2,by omega,by omega⟩),b0⟩
theorem aU8 (x:Int)(w:World):Calls Tryz.prog 57 #[.int .i64 x] w fun e w'=>e=.returned (.bool (!(x == 0)))/\w'=w:=by
 go_enter Tryz.func57,Tryz.ntmps57
 go_wp2_with fail
 go_ret
 exact⟨by first | rfl | simp[bne],rfl⟩
def cP5 (e:Ending)(n:Nat)(f:Nat->Int):Prop:=(e=.returned (.int .i64 (-1))/\∀ k,k<n->f k=0)\/(∃ i:Nat,e=.returned (.int .i64 i)/\i<n/\f i≠0)
theorem aV6 (base g n:Nat)(f:Nat->Int)(w:World)(hn:n<=400)(h:Row w base g n f):
 Calls Tryz.prog 86 #[.slice (some ⟨g,0,none⟩) n n,.func (.func 57) #[] #[]] w fun e w'=>cP5 e n f/\w'=w:=by
 replace h:=hid h
 go_enter Tryz.func86,Tryz.ntmps86
 go_wp2_with fail
 go_loopw [8] (fun v wr=>∃ i:Nat,i<=n/\v=.int .i64 i/\(∀ k,k<i->f k=0)/\wr=w) (fun v _=>n-(Go.RowKit.intOf v).toNat)
 case atStart=>exact⟨0,Nat.zero_le _,rfl,fun k hk=>absurd hk (by omega),rfl⟩
 case round=>
  obtain⟨i,hin,rfl,hno,rfl⟩:=hrel
  replace hno:=hid hno
  by_cases hlt:i<n
  ·have c0:=h.out.cell hlt
   generalize hrf:f i=x at *
   replace hrf:=hid hrf
   go_wp2_with fail
   refine(aU8 x wr).mono ?_
   rintro e w1 ⟨rfl,rfl⟩
   by_cases h0:x=0
   ·have h0':(x == 0)=true:=by simp[h0]
    rw[h0']
    go_wp2_with fail
    go_roundw
    case rel=>
     refine⟨i+1,by omega,by go_num,fun k hk=>?_,trivial⟩
     rcases Nat.lt_or_ge k i with h' | h'
     ·exact hno.out k h'
     ·obtain rfl:k=i:=by omega
      rw[hrf.out]; exact h0
    case measure=>simp[Go.RowKit.intOf]; omega
   ·have h0':(x == 0)=false:=by simp[h0]
    rw[h0']
    go_wp2_with fail
    go_ret
    exact⟨.inr ⟨i,rfl,hlt,by rw[hrf.out]; exact h0⟩,rfl⟩
  ·obtain rfl:i=n:=by omega
   go_wp2_with fail
   go_ret
   exact⟨.inl ⟨rfl,hno.out⟩,rfl⟩
theorem zM (base g n:Nat)(f:Nat->Int)(w:World)(hn:n<=400)(h:Row w base g n f):
 Calls Tryz.prog 56 #[.slice (some ⟨g,0,none⟩) n n,.func (.func 57) #[] #[]] w fun e w'=>(∃ t,e=.returned (.bool t)/\(t=false↔∀ k,k<n->f k=0))/\w'=w:=by
 go_enter Tryz.func56,Tryz.ntmps56
 go_wp2_with fail
 refine(aV6 base g n f w hn h).mono ?_
 rintro e w1 ⟨⟨rfl,hno⟩ | ⟨i,rfl,hi,hf⟩,rfl⟩
 ·replace hno:=hid hno
  go_wp2_with fail
  go_ret
  exact⟨⟨_,rfl,fun _=>hno.out,fun _=>by first | rfl | simp⟩,rfl⟩
 ·replace hf:=hid hf
  go_wp2_with fail
  go_ret
  exact⟨⟨true,by first | rfl | (simp; try omega),(fun e=>Bool.noConfusion e),fun k=>absurd (k i hi) hf.out⟩,rfl⟩
theorem aT7 {l:List aP}{j:Nat}{x:aP}(hx:l[j]? =some x):gT (l.take (j+1))=gT (l.take j)++aL x:=by
 unfold gT
 rw[eF hx,List.flatMap_append]
 simp
theorem sQ {n:Nat}{B:Nat->Blk}:∀ {l:List aP},(∀ t∈l,lD n B t)->(gT l).length<=l.length*72
 | [],_=>by simp[gT]
 | t::l,h=>by
   have h1:=sP (h t (by simp))
   have h2:=sQ (l:=l) (fun y hy=>h y (by simp[hy]))
   simp only[gT,List.flatMap_cons,List.length_append,List.length_cons] at *
   omega
def aR3 (D R:List Int)(i:Nat)(k:Nat):Int:=((D++R.take i).count ((k:Int)+1):Int)
theorem bU2 (D R:List Int)(k:Nat):aR3 D R 0 k=(D.count ((k:Int)+1):Int):=by simp[aR3]
theorem cC7 {D R:List Int}{i:Nat}(h:R.length<=i)(k:Nat):aR3 D R i k=((D++R).count ((k:Int)+1):Int):=by simp[aR3,List.take_of_length_le h]
theorem aP4 {D R:List Int}{i:Nat}{r:Int}(hr:R[i]? =some r)(k:Nat):aR3 D R (i+1) k=aR3 D R i k+if r=(k:Int)+1 then 1 else 0:=by
 unfold aR3
 rw[List.count_append,List.count_append,jY hr]
 split<;>simp<;>omega
theorem cJ6 (D R:List Int)(i k:Nat):0<=aR3 D R i k/\aR3 D R i k<=(D.length:Int)+(R.length:Int):=by
 unfold aR3
 have h1:=List.count_le_length (a:=(k:Int)+1) (l:=D++R.take i)
 have h2:(D++R.take i).length<=D.length+R.length:=by simp; omega
 omega
theorem aL1 (Q:Nat->Prop)(a:Option Addr)(n c:Nat)(B:Nat->Blk)(ta:Option Addr)(tn tc:Nat)(l:List aP)(w:World)(h:aO w a n B)(hT:iA Q w ta tn l)(hR:Right n B)(h3:l.length<=3)(hok:∀ t∈l,lD n B t):
 Calls Tryz.prog 27 #[.agg #[.slice a n c,.slice ta tn tc]] w fun e w'=>vV e (∀ k,k<n->outs n B k=((gT l).count ((k:Int)+1):Int))/\Below w.heap.size w w':=by
 have hn:=hR.small
 have b0:=aA w (.cells #[.slice a n c,.slice ta tn tc] 27)
 have k0:aC _ w.heap.size #[.slice a n c,.slice ta tn tc] 27:=aB w _ _
 have htl:=hid hT.1
 have htn:tn<=3:=by rw[<-hT.1]; exact h3
 replace h:=hid (h.below b0)
 replace hT:=hid (hT.below b0)
 replace hR:=hid hR
 replace hok:=hid hok
 replace k0:=hid k0
 clear h3
 go_enter Tryz.func27,Tryz.ntmps27
 go_wp2_with fail
 generalize w.alloc (.cells #[.slice a n c,.slice ta tn tc] 27)=w0 at *
 have p0:=k0.out.cell 0
 have p1:=k0.out.cell 1
 simp at p0 p1
 refine(uT a n c B w0 h.out).mono ?_
 rintro e w1 ⟨b1,⟨e', rfl,he,hno⟩ | ⟨_,g,rfl,hrow⟩⟩
 ·exact absurd hR.out hno
 have hg1:=hrow.lt
 replace p1:=(b1.cell (p:=⟨w.heap.size,1,none⟩) k0.out.lt).trans p1
 replace hrow:=hid hrow
 replace b1:=hid b1
 clear p0
 go_wp2_with fail
 clear p1
 go_loopw [21] (fun v wr=>∃ j:Nat,j<=tn/\v=.int .i64 j/\Below w0.heap.size w0 wr/\w1.heap.size<=wr.heap.size/\Row wr w0.heap.size g n (fun k=>outs n B k-((gT (l.take j)).count ((k:Int)+1):Int))) (fun v _=>tn-(Go.RowKit.intOf v).toNat)
 case atStart=>exact⟨0,Nat.zero_le _,rfl,b1.out,Nat.le_refl _,hrow.out.congr (fun k _=>by simp[gT])⟩
 case round=>
  clear hrow
  obtain⟨j,hj,rfl,hb,hsz,hrow⟩:=hrel
  by_cases hlt:j<tn
  ·have hjl:j<l.length:=by rw[htl.out]; exact hlt
   have hE':=hT.out.below hb
   obtain⟨eb,off,rfl⟩:∃ b off,ta=some ⟨b,off,none⟩:=by
    obtain⟨b,off,e,_⟩:=hE'.2 (by omega)
    exact⟨b,off,e⟩
   have hx:l[j]? =some (l.getD j aP.zero):=by rw[List.getElem?_eq_getElem hjl]; simp[List.getD,hjl]
   obtain⟨sa,sn,sc,hA⟩:=hE'.ten hlt
   have c0:=hA.c0
   have c1:=hA.c1
   have c2:=hA.c2
   have hTa:=hA.ok
   have hTok:=hid (hok.out _ (List.mem_of_getElem? hx))
   replace hx:=hid hx
   clear hA hE' hjl
   generalize l.getD j aP.zero=t at *
   replace hrow:=hid hrow
   replace hTa:=hid hTa
   have ba:=aA wr (.cells #[.int .i64 t.key,.int .i64 t.quota,.slice sa sn sc] 64)
   have k2:aC _ wr.heap.size #[.int .i64 t.key,.int .i64 t.quota,.slice sa sn sc] 64:=aB wr _ _
   replace k2:=hid k2
   replace ba:=hid ba
   have hbh:=hid hb
   clear hb
   go_upto_region 7 with fail
   clear c0 c1 c2
   replace hTa:=hid (hTa.out.below ba.out)
   replace hrow:=hid (bI hrow.out ba.out)
   have hb:=hid (Below.tr hbh.out ba.out)
   have hsz5:w1.heap.size<=(wr.alloc (.cells #[.int .i64 t.key,.int .i64 t.quota,.slice sa sn sc] 64)).heap.size:=Nat.le_trans hsz ba.out.size
   clear ba hbh
   generalize wr.alloc (.cells #[.int .i64 t.key,.int .i64 t.quota,.slice sa sn sc] 64)=w5 at *
   have q0:=k2.out.cell 0
   have q1:=k2.out.cell 1
   have q2:=k2.out.cell 2
   simp at q0 q1 q2
   go_wp2_with fail
   refine(rA Q t sa sn sc w5 hTa.out hTok.out.shapes hTok.out.few).mono ?_
   rintro e w6 ⟨⟨ra,rc,rfl,hro,hrw⟩,b6⟩
   have hN:=hid (aZ5 hro hrw)
   replace hrow:=hid (bI hrow.out b6)
   replace hb:=hid (Below.tr hb.out b6)
   have hsz6:=Nat.le_trans hsz5 b6.size
   have hbd:=hid hTok.out.rootBd
   have h72:=hid (sP hTok.out)
   have hD72:=hid (sQ (l:=l.take j) (fun t ht=>hok.out t (List.mem_of_mem_take ht)))
   have hTake:=hid (aT7 hx.out)
   have hlj:Hid ((l.take j).length<=3):=hid (by rw[List.length_take]; omega)
   clear hro hrw q0 q1 q2 k2 hTa b6
   obtain⟨rn,hrn⟩:∃ rn,rn=(aL t).length:=⟨_,rfl⟩
   rw[<-hrn] at hN h72
   simp only[<-hrn]
   have hrn':=hid hrn.symm
   clear hrn
   generalize aL t=R at *
   generalize gT (l.take j)=D at *
   have hDl:Hid ((D.length:Int)+(R.length:Int)<=1000):=hid (by rw[hrn'.out]; have:=hD72.out; have:=hlj.out; have:=h72.out; omega)
   have hrn72:rn<=72:=h72.out
   clear hD72 hlj h72
   go_wp2_with fail
   go_loopw [28] (fun v wr'=>∃ i:Nat,i<=rn/\v=.int .i64 i/\Kept g w6 wr'/\Row wr' w0.heap.size g n (fun k=>outs n B k-aR3 D R i k)) (fun v _=>rn-(Go.RowKit.intOf v).toNat)
   case atStart=>exact⟨0,Nat.zero_le _,rfl,Kept.refl _ _,(Row.congr hrow.out (fun k _=>by rw[bU2]))⟩
   case round=>
    clear hrow
    obtain⟨i,hi,rfl,hkp,hrow⟩:=hrel
    by_cases hilt:i<rn
    ·have hil:i<R.length:=by rw[hrn'.out]; exact hilt
     obtain⟨kb,ko,rfl,hkb,hgk,hcc⟩:=hN.out.2.2 (by omega)
     have hck:=(hkp.cell (p:=⟨kb,ko+i,none⟩) (by simp; omega)).trans (hcc i hilt)
     have hx2:R[i]? =some (R.getD i 0):=by rw[List.getElem?_eq_getElem hil]; simp[List.getD,hil]
     have hmem:=hbd.out _ (List.mem_of_getElem? hx2)
     replace hx2:=hid hx2
     clear hcc hil
     generalize R.getD i 0=r at *
     by_cases h0:r=0
     ·subst h0
      have hrow':Hid (Row wr w0.heap.size g n (fun k=>outs n B k-aR3 D R (i+1) k)):=hid (hrow.congr (fun k hk=>by rw[aP4 hx2.out,if_neg (by omega)]; simp))
      clear hrow
      go_wp2_with fail
      go_roundw
      case rel=>exact⟨i+1,by omega,by go_num,hkp,hrow'.out⟩
      case measure=>simp[Go.RowKit.intOf]; omega
     ·obtain⟨m,rfl⟩:∃ m:Nat,r=(m:Int)+1:=⟨(r-1).toNat,by omega⟩
      have hmn:m<n:=by omega
      have r0:=hrow.cell hmn
      have r1:=hrow.frozen m
      have hbb:=(hR.out.one m hmn).bounds
      have hhd:=hR.out.held m hmn
      have hob:0<=outs n B m/\outs n B m<=1000000:=by unfold outs; simp at hhd; omega
      have hcl:=cJ6 D R i m
      have hDl':=hDl.out
      have hrow':Hid (Row (wr.setCell ⟨g,m,none⟩ (.int .i64 (outs n B m-aR3 D R i m-1))) w0.heap.size g n (fun k=>outs n B k-aR3 D R (i+1) k)):=hid ((hrow.set m _).congr (fun k hk=>by
       rw[aP4 hx2.out]
       by_cases e:k=m
       ·subst e; simp; omega
       ·rw[if_neg e,if_neg (by omega)]; simp))
      have hkp':Hid (Kept g w6 (wr.setCell ⟨g,m,none⟩ (.int .i64 (outs n B m-aR3 D R i m-1)))):=hid (hkp.trans (Kept.setCell (g:=g) (Kept.refl _ _) (p:=⟨g,m,none⟩) rfl _))
      clear hrow hbb hhd
      generalize hd:outs n B m-aR3 D R i m=d at *
      replace hd:=hid hd
      have hd0:(-1000:Int)<=d:=by rw[<-hd.out]; omega
      have hd1:d<=1000000:=by rw[<-hd.out]; omega
      clear hob hcl hDl'
      go_wp2_with fail
      go_roundw
      case rel=>exact⟨i+1,by omega,by go_num,hkp'.out,hrow'.out⟩
      case measure=>simp[Go.RowKit.intOf]; omega
    ·obtain rfl:i=rn:=by omega
     have hrow':Hid (Row wr w0.heap.size g n (fun k=>outs n B k-((gT (l.take (j+1))).count ((k:Int)+1):Int))):=hid (hrow.congr (fun k hk=>by rw[cC7 (by rw[hrn'.out]; exact Nat.le_refl _),hTake.out]))
     have hbk:=hid (hb.out.trans (hkp.below hg1.1))
     have hszk:w1.heap.size<=wr.heap.size:=by rw[hkp.size]; exact hsz6
     clear hrow
     go_wp2_with fail
     go_roundw
     case rel=>exact⟨j+1,by omega,by go_num,hbk.out,hszk,hrow'.out⟩
     case measure=>simp[Go.RowKit.intOf]; omega
  ·obtain rfl:j=tn:=by omega
   have e1:l.take j=l:=List.take_of_length_le (by rw[htl.out]; exact Nat.le_refl _)
   rw[e1] at hrow
   replace hrow:=hid hrow
   clear e1
   go_wp2_with fail
   refine(zM w0.heap.size g n _ wr hn hrow.out).mono ?_
   rintro e w2 ⟨⟨t,rfl,ht⟩,rfl⟩
   replace ht:=hid ht
   cases t
   ·go_wp2_with fail
    go_ret
    exact⟨iB (fun k hk=>by have:=ht.out.1 (by simp) k hk; omega),Below.tr b0 hb⟩
   ·go_wp2_with fail
    go_ret
    exact⟨aU 7 (by omega) (fun f=>by have:=ht.out.2 (fun k hk=>by rw[f k hk]; omega); cases this),Below.tr b0 hb⟩
end Go.Proofs.YtjafgnohlkkopaaGreatDoor
namespace Go.Proofs.YtjafgnohlkkopaaGreatDoor
open Go.RowKit Go.Maps
structure fU (Q:Nat->Prop)(w:World)(a:Option Addr)(n:Nat)(B:Nat->Blk)(ta:Option Addr)(tn:Nat)(l:List aP):Prop where
 store:aO w a n B
 tens:iA Q w ta tn l
theorem fU.below {Q:Nat->Prop}{w w':World}{a:Option Addr}{n:Nat}{B:Nat->Blk}{ta:Option Addr}{tn:Nat}{l:List aP}(h:fU Q w a n B ta tn l)(hb:Below w.heap.size w w'):fU Q w' a n B ta tn l:=⟨h.store.below hb,h.tens.below hb⟩
theorem bL6 {l:List aP}{j:Nat}{t:aP}(hx:l[j]? =some t):pG (l.take (j+1))=pG (l.take j)+t.quota:=by
 unfold pG
 rw[eF hx,List.map_append,List.sum_append]
 simp
theorem qC:∀ {l:List aP},(∀ t∈l,0<=t.quota)->0<=pG l
 | [],_=>by simp[pG]
 | t::l,h=>by
   have h1:=h t (by simp)
   have h2:=qC (l:=l) (fun y hy=>h y (by simp[hy]))
   simp only[pG,List.map_cons,List.sum_cons] at *
   omega
theorem bL7:∀ {l:List aP},(∀ t∈l,t.quota<=400)->pG l<=(l.length:Int)*400
 | [],_=>by simp[pG]
 | t::l,h=>by
   have h1:=h t (by simp)
   have h2:=bL7 (l:=l) (fun y hy=>h y (by simp[hy]))
   simp only[pG,List.map_cons,List.sum_cons,List.length_cons] at *
   omega
theorem aJ5 {l:List aP}(j:Nat)(h:∀ t∈l,0<=t.quota):pG (l.take j)<=pG l:=by
 have e:pG l=pG (l.take j)+pG (l.drop j):=by
  unfold pG
  rw[<-List.sum_append,<-List.map_append,List.take_append_drop]
 have h2:=qC (l:=l.drop j) (fun t ht=>h t (List.mem_of_mem_drop ht))
 omega
structure uQ (n:Nat)(B:Nat->Blk)(l:List aP)(j:Nat)(V:List Int):Prop where
 tens:∀ t∈l.take j,lD n B t
 room:0<j->pG (l.take j)+90<=n
 uses:∀ t∈l.take j,∃ m,sI B (aL t) m/\m<=t.quota
 apart:(l.take j).Pairwise fun t u=>∀ x,Clo B (aL t) x->¬Clo B (aL u) x
 taken:∀ x,x∈V↔∃ t∈l.take j,Clo B (aL t) x
theorem bD8 (n:Nat)(B:Nat->Blk)(l:List aP):uQ n B l 0 []:=⟨by simp,fun h=>absurd h (by omega),by simp,by simp,by simp⟩
theorem uQ.next {n:Nat}{B:Nat->Blk}{l:List aP}{j:Nat}{V L:List Int}{t:aP}(h:uQ n B l j V)(hx:l[j]? =some t)(ht:lD n B t)(hr:pG (l.take (j+1))+90<=n)(hL:jE L)(hm:∀ x,x∈L↔Clo B (aL t) x)(hq:(L.length:Int)<=t.quota)(hno:∀ x∈L,x∉V):uQ n B l (j+1) (V++L):=by
 refine⟨fun y hy=>?_,fun _=>hr,fun y hy=>?_,?_,fun x=>?_⟩
 ·rw[eF hx] at hy
  rcases List.mem_append.1 hy with hy | hy
  ·exact h.tens y hy
  ·rw[List.mem_singleton.1 hy]; exact ht
 ·rw[eF hx] at hy
  rcases List.mem_append.1 hy with hy | hy
  ·exact h.uses y hy
  ·rw[List.mem_singleton.1 hy]; exact⟨_,⟨L,hL,hm,rfl⟩,hq⟩
 ·rw[eF hx]
  refine List.pairwise_append.2 ⟨h.apart,by simp,fun u hu v hv x hc hd=>?_⟩
  rw[List.mem_singleton.1 hv] at hd
  exact hno x ((hm x).2 hd) ((h.taken x).2 ⟨u,hu,hc⟩)
 ·rw[eF hx]
  constructor
  ·intro hxm
   rcases List.mem_append.1 hxm with h1 | h1
   ·obtain⟨u,hu,hc⟩:=(h.taken x).1 h1
    exact⟨u,List.mem_append_left _ hu,hc⟩
   ·exact⟨t,by simp,(hm x).1 h1⟩
  ·rintro⟨u,hu,hc⟩
   rcases List.mem_append.1 hu with hu | hu
   ·exact List.mem_append_left _ ((h.taken x).2 ⟨u,hu,hc⟩)
   ·rw[List.mem_singleton.1 hu] at hc
    exact List.mem_append_right _ ((hm x).2 hc)
theorem cH2 {B:Nat->Blk}{R L:List Int}{q:Int}(hL:jE L)(hm:∀ x,x∈L↔Clo B R x)(h:∃ m,sI B R m/\m<=q):(L.length:Int)<=q:=by
 obtain⟨m,⟨M,hM,hmM,rfl⟩,hq⟩:=h
 rw[wT hL hM (fun x=>(hm x).trans (hmM x).symm)]
 exact hq
theorem aS2 {n:Nat}{B:Nat->Blk}{l:List aP}{j:Nat}{V:List Int}{t:aP}{x:Int}(h:uQ n B l j V)(hx:l[j]? =some t)(hc:Clo B (aL t) x)(hV:x∈V):¬aR n B l:=by
 intro f
 obtain⟨u,hu,hd⟩:=(h.taken x).1 hV
 obtain⟨hj,e⟩:=List.getElem?_eq_some_iff.1 hx
 have hp:=f.apart
 rw[<-List.take_append_drop j l] at hp
 refine(List.pairwise_append.1 hp).2.2 u hu t ?_ x hd hc
 rw[List.drop_eq_getElem_cons hj,e]
 simp
theorem aK6 {L:List Int}(h:jE L):L.Nodup:=h.imp (fun h e=>by subst e; exact absurd h (Int.lt_irrefl _))
theorem jN (Q:Nat->Prop)(a:Option Addr)(n c:Nat)(B:Nat->Blk)(ta:Option Addr)(tn tc:Nat)(l:List aP)(w:World)(h:fU Q w a n B ta tn l):
 Calls Tryz.prog 14 #[.agg #[.slice a n c,.slice ta tn tc]] w fun e w'=>vV e (aR n B l)/\Below w.heap.size w w':=by
 have hmm:=@run_makeMap Tryz.prog
 have b0:=aA w (.cells #[.slice a n c,.slice ta tn tc] 27)
 have k0:aC _ w.heap.size #[.slice a n c,.slice ta tn tc] 27:=aB w _ _
 have htl:=hid h.tens.1
 replace h:=hid (h.below b0)
 replace k0:=hid k0
 go_enter Tryz.func14,Tryz.ntmps14
 go_wp2_with fail
 generalize w.alloc (.cells #[.slice a n c,.slice ta tn tc] 27)=w0 at *
 have p0:=k0.out.cell 0
 have p1:=k0.out.cell 1
 simp at p0 p1
 refine(zF a n c B w0 h.out.store).mono ?_
 rintro e w1 ⟨⟨e', rfl,he⟩,b1⟩
 replace he:=hid he
 replace p1:=(b1.cell (p:=⟨w.heap.size,1,none⟩) k0.out.lt).trans p1
 replace p0:=(b1.cell (p:=⟨w.heap.size,0,none⟩) k0.out.lt).trans p0
 by_cases h0:e'=0
 ·have h0':(e' == 0)=true:=by simp[h0]
  have hR:=hid (he.out.1 h0)
  have hn:=hR.out.small
  by_cases h3:(3:Int)<(tn:Int)
  ·go_wp2_with fail
   go_ret
   exact⟨aU 2 (by omega) (fun f=>by have:=f.few; rw[htl.out] at this; omega),Below.tr b0 b1⟩
  ·have htn:tn<=3:=by omega
   replace h:=hid (h.out.below b1)
   replace k0:=hid (k0.out.below b1)
   replace b1:=hid (Below.tr b0 b1)
   have bM:=aA w1 (.map #[] 0)
   have hSe:=aZ1 w1
   have p1M:=(bM.cell (p:=⟨w.heap.size,1,none⟩) k0.out.lt).trans p1
   replace bM:=hid bM
   replace hSe:=hid hSe
   go_wp2_with fail
   have hlm:(w1.alloc (.map #[] 0)).heap.size=w1.heap.size+1:=by simp
   replace hlm:=hid hlm
   clear p1M
   generalize w1.alloc (.map #[] 0)=wM at *
   clear h3
   go_loopw [4,31] (fun u v wr=>∃ (j:Nat) (V:List Int),j<=tn/\v=.int .i64 j/\u=.int .i64 ((n:Int)-90-pG (l.take j))/\Below w1.heap.size w1 wr/\w1.heap.size<wr.heap.size/\Seen wr w1.heap.size V/\uQ n B l j V) (fun _ v _=>tn-(Go.RowKit.intOf v).toNat)
   case atStart=>exact⟨0,[],Nat.zero_le _,rfl,by simp[pG],bM.out,by rw[hlm.out]; omega,hSe.out,bD8 n B l⟩
   case round=>
    clear hSe bM hlm
    obtain⟨j,V,hj,rfl,rfl,hb,hsz,hS,hTo⟩:=hrel
    have p0r:=(hb.cell (p:=⟨w.heap.size,0,none⟩) k0.out.lt).trans p0
    have p1r:=(hb.cell (p:=⟨w.heap.size,1,none⟩) k0.out.lt).trans p1
    have hsq0:=qC (l:=l.take j) (fun t ht=>(hTo.tens t ht).qb.1)
    have hsq1:=bL7 (l:=l.take j) (fun t ht=>(hTo.tens t ht).qb.2)
    have hlj:(l.take j).length<=3:=by rw[List.length_take]; omega
    by_cases hlt:j<tn
    ·have hjl:j<l.length:=by rw[htl.out]; exact hlt
     have hE':=h.out.tens.below hb
     obtain⟨eb,off,rfl⟩:∃ b off,ta=some ⟨b,off,none⟩:=by
      obtain⟨b,off,e,_⟩:=hE'.2 (by omega)
      exact⟨b,off,e⟩
     have hx:l[j]? =some (l.getD j aP.zero):=by rw[List.getElem?_eq_getElem hjl]; simp[List.getD,hjl]
     obtain⟨sa,sn,sc,hA⟩:=hE'.ten hlt
     have c0:=hA.c0
     have c1:=hA.c1
     have c2:=hA.c2
     have hTa:=hid hA.ok
     have hsumN:=hid (bL6 hx)
     replace hx:=hid hx
     clear hA hE' hjl
     generalize l.getD j aP.zero=t at *
     have ba:=hid (aA wr (.cells #[.int .i64 t.key,.int .i64 t.quota,.slice sa sn sc] 64))
     have k2:Hid (aC _ wr.heap.size #[.int .i64 t.key,.int .i64 t.quota,.slice sa sn sc] 64):=hid (aB wr _ _)
     replace hb:=hid hb
     replace hS:=hid hS
     replace hTo:=hid hTo
     go_upto_region 11 with fail
     clear c0 c1 c2 p0r p1r
     replace hTa:=hid (hTa.out.below ba.out)
     replace hS:=hid (hS.out.out (ba.out.block _ hsz))
     replace hb:=hid (Below.tr hb.out ba.out)
     have hsz5:w1.heap.size<(wr.alloc (.cells #[.int .i64 t.key,.int .i64 t.quota,.slice sa sn sc] 64)).heap.size:=Nat.lt_of_lt_of_le hsz ba.out.size
     clear ba
     generalize wr.alloc (.cells #[.int .i64 t.key,.int .i64 t.quota,.slice sa sn sc] 64)=w5 at *
     have q0:=k2.out.cell 0
     have q1:=k2.out.cell 1
     have q2:=k2.out.cell 2
     simp at q0 q1 q2
     have p0r:=(hb.out.cell (p:=⟨w.heap.size,0,none⟩) k0.out.lt).trans p0
     go_wp2_with fail
     refine(yM Q a n c B t sa sn sc w5 (h.out.store.below hb.out) hTa.out).mono ?_
     rintro e w6 ⟨⟨e2,rfl,he2⟩,b6⟩
     replace he2:=hid he2
     replace hTa:=hid (hTa.out.below b6)
     replace hS:=hid (hS.out.out (b6.block _ hsz5))
     have hb6:=hid (Below.tr hb.out b6)
     have q0':=(b6.cell (p:=⟨wr.heap.size,0,none⟩) k2.out.lt).trans q0
     have q1':=(b6.cell (p:=⟨wr.heap.size,1,none⟩) k2.out.lt).trans q1
     have q2':=(b6.cell (p:=⟨wr.heap.size,2,none⟩) k2.out.lt).trans q2
     have p0':=(b6.cell (p:=⟨w.heap.size,0,none⟩) (eZ p0r)).trans p0r
     have hk2:=hid (k2.out.below b6)
     have hsz6:=Nat.lt_of_lt_of_le hsz5 b6.size
     clear q0 q1 q2 p0r b6 hb k2
     by_cases h5:e2=0
     ·have h5':(e2 == 0)=true:=by simp[h5]
      have hOk:=hid (he2.out.1 h5)
      have hq0:=hOk.out.qb.1
      have hq1:=hOk.out.qb.2
      go_upto_region 15 with fail
      go_wp2_with fail
      refine(mX Q a n c B t sa sn sc w6 (h.out.store.below hb6.out) hTa.out hR.out hOk.out).mono ?_
      rintro e w7 ⟨⟨la,ln,lc,L,rfl,hNL,hri,hmL⟩,b7⟩
      have hlnL:=hid hNL.1
      have hNL':=hid hNL
      have hri':=hid hri
      have hmL':=hid hmL
      have q1'':=(b7.cell (p:=⟨wr.heap.size,1,none⟩) hk2.out.lt).trans q1'
      replace hS:=hid (hS.out.out (b7.block _ hsz6))
      have hb7:=hid (Below.tr hb6.out b7)
      have hsz7:=Nat.lt_of_lt_of_le hsz6 b7.size
      have hL400:Hid (ln<=400):=hid (by
       rw[<-hNL.1]
       have:=aA6 n L (aK6 hri) (fun x hx=>by have:=((hmL x).1 hx).there hR.out hOk.out.rootsOk; exact⟨this.1,this.2.1⟩)
       omega)
      have hln4:=hL400.out
      clear q0' q1' q2' p0' b7 hb6 hk2 hNL hri hmL hTa
      generalize hrm:(n:Int)-90-pG (l.take j)=rm at *
      have hrm0:-2000<=rm:=by omega
      have hrm1:rm<=400:=by omega
      replace hrm:=hid hrm
      clear hsq0 hsq1 hlj
      by_cases hneg:rm-t.quota<0
      ·have hneg':decide (rm-t.quota<0)=true:=by simp[hneg]
       go_wp2_with fail
       go_ret
       refine⟨aU 8 (by omega) (fun f=>?_),Below.tr b1.out hb7.out⟩
       have h1:=f.room (by rw[htl.out]; omega)
       have h2:=aJ5 (l:=l) (j+1) (fun t ht=>(f.tens t ht).qb.1)
       rw[hsumN.out] at h2
       have h4:=hrm.out
       omega
      ·have hneg':decide (rm-t.quota<0)=false:=by simp[hneg]
       by_cases hbig:t.quota<(ln:Int)
       ·have hbig':decide (t.quota<(ln:Int))=true:=by simp[hbig]
        go_wp2_with fail
        go_ret
        refine⟨aU 8 (by omega) (fun f=>?_),Below.tr b1.out hb7.out⟩
        have h1:=cH2 hri'.out hmL'.out (f.uses t (List.mem_of_getElem? hx.out))
        rw[hlnL.out] at h1
        omega
       ·have hbig':decide (t.quota<(ln:Int))=false:=by simp[hbig]
        clear hneg' hbig'
        go_wp2_with fail
        clear q1''
        go_loopw [61] (fun v wr'=>∃ i:Nat,i<=ln/\v=.int .i64 i/\w7.grownBy wr' (some w1.heap.size)/\Seen wr' w1.heap.size (V++L.take i)/\∀ x∈L.take i,x∉V) (fun v _=>ln-(Go.RowKit.intOf v).toNat)
        case atStart=>exact⟨0,Nat.zero_le _,rfl,⟨rfl,rfl,rfl,Nat.le_refl _,fun _ _ _=>rfl⟩,by simpa using hS.out,by simp⟩
        case round=>
         clear hS
         obtain⟨i,hi,rfl,hgr,hS,hno⟩:=hrel
         replace hno:=hid hno
         by_cases hilt:i<ln
         ·have hil:i<L.length:=by rw[hlnL.out]; exact hilt
          obtain⟨kb,ko,rfl,hkb,hgk,hcc⟩:=hNL'.out.2.2 (by omega)
          have hck:wr.cell? ⟨kb,ko+i,none⟩=some (.int .i64 (L.getD i 0)):=(World.cell?_of_block (hgr.block kb hkb (by simp; omega))).trans (hcc i hilt)
          have hmem:L.getD i 0∈L:=hNL'.out.getD hilt
          have hwf:(Lit.int .i64 (L.getD i 0)).wf=true:=hNL'.out.2.1 _ hmem
          have htk:=hid (fI hil)
          have hnotin:Hid (L.getD i 0∉L.take i):=hid (fun hm=>by
           have e:L.getD i 0=L[i]:=by simp[List.getD,hil]
           rw[e] at hm
           obtain⟨k,hk,he⟩:=List.getElem_of_mem hm
           rw[List.getElem_take] at he
           rw[List.length_take] at hk
           have:=List.pairwise_iff_getElem.1 hri'.out k i (by omega) hil (by omega)
           omega)
          replace hmem:=hid hmem
          clear hcc hil
          generalize L.getD i 0=x at *
          obtain⟨D,hown,hD,hnd,hm,hat⟩:=hS
          obtain⟨cv,hrun,hcv,hwc⟩:=hown.lookup_int cM7 Tryz.underlying70 Tryz.underlying3 (bK9 _) (keyOf_int_mk Tryz.underlying3 hwf)
          by_cases hin:x∈V++L.take i
          ·have hc1:cv=1:=by
                rw[hat x hin] at hcv
                simpa using hcv.symm
           subst hc1
           have hinV:Hid (x∈V):=hid ((List.mem_append.1 hin).resolve_right hnotin.out)
           have bel:=hid (hb7.out.grown hgr (Nat.le_of_lt hsz7) (fun k hk=>by cases hk; exact Nat.le_refl _))
           clear hown hD hnd hm hat hcv hin hgr
           go_wp2_with fail
           go_ret
           exact⟨aU 7 (by omega) (aS2 hTo.out hx.out ((hmL'.out x).1 hmem.out) hinV.out),Below.tr b1.out bel.out⟩
          ·have hc0:cv=0:=by
                have h1:has D (.int .i64 x)=false:=by
                 cases h2:has D (.int .i64 x)
                 ·rfl
                 ·exact absurd ((hm x).2 h2) hin
                rw[atKey_of_not_has h1] at hcv
                simpa using hcv.symm
           subst hc0
           have hlen:(V++L.take i).length<=n:=aA6 n _ hnd (fun y hy=>by
                rcases List.mem_append.1 hy with hy | hy
                ·obtain⟨u,hu,hc⟩:=(hTo.out.taken y).1 hy
                 have:=hc.there hR.out (hTo.out.tens u hu).rootsOk
                 exact⟨this.1,this.2.1⟩
                ·have:=((hmL'.out y).1 (List.mem_of_mem_take hy)).there hR.out hOk.out.rootsOk
                 exact⟨this.1,this.2.1⟩)
           have hput:=hid (aZ0 hD hnd hin hm hat)
           have hinV:Hid (x∉V):=hid (fun h=>hin (List.mem_append_left _ h))
           replace hcv:=hid hcv
           have hgr':=hid hgr
           clear hnd hm hat hD hin hgr
           generalize hVl:(V++L.take i).length=vl at *
           replace hVl:=hid hVl
           go_wp2_with (at_mapUpdate; refine wpList_mapUpdate_own _ rfl _ _ _ 70 rfl 3 3 cM7 Tryz.underlying70 _ w1.heap.size vl _ rfl hown (by unfold maxLen; omega) _ _ _ rfl rfl (keyOf_int_mk Tryz.underlying3 hwf) _ [] (plainElem_int Tryz.underlying3 (WalkArith.wf_i64 (by omega))) ?_; intro w8 hown8 hgrow8)
           have hS8:Hid (Seen w8 w1.heap.size (V++L.take (i+1))):=hid (by
                have e8:V++L.take (i+1)=(V++L.take i)++[x]:=by rw[htk.out,List.append_assoc]
                rw[e8]
                exact⟨_,by rw[List.length_append,hVl.out]; exact hown8,hput.out.1,hput.out.2.1,hput.out.2.2.1,hput.out.2.2.2⟩)
           have hgr8:Hid (w7.grownBy w8 (some w1.heap.size)):=hid (hgr'.out.trans hgrow8)
           have hno8:Hid (∀ y∈L.take (i+1),y∉V):=hid (fun y hy=>by
                rw[htk.out] at hy
                rcases List.mem_append.1 hy with hy | hy
                ·exact hno.out y hy
                ·rw[List.mem_singleton.1 hy]; exact hinV.out)
           clear hown8 hgrow8 hput hown hrun hcv hwc hck hVl
           go_wp2_with fail
           go_roundw
           case rel=>exact⟨i+1,by omega,by go_num,hgr8.out,hS8.out,hno8.out⟩
           case measure=>simp[Go.RowKit.intOf]; omega
         ·obtain rfl:i=ln:=by omega
          have eL:L.take i=L:=List.take_of_length_le (by rw[hlnL.out]; exact Nat.le_refl _)
          have bel:=hid (hb7.out.grown hgr (Nat.le_of_lt hsz7) (fun k hk=>by cases hk; exact Nat.le_refl _))
          have hszF:=Nat.lt_of_lt_of_le hsz7 hgr.size
          have hNext:Hid (Seen wr w1.heap.size (V++L)/\uQ n B l (j+1) (V++L)):=hid (by
           rw[eL] at hS
           refine⟨hS,hTo.out.next hx.out hOk.out ?_ hri'.out hmL'.out (by rw[hlnL.out]; omega) (by have:=hno.out; rwa [eL] at this)⟩
           have h1:=hsumN.out
           have h2:=hrm.out
           omega)
          have hvN:Hid ((rm-t.quota:Int)=(n:Int)-90-pG (l.take (j+1))):=hid (by rw[hsumN.out,<-hrm.out]; omega)
          clear hS hgr eL
          go_wp2_with fail
          go_roundw
          case rel=>exact⟨j+1,V++L,by omega,by go_num,by rw[hvN.out],bel.out,hszF,hNext.out.1,hNext.out.2⟩
          case measure=>simp[Go.RowKit.intOf]; omega
     ·have h5':(e2 == 0)=false:=by simp[h5]
      go_wp2_with fail
      go_ret
      exact⟨aU e2 h5 (fun f=>h5 (he2.out.2 (f.tens t (List.mem_of_getElem? hx.out)))),Below.tr b1.out hb6.out⟩
    ·obtain rfl:j=tn:=by omega
     have e1:l.take j=l:=List.take_of_length_le (by rw[htl.out]; exact Nat.le_refl _)
     rw[e1] at hsq0 hsq1
     have hAll:Hid (uQ n B l j V):=hid hTo
     have hokl:Hid (∀ t∈l,lD n B t):=hid (by have:=hTo.tens; rwa [e1] at this)
     replace hb:=hid hb
     clear hTo hS
     go_wp2_with fail
     refine(aL1 Q a n c B ta j tc l wr (h.out.store.below hb.out) (h.out.tens.below hb.out) hR.out (by rw[htl.out]; exact htn) hokl.out).mono ?_
     rintro e w2 ⟨⟨e2,rfl,he2⟩,b2⟩
     replace he2:=hid he2
     have hb2:=hid (Below.tr b1.out (Below.tr hb.out b2))
     clear p0r p1r b2
     go_wp2_with fail
     go_ret
     refine⟨⟨e2,rfl,fun f=>⟨hR.out,by rw[htl.out]; exact htn,hokl.out,fun hp=>?_,?_,?_,he2.out.1 f⟩,fun f=>he2.out.2 f.held⟩,hb2.out⟩
     ·have:=hAll.out.room (by rw[<-htl.out]; exact hp); rwa [e1] at this
     ·have:=hAll.out.uses; rwa [e1] at this
     ·have:=hAll.out.apart; rwa [e1] at this
 ·have h0':(e' == 0)=false:=by simp[h0]
  go_wp2_with fail
  go_ret
  exact⟨aU e' h0 (fun f=>h0 (he.out.2 f.right)),Below.tr b0 b1⟩
end Go.Proofs.YtjafgnohlkkopaaGreatDoor
namespace Go.Proofs.YtjafgnohlkkopaaGreatDoor
theorem tQ {l:List bQ}(p:Nat)(x:bQ)(r:Int):(dQ (l.take p++x::l.drop p)).count r=(dQ l).count r+(aS x.files).count r:=by
 have e:dQ l=dQ (l.take p)++dQ (l.drop p):=by rw[<-iJ,List.take_append_drop]
 rw[e,iJ]
 show (dQ (l.take p)++(aS x.files++dQ (l.drop p))).count r=_
 simp only[List.count_append]
 omega
theorem uY {l:List bQ}{p:Nat}(hp:p<l.length)(r:Int):(dQ (l.eraseIdx p)).count r+(aS (l[p]).files).count r=(dQ l).count r:=by
 have e:l=l.take p++l[p]::l.drop (p+1):=by rw[List.getElem_cons_drop,List.take_append_drop]
 have e2:dQ l=dQ (l.take p)++(aS l[p].files++dQ (l.drop (p+1))):=by
  conv=>lhs; rw[e]
  rw[iJ]; rfl
 rw[List.eraseIdx_eq_take_drop_succ,iJ,e2]
 simp only[List.count_append]
 omega
theorem mem_insert {α:Type}{l:List α}{p:Nat}{x z:α}:z∈l.take p++x::l.drop p↔z=x\/z∈l:=by
 have:z∈l↔z∈l.take p++l.drop p:=by rw[List.take_append_drop]
 rw[this,List.mem_append,List.mem_append,List.mem_cons]
 constructor
 ·rintro (h | h | h)
  ·exact .inr (.inl h)
  ·exact .inl h
  ·exact .inr (.inr h)
 ·rintro (h | h | h)
  ·exact .inr (.inl h)
  ·exact .inl h
  ·exact .inr (.inr h)
theorem mF {α:Type}{l:List α}{p:Nat}{x z:α}(h:z∈l.set p x):z=x\/z∈l:=(List.mem_or_eq_of_mem_set h).symm
theorem length_insert {α:Type}(l:List α)(p:Nat)(x:α):(l.take p++x::l.drop p).length=l.length+1:=by
 have e:l.length=(l.take p++l.drop p).length:=by rw[List.take_append_drop]
 rw[e]; simp; omega
theorem bS9 {n:Nat}{B:Nat->Blk}(h:Right n B):iQ n B B []:=vQ h.one
theorem cC8 {n:Nat}{key:Int}{B C:Nat->Blk}{x:aK}{q:Nat}{nm:ByteArray}(hx:bD n B key x)(hq:q<x.snaps.length)(hn:aN nm)(hg:Grow n B C (aS (x.snaps[q]).files))(hh:dY n B (aG x)):
 bD n C key ⟨nm,(x.snaps[q]).files,[]⟩/\dY n C (aG ⟨nm,(x.snaps[q]).files,[]⟩)/\bD n C key x:=by
 have hs:=hx.shape
 have hmem:x.snaps[q]∈x.snaps:=List.getElem_mem hq
 refine⟨qX hx.kb hg.right ⟨hn,(hs.filesS _ hmem).1,(hs.filesS _ hmem).2.1,(hs.filesS _ hmem).2.2,Nat.zero_le _,by simp,List.Pairwise.nil,by simp⟩ (fun e he=>?_),fun k hk=>?_,qX hx.kb hg.right hs (jW hx hg)⟩
 ·rcases List.mem_append.1 he with h | h
  ·exact jW hx hg e (List.mem_append_right _ (List.mem_flatMap.2 ⟨_,hmem,h⟩))
  ·simp at h
 ·rw[hg.out k hk]
  have:=hh k hk
  have e:aG ⟨nm,(x.snaps[q]).files,[]⟩=aS (x.snaps[q]).files:=by simp[aG,dQ]
  rw[e]
  omega
end Go.Proofs.YtjafgnohlkkopaaGreatDoor
namespace Go.Proofs.YtjafgnohlkkopaaGreatDoor
theorem gM.zero {n:Nat}{B C:Nat->Blk}{l:List Int}(h:gM n B C l):gM n B C (0::l):=fun x hx=>h x (hx.mono fun r hr h0=>by
 rcases List.mem_cons.1 hr with e | hr
 ·exact absurd e h0
 ·exact Clo.root hr h0)
theorem dY.sub {n:Nat}{B C:Nat->Blk}{R T:List Int}(h:dY n B R)(ht:∀ r,T.count r<=R.count r)(ho:∀ k,k<n->outs n B k<=outs n C k):dY n C T:=fun k hk=>by
 have h1:=h k hk
 have h2:=ht ((k:Int)+1)
 have h3:=ho k hk
 omega
theorem Grow.more {n:Nat}{B C:Nat->Blk}{K:List Int}(h:Grow n B C K):∀ k,k<n->outs n B k<=outs n C k:=fun k hk=>by
 rw[h.out k hk]; omega
end Go.Proofs.YtjafgnohlkkopaaGreatDoor
namespace Go.Proofs.YtjafgnohlkkopaaGreatDoor
theorem gM.back {n:Nat}{B C:Nat->Blk}{l:List Int}(h:gM n B C l){x:Int}(hx:Clo C l x):Clo B l x:=
 hx (Clo B l) (fun r hr h0=>Clo.root hr h0) (fun y hy k hk h0=>hy.kid ((h y hy).2.2.1▸hk) h0)
theorem mM {l:List aP}{i:Nat}{t:aP}(hi:l[i]? =some t)(t':aP)(r:Int):(gT (l.set i t')).count r+(aL t).count r=(gT l).count r+(aL t').count r:=by
 obtain⟨h,rfl⟩:=List.getElem?_eq_some_iff.1 hi
 have e:l=l.take i++l[i]::l.drop (i+1):=by rw[List.getElem_cons_drop,List.take_append_drop]
 have e2:l.set i t'=l.take i++t'::l.drop (i+1):=by rw[List.set_eq_take_append_cons_drop,if_pos h]
 rw[e2]
 conv=>rhs; rw[e]
 simp only[gT,List.flatMap_append,List.flatMap_cons,List.count_append]
 omega
theorem bU0 {l:List aP}{i j:Nat}{t u:aP}(hi:l[i]? =some t)(hj:l[j]? =some u)(hij:i≠j)(r:Int):(aL t).count r+(aL u).count r<=(gT l).count r:=by
 have h1:=mM hi ⟨0,0,[]⟩ r
 have h2:=mM (l:=l.set i ⟨0,0,[]⟩) (i:=j) (t:=u) (by rw[List.getElem?_set_ne hij]; exact hj) ⟨0,0,[]⟩ r
 have h0:(aL ⟨0,0,[]⟩).count r=0:=by simp[aL,cK]
 omega
theorem bX0 {l:List aP}{i:Nat}{t t':aP}(hi:l[i]? =some t)(hq:t'.quota=t.quota):pG (l.set i t')=pG l:=by
 obtain⟨h,rfl⟩:=List.getElem?_eq_some_iff.1 hi
 unfold pG
 rw[List.map_set,hq]
 congr 1
 apply List.ext_getElem?
 intro k
 rw[List.getElem?_set]
 split
 ·rename_i e
  subst e
  simp[h]
 ·rfl
structure Step (n:Nat)(B D:Nat->Blk)(l:List aP)(i:Nat)(t':aP):Prop where
 ok:aR n D (l.set i t')
 oth:∀ (j:Nat) (u:aP),l[j]? =some u->j≠i->gM n B D (aL u)
theorem aR.move {n:Nat}{B D:Nat->Blk}{l:List aP}{i:Nat}{t t':aP}{R S:List Int}(h:aR n B l)(hi:l[i]? =some t)(hq:t'.quota=t.quota)(hM:uA n B D R S)(hRt:∀ r:Int,r≠0->R.count r<=(aL t).count r)(hc:∀ r:Int,r≠0->(aL t').count r+R.count r=(aL t).count r+S.count r)(htok:lD n D t')(huse:∃ m,sI D (aL t') m/\m<=t.quota)(hfrom:∀ x,Clo D (aL t') x->Clo B (aL t) x\/¬There n B x):Step n B D l i t':=by
 obtain⟨hil,hti⟩:=List.getElem?_eq_some_iff.1 hi
 have hoth:∀ (j:Nat) (u:aP),l[j]? =some u->j≠i->gM n B D (0::aL u):=fun j u hj hji=>by
  have h1:gM n B D (0::aQ0 n B R):=hM.stays.zero
  refine h1.mono (fun r hr=>?_)
  rcases List.mem_cons.1 hr with rfl | hr
  ·exact List.mem_cons_self
  ·have hb:=(h.tens u (List.mem_of_getElem? hj)).rootBd r hr
   rcases hb with rfl | ⟨h1,h2⟩
   ·exact List.mem_cons_self
   ·refine List.mem_cons_of_mem _ (rM.2 ⟨(r-1).toNat,by omega,?_,by omega⟩)
    have e:(((r-1).toNat:Nat):Int)+1=r:=by omega
    have h3:=h.held (r-1).toNat (by omega)
    have h4:=bU0 hi hj (fun f=>hji f.symm) r
    have h5:0<(aL u).count r:=List.count_pos_iff.2 hr
    have h6:=hRt r (by omega)
    rw[e] at h3 ⊢
    omega
 have hst:∀ (j:Nat) (u:aP),l[j]? =some u->j≠i->gM n B D (aL u):=fun j u hj hji=>(hoth j u hj hji).mono (fun r hr=>List.mem_cons_of_mem _ hr)
 refine⟨?_,hst⟩
 refine⟨hM.right,by rw[List.length_set]; exact h.few,fun u hu=>?_,fun hp=>?_,fun u hu=>?_,?_,fun k hk=>?_⟩
 ·obtain⟨j,hj,rfl⟩:=List.mem_iff_getElem.1 hu
  by_cases e:i=j
  ·subst e
   rw[List.getElem_set_self]
   exact htok
  ·rw[List.getElem_set_ne e]
   have hjl:j<l.length:=by simpa using hj
   have hju:l[j]? =some l[j]:=List.getElem?_eq_getElem hjl
   have ho:=h.tens l[j] (List.getElem_mem hjl)
   exact⟨ho.kb,ho.qb,ho.few,fun x hx=>((ho.sets x hx).bytes hM.right (hoth j _ hju (fun f=>e f.symm)) (fun r hr=>List.mem_cons_of_mem _ (List.mem_flatMap.2 ⟨x,hx,hr⟩))).1,ho.order⟩
 ·rw[bX0 hi hq]
  exact h.room (by simpa using hp)
 ·obtain⟨j,hj,rfl⟩:=List.mem_iff_getElem.1 hu
  by_cases e:i=j
  ·subst e
   rw[List.getElem_set_self,hq]
   exact huse
  ·rw[List.getElem_set_ne e]
   have hjl:j<l.length:=by simpa using hj
   have hs:=hst j l[j] (List.getElem?_eq_getElem hjl) (fun f=>e f.symm)
   obtain⟨m,⟨V,h1,h2,h3⟩,h4⟩:=h.uses l[j] (List.getElem_mem hjl)
   exact⟨m,⟨V,h1,fun x=>(h2 x).trans ⟨fun f=>hs.clo f,fun f=>hs.back f⟩,h3⟩,h4⟩
 ·rw[List.pairwise_iff_getElem]
  intro a b ha hb hab x hx hy
  rw[List.length_set] at ha hb
  have hap:∀ c d (hc:c<l.length) (hd:d<l.length),c≠d->∀ x,Clo B (aL l[c]) x->¬Clo B (aL l[d]) x:=fun c d hc hd hcd x h1 h2=>by
   rcases Nat.lt_or_gt_of_ne hcd with q | q
   ·exact List.pairwise_iff_getElem.1 h.apart c d hc hd q x h1 h2
   ·exact List.pairwise_iff_getElem.1 h.apart d c hd hc q x h2 h1
  have key:∀ d (hd:d<l.length),d≠i->Clo D (aL t') x->Clo D (aL l[d]) x->False:=fun d hd hdi h1 h2=>by
   have h3:=(hst d l[d] (List.getElem?_eq_getElem hd) hdi).back h2
   rcases hfrom x h1 with h4 | h4
   ·rw[<-hti] at h4
    exact hap i d hil hd (fun f=>hdi f.symm) x h4 h3
   ·exact h4 (h3.there h.right (h.tens _ (List.getElem_mem hd)).rootsOk)
  by_cases ea:i=a
  ·subst ea
   rw[List.getElem_set_self] at hx
   rw[List.getElem_set_ne (by omega)] at hy
   exact key b hb (by omega) hx hy
  ·rw[List.getElem_set_ne ea] at hx
   by_cases eb:i=b
   ·subst eb
    rw[List.getElem_set_self] at hy
    exact key a ha (by omega) hy hx
   ·rw[List.getElem_set_ne eb] at hy
    exact hap a b ha hb (by omega) x ((hst a l[a] (List.getElem?_eq_getElem ha) (fun f=>ea f.symm)).back hx) ((hst b l[b] (List.getElem?_eq_getElem hb) (fun f=>eb f.symm)).back hy)
 ·have h1:=hM.out k hk
  have h2:=h.held k hk
  have h3:=mM hi t' ((k:Int)+1)
  have h4:=hc ((k:Int)+1) (by omega)
  have h5:=hRt ((k:Int)+1) (by omega)
  omega
theorem aR.refs {n:Nat}{B:Nat->Blk}{l:List aP}(h:aR n B l):∀ k,k<n->(B k).refs<=2000:=fun k hk=>by
 have h1:=h.held k hk
 have h2:=sQ (l:=l) h.tens
 have h3:=h.few
 have h4:(gT l).count ((k:Int)+1)<=(gT l).length:=List.count_le_length
 have h5:=vU (n:=n) (B:=B) ((k:Int)+1) n (fun j hj=>(h.right.one j hj).few)
 have h6:=h.right.small
 unfold outs at h1
 omega
theorem aR.heldX {n:Nat}{B:Nat->Blk}{l:List aP}{i:Nat}{t:aP}{x:aK}(h:aR n B l)(hi:l[i]? =some t)(hx:x∈t.sets):bD n B t.key x/\dY n B (aG x)/\∀ r:Int,(aG x).count r<=(aL t).count r:=by
 have hle:∀ r:Int,(aG x).count r<=(aL t).count r:=fun r=>by
  obtain⟨j,hj,rfl⟩:=List.mem_iff_getElem.1 hx
  have e:t.sets=t.sets.take j++t.sets[j]::t.sets.drop (j+1):=by rw[List.getElem_cons_drop,List.take_append_drop]
  unfold aL cK
  conv=>rhs; rw[e]
  simp only[List.flatMap_append,List.flatMap_cons,List.count_append]
  omega
 refine⟨(h.tens t (List.mem_of_getElem? hi)).sets x hx,fun k hk=>?_,hle⟩
 rw[h.held k hk]
 have h1:=hle ((k:Int)+1)
 have h2:=mM hi ⟨0,0,[]⟩ ((k:Int)+1)
 have h0:(aL ⟨0,0,[]⟩).count ((k:Int)+1)=0:=by simp[aL,cK]
 omega
end Go.Proofs.YtjafgnohlkkopaaGreatDoor
namespace Go.Proofs.YtjafgnohlkkopaaGreatDoor
open Go.RowKit
theorem uD {P:Program}(w:World){o:Oper}{a:Act}{K:Act->World->Prop}{Q:Exit->Act->World->Prop}(d s:Operand)(t t':TypeId)
 (ho:o.op=.call { callee:=.builtin .copy,args:=#[d,s],argTypes:=#[t,t'] }) (v u:Value) (hd:a.eval d=v) (hs:a.eval s=u) {v':Value} {w':World}
 (hr:(Builtin.copy_ #[t,t'] o.type #[v,u]).run P w=.ok v' w') (h:K (a.put o.dst v') w'):o.wp P a w K Q:=by
 unfold Oper.wp
 simp[execOp,ho,resolve,invoke,builtin,hd,hs,hr,Result.andThen]
 exact h
theorem jF {P:Program}(w:World){ops:Array Oper}{rest:List Oper}{o:Oper}{a:Act}{Q:Exit->Act->World->Prop}(hgd:o.guard=none)(d s:Operand)(t t':TypeId)
 (ho:o.op=.call { callee:=.builtin .copy,args:=#[d,s],argTypes:=#[t,t'] }) (v u:Value) (hd:a.eval d=v) (hs:a.eval s=u) {v':Value} {w':World}
 (hr:(Builtin.copy_ #[t,t'] o.type #[v,u]).run P w=.ok v' w') (h:wpList P ops Q rest (a.put o.dst v') w'):wpList P ops Q (o::rest) a w:=
 wpList_plain hgd fun _ hK=>uD w d s t t' ho v u hd hs hr (hK _ _ h)
theorem fK {P:Program}{ops:Array Oper}{o:Oper}{a:Act}{w:World}{K:Act->World->Prop}{Q:Exit->Act->World->Prop}{E:Prop}
 (hg:o.guard=none) (d x:Operand) (dT sT:TypeId) (hop:o.op=Op.call { callee:=Callee.builtin Builtin.copy,args:=#[d,x],argTypes:=#[dT,sT] })
 (v u:Value) (hd:a.eval d=v) (hx:a.eval x=u) {v':Value} {w':World} (hr:(Builtin.copy_ #[dT,sT] o.type #[v,u]).run P w=.ok v' w') (hK:K (a.put o.dst v') w'):
 if Region.wanted o (yielded ops a.tmps)=true then Oper.wp P o a w K Q else E:=by
 have hw:Region.wanted o (yielded ops a.tmps)=true:=by simp[Region.wanted,hg]
 rw[if_pos hw]
 exact uD w d x dT sT hop v u hd hx hr hK
def aX (cur:Array Value)(o:Nat)(vs:List Value):Array Value:=(cur.toList.take o++vs++cur.toList.drop (o+vs.length)).toArray
theorem dI {cur:Array Value}{o:Nat}{vs:List Value}(h:o+vs.length<=cur.size):(aX cur o vs).size=cur.size:=by
 unfold aX
 simp
 omega
theorem mH (cur:Array Value)(o:Nat)(vs:List Value):(aX cur o vs).toList=cur.toList.take o++vs++cur.toList.drop (o+vs.length):=by
 unfold aX
 simp
theorem tJ {cur:Array Value}{o n:Nat}{vs:List Value}(h:o+vs.length<=cur.size)(hn:n<=o):(aX cur o vs).toList.take n=cur.toList.take n:=by
 rw[mH,List.append_assoc,List.take_append_of_le_length (by simp; omega),List.take_take]
 congr 1
 omega
theorem dX {cur:Array Value}{o:Nat}{vs:List Value}(h:o+vs.length<=cur.size):(aX cur o vs).toList.take (o+vs.length)=cur.toList.take o++vs:=by
 rw[mH]
 exact List.take_left' (by simp; omega)
theorem dK {P:Program}(w:World)(dT sT ty elem:TypeId)(k g o dLen dCap:Nat)(a:Addr)(sLen sCap:Nat)(cur:Array Value)(t:TypeId)(cs:List Value)
 (hu:P.underlying dT=some (.slice elem)) (hs:(P.info? elem).map (·.size)=some k)
 (hg:aC w g cur t) (hn:cs.length=Nat.min sLen dLen*k)
 (hsrc:∀ j v,cs[j]? =some v->w.cell? (a.add j)=some v) (hfit:o+cs.length<=cur.size) (h1:∀ v∈cs,v.oneCell'=true):
 (Builtin.copy_ #[dT,sT] ty #[.slice (some ⟨g,o,none⟩) dLen dCap,.slice (some a) sLen sCap]).run P w=
   .ok (goInt (Nat.min sLen dLen)) (w.setRow g (aX cur o cs)):=by
 have hl:=run_loadCells_list (P:=P) w a cs hsrc
 have hst:=run_storeCells_at P g o t cs 0 cur w hg (by simpa using hfit) h1
 cases hq:P.info? elem with
 | none=>simp[hq] at hs
 | some i=>
   have hi:i.size=k:=by simpa [hq] using hs
   simp[Builtin.copy_,run_underlying hu,Builtin.lenOf,Builtin.firstCells,sizeOf,typeInfo,hq,hi,<-hn,hl,hst,aX]
theorem dC {w:World}{g:Nat}{cur cur':Array Value}{t:TypeId}(hg:aC w g cur t):aC (w.setRow g cur') g cur' t:=setRow_heap w g cur cur' t (0,0) hg
theorem bN (w:World)(g:Nat)(cur:Array Value):Kept g w (w.setRow g cur):=by
 refine⟨rfl,rfl,rfl,by unfold World.setRow; simp,fun k hk=>?_⟩
 unfold World.setRow
 simp only[Array.getElem?_modify]
 rw[if_neg (fun e=>hk e.symm)]
theorem iX {g:Nat}{t:TypeId}:∀ (vs:List Value) (o:Nat) (w:World) (cur:Array Value),aC w g cur t->o+vs.length<=cur.size->aC (w.setCells g o vs) g (aX cur o vs) t
 | [],o,w,cur,hg,_=>by
   have:aX cur o []=cur:=by unfold aX; simp
   rw[this]
   exact hg
 | v::r,o,w,cur,hg,h=>by
   simp only[List.length_cons] at h
   have h1:=hg.set o v
   have h2:=iX r (o+1) _ _ h1 (by simp; omega)
   have e:aX (cur.setIfInBounds o v) (o+1) r=aX cur o (v::r):=by
    unfold aX
    congr 1
    have:=list_seg_step cur.toList o v r (by simp; omega)
    simpa [Array.toList_setIfInBounds,Nat.add_assoc] using this
   rw[e] at h2
   exact h2
theorem jL (g:Nat):∀ (vs:List Value) (o:Nat) (w:World),Kept g w (w.setCells g o vs)
 | [],_,w=>Kept.refl _ _
 | v::r,o,w=>(Kept.setCell (g:=g) (Kept.refl _ _) (p:=⟨g,o,none⟩) rfl v).trans (jL g r (o+1) _)
theorem lQ {P:Program}(w:World)(t e tc:TypeId)(z:Value)(k g o n c:Nat)(cur:Array Value)(ht:P.underlying t=some (.slice e))(hv:∀ w,(zeroValue e).run P w=.ok z w)(hz:z.cells.size=k)(h1:∀ v∈z.cells.toList,v.oneCell'=true)(hn:0<n)
 (hg:aC w g cur tc) (hfit:o+n*k<=cur.size):
 ∃ vs:List Value,vs.length=n*k/\∀ ty:TypeId,(Builtin.clear_ #[t] ty #[.slice (some ⟨g,o,none⟩) n c]).run P w=.ok (.tuple #[]) (w.setRow g (aX cur o vs)):=by
 refine⟨(Builtin.zeroCells z.cells n).toList,by simp[Builtin.zeroCells,hz],fun ty=>?_⟩
 have hlen:(Builtin.zeroCells z.cells n).toList.length=n*k:=by simp[Builtin.zeroCells,hz]
 have hone:∀ v∈(Builtin.zeroCells z.cells n).toList,v.oneCell'=true:=by
  intro v hv
  simp only[Builtin.zeroCells,Array.toList_map,List.mem_map] at hv
  obtain⟨j,hj,rfl⟩:=hv
  by_cases hk:k=0
  ·subst hk
   rw[hz] at hj
   simp at hj
  ·have hlt:j%z.cells.size<z.cells.size:=Nat.mod_lt _ (by omega)
   rw[getElem!_pos z.cells _ hlt]
   exact h1 _ (by simp)
 have hst:=run_storeCells_at P g o tc (Builtin.zeroCells z.cells n).toList 0 cur w hg (by rw[hlen]; simpa using hfit) hone
 cases n with
 | zero=>omega
 | succ n=>simp[Builtin.clear_,run_underlying ht,hv,hst,aX]
end Go.Proofs.YtjafgnohlkkopaaGreatDoor
