import Derived.Test.YtjafgnohlkkopaaGreatDoorPart31
import Derived.Shelf.Strings.OnBuilder
import Derived.Shelf.Strings.BuilderK
import Derived.Shelf.LaysM
import Derived.Shelf.Strconv.Itoa3
import Derived.Test.YtjafgnohlkkopaaGreatDoorRows
import Derived.Test.YtjafgnohlkkopaaGreatDoorPart05
import Derived.Test.YtjafgnohlkkopaaGreatDoorPart09
import Derived.Test.YtjafgnohlkkopaaGreatDoorPart10
import Derived.Lib.SmallJoins
import Derived.Test.YtjafgnohlkkopaaGreatDoorPart17
import Derived.Deep.RegionHeld3
import Derived.Laws.Concat
import Derived.Test.YtjafgnohlkkopaaGreatDoorPart30
set_option linter.unusedVariables false
set_option maxHeartbeats 8000000
set_option maxRecDepth 100000
namespace Go.Proofs.YtjafgnohlkkopaaGreatDoor
open Go.RowKit
theorem pM {l:List aP}{i:Nat}{t:aP}(t':aP)(h:l[i]? =some t):(l.set i t')[i]? =some t':=by
 obtain⟨hi,_⟩:=List.getElem?_eq_some_iff.1 h
 rw[List.getElem?_set_self hi]
theorem bQ1 {α:Type}{l:List α}{p:Nat}{y z:α}(h:z∈l.take p++y::l.drop p):z=y\/z∈l:=by
 rcases List.mem_append.1 h with h | h
 ·exact .inr (List.mem_of_mem_take h)
 ·rcases List.mem_cons.1 h with h | h
  ·exact .inl h
  ·exact .inr (List.mem_of_mem_drop h)
theorem aY8 {α:Type}{l:List α}{k:Nat}(hk:k<l.length)(y:α):l.set k y=l.take k++y::l.drop (k+1):=by
 rw[List.set_eq_take_append_cons_drop,if_pos hk]
theorem rJ {α:Type}{l:List α}{k:Nat}(hk:k<l.length){y z:α}(h:z∈l.eraseIdx k):z∈l.set k y:=by
 rw[aY8 hk]
 rw[List.eraseIdx_eq_take_drop_succ] at h
 rcases List.mem_append.1 h with h | h
 ·exact List.mem_append_left _ h
 ·exact List.mem_append_right _ (List.mem_cons_of_mem _ h)
theorem aF1 {α:Type}{l:List α}{k:Nat}(hk:k<l.length){y z:α}(h:z∈l.set k y):z=y\/z∈l.eraseIdx k:=by
 rw[aY8 hk] at h
 rw[List.eraseIdx_eq_take_drop_succ]
 rcases List.mem_append.1 h with h | h
 ·exact .inr (List.mem_append_left _ h)
 ·rcases List.mem_cons.1 h with h | h
  ·exact .inl h
  ·exact .inr (List.mem_append_right _ h)
theorem aB2 (f:Int->Int)(l:List aK)(k:Nat):(l.map (fB f)).eraseIdx k=(l.eraseIdx k).map (fB f):=by
 rw[List.eraseIdx_eq_take_drop_succ,List.eraseIdx_eq_take_drop_succ,List.map_append,List.map_take,List.map_drop]
theorem fJ {l:List aK}{x:aK}{r:Int}(hx:x∈l)(hr:r∈aG x):r∈cK l:=List.mem_flatMap.2 ⟨x,hx,hr⟩
theorem aP8 {n:Nat}{B C:Nat->Blk}{x y:aK}{fr nm:ByteArray}{R:List Int}(hB:Right n B)(hr:bE n B R)(h:ClF n B C x fr nm y):eH B C R:=fun z hz=>by
 have ht:=hz.there hB hr
 rw[h.more _ (ix ht.1 ht.2.1).1]
 exact⟨rfl,rfl,rfl⟩
theorem cO5 {n:Nat}{B C D E:Nat->Blk}{x y y':aK}{fr nm:ByteArray}{f:Int->Int}(ho:nY x.snaps)(h:ClF n B C x fr nm y)(k:ClF n D E (fB f x) fr nm y'):y'=fB f y:=by
 obtain⟨q,hq,e1,e2⟩:=h.snap
 obtain⟨q', hq', e1', e2'⟩:=k.snap
 have hq0:q'<x.snaps.length:=by have:=cT1 (f:=f) (x:=x); omega
 have eg:(fB f x).snaps[q']=nU f x.snaps[q']:=List.getElem_map (nU f)
 have eq:q'=q:=qO (f:=bQ.nm) ho hq0 hq (by rw[e1,<-e1', eg]; rfl)
 subst eq
 have e3:y'.files=jH f y.files:=by rw[e2', eg,e2]; rfl
 obtain⟨ny,fy,sy⟩:=y
 obtain⟨ny', fy', sy'⟩:=y'
 have a1:=h.name
 have a2:=k.name
 have a3:=h.none
 have a4:=k.none
 simp only at a1 a2 a3 a4 e3
 subst a1 a2 a3 a4 e3
 rfl
theorem bC3 {n:Nat}{B D B' D':Nat->Blk}{l m:List aP}{i k:Nat}{t:aP}{a:aM}{f:Int->Int}{x y y':aK}(hB:aR n B l)(hD:aR n D m)(hl:l[i]? =some t)(hm:m[i]? =some (aM0 f t))(hI:Iso f B (aL t) D)(hb:Bytes a.bytes)(hx:t.sets[k]? =some x)(d:Did n B t.key x a 2000 B' y)(d':Did n D t.key (fB f x) a 2000 D' y'):
 ∃ g,Iso g B' (cK (t.sets.set k y)) D'/\(t.sets.map (fB f)).set k y'=(t.sets.set k y).map (fB g):=by
 have hBt:=hB.tens t (List.mem_of_getElem? hl)
 have hDu:=hD.tens _ (List.mem_of_getElem? hm)
 have hx':(aM0 f t).sets[k]? =some (fB f x):=by show (t.sets.map (fB f))[k]? =_; rw[List.getElem?_map,hx]; rfl
 obtain⟨_,tB,_⟩:=hB.changed hl hx hb hB.refs (tC a) d
 obtain⟨_,tD,_⟩:=hD.changed hm hx' hb hD.refs (tC a) d'
 obtain⟨hk,hkx⟩:=List.getElem?_eq_some_iff.1 hx
 have hxm:x∈t.sets:=List.mem_of_getElem? hx
 have hsub:∀ r∈aG x++cK (t.sets.eraseIdx k),r∈aL t:=fun r hr=>by
  rcases List.mem_append.1 hr with hr | hr
  ·exact fJ hxm hr
  ·obtain⟨z,hz,hr⟩:=List.mem_flatMap.1 hr
   exact fJ (List.mem_of_mem_eraseIdx hz) hr
 have rB:=hBt.rootsOk
 have rD:=hDu.rootsOk
 rw[jT] at rD
 have hk':k<(t.sets.map (fB f)).length:=by rw[List.length_map]; exact hk
 obtain⟨g,hg,rfl,hgR⟩:=cJ2 (R0:=cK (t.sets.eraseIdx k)) (hBt.sets x hxm) hD.right hb ⟨by omega,by omega⟩ (fun r hr=>rB r (hsub r hr)) (fun r hr=>by
  obtain⟨s,hs,rfl⟩:=List.mem_map.1 hr
  exact rD _ (List.mem_map_of_mem (hsub s hs))) (hI.sub (xO hsub)) d d' (fun r hr=>by
  refine tB.rootsOk r ?_
  rcases List.mem_append.1 hr with hr | hr
  ·exact fJ (List.mem_set hk y) hr
  ·obtain⟨z,hz,hr⟩:=List.mem_flatMap.1 hr
   exact fJ (rJ hk hz) hr) (fun r hr=>by
  refine tD.rootsOk r ?_
  rcases List.mem_append.1 hr with hr | hr
  ·exact fJ (List.mem_set hk' y') hr
  ·rw[<-oL,<-aB2] at hr
   obtain⟨z,hz,hr⟩:=List.mem_flatMap.1 hr
   exact fJ (rJ hk' hz) hr)
 refine⟨g,hg.sub (xO fun r hr=>?_),?_⟩
 ·obtain⟨z,hz,hr2⟩:=List.mem_flatMap.1 hr
  rcases aF1 hk hz with rfl | hz
  ·exact List.mem_append_left _ hr2
  ·exact List.mem_append_right _ (fJ hz hr2)
 ·have e:(t.sets.eraseIdx k).map (fB g)=(t.sets.eraseIdx k).map (fB f):=bH0 hgR
  rw[List.eraseIdx_eq_take_drop_succ,List.map_append,List.map_append] at e
  have hlen:((t.sets.take k).map (fB g)).length=((t.sets.take k).map (fB f)).length:=by rw[List.length_map,List.length_map]
  obtain⟨e1,e2⟩:=List.append_inj e hlen
  rw[aY8 hk,aY8 hk', List.map_append,List.map_cons,e1,e2,List.map_take,List.map_drop]
theorem cO2 {n:Nat}{B D B' D':Nat->Blk}{l m l' m':List aP}{i:Nat}{t u:aP}{a:aM}{e N e' N':Int}(hB:aR n B l)(hD:aR n D m)(hl:l[i]? =some t)(hm:m[i]? =some u)(hI:kQ B D t u)(hb:Bytes a.bytes)(h:dU n B l i t a B' l' e N)(k:dU n D m i u a D' m' e' N'):
 e'=e/\N'=N/\∃ t' u', l'[i]? =some t'/\m'[i]? =some u'/\kQ B' D' t' u':=by
 have hBt:=hB.tens t (List.mem_of_getElem? hl)
 have hDu:=hD.tens u (List.mem_of_getElem? hm)
 have isB:=h.is hB hl hb
 have isD:=k.is hD hm hb
 obtain⟨f,rfl,hI⟩:=hI
 have hlen:(aM0 f t).sets.length=t.sets.length:=List.length_map _
 have h0:0<l.length:=by obtain⟨hi,_⟩:=List.getElem?_eq_some_iff.1 hl; omega
 have g0:0<m.length:=by obtain⟨hi,_⟩:=List.getElem?_eq_some_iff.1 hm; omega
 have stay:∃ t' u', l[i]? =some t'/\m[i]? =some u'/\kQ B D t' u':=⟨t,_,hl,hm,f,rfl,hI⟩
 by_cases k1:a.kind=1
 ·obtain⟨rfl,rfl,hA⟩:=cG5 k1 h
  obtain⟨rfl,rfl,kA⟩:=cG5 k1 k
  rcases hA with⟨h1,rfl,h2⟩ | ⟨rfl,p,h1,h2,h3,rfl⟩<;>rcases kA with⟨g1,rfl,g2⟩ | ⟨rfl,p', g1,g2,g3,rfl⟩
  ·exact⟨(zA g2).uni h2,rfl,stay⟩
  ·exact(h2.not hBt.order g1 (by omega) (yD g3)).elim
  ·exact((zA g2).not hBt.order h1 h2 h3).elim
  ·refine⟨rfl,rfl,_,_,pM _ hl,pM _ hm,f,?_,hI.sub (xO fun r hr=>?_)⟩
   ·have:=aC2 hBt.order h3 g3 ⟨a.set,[],[]⟩
    show aP.mk _ _ _=aP.mk _ _ _
    rw[<-this]
    rfl
   ·obtain⟨z,hz,hr2⟩:=List.mem_flatMap.1 hr
    rcases bQ1 hz with rfl | hz
    ·cases hr2
    ·exact fJ hz hr2
 by_cases k13:a.kind=13
 ·obtain⟨rfl,rfl,rfl,hu⟩:=bT5 k13 h
  obtain⟨rfl,rfl,rfl,gu⟩:=bT5 k13 k
  rw[jT] at gu
  exact⟨rfl,(hI.uses hu gu).symm,stay⟩
 by_cases hy:∃ x∈t.sets,x.nm=a.set.data.toList
 case neg=>
  obtain⟨rfl,rfl,rfl,rfl⟩:=bT6 k1 k13 hy h
  obtain⟨rfl,rfl,rfl,rfl⟩:=bT6 k1 k13 (fun f=>hy (cR1.1 f)) k
  exact⟨rfl,rfl,stay⟩
 have hy':∃ x∈(aM0 f t).sets,x.nm=a.set.data.toList:=cR1.2 hy
 by_cases k11:a.kind=11\/a.kind=12
 ·obtain⟨rfl,rfl,j,x,hx,rfl,rfl⟩:=bT7 k11 hy h
  obtain⟨rfl,rfl,j', x', hx', rfl,rfl⟩:=bT7 k11 hy' k
  obtain⟨rfl,rfl⟩:=vF hBt.order hx.1 hx.2 hx'.1 hx'.2
  exact⟨bQ9 f x a,bQ8 f x a,stay⟩
 by_cases k2:a.kind=2
 ·obtain⟨rfl,rfl,j,x,hx,hR,hF,rfl⟩:=aC5 k2 hy h
  obtain⟨rfl,rfl,j', x', hx', gR,gF,rfl⟩:=aC5 k2 hy' k
  obtain⟨rfl,rfl⟩:=vF hBt.order hx.1 hx.2 hx'.1 hx'.2
  have rB:=(isB.ok.tens _ (List.mem_of_getElem? (pM _ hl))).rootsOk
  have rD:=(isD.ok.tens _ (List.mem_of_getElem? (pM _ hm))).rootsOk
  have eu:(⟨(aM0 f t).key,(aM0 f t).quota,(aM0 f t).sets.eraseIdx j'⟩:aP)=aM0 f ⟨t.key,t.quota,t.sets.eraseIdx j'⟩:=by
   show aP.mk _ _ _=aP.mk _ _ _
   rw[<-aB2]
   rfl
  rw[eu,jT] at rD
  refine⟨rfl,rfl,_,_,pM _ hl,pM _ hm,f,eu,(hI.sub (xO fun r hr=>?_)).keep (hF.sameOn hR rB) (gF.sameOn gR rD)⟩
  obtain⟨z,hz,hr⟩:=List.mem_flatMap.1 hr
  exact fJ (List.mem_of_mem_eraseIdx hz) hr
 by_cases k10:a.kind=10
 ·obtain⟨rfl,j,x,hx,hA⟩:=bC2 k10 hy h
  obtain⟨rfl,j', x', hx', kA⟩:=bC2 k10 hy' k
  obtain⟨rfl,rfl⟩:=vF hBt.order hx.1 hx.2 hx'.1 hx'.2
  have hxm:x∈t.sets:=List.mem_of_getElem? hx.1
  rcases hA with⟨h1,rfl,rfl,h2⟩ | ⟨rfl,y,p,h1,h2,h3,h4,rfl⟩<;>rcases kA with⟨g1,rfl,rfl,g2⟩ | ⟨rfl,y', p', g1,g2,g3,g4,rfl⟩
  ·exact⟨g2.map.uni h2,rfl,stay⟩
  ·have hf:=yD g4
   have hn:aN a.file:=by rw[<-g2.name]; exact g1.name
   exfalso
   obtain⟨q,hq,e1,_⟩:=g2.snap
   have hs:∃ s∈x.snaps,s.nm=a.to.data.toList:=cQ4.1 ⟨_,List.getElem_mem hq,e1⟩
   rcases h2 with (⟨_,h⟩ | ⟨_,_,h⟩) | ⟨_,h⟩
   ·exact h hn
   ·exact h hs
   ·have e:y'.nm=a.file.data.toList:=by unfold aK.nm; rw[g2.name]
    exact h.not hBt.order hn (by omega) (e▸hf)
  ·exact(g2.map.not hBt.order h1 h2 h3 h4).elim
  ·obtain rfl:=cO5 (hBt.sets x hxm).orderS h2 g2
   have rB:bE n B (aL ⟨t.key,t.quota,t.sets.take p++y::t.sets.drop p⟩)/\∀ r∈aL ⟨t.key,t.quota,t.sets.take p++y::t.sets.drop p⟩,r∈aL t:=by
    have hs:∀ r∈aL ⟨t.key,t.quota,t.sets.take p++y::t.sets.drop p⟩,r∈aL t:=fun r hr=>by
     obtain⟨z,hz,hr2⟩:=List.mem_flatMap.1 hr
     rcases bQ1 hz with rfl | hz
     ·obtain⟨q,hq,_,e2⟩:=h2.snap
      refine fJ hxm ?_
      unfold aG at hr2 ⊢
      rw[h2.none,e2] at hr2
      rcases List.mem_append.1 hr2 with hr2 | hr2
      ·refine List.mem_append_right _ ?_
       exact List.mem_flatMap.2 ⟨x.snaps[q],List.getElem_mem hq,hr2⟩
      ·cases hr2
     ·exact fJ hz hr2
    exact⟨fun r hr=>hBt.rootsOk r (hs r hr),hs⟩
   have rD:=hDu.rootsOk
   rw[jT] at rD
   refine⟨rfl,rfl,_,_,pM _ hl,pM _ hm,f,?_,(hI.sub (xO rB.2)).keep (aP8 hB.right rB.1 h2) (aP8 hD.right (fun r hr=>?_) g2)⟩
   ·have:=aC2 hBt.order h4 g4 y
    show aP.mk _ _ _=aP.mk _ _ _
    rw[<-this]
    rfl
   ·obtain⟨s,hs,rfl⟩:=List.mem_map.1 hr
    exact rD _ (List.mem_map_of_mem (rB.2 s hs))
 have ho:bK1 a:=⟨k1,k13,fun f=>k11 (.inl f),fun f=>k11 (.inr f),k2,k10⟩
 obtain⟨rfl,j,x,hx,hA⟩:=aP0 ho hy h
 obtain⟨rfl,j', x', hx', kA⟩:=aP0 ho hy' k
 obtain⟨rfl,rfl⟩:=vF hBt.order hx.1 hx.2 hx'.1 hx'.2
 have tB:=hB.roomy h0
 have tD:=hD.roomy g0
 have can1:∀ {C y},Did n B t.key x a 2000 C y->aY0 x a:=fun⟨_,_,hY,_⟩=>hY.can
 have can2:∀ {C y},Did n D t.key (fB f x) a 2000 C y->aY0 x a:=fun⟨_,_,hY,_⟩=>yO.1 hY.can
 have both:∀ {B1 D1 y y' q q'},Did n B t.key x a 2000 B1 y->Did n D t.key (fB f x) a 2000 D1 y'->sI B1 (cK (t.sets.set j' y)) q->sI D1 (cK ((aM0 f t).sets.set j' y')) q'->q=q':=fun d d' u u'=>by
  obtain⟨g,hg,eg⟩:=bC3 hB hD hl hm hI hb hx.1 d d'
  have u2:sI _ (cK ((t.sets.map (fB f)).set j' _)) _:=u'
  rw[eg,oL] at u2
  exact hg.uses u u2
 rcases hA with⟨h1,rfl,rfl,h2⟩ | ⟨rfl,y,q,h1,h2,h3,rfl⟩<;>rcases kA with⟨g1,rfl,rfl,g2⟩ | ⟨rfl,y', q', g1,g2,g3,rfl⟩
 ·refine⟨?_,rfl,stay⟩
  rcases h2 with⟨h2,h3⟩ | ⟨rfl,B1,y,q,h3,h4,h5⟩<;>rcases g2 with⟨g2,g3⟩ | ⟨rfl,D1,y', q', g3,g4,g5⟩
  ·exact(h3.same tB tD g3).symm
  ·exact absurd (can2 g3) (h3.cannot tB h2)
  ·exact absurd (yO.2 (can1 h3)) (g3.cannot tD g2)
  ·rfl
 ·exfalso
  rcases h2 with⟨h2,h3⟩ | ⟨rfl,B1,y,q,h3,h4,h5⟩
  ·exact absurd (can2 g1) (h3.cannot tB h2)
  ·have:=both h3 g1 h4 g2
   have hq:(aM0 f t).quota=t.quota:=rfl
   omega
 ·exfalso
  rcases g2 with⟨g2,g3⟩ | ⟨rfl,D1,y', q', g3,g4,g5⟩
  ·exact absurd (yO.2 (can1 h1)) (g3.cannot tD g2)
  ·have:=both h1 g3 h2 g4
   have hq:(aM0 f t).quota=t.quota:=rfl
   omega
 ·obtain⟨g,hg,eg⟩:=bC3 hB hD hl hm hI hb hx.1 h1 g1
  refine⟨rfl,rfl,_,_,pM _ hl,pM _ hm,g,?_,hg⟩
  show aP.mk _ _ _=aP.mk _ _ _
  rw[<-eg]
  rfl
end Go.Proofs.YtjafgnohlkkopaaGreatDoor
namespace Go.Proofs.YtjafgnohlkkopaaGreatDoor
open Go.RowKit Go.Shelf
abbrev tabN : String := Rows.viewLikeRow.named.headD default
def Tryz.lays156_ren : Go.Shelf.Ren := ⟨fun | 156 => 43 | 165 => 75 | 166 => 42 | 169 => 49 | 240 => 74 | 241 => 99 | 276 => 98 | 277 => 127 | n => n, fun | 31 => 39 | 9 => 9 | 3 => 3 | 4 => 4 | 0 => 0 | 20 => 20 | 72 => 95 | 76 => 98 | 70 => 93 | 37 => 28 | 75 => 97 | 127 => 151 | 164 => 172 | 5 => 5 | 80 => 114 | n => n, fun | n => n⟩
theorem Tryz.lays156 : Go.Proofs.Lays.n156 Tryz.prog Tryz.lays156_ren := {
  mixed := by kernel_rfl
  f156 := Tryz.func43.trans (congrArg some (by kernel_rfl))
  f165 := Tryz.func75.trans (congrArg some (by kernel_rfl))
  f166 := Tryz.func42.trans (congrArg some (by kernel_rfl))
  f169 := Tryz.func49.trans (congrArg some (by kernel_rfl))
  f240 := Tryz.func74.trans (congrArg some (by kernel_rfl))
  f241 := Tryz.func99.trans (congrArg some (by kernel_rfl))
  f276 := Tryz.func98.trans (congrArg some (by kernel_rfl))
  f277 := Tryz.func127.trans (congrArg some (by kernel_rfl))
  t0 := Tryz.underlying0
  a0 := Tryz.isAgg0
  z0 := Tryz.sizeOf0
  v0 := Tryz.zeroValue0
  t3 := Tryz.underlying3
  a3 := Tryz.isAgg3
  z3 := Tryz.sizeOf3
  v3 := Tryz.zeroValue3
  t4 := Tryz.underlying4
  a4 := Tryz.isAgg4
  z4 := Tryz.sizeOf4
  v4 := Tryz.zeroValue4
  t9 := Tryz.underlying9
  a9 := Tryz.isAgg9
  z9 := Tryz.sizeOf9
  v9 := Tryz.zeroValue9
  t20 := Tryz.underlying20
  a20 := Tryz.isAgg20
  z20 := Tryz.sizeOf20
  v20 := Tryz.zeroValue20
  t31 := Tryz.underlying39
  a31 := Tryz.isAgg39
  z31 := Tryz.sizeOf39
  v31 := Tryz.zeroValue39
  t37 := Tryz.underlying28
  a37 := Tryz.isAgg28
  z37 := Tryz.sizeOf28
  v37 := Tryz.zeroValue28
  t70 := Tryz.underlying93
  a70 := Tryz.isAgg93
  z70 := Tryz.sizeOf93
  v70 := Tryz.zeroValue93
  t72 := Tryz.underlying95
  a72 := Tryz.isAgg95
  z72 := Tryz.sizeOf95
  v72 := Tryz.zeroValue95
  t75 := Tryz.underlying97
  a75 := Tryz.isAgg97
  z75 := Tryz.sizeOf97
  v75 := Tryz.zeroValue97
  t76 := Tryz.underlying98
  a76 := Tryz.isAgg98
  z76 := Tryz.sizeOf98
  v76 := Tryz.zeroValue98
  t127 := Tryz.underlying151
  a127 := Tryz.isAgg151
  z127 := Tryz.sizeOf151
  v127 := Tryz.zeroValue151
  t164 := Tryz.underlying172
  a164 := Tryz.isAgg172
  z164 := Tryz.sizeOf172
  v164 := Tryz.zeroValue172 }
theorem Tryz.Builder_Extra_156 : Builder.Extra Tryz.prog Tryz.lays156_ren := {
  sizeBuilder := by kernel_rfl
  liesBuilder := by kernel_rfl
  t5 := Tryz.underlying5
  a5 := Tryz.isAgg5
  z5 := Tryz.sizeOf5
  v5 := Tryz.zeroValue5
  infoByte := by kernel_rfl
  cellsByte := by kernel_rfl
  sizeByte := by kernel_rfl
  neB5 := by decide }
open Go.RowKit in
theorem Tryz.strings_Join (bk o c : Nat) (xs : List ByteArray) (sep : ByteArray) (w : World) (hcells : ∀ (j : Nat) x, xs[j]? = some x → w.cell? ⟨bk, o + j, none⟩ = some (.string x)) (hbk : bk < w.heap.size) (hN : xs.length ≤ 140737488355328) (hcap : xs.length ≤ c) (hlen : (Lib.join (xs.map (·.data.toList)) sep.data.toList).length ≤ 140737488355328) :
    Calls Tryz.prog 43 #[.slice (some ⟨bk, o, none⟩) xs.length c, .string sep] w fun e w' => e = .returned (.string ⟨(Lib.join (xs.map (·.data.toList)) sep.data.toList).toArray⟩) ∧ Below w.heap.size w w' := Any.strings_Join Tryz.lays156 Tryz.Builder_Extra_156 bk o c xs sep w hcells hbk hN hcap hlen
def Tryz.lays169_ren : Go.Shelf.Ren := ⟨fun | 169 => 49 | n => n, fun | 70 => 93 | 9 => 9 | 0 => 0 | 72 => 95 | 37 => 28 | 127 => 151 | 3 => 3 | 5 => 5 | n => n, fun | n => n⟩
theorem Tryz.lays169 : Go.Proofs.Lays.n169 Tryz.prog Tryz.lays169_ren := {
  mixed := by kernel_rfl
  f169 := Tryz.func49.trans (congrArg some (by kernel_rfl))
  t0 := Tryz.underlying0
  a0 := Tryz.isAgg0
  z0 := Tryz.sizeOf0
  v0 := Tryz.zeroValue0
  t3 := Tryz.underlying3
  a3 := Tryz.isAgg3
  z3 := Tryz.sizeOf3
  v3 := Tryz.zeroValue3
  t9 := Tryz.underlying9
  a9 := Tryz.isAgg9
  z9 := Tryz.sizeOf9
  v9 := Tryz.zeroValue9
  t37 := Tryz.underlying28
  a37 := Tryz.isAgg28
  z37 := Tryz.sizeOf28
  v37 := Tryz.zeroValue28
  t70 := Tryz.underlying93
  a70 := Tryz.isAgg93
  z70 := Tryz.sizeOf93
  v70 := Tryz.zeroValue93
  t72 := Tryz.underlying95
  a72 := Tryz.isAgg95
  z72 := Tryz.sizeOf95
  v72 := Tryz.zeroValue95
  t127 := Tryz.underlying151
  a127 := Tryz.isAgg151
  z127 := Tryz.sizeOf151
  v127 := Tryz.zeroValue151 }
theorem Tryz.Builder_Extra_169 : Builder.Extra Tryz.prog Tryz.lays169_ren := {
  sizeBuilder := by kernel_rfl
  liesBuilder := by kernel_rfl
  t5 := Tryz.underlying5
  a5 := Tryz.isAgg5
  z5 := Tryz.sizeOf5
  v5 := Tryz.zeroValue5
  infoByte := by kernel_rfl
  cellsByte := by kernel_rfl
  sizeByte := by kernel_rfl
  neB5 := by decide }
open Go.RowKit in
theorem Tryz.Builder_String_any_k (B b : Nat) (l : List UInt8) (w : World) (h : Lib.IsBuilderF 95 5 B b (Lib.byteCells l) w) (hBw : B ≤ w.heap.size) :
    Calls Tryz.prog 49 #[.pointer (some ⟨b, 0, none⟩)] w fun e w' => e = .returned (.string ⟨l.toArray⟩) ∧ (Lib.IsBuilderF 95 5 B b (Lib.byteCells l) w' ∧ Below B w w' ∧ Lib.OthersKept 5 (some b) w w') := Any.Builder_String_any_k Tryz.lays169 Tryz.Builder_Extra_169 B b l w h hBw
def Tryz.laysM171_ren : Go.Shelf.Ren := ⟨fun | 171 => 47 | 243 => 78 | 246 => 103 | 283 => 137 | 284 => 138 | 285 => 139 | 286 => 140 | 129 => 159 | 317 => 158 | 318 => 160 | 319 => 161 | 320 => 162 | 337 => 173 | 338 => 174 | n => n, fun | 3 => 3 | 9 => 9 | 2 => 2 | 4 => 4 | 171 => 207 | 0 => 0 | 53 => 127 | 37 => 28 | 5 => 5 | 173 => 210 | 212 => 228 | 51 => 124 | 20 => 20 | 213 => 229 | 46 => 73 | 232 => 251 | 233 => 252 | n => n, fun | 17 => 1 | 18 => 2 | 19 => 3 | n => n⟩
theorem Tryz.laysM171 : Go.Proofs.LaysM.n171 Tryz.prog Tryz.laysM171_ren := {
  mixed := by kernel_rfl
  f129 := Tryz.func159.trans (congrArg some (by kernel_rfl))
  f171 := Tryz.func47.trans (congrArg some (by kernel_rfl))
  f243 := Tryz.func78.trans (congrArg some (by kernel_rfl))
  f246 := Tryz.func103.trans (congrArg some (by kernel_rfl))
  f283 := Tryz.func137.trans (congrArg some (by kernel_rfl))
  f284 := Tryz.func138.trans (congrArg some (by kernel_rfl))
  f285 := Tryz.func139.trans (congrArg some (by kernel_rfl))
  f286 := Tryz.func140.trans (congrArg some (by kernel_rfl))
  f317 := Tryz.func158.trans (congrArg some (by kernel_rfl))
  f318 := Tryz.func160.trans (congrArg some (by kernel_rfl))
  f319 := Tryz.func161.trans (congrArg some (by kernel_rfl))
  f320 := Tryz.func162.trans (congrArg some (by kernel_rfl))
  f337 := Tryz.func173.trans (congrArg some (by kernel_rfl))
  f338 := Tryz.func174.trans (congrArg some (by kernel_rfl))
  t0 := Tryz.underlying0
  a0 := Tryz.isAgg0
  z0 := Tryz.sizeOf0
  v0 := Tryz.zeroValue0
  t2 := Tryz.underlying2
  a2 := Tryz.isAgg2
  z2 := Tryz.sizeOf2
  v2 := Tryz.zeroValue2
  t3 := Tryz.underlying3
  a3 := Tryz.isAgg3
  z3 := Tryz.sizeOf3
  v3 := Tryz.zeroValue3
  t4 := Tryz.underlying4
  a4 := Tryz.isAgg4
  z4 := Tryz.sizeOf4
  v4 := Tryz.zeroValue4
  t5 := Tryz.underlying5
  a5 := Tryz.isAgg5
  z5 := Tryz.sizeOf5
  v5 := Tryz.zeroValue5
  t9 := Tryz.underlying9
  a9 := Tryz.isAgg9
  z9 := Tryz.sizeOf9
  v9 := Tryz.zeroValue9
  t20 := Tryz.underlying20
  a20 := Tryz.isAgg20
  z20 := Tryz.sizeOf20
  v20 := Tryz.zeroValue20
  t37 := Tryz.underlying28
  a37 := Tryz.isAgg28
  z37 := Tryz.sizeOf28
  v37 := Tryz.zeroValue28
  t46 := Tryz.underlying73
  a46 := Tryz.isAgg73
  z46 := Tryz.sizeOf73
  v46 := Tryz.zeroValue73
  t51 := Tryz.underlying124
  a51 := Tryz.isAgg124
  z51 := Tryz.sizeOf124
  v51 := Tryz.zeroValue124
  t53 := Tryz.underlying127
  a53 := Tryz.isAgg127
  z53 := Tryz.sizeOf127
  v53 := Tryz.zeroValue127
  t171 := Tryz.underlying207
  a171 := Tryz.isAgg207
  z171 := Tryz.sizeOf207
  v171 := Tryz.zeroValue207
  t173 := Tryz.underlying210
  a173 := Tryz.isAgg210
  z173 := Tryz.sizeOf210
  v173 := Tryz.zeroValue210
  t212 := Tryz.underlying228
  a212 := Tryz.isAgg228
  z212 := Tryz.sizeOf228
  v212 := Tryz.zeroValue228
  t213 := Tryz.underlying229
  a213 := Tryz.isAgg229
  z213 := Tryz.sizeOf229
  t232 := Tryz.underlying251
  a232 := Tryz.isAgg251
  z232 := Tryz.sizeOf251
  v232 := Tryz.zeroValue251
  t233 := Tryz.underlying252
  a233 := Tryz.isAgg252
  z233 := Tryz.sizeOf252
  v233 := Tryz.zeroValue252
  g17 := by kernel_rfl
  g18 := by kernel_rfl
  g19 := by kernel_rfl
  i0 := by kernel_rfl
  i2 := by kernel_rfl
  i3 := by kernel_rfl
  i4 := by kernel_rfl
  i5 := by kernel_rfl
  i9 := by kernel_rfl
  i20 := by kernel_rfl
  i37 := by kernel_rfl
  i46 := by kernel_rfl
  i51 := by kernel_rfl
  i53 := by kernel_rfl
  i171 := by kernel_rfl
  i173 := by kernel_rfl
  i212 := by kernel_rfl
  i232 := by kernel_rfl
  i233 := by kernel_rfl
  m17 := by kernel_rfl
  m18 := by kernel_rfl
  m19 := by kernel_rfl }
open Go.RowKit Go.Sort Go.Lib in
theorem Tryz.strconv_Itoa (n : Int) (h0 : -9223372036854775808 ≤ n) (h1 : n ≤ 9223372036854775807) (w : World) (htab : Lib.TabIs Tryz.prog w tabN .u64 Lib.pow10Tab) :
    Calls Tryz.prog 47 #[.int .i64 n] w fun e w' => e = .returned (.string ⟨(Lib.itoa n).toArray⟩) ∧ ∃ k os, w' = grow (w.drewN k) os := Any.strconv_Itoa Tryz.laysM171 n h0 h1 w htab
def Tryz.lays167_ren : Go.Shelf.Ren := ⟨fun | 167 => 44 | 240 => 74 | 276 => 98 | n => n, fun | 31 => 39 | 9 => 9 | 3 => 3 | 4 => 4 | 0 => 0 | 20 => 20 | 72 => 95 | 76 => 98 | 70 => 93 | 37 => 28 | 75 => 97 | 127 => 151 | 164 => 172 | 5 => 5 | 80 => 114 | n => n, fun | n => n⟩
theorem Tryz.lays167 : Go.Proofs.Lays.n167 Tryz.prog Tryz.lays167_ren := {
  mixed := by kernel_rfl
  f167 := Tryz.func44.trans (congrArg some (by kernel_rfl))
  f240 := Tryz.func74.trans (congrArg some (by kernel_rfl))
  f276 := Tryz.func98.trans (congrArg some (by kernel_rfl))
  t0 := Tryz.underlying0
  a0 := Tryz.isAgg0
  z0 := Tryz.sizeOf0
  v0 := Tryz.zeroValue0
  t4 := Tryz.underlying4
  a4 := Tryz.isAgg4
  z4 := Tryz.sizeOf4
  v4 := Tryz.zeroValue4
  t5 := Tryz.underlying5
  a5 := Tryz.isAgg5
  z5 := Tryz.sizeOf5
  v5 := Tryz.zeroValue5
  t9 := Tryz.underlying9
  a9 := Tryz.isAgg9
  z9 := Tryz.sizeOf9
  v9 := Tryz.zeroValue9
  t20 := Tryz.underlying20
  a20 := Tryz.isAgg20
  z20 := Tryz.sizeOf20
  v20 := Tryz.zeroValue20
  t37 := Tryz.underlying28
  a37 := Tryz.isAgg28
  z37 := Tryz.sizeOf28
  v37 := Tryz.zeroValue28
  t70 := Tryz.underlying93
  a70 := Tryz.isAgg93
  z70 := Tryz.sizeOf93
  v70 := Tryz.zeroValue93
  t72 := Tryz.underlying95
  a72 := Tryz.isAgg95
  z72 := Tryz.sizeOf95
  v72 := Tryz.zeroValue95
  t75 := Tryz.underlying97
  a75 := Tryz.isAgg97
  z75 := Tryz.sizeOf97
  v75 := Tryz.zeroValue97
  t164 := Tryz.underlying172
  a164 := Tryz.isAgg172
  z164 := Tryz.sizeOf172
  v164 := Tryz.zeroValue172
}
theorem Tryz.Builder_Extra_167 : Builder.Extra Tryz.prog Tryz.lays167_ren := {
  sizeBuilder := by kernel_rfl
  liesBuilder := by kernel_rfl
  t5 := Tryz.underlying5
  a5 := Tryz.isAgg5
  z5 := Tryz.sizeOf5
  v5 := Tryz.zeroValue5
  infoByte := by kernel_rfl
  cellsByte := by kernel_rfl
  sizeByte := by kernel_rfl
  neB5 := by decide }
theorem Tryz.Builder_WriteByte_k (B b : Nat) (bs : List Value) (c : Int) (w : World) (h : Lib.IsBuilderF 95 5 B b bs w) (hlen : bs.length + 1 ≤ 140737488355328) (hBw : B ≤ w.heap.size) :
    Calls Tryz.prog 44 #[.pointer (some ⟨b, 0, none⟩), .int .u8 c] w fun e w' => e = .returned .nilIface ∧ (Lib.BuilderAtF 95 5 B b (.pointer (some ⟨b, 0, none⟩)) (bs ++ [.int .u8 c]) w' ∧ Below B w w' ∧ Lib.OthersKept 5 (some b) w w') := Any.Builder_WriteByte_k Tryz.lays167 Tryz.Builder_Extra_167 B b bs c w h hlen hBw
theorem Tryz.Builder_WriteString_k (B b : Nat) (bs : List Value) (s : ByteArray) (w : World) (h : Lib.IsBuilderF 95 5 B b bs w) (hlen : bs.length + s.size ≤ 140737488355328) (hBw : B ≤ w.heap.size) :
    Calls Tryz.prog 42 #[.pointer (some ⟨b, 0, none⟩), .string s] w fun e w' => e = .returned (.tuple #[.int .i64 s.size, .nilIface]) ∧ (Lib.BuilderAtF 95 5 B b (.pointer (some ⟨b, 0, none⟩)) (bs ++ Lib.strCells s) w' ∧ Below B w w' ∧ Lib.OthersKept 5 (some b) w w') := Any.Builder_WriteString_k { Tryz.lays156 with } Tryz.Builder_Extra_156 B b bs s w h hlen hBw
end Go.Proofs.YtjafgnohlkkopaaGreatDoor
namespace Go.Proofs.YtjafgnohlkkopaaGreatDoor
open Go.RowKit
theorem aG0 {w:World}{k:Nat}{o:Obj}(h:w.heap[k]? =some o):k<w.heap.size:=(Array.getElem?_eq_some_iff.1 h).1
def Bld (B b:Nat)(l:List UInt8)(w:World):Prop:=Lib.IsBuilderF 95 5 B b (Lib.byteCells l) w
theorem bE7 {w w':World}{base:Nat}{e:TypeId}{size:Nat}{v:Value}{n:Nat}{xs:List Value}(h:w.ownsRowF base e size v n xs)(hb:Below w.heap.size w w'):w'.ownsRowF base e size v n xs:=by
 refine⟨h.1,?_⟩
 rcases h.2 with h | ⟨g,cap,cur,fz,h1,h2,h3,h4,h5,h6,h7,h8⟩
 ·exact .inl h
 ·refine .inr ⟨g,cap,cur,fz,h1,h2,?_,h4,h5,h6,h7,h8⟩
  rw[hb.block g (aG0 h3)]; exact h3
theorem yR {T e:TypeId}{B b:Nat}{p:Value}{bs:List Value}{w w':World}(h:Lib.BuilderAtF T e B b p bs w)(hb:Below w.heap.size w w'):Lib.BuilderAtF T e B b p bs w':=by
 obtain⟨h1,v,h2,h3,h4⟩:=h
 exact⟨h1,v,by rw[hb.block b (aG0 h2)]; exact h2,bE7 h3 hb,h4⟩
theorem Bld.below {B b:Nat}{l:List UInt8}{w w':World}(h:Bld B b l w)(hb:Below w.heap.size w w'):Bld B b l w':=h.imp (yR · hb) (yR · hb)
theorem gG {e:TypeId}{b:Option Nat}{w w':World}(hb:Below w.heap.size w w'):Lib.OthersKept e b w w':=fun k o hk _ _=>by rw[hb.block k (aG0 hk)]; exact hk
theorem eQ {e t:TypeId}{b g:Nat}{w w':World}{cs:Array Value}(h:Lib.OthersKept e (some b) w w')(hc:aC w g cs t)(hg:g≠b)(ht:t≠e):aC w' g cs t:=
 h g _ hc (by simpa using hg) (fun c fz h=>by simp at h; exact ht h.2.1)
def bW1 (n:Nat):UInt8:=[48,49,50,51,52,53,54,55,56,57,97,98,99,100,101,102].getD n 0
def aI2 (l:List Int):List UInt8:=l.flatMap fun x=>[bW1 (x.toNat / 16),bW1 (x.toNat%16)]
theorem yB (l:List Int):(aI2 l).length=2*l.length:=by
 unfold aI2
 induction l with
 | nil=>rfl
 | cons x l ih=>rw[List.flatMap_cons,List.length_append,ih,List.length_cons]; simp; omega
theorem bR8 (l:List Int)(x:Int):aI2 (l++[x])=aI2 l++[bW1 (x.toNat / 16),bW1 (x.toNat%16)]:=by simp[aI2]
theorem aN5 (k:Nat)(hk:k<16)(w:World):(Instr.index 9 (.string { data:=#[48,49,50,51,52,53,54,55,56,57,97,98,99,100,101,102] }) (.int .u8 (k:Int))).run Tryz.prog w=.ok (.int .u8 ((bW1 k).toNat:Int)) w:=by
 rw[run_index_string (P:=Tryz.prog) (w:=w) 9 _ .u8 (k:Int) Tryz.underlying9,dif_pos ⟨by omega,by show (k:Int)<16; omega⟩]
 have key:∀ k (h:k<16),(#[48,49,50,51,52,53,54,55,56,57,97,98,99,100,101,102]:Array UInt8)[k]'(by simpa using h)=bW1 k:=by decide
 have e:=key k hk
 congr 3
 rw[<-e]
 simp only[Int.toNat_natCast]
 rfl
theorem bZ6 (n:Nat)(hn:n<=256)(w:World):∃ w', (Instr.makeSlice 28 (.int .i64 0) (.int .i64 (2*(n:Int)))).run Tryz.prog w=.ok (.slice (some ⟨w.heap.size,0,none⟩) 0 (2*n)) w'/\w'.ownsRow w.heap.size 5 1 (.slice (some ⟨w.heap.size,0,none⟩) 0 (2*n)) 0 []/\w.grownBy w' none:=by
 obtain⟨i0,hi,hz0,hz1,hz2⟩:=info_parts Tryz.infoByte
 have:=run_makeSlice_owned (P:=Tryz.prog) (w:=w) w.heap.size 28 5 i0 _ 1 Tryz.underlying28 hi hz0 hz1 .i64 .i64 (2*n) (by omega) (by rw[hz2]; omega) (by unfold maxLen; omega) (Nat.le_refl _)
 simpa using this
theorem bY7 (w:World)(u v:Value)(t:TypeId):∀ j x,([u,v]:List Value)[j]? =some x->(w.alloc (.cells #[u,v] t)).cell? ((⟨w.heap.size,0,none⟩:Addr).add j)=some x:=by
 intro j x hj
 match j,hj with
 | 0,hj=>simp at hj; subst hj; exact(aB w #[u,v] t).cell 0
 | 1,hj=>simp at hj; subst hj; exact(aB w #[u,v] t).cell 1
 | j+2,hj=>simp at hj
theorem bI5 (Q:Nat->Prop)(a:Option Addr)(n c:Nat)(l:List Int)(w:World)(hn:n<=256)(hN:aI Q .u8 w a n l):
 Calls Tryz.prog 48 #[.slice a n c] w fun e w'=>e=.returned (.string ⟨(aI2 l).toArray⟩)/\Below w.heap.size w w':=by
 obtain⟨i0,hi0,hz0,hz1,hz2⟩:=info_parts Tryz.infoByte
 obtain⟨w1,hmk,hrow,hg⟩:=bZ6 n hn w
 have hb1:=hid (Below.grown (Below.refl w.heap.size w) hg (Nat.le_refl _) (fun k hk=>by cases hk))
 have hw2:IntKind.i64.wrap (2*(n:Int))=2*(n:Int):=Go.IntWalk.i64_in _ (by omega)
 replace hN:=hid hN
 replace hrow:=hid hrow
 replace hg:=hid hg
 go_enter Tryz.func48,Tryz.ntmps48
 go_wp2_with fail
 clear hmk
 go_loopw [3,12] (fun u v wr=>∃ j:Nat,j<=n/\u=.slice (some ⟨w.heap.size,0,none⟩) (2*j) (2*n)/\v=.int .i64 j/\Below w.heap.size w wr/\wr.ownsRow w.heap.size 5 1 (.slice (some ⟨w.heap.size,0,none⟩) (2*j) (2*n)) (2*j) (Lib.byteCells (aI2 (l.take j)))) (fun _ v _=>n-(Go.RowKit.intOf v).toNat)
 case atStart=>exact⟨0,Nat.zero_le _,rfl,rfl,hb1.out,hrow.out⟩
 case round=>
  clear hrow hg hb1
  obtain⟨j,hj,rfl,rfl,hb,hr⟩:=hrel
  by_cases hlt:j<n
  ·obtain⟨kb,ko,rfl,hkb,_,hc⟩:=hN.out.2.2 (by omega)
   have hck:wr.cell? ⟨kb,ko+j,none⟩=some (.int .u8 (l.getD j 0)):=(hb.cell (p:=⟨kb,ko+j,none⟩) hkb).trans (hc j hlt)
   have hjl:j<l.length:=by rw[hN.out.1]; exact hlt
   have hby:=hN.out.bytes (l.getD j 0) (hN.out.getD hlt)
   have htk:Hid (aI2 (l.take (j+1))=aI2 (l.take j)++[bW1 ((l.getD j 0).toNat / 16),bW1 ((l.getD j 0).toNat%16)]):=hid (by
    rw[fI hjl,bR8]
    )
   clear hc hjl
   generalize l.getD j 0=x at *
   obtain⟨k,rfl⟩:∃ k:Nat,x=(k:Int):=⟨x.toNat,by omega⟩
   have hk:k<256:=by omega
   obtain⟨p,hp⟩:∃ p:Nat,p=k / 16:=⟨_,rfl⟩
   obtain⟨q,hq⟩:∃ q:Nat,q=k%16:=⟨_,rfl⟩
   have hq1:IntKind.u8.wrap ((k:Int) / 16)=(p:Int):=by rw[IntKind.wrap_u8]; omega
   have hq2:(k:Int).tmod 16=(q:Int):=by rw[Int.tmod_eq_emod_of_nonneg (by omega)]; omega
   have hi1:=aN5 p (by omega)
   have hi2:=aN5 q (by omega)
   obtain⟨d1,hd1⟩:∃ d:Int,d=((bW1 p).toNat:Int):=⟨_,rfl⟩
   obtain⟨d2,hd2⟩:∃ d:Int,d=((bW1 q).toNat:Int):=⟨_,rfl⟩
   rw[<-hd1] at hi1
   rw[<-hd2] at hi2
   have bz:=aA wr (.cells #[.int .u8 d1,.int .u8 d2] 5)
   obtain⟨w3,hrun,hrow3,hg3⟩:=run_append_own_spare (P:=Tryz.prog) (wr.alloc (.cells #[.int .u8 d1,.int .u8 d2] 5)).drew w.heap.size 28 28 5 i0 1 Tryz.underlying28 hi0 hz1 w.heap.size (2*j) (2*n) _ (bI (bI hr bz) (aD _ _)) ⟨wr.heap.size,0,none⟩ 2 2 [.int .u8 d1,.int .u8 d2] rfl (bY7 _ _ _ _) (fun u hu=>by simp at hu; rcases hu with rfl | rfl<;>rfl) (by omega)
   have hfin:Hid (Below w.heap.size w w3/\w3.ownsRow w.heap.size 5 1 (.slice (some ⟨w.heap.size,0,none⟩) (2*(j+1)) (2*n)) (2*(j+1)) (Lib.byteCells (aI2 (l.take (j+1))))):=hid (by
    refine⟨(((hb.trans (bz.mono hb.size)).trans (aD _ _ |>.mono (by have:=hb.size; have:=bz.size; omega))).grown hg3 (by have:=hb.size; have:=bz.size; show _<=(wr.alloc _).heap.size; omega) (fun k hk=>by cases hk; exact Nat.le_refl _)),?_⟩
    rw[htk.out]
    have e:2*(j+1)=2*j+2:=by omega
    rw[e]
    have:=hrow3
    rw[hd1,hd2] at this
    simp only[Int.toNat_natCast,<-hp,<-hq]
    simpa [Lib.byteCells] using this)
   replace hb:=hid hb
   replace hr:=hid hr
   replace hd1:=hid hd1
   replace hd2:=hid hd2
   replace hp:=hid hp
   replace hq:=hid hq
   clear hrow3 hg3 bz hk hby
   go_upto_region 5 with fail
   go_region_law (refine nM rfl (.tmp 16) (.tmp 23) 28 rfl _ _ _ w3 rfl rfl hrun ?_)
   all_goals (
    go_wp2_with fail
    go_roundw
    case rel=>exact⟨j+1,by omega,by first | rfl | (congr 1),by go_num,hfin.out.1,hfin.out.2⟩
    case measure=>simp[Go.RowKit.intOf]; omega)
  ·obtain rfl:j=n:=by omega
   have hcv:(convert 28 9 (.slice (some ⟨w.heap.size,0,none⟩) (2*j) (2*j))).run Tryz.prog wr=.ok (.string ⟨(aI2 l).toArray⟩) wr:=by
    have hl:(aI2 l).length=2*j:=by rw[yB,hN.out.1]
    have ht:l.take j=l:=List.take_of_length_le (by rw[hN.out.1]; omega)
    rw[ht] at hr
    have:=run_convert_bytes_back (P:=Tryz.prog) wr 28 9 5 ⟨w.heap.size,0,none⟩ (2*j) (aI2 l) Tryz.underlying28 Tryz.underlying5 Tryz.underlying9 (fun q hq=>by
     have h2:=hr.cellAt q (by omega)
     rw[Lib.add_plain,Nat.zero_add,h2]
     simp[Lib.byteCells,hq])
    rw[hl] at this
    exact this
   replace hr:=hid hr
   go_wp2_with fail
   go_ret
   exact⟨rfl,hb⟩
def gV (xs:List ByteArray):List UInt8:=Lib.join (xs.map (·.data.toList)) [32]++[10]
theorem aJ6 (l:List UInt8):Lib.strCells ⟨l.toArray⟩=Lib.byteCells l:=by simp[Lib.strCells,Lib.byteCells]
theorem aF2 (B b:Nat)(l:List UInt8)(bk o c:Nat)(xs:List ByteArray)(w:World)(hb:Bld B b l w)(hBw:B<=w.heap.size)(hcells:∀ (j:Nat) x,xs[j]? =some x->w.cell? ⟨bk,o+j,none⟩=some (.string x))(hbk:bk<w.heap.size)(hcap:xs.length<=c)(hN:xs.length<=100)(hlen:l.length+(gV xs).length<=1000000000):
 Calls Tryz.prog 41 #[.slice (some ⟨bk,o,none⟩) xs.length c,.pointer (some ⟨b,0,none⟩)] w fun e w'=>e=.returned (.tuple #[])/\Bld B b (l++gV xs) w'/\Below B w w'/\Lib.OthersKept 5 (some b) w w':=by
 have hl2:l.length+(Lib.join (xs.map (·.data.toList)) [32]).length+1<=1000000000:=by
  unfold gV at hlen
  rw[List.length_append,List.length_singleton] at hlen
  omega
 replace hb:=hid hb
 replace hlen:=hid hlen
 replace hcells:=hid hcells
 replace hl2:=hid hl2
 go_enter Tryz.func41,Tryz.ntmps41
 go_wp2_with fail
 refine(Tryz.strings_Join bk o c xs (ByteArray.mk #[32]) w hcells.out hbk (by omega) hcap (by have:=hl2.out; show (Lib.join (xs.map (·.data.toList)) [32]).length<=_; omega)).mono ?_
 rintro e w1 ⟨rfl,b1⟩
 have hb1:=hid (hb.out.below b1)
 replace b1:=hid b1
 go_wp2_with fail
 refine(Tryz.Builder_WriteString_k B b (Lib.byteCells l) _ w1 hb1.out (by have:=hl2.out; rw[Lib.byteCells_length]; show _+(Lib.join (xs.map (·.data.toList)) [32]).toArray.size<=_; rw[List.size_toArray]; omega) (Nat.le_trans hBw b1.out.size)).mono ?_
 rintro e w2 ⟨rfl,h2,b2,o2⟩
 have h2':Hid (Bld B b (l++Lib.join (xs.map (·.data.toList)) [32]) w2):=hid (.inr (by
  rw[aJ6,<-Lib.byteCells_append] at h2
  exact h2))
 replace b2:=hid b2
 replace o2:=hid o2
 clear h2
 go_wp2_with fail
 refine(Tryz.Builder_WriteByte_k B b _ 10 w2 h2'.out (by have:=hl2.out; rw[Lib.byteCells_length,List.length_append]; omega) (Nat.le_trans (Nat.le_trans hBw b1.out.size) b2.out.size)).mono ?_
 rintro e w3 ⟨rfl,h3,b3,o3⟩
 replace h3:=hid h3
 replace o3:=hid o3
 go_wp2_with fail
 go_end0
 refine⟨rfl,.inr ?_,((b1.out.mono hBw).trans b2.out).trans b3,((gG b1.out).trans o2.out).trans o3.out⟩
 have e:Lib.byteCells (l++gV xs)=Lib.byteCells (l++Lib.join (xs.map (·.data.toList)) [32])++[.int .u8 10]:=by
  simp[gV,Lib.byteCells]
 rw[e]
 exact h3.out
theorem eP {w w':World}(h:Lib.TabIs Tryz.prog w tabN .u64 Lib.pow10Tab)(b:Below w.heap.size w w'):Lib.TabIs Tryz.prog w' tabN .u64 Lib.pow10Tab:=by
 have hs:(Tryz.prog.globalNamed tabN).isSome=true:=by kernel_rfl
 obtain⟨g,hg⟩:=Option.isSome_iff_exists.1 hs
 exact Joins.tab_stays (P:=Tryz.prog) hg h b (Nat.le_refl _)
def rT (n:Int):ByteArray:=⟨(Lib.itoa n).toArray⟩
theorem aF5 (n:Int)(h0:0<=n)(h1:n<=1000000)(w:World)(htab:Lib.TabIs Tryz.prog w tabN .u64 Lib.pow10Tab):
 Calls Tryz.prog 47 #[.int .i64 n] w fun e w'=>e=.returned (.string (rT n))/\Below w.heap.size w w':=by
 refine(Tryz.strconv_Itoa n (by omega) (by omega) w htab).mono ?_
 rintro e w' ⟨rfl,k,os,rfl⟩
 exact⟨rfl,rfl,rfl,rfl,by simp[Sort.grow],fun i hi=>by
  show (w.heap++os)[i]? =_
  exact Array.getElem?_append_left hi⟩
theorem bR2 (B b:Nat)(l:List UInt8)(s1 s2 s3:ByteArray)(w:World)(hb:Bld B b l w)(hBw:B<=w.heap.size)(hlen:l.length+(gV [s1,s2,s3]).length<=1000000000):
 Calls Tryz.prog 41 #[.slice (some ⟨w.heap.size,0,none⟩) 3 3,.pointer (some ⟨b,0,none⟩)] (w.alloc (.cells #[.string s1,.string s2,.string s3] 9)) fun e w'=>e=.returned (.tuple #[])/\Bld B b (l++gV [s1,s2,s3]) w'/\Below B w w'/\Lib.OthersKept 5 (some b) w w':=by
 have bz:=aA w (.cells #[.string s1,.string s2,.string s3] 9)
 refine(aF2 B b l w.heap.size 0 3 [s1,s2,s3] _ (hb.below bz) (Nat.le_trans hBw bz.size) (fun j x hj=>?_) (by simp) (by simp) (by simp) hlen).mono ?_
 ·have:=(aB w #[.string s1,.string s2,.string s3] 9).cell j
  rw[Nat.zero_add,this]
  match j,hj with
  | 0,hj=>simp at hj; subst hj; rfl
  | 1,hj=>simp at hj; subst hj; rfl
  | 2,hj=>simp at hj; subst hj; rfl
  | j+3,hj=>simp at hj
 ·rintro e w' ⟨rfl,h1,h2,h3⟩
  exact⟨rfl,h1,(bz.mono hBw).trans h2,(gG bz).trans h3⟩
def aO6 (ahead:ByteArray)(key:Int)(B:Nat->Blk)(f:Ent):List UInt8:=gV [ahead++f.name,rT f.size,⟨(aI2 (nP (aT key (aH B 3 f.root)) f.size.toNat 0 f.size.toNat)).toArray⟩]
def gZ (ahead:ByteArray)(key:Int)(B:Nat->Blk)(l:List Ent):List UInt8:=l.flatMap (aO6 ahead key B)
theorem aC8 (x:ByteArray):x.data.toList.length=x.size:=by rw[Array.length_toList]; rfl
theorem bH2 (a b c:ByteArray):(gV [a,b,c]).length=a.size+b.size+c.size+3:=by
 unfold gV
 rw[List.length_append,List.map_cons,List.map_cons,List.map_cons,List.map_nil,Lib.join_cons]
 simp only[Lib.joinTail,List.map_cons,List.map_nil,List.flatten_cons,List.flatten_nil,List.length_append,List.length_cons,List.length_nil,aC8]
 omega
theorem aF4 (n:Int)(h0:0<=n)(h1:n<=1000000):(rT n).size<=20:=by
 obtain⟨u,rfl⟩:∃ u:Nat,n=(u:Int):=⟨n.toNat,by omega⟩
 rw[<-aC8]
 show (Lib.itoa (u:Int)).toArray.toList.length<=20
 rw[List.toList_toArray,Lib.itoa_nonneg]
 by_cases hu:u=0
 ·subst hu
  rw[Lib.decDigits_one (by omega)]
  decide
 ·rw[Lib.decDigits_length]
  have:=Lib.numDigits_eq u (by omega) (by omega)
  split at this<;>omega
theorem aO5 {n:Nat}{B:Nat->Blk}{key:Int}{ahead:ByteArray}{f:Ent}(ha:ahead.size<=8)(hn:f.name.size<=8)(hf:bU n B key f.root f.size):(aO6 ahead key B f).length<=1000:=by
 have hs:=hf.sb
 unfold aO6
 rw[bH2]
 have h1:=aF4 f.size hs.1 (by omega)
 have h2:(ahead++f.name).size=ahead.size+f.name.size:=ByteArray.size_append
 have h3:(ByteArray.mk (aI2 (nP (aT key (aH B 3 f.root)) f.size.toNat 0 f.size.toNat)).toArray).size<=512:=by
  rw[<-aC8]
  show (aI2 _).toArray.toList.length<=512
  rw[List.toList_toArray,yB,lJ _ _ _ _ (bY _ _) (by omega)]
  omega
 omega
theorem mK {n:Nat}{B:Nat->Blk}{key:Int}{ahead:ByteArray}(ha:ahead.size<=8):∀ l:List Ent,(∀ f∈l,bU n B key f.root f.size/\f.name.size<=8)->(gZ ahead key B l).length<=l.length*1000
 | [],_=>by simp[gZ]
 | f::l,h=>by
   have h1:=mK ha l (fun g hg=>h g (List.mem_cons_of_mem _ hg))
   have h2:=aO5 ha (h f List.mem_cons_self).2 (h f List.mem_cons_self).1
   unfold gZ at h1 ⊢
   rw[List.flatMap_cons,List.length_append,List.length_cons]
   omega
structure VE (W w:World)(tb lb:Nat)(L:List UInt8):Prop where
 bel:Below W.heap.size W w
 bld:Bld W.heap.size tb L w
 fn:aC w lb #[.func (.func 41) #[] #[.pointer (some ⟨tb,0,none⟩)]] 102
 ne:lb≠tb
theorem Bld.lt {B b:Nat}{l:List UInt8}{w:World}(h:Bld B b l w):b<w.heap.size:=by
 rcases h with⟨_,v,h,_⟩ | ⟨_,v,h,_⟩<;>exact aG0 h
theorem VE.below {W w w':World}{tb lb:Nat}{L:List UInt8}(h:VE W w tb lb L)(b:Below w.heap.size w w'):VE W w' tb lb L:=⟨h.bel.trans (b.mono h.bel.size),h.bld.below b,h.fn.below b,h.ne⟩
theorem VE.wrote {W w w':World}{tb lb:Nat}{L L':List UInt8}(h:VE W w tb lb L)(hb:Bld W.heap.size tb L' w')(b:Below W.heap.size w w')(o:Lib.OthersKept 5 (some tb) w w'):VE W w' tb lb L':=⟨h.bel.trans b,hb,eQ o h.fn h.ne (by decide),h.ne⟩
theorem aO4 (W:World)(Q:Nat->Prop)(sa:Option Addr)(n sc:Nat)(B:Nat->Blk)(pb ob:Nat)(tv qv sv:Value)(key:Int)(la:Option Addr)(ln lc:Nat)(l:List Ent)(ahead:ByteArray)(tb lb:Nat)(L:List UInt8)(w:World)
 (hS:aO W sa n B) (hP:aC W pb #[.slice sa n sc,tv] 27) (hO:aC W ob #[.int .i64 key,qv,sv] 64) (hE:dS Q W la ln l) (hok:∀ f∈l,bU n B key f.root f.size/\f.name.size<=8) (hln:ln<=6) (ha:ahead.size<=8) (htab:Lib.TabIs Tryz.prog W tabN .u64 Lib.pow10Tab) (hV:VE W w tb lb L) (hlen:L.length<=100000000):
 Calls Tryz.prog 45 #[.string ahead,.slice la ln lc,.pointer (some ⟨pb,0,none⟩),.pointer (some ⟨ob,0,none⟩),.pointer (some ⟨lb,0,none⟩)] w fun e w'=>e=.returned (.tuple #[])/\VE W w' tb lb (L++gZ ahead key B l)/\Lib.OthersKept 5 (some tb) w w':=by
 replace hS:=hid hS
 replace hP:=hid hP
 replace hO:=hid hO
 replace hE:=hid hE
 replace hok:=hid hok
 replace htab:=hid htab
 replace hV:=hid hV
 go_enter Tryz.func45,Tryz.ntmps45
 go_wp2_with fail
 go_loopw [13] (fun v wr=>∃ j:Nat,j<=ln/\v=.int .i64 j/\VE W wr tb lb (L++gZ ahead key B (l.take j))/\Lib.OthersKept 5 (some tb) w wr) (fun v _=>ln-(Go.RowKit.intOf v).toNat)
 case atStart=>exact⟨0,Nat.zero_le _,rfl,by simpa [gZ] using hV.out,Lib.OthersKept.refl _ _ _⟩
 case round=>
  clear hV
  obtain⟨j,hj,rfl,hV,hK⟩:=hrel
  replace hV:=hid hV
  replace hK:=hid hK
  by_cases hlt:j<ln
  ·have hEr:=hE.out.below hV.out.bel
   obtain⟨eb,eo,rfl,hel,_⟩:=hEr.2.2 (by omega)
   have hA:=hEr.ent hlt
   have c0:=hA.c0
   have c1:=hA.c1
   have c2:=hA.c2
   have hjl:j<l.length:=by rw[hE.out.1]; exact hlt
   have hgd:l.getD j Ent.zero=l[j]:=by simp[List.getD,hjl]
   have hf:=hid (hok.out _ (List.getElem_mem hjl))
   have htk:Hid (gZ ahead key B (l.take (j+1))=gZ ahead key B (l.take j)++aO6 ahead key B l[j]):=hid (by
    unfold gZ
    rw[List.take_add_one,List.getElem?_eq_getElem hjl,List.flatMap_append]
    congr 1
    simp)
   rw[hgd] at c0 c1 c2
   clear hA hEr hgd
   generalize l[j]=f at *
   have bA:=hid (aA wr (.cells #[.string f.name,.int .i64 f.root,.int .i64 f.size] 106))
   have kA:=hid (aB wr #[.string f.name,.int .i64 f.root,.int .i64 f.size] 106)
   go_upto_region 3 with fail
   clear c0 c1 c2
   generalize hw5:wr.alloc (.cells #[.string f.name,.int .i64 f.root,.int .i64 f.size] 106)=w5 at *
   replace hw5:=hid hw5
   have hV5:=hid (hV.out.below bA.out)
   have p0:=(hP.out.below hV5.out.bel).cell 0
   have o0:=(hO.out.below hV5.out.bel).cell 0
   have e1:=kA.out.cell 1
   have e2:=kA.out.cell 2
   simp at p0 o0 e1 e2
   go_wp2_with fail
   refine(rV sa n sc B key f.root f.size 0 f.size w5 (hS.out.below hV5.out.bel)).mono ?_
   rintro e w6 ⟨⟨hR,_⟩,b6⟩
   rcases hR with⟨e', _,_,hno⟩ | ⟨y,yn,yc,rfl,_,hlc,hN⟩
   ·exact absurd ⟨hf.out.1,by omega,hf.out.1.sb⟩ hno
   have hV6:=hid (hV5.out.below b6)
   have b6h:=hid b6
   have kA6:=hid (kA.out.below b6)
   have hsz:=hf.out.1.sb
   have hyn:Hid (yn<=256):=hid (by rw[<-hN.1,lJ _ _ _ _ (bY _ _) (by omega)]; omega)
   have hN6:Hid (∀ w', Below w6.heap.size w6 w'->aI (fun _=>True) .u8 w' y yn (nP (aT key (aH B 3 f.root)) f.size.toNat 0 f.size.toNat)):=hid (fun w' b=>(hN.weaken (fun _ _ _=>trivial)).below b)
   have hT6:Hid (∀ w', Below w6.heap.size w6 w'->Lib.TabIs Tryz.prog w' tabN .u64 Lib.pow10Tab):=hid (fun w' b=>eP htab.out (hV6.out.bel.trans (b.mono hV6.out.bel.size)))
   clear p0 o0 e1 e2 hN
   have q0:=kA6.out.cell 0
   have q2:=kA6.out.cell 2
   have l0:=hV6.out.fn.cell 0
   simp at q0 q2 l0
   have lq:=hid kA6.out.lt
   have ll:=hid hV6.out.fn.lt
   go_upto_region 4 with fail
   have hLl:Hid ((L++gZ ahead key B (l.take j)).length+(gV [ahead++f.name,rT f.size,⟨(aI2 (nP (aT key (aH B 3 f.root)) f.size.toNat 0 f.size.toNat)).toArray⟩]).length<=1000000000):=hid (by
    have h1:=mK (n:=n) (B:=B) (key:=key) ha (l.take j) (fun g hg=>hok.out g (List.mem_of_mem_take hg))
    have h2:=aO5 ha hf.out.2 hf.out.1
    have h3:(l.take j).length<=j:=by rw[List.length_take]; omega
    unfold aO6 at h2
    rw[List.length_append]
    omega)
   have hsz1:f.size<=1000000:=by omega
   have ntb:Hid (wr.heap.size≠tb):=hid (by have:=hV.out.bld.lt; omega)
   have ne5:Hid (102≠5):=hid (by decide)
   have ne6:Hid (106≠5):=hid (by decide)
   have hTd:=hid (hT6.out _ (aD _ _))
   have hcat:∀ W', (Op.stringOp .add ahead f.name).run Tryz.prog W'=.ok (.string (ahead++f.name)) W':=fun W'=>run_string_add (P:=Tryz.prog) W' ahead f.name (by omega) (by have:=hf.out.2; omega)
   go_region_held3 (fun w'=>w'.cell? ⟨lb,0,none⟩=some (.func (.func 41) #[] #[.pointer (some ⟨tb,0,none⟩)])/\w'.cell? ⟨wr.heap.size,0,none⟩=some (.string f.name)/\w'.cell? ⟨wr.heap.size,2,none⟩=some (.int .i64 f.size)) (first | go_keep | assumption) (first | (go_at_call 47; refine Calls.mono (aF5 f.size hsz.1 hsz1 w6.drew hTd.out) ?_; rintro e w7 ⟨rfl,b7⟩; replace b7:Below w6.heap.size w6 w7:=(aD _ _).trans b7; have s0:=(b7.cell (p:=⟨lb,0,none⟩) ll.out).trans l0; have s1:=(b7.cell (p:=⟨wr.heap.size,0,none⟩) lq.out).trans q0; have s2:=(b7.cell (p:=⟨wr.heap.size,2,none⟩) lq.out).trans q2; replace b7:=hid b7) | (go_at_call 48; with_reducible refine Calls.mono (bI5 (fun _=>True) y yn yc (nP (aT key (aH B 3 f.root)) f.size.toNat 0 f.size.toNat) _ hyn.out ?_) ?_; exact hN6.out _ b7.out; rintro e w8 ⟨rfl,b8⟩; replace b8:Below w6.heap.size w6 w8:=Below.tr b7.out b8; have s0':=(b8.cell (p:=⟨lb,0,none⟩) ll.out).trans l0; have s1':=(b8.cell (p:=⟨wr.heap.size,0,none⟩) lq.out).trans q0; have s2':=(b8.cell (p:=⟨wr.heap.size,2,none⟩) lq.out).trans q2; have n1:lb≠w8.heap.size:=(by have:=b8.size; have:=ll.out; omega); have n1':=n1.symm; have n2:wr.heap.size≠w8.heap.size:=(by have:=b8.size; have:=lq.out; omega); have n2':=n2.symm; have hB8:=hid (hV6.out.bld.below b8); have hz8:=hid b8.size; replace b8:=hid b8) | (go_at_call 41; with_reducible refine Calls.mono (bR2 W.heap.size tb _ _ _ _ w8 hB8.out ?_ hLl.out) ?_; exact Nat.le_trans hV6.out.bel.size hz8.out; rintro e w9 ⟨rfl,hB9,b9,o9⟩; have K1:=eQ o9 ((hV6.out.below b8.out).fn) hV6.out.ne ne5.out; have K2:=eQ o9 (kA6.out.below b8.out) ntb.out ne6.out; have s0q:=K1.cell 0; have s1q:=K2.cell 0; have s2q:=K2.cell 2; simp only[List.getElem?_toArray,List.getElem?_cons_zero,List.getElem?_cons_succ] at s0q s1q s2q; clear K1 K2; replace hB9:=hid hB9; replace b9:=hid b9; replace o9:=hid o9))
   all_goals (
    go_wp2_with fail
    go_roundw
    case rel=>exact⟨j+1,by omega,by go_num,by
     rw[htk.out,<-List.append_assoc]
     exact(hV6.out.below b8.out).wrote hB9.out b9.out o9.out,((hK.out.trans (gG bA.out)).trans (gG b6h.out)).trans ((gG b8.out).trans o9.out)⟩
    case measure=>simp[Go.RowKit.intOf]; omega)
  ·obtain rfl:j=ln:=by omega
   have ht:l.take j=l:=List.take_of_length_le (by rw[hE.out.1]; omega)
   go_wp2_with fail
   go_end0
   rw[ht] at hV
   exact⟨rfl,hV.out,hK.out⟩
def cK1:aM:=⟨13,⟨#[]⟩,⟨#[]⟩,⟨#[]⟩,0,0,[]⟩
theorem cK0:cK1.ok:=by
 have:(0:Nat)<=maxLen:=Nat.zero_le _
 refine⟨⟨this,this,this⟩,?_⟩
 unfold cK1
 simp
theorem bV3 (w:World):aI (fun _=>True) .u8 w none 0 cK1.bytes:=⟨rfl,fun x hx=>by simp[cK1] at hx,fun h=>absurd h (by omega)⟩
theorem bJ4 {n:Nat}{B D:Nat->Blk}{l l':List aP}{i:Nat}{t:aP}{e1 N:Int}(h:dU n B l i t cK1 D l' e1 N):e1=0/\sI B (aL t) N:=by
 have hk:cK1.kind=13:=rfl
 cases h with
 | uses N _ h=>exact⟨rfl,h⟩
 | _=>first | omega | (simp only[bK1] at *; omega)
theorem aM4 (B b:Nat)(l:List UInt8)(s1 s2:ByteArray)(w:World)(hb:Bld B b l w)(hBw:B<=w.heap.size)(hlen:l.length+(gV [s1,s2]).length<=1000000000):
 Calls Tryz.prog 41 #[.slice (some ⟨w.heap.size,0,none⟩) 2 2,.pointer (some ⟨b,0,none⟩)] (w.alloc (.cells #[.string s1,.string s2] 9)) fun e w'=>e=.returned (.tuple #[])/\Bld B b (l++gV [s1,s2]) w'/\Below B w w'/\Lib.OthersKept 5 (some b) w w':=by
 have bz:=aA w (.cells #[.string s1,.string s2] 9)
 refine(aF2 B b l w.heap.size 0 2 [s1,s2] _ (hb.below bz) (Nat.le_trans hBw bz.size) (fun j x hj=>?_) (by simp) (by simp) (by simp) hlen).mono ?_
 ·have:=(aB w #[.string s1,.string s2] 9).cell j
  rw[Nat.zero_add,this]
  match j,hj with
  | 0,hj=>simp at hj; subst hj; rfl
  | 1,hj=>simp at hj; subst hj; rfl
  | j+2,hj=>simp at hj
 ·rintro e w' ⟨rfl,h1,h2,h3⟩
  exact⟨rfl,h1,(bz.mono hBw).trans h2,(gG bz).trans h3⟩
theorem bR1 (B b:Nat)(l:List UInt8)(s1 s2 s3 s4:ByteArray)(w:World)(hb:Bld B b l w)(hBw:B<=w.heap.size)(hlen:l.length+(gV [s1,s2,s3,s4]).length<=1000000000):
 Calls Tryz.prog 41 #[.slice (some ⟨w.heap.size,0,none⟩) 4 4,.pointer (some ⟨b,0,none⟩)] (w.alloc (.cells #[.string s1,.string s2,.string s3,.string s4] 9)) fun e w'=>e=.returned (.tuple #[])/\Bld B b (l++gV [s1,s2,s3,s4]) w'/\Below B w w'/\Lib.OthersKept 5 (some b) w w':=by
 have bz:=aA w (.cells #[.string s1,.string s2,.string s3,.string s4] 9)
 refine(aF2 B b l w.heap.size 0 4 [s1,s2,s3,s4] _ (hb.below bz) (Nat.le_trans hBw bz.size) (fun j x hj=>?_) (by simp) (by simp) (by simp) hlen).mono ?_
 ·have:=(aB w #[.string s1,.string s2,.string s3,.string s4] 9).cell j
  rw[Nat.zero_add,this]
  match j,hj with
  | 0,hj=>simp at hj; subst hj; rfl
  | 1,hj=>simp at hj; subst hj; rfl
  | 2,hj=>simp at hj; subst hj; rfl
  | 3,hj=>simp at hj; subst hj; rfl
  | j+4,hj=>simp at hj
 ·rintro e w' ⟨rfl,h1,h2,h3⟩
  exact⟨rfl,h1,(bz.mono hBw).trans h2,(gG bz).trans h3⟩
def bM3 (B:Nat->Blk)(key:Int)(s:bQ):List UInt8:=gV [⟨#[32,97,116]⟩,s.name]++gZ ⟨#[32,32]⟩ key B s.files
def nG (B:Nat->Blk)(key:Int)(l:List bQ):List UInt8:=l.flatMap (bM3 B key)
def setW (B:Nat->Blk)(key:Int)(x:aK):List UInt8:=gV [⟨#[115,101,116]⟩,x.name]++gZ ⟨#[32]⟩ key B x.files++nG B key x.snaps
def sN (B:Nat->Blk)(key:Int)(l:List aK):List UInt8:=l.flatMap (setW B key)
def cI8 (N quota:Int):List UInt8:=gV [⟨#[117,115,101,115]⟩,rT N,⟨#[111,102]⟩,rT quota]
def jK (B:Nat->Blk)(t:aP)(N:Int):List UInt8:=sN B t.key t.sets++cI8 N t.quota
theorem mG (a b:ByteArray):(gV [a,b]).length=a.size+b.size+2:=by
 unfold gV
 rw[List.length_append,List.map_cons,List.map_cons,List.map_nil,Lib.join_cons]
 simp only[Lib.joinTail,List.map_cons,List.map_nil,List.flatten_cons,List.flatten_nil,List.length_append,List.length_cons,List.length_nil,aC8]
 omega
theorem bH1 (a b c d:ByteArray):(gV [a,b,c,d]).length=a.size+b.size+c.size+d.size+4:=by
 unfold gV
 rw[List.length_append,List.map_cons,List.map_cons,List.map_cons,List.map_cons,List.map_nil,Lib.join_cons]
 simp only[Lib.joinTail,List.map_cons,List.map_nil,List.flatten_cons,List.flatten_nil,List.length_append,List.length_cons,List.length_nil,aC8]
 omega
theorem kH {s:ByteArray}(h:aN s):s.size<=8:=by rw[<-aC8]; exact h.2.1
theorem bM2 {n:Nat}{B:Nat->Blk}{key:Int}{s:bQ}(hn:aN s.name)(hf:∀ f∈s.files,bU n B key f.root f.size/\f.name.size<=8)(h6:s.files.length<=6):(bM3 B key s).length<=10000:=by
 unfold bM3
 rw[List.length_append,mG]
 have h1:=mK (n:=n) (B:=B) (key:=key) (ahead:=⟨#[32,32]⟩) (by decide) s.files hf
 have h2:=kH hn
 have h3:(ByteArray.mk #[32,97,116]).size=3:=rfl
 omega
theorem yE {α:Type}{g:α->List UInt8}{m:Nat}:∀ (l:List α),(∀ x∈l,(g x).length<=m)->(l.flatMap g).length<=l.length*m
 | [],_=>by simp
 | x::l,h=>by
   have h1:=yE l (fun y hy=>h y (List.mem_cons_of_mem _ hy))
   have h2:=h x List.mem_cons_self
   rw[List.flatMap_cons,List.length_append,List.length_cons,Nat.add_mul]
   omega
theorem bD.fileOk {n:Nat}{B:Nat->Blk}{key:Int}{x:aK}(h:bD n B key x):∀ f∈x.files,bU n B key f.root f.size/\f.name.size<=8:=fun f hf=>⟨h.files.files f hf,kH (h.shape.names f hf)⟩
theorem bD.snapFileOk {n:Nat}{B:Nat->Blk}{key:Int}{x:aK}(h:bD n B key x){s:bQ}(hs:s∈x.snaps):∀ f∈s.files,bU n B key f.root f.size/\f.name.size<=8:=fun f hf=>⟨(h.filesS s hs).files f hf,kH ((h.filesS s hs).names f hf)⟩
theorem zV {n:Nat}{B:Nat->Blk}{key:Int}{x:aK}(h:bD n B key x)(l:List bQ)(hl:∀ s∈l,s∈x.snaps):(nG B key l).length<=l.length*10000:=
 yE l fun s hs=>bM2 (h.shape.namesS s (hl s hs)) (h.snapFileOk (hl s hs)) (h.filesS s (hl s hs)).few
theorem bX4 {n:Nat}{B:Nat->Blk}{key:Int}{x:aK}(h:bD n B key x):(setW B key x).length<=50000:=by
 unfold setW
 rw[List.length_append,List.length_append,mG]
 have h1:=mK (n:=n) (B:=B) (key:=key) (ahead:=⟨#[32]⟩) (by decide) x.files h.fileOk
 have h2:=zV h x.snaps (fun _ h=>h)
 have h3:=kH h.shape.name
 have h4:(ByteArray.mk #[115,101,116]).size=3:=rfl
 have h5:=h.shape.few
 have h6:=h.shape.fewS
 omega
theorem aK1 {n:Nat}{B:Nat->Blk}{key:Int}(l:List aK)(h:∀ x∈l,bD n B key x):(sN B key l).length<=l.length*50000:=yE l fun x hx=>bX4 (h x hx)
theorem aO1 {α:Type}(g:α->List UInt8){l:List α}{j:Nat}(hj:j<l.length):(l.take (j+1)).flatMap g=(l.take j).flatMap g++g l[j]:=by
 rw[List.take_add_one,List.getElem?_eq_getElem hj,List.flatMap_append]
 congr 1
 simp
theorem bW6 {n:Nat}{B:Nat->Blk}{l:List aP}{t:aP}{N:Int}(h:aR n B l)(ht:t∈l)(hU:sI B (aL t) N):0<=N/\N<=400:=by
 obtain⟨m,⟨M,m1,m2,rfl⟩,hm⟩:=h.uses t ht
 obtain⟨L,l1,l2,rfl⟩:=hU
 rw[wT l1 m1 (fun x=>(l2 x).trans (m2 x).symm)]
 have:=(h.tens t ht).qb
 omega
def cE6 (e:Ending)(n:Nat)(B:Nat->Blk)(tn:Nat)(l:List aP)(i:Int):Prop:=
 (∃ e':Int,e=.returned (.tuple #[.string ⟨#[]⟩,.int .i64 e'])/\e'≠0/\¬(aR n B l/\0<=i/\i<(tn:Int)))\/
 (∃ (k:Nat) (t:aP) (N:Int),i=(k:Int)/\l[k]? =some t/\aR n B l/\sI B (aL t) N/\e=.returned (.tuple #[.string ⟨(jK B t N).toArray⟩,.int .i64 0]))
end Go.Proofs.YtjafgnohlkkopaaGreatDoor
