import Derived.Test.YtjafgnohlkkopaaGreatDoorPart17
import Derived.Test.YtjafgnohlkkopaaGreatDoorPart10
import Derived.Test.YtjafgnohlkkopaaGreatDoorPart11
import Derived.Test.YtjafgnohlkkopaaGreatDoorPart18
import Derived.Test.YtjafgnohlkkopaaGreatDoorPart19
import Derived.Test.YtjafgnohlkkopaaGreatDoorPart20
import Derived.Deep.AppendLies
set_option linter.unusedVariables false
set_option maxHeartbeats 8000000
set_option maxRecDepth 100000
namespace Go.Proofs.YtjafgnohlkkopaaGreatDoor
open Go.RowKit
def sW (key:Int)(B:Nat->Blk)(a:aM):Int->Int->List Int:=fun root size=>gU ((aT key (aH B 3 root)).take size.toNat) a.pos.toNat a.bytes
def cJ4 (key:Int)(B:Nat->Blk)(a:aM):Int->Int->List Int:=fun root _=>(aT key (aH B 3 root)).take a.num.toNat
def okW (a:aM):Prop:=0<=a.pos/\a.pos+(a.bytes.length:Int)<=256
def okC (x:aK)(a:aM):Prop:=(0<=a.num/\a.num<=256)/\∃ f∈x.files,f.nm=a.file.data.toList
def Wrote (n:Nat)(B C:Nat->Blk)(key:Int)(x:aK)(nm:ByteArray)(N:Int->Int->List Int)(cc made:Int)(y:aK):Prop:=
 ∃ root size,bU n B key root size/\eU n B C key root (aT key (aH B 3 root)) (dE (N root size)) 64 made cc/\tZ x nm root size made ((N root size).length:Int) y
def NoRoom (n:Nat)(B:Nat->Blk)(key:Int)(x:aK)(nm:ByteArray)(N:Int->Int->List Int):Prop:=∃ root size,bV9 x nm root size/\sJ n B (chg (aT key (aH B 3 root)) (dE (N root size)) 64)
def cL1 (x:aK)(a:aM)(y:aK):Prop:=∃ p,∃ h:p<x.files.length,x.files[p].nm=a.file.data.toList/\y={ x with files:=x.files.eraseIdx p }
def oG (x:aK)(a:aM):Prop:=(∃ f∈x.files,f.nm=a.file.data.toList)/\aN a.to/\¬∃ f∈x.files,f.nm=a.to.data.toList
def cL0 (x:aK)(a:aM)(y:aK):Prop:=∃ p q,∃ h:p<x.files.length,x.files[p].nm=a.file.data.toList/\(∀ e∈(x.files.eraseIdx p).take q,e.nm<a.to.data.toList)/\(∀ e∈(x.files.eraseIdx p).drop q,a.to.data.toList<e.nm)/\y={ x with files:=(x.files.eraseIdx p).take q++⟨a.to,x.files[p].root,x.files[p].size⟩::(x.files.eraseIdx p).drop q }
def zC (x:aK)(a:aM):Prop:=aN a.to/\(¬∃ s∈x.snaps,s.nm=a.to.data.toList)/\x.snaps.length<3
def cK5 (x:aK)(a:aM)(y:aK):Prop:=∃ q,(∀ s∈x.snaps.take q,s.nm<a.to.data.toList)/\(∀ s∈x.snaps.drop q,a.to.data.toList<s.nm)/\y={ x with snaps:=x.snaps.take q++⟨a.to,x.files⟩::x.snaps.drop q }
def oD (x:aK)(a:aM):Prop:=aN a.to/\∃ s∈x.snaps,s.nm=a.to.data.toList
def cQ2 (x:aK)(a:aM)(y:aK):Prop:=∃ q,∃ h:q<x.snaps.length,x.snaps[q].nm=a.to.data.toList/\y={ x with snaps:=x.snaps.eraseIdx q }
def cE3 (x:aK)(a:aM)(y:aK):Prop:=∃ q,∃ h:q<x.snaps.length,x.snaps[q].nm=a.to.data.toList/\y={ x with files:=x.snaps[q].files }
def Plain (x:aK)(a:aM)(y:aK):Prop:=
 (a.kind=5/\cL1 x a y)\/(a.kind=6/\oG x a/\cL0 x a y)\/(a.kind=7/\zC x a/\cK5 x a y)\/(a.kind=8/\oD x a/\cQ2 x a y)\/(a.kind=9/\oD x a/\cE3 x a y)
def kV (n:Nat)(B C:Nat->Blk)(key:Int)(x:aK)(a:aM)(made:Int)(y:aK)(cc:Int):Prop:=
 (a.kind=3/\aN a.file/\okW a/\Wrote n B C key x a.file (sW key B a) cc made y)\/(a.kind=4/\aN a.file/\okC x a/\Wrote n B C key x a.file (cJ4 key B a) cc made y)\/(Plain x a y/\C=B/\made=0)
def zO (n:Nat)(B:Nat->Blk)(key:Int)(x:aK)(a:aM):Prop:=
 (a.kind=3->aN a.file->okW a->((∃ f∈x.files,f.nm=a.file.data.toList)\/x.files.length<6)->NoRoom n B key x a.file (sW key B a))/\(a.kind=6->¬oG x a)/\(a.kind=7->¬zC x a)/\(a.kind=8->¬oD x a)/\(a.kind=9->¬oD x a)
structure lW (n:Nat)(B:Nat->Blk)(key:Int)(e:Int)(x:aK)(a:aM):Prop where
 write:a.kind=3->bV6 n B key x a.file (okW a) (fun e=>e=pI a.pos (a.bytes.length:Int)) (sW key B a) e
 cut:a.kind=4->bV6 n B key x a.file (okC x a) (aR2 x a.file) (cJ4 key B a) e
 remove:a.kind=5->e=5/\¬∃ f∈x.files,f.nm=a.file.data.toList
 rename:a.kind=6->cE9 x a.file a.to e
 snap:a.kind=7->bD1 x a.to e
 old:a.kind=8\/a.kind=9->aR0 a.to e
 other:¬(3<=a.kind/\a.kind<=9)->e=4
theorem bV6.room {n:Nat}{B:Nat->Blk}{key:Int}{x:aK}{nm:ByteArray}{ok:Prop}{bad:Int->Prop}{N:Int->Int->List Int}{e:Int}(h:bV6 n B key x nm ok bad N e)(h1:aN nm)(h2:ok)(h3:(∃ f∈x.files,f.nm=nm.data.toList)\/x.files.length<6):e=8/\NoRoom n B key x nm N:=by
 rcases h.2.2 h1 h2 with h | ⟨_,h4,h5⟩
 ·exact h
 ·rcases h3 with h3 | h3
  ·exact absurd h3 h4
  ·exact absurd h3 h5
theorem lW.w8 {n:Nat}{B:Nat->Blk}{key e:Int}{x:aK}{a:aM}(h:lW n B key e x a)(hk:a.kind=3)(h1:aN a.file)(h2:okW a)(h3:(∃ f∈x.files,f.nm=a.file.data.toList)\/x.files.length<6):e=8:=((h.write hk).room h1 h2 h3).1
theorem cO1 {n:Nat}{B:Nat->Blk}{key e:Int}{x:aK}{a:aM}(hk:a.kind=3)(h:bV6 n B key x a.file (okW a) (fun e=>e=pI a.pos (a.bytes.length:Int)) (sW key B a) e):lW n B key e x a:=⟨fun _=>h,fun f=>by omega,fun f=>by omega,fun f=>by omega,fun f=>by omega,fun f=>by omega,fun f=>by omega⟩
theorem cO0 {n:Nat}{B:Nat->Blk}{key e:Int}{x:aK}{a:aM}(hk:a.kind=4)(h:bV6 n B key x a.file (okC x a) (aR2 x a.file) (cJ4 key B a) e):lW n B key e x a:=⟨fun f=>by omega,fun _=>h,fun f=>by omega,fun f=>by omega,fun f=>by omega,fun f=>by omega,fun f=>by omega⟩
theorem cN9 {n:Nat}{B:Nat->Blk}{key e:Int}{x:aK}{a:aM}(hk:a.kind=5)(h:e=5/\¬∃ f∈x.files,f.nm=a.file.data.toList):lW n B key e x a:=⟨fun f=>by omega,fun f=>by omega,fun _=>h,fun f=>by omega,fun f=>by omega,fun f=>by omega,fun f=>by omega⟩
theorem cN8 {n:Nat}{B:Nat->Blk}{key e:Int}{x:aK}{a:aM}(hk:a.kind=6)(h:cE9 x a.file a.to e):lW n B key e x a:=⟨fun f=>by omega,fun f=>by omega,fun f=>by omega,fun _=>h,fun f=>by omega,fun f=>by omega,fun f=>by omega⟩
theorem cN7 {n:Nat}{B:Nat->Blk}{key e:Int}{x:aK}{a:aM}(hk:a.kind=7)(h:bD1 x a.to e):lW n B key e x a:=⟨fun f=>by omega,fun f=>by omega,fun f=>by omega,fun f=>by omega,fun _=>h,fun f=>by omega,fun f=>by omega⟩
theorem cG2 {n:Nat}{B:Nat->Blk}{key e:Int}{x:aK}{a:aM}(hk:a.kind=8\/a.kind=9)(h:aR0 a.to e):lW n B key e x a:=⟨fun f=>by omega,fun f=>by omega,fun f=>by omega,fun f=>by omega,fun f=>by omega,fun _=>h,fun f=>by omega⟩
theorem cN6 {n:Nat}{B:Nat->Blk}{key:Int}{x:aK}{a:aM}(hk:¬(3<=a.kind/\a.kind<=9)):lW n B key 4 x a:=⟨fun f=>by omega,fun f=>by omega,fun f=>by omega,fun f=>by omega,fun f=>by omega,fun f=>by omega,fun _=>rfl⟩
theorem mU {n:Nat}{B C:Nat->Blk}{key:Int}{x y:aK}{nm:ByteArray}{N:Int->Int->List Int}{cc made:Int}(hx:bD n B key x)(hn:aN nm)(hN:∀ root size,(N root size).length<=256/\Bytes (N root size))(h:Wrote n B C key x nm N cc made y):
 Grow n B C [made]/\(∀ k,k<n->(C k).refs<=cc+48)/\Shape y/\(∀ e∈lC y,bU n C key e.root e.size)/\(∀ r:Int,(aG y).count r<=(aG x).count r+[made].count r)/\y.snaps=x.snaps:=by
 obtain⟨root,size,hok,hT,p,ht⟩:=h
 have hg:=hT.turned.grow
 have hs:=hx.shape
 have hF:=(hT.file hok (hN root size).1 (hN root size).2).1
 refine⟨hg,hT.turned.few,?_⟩
 rcases ht with⟨hp,_,_,_,rfl⟩ | ⟨_,_,_,h6,h1,h2,rfl⟩
 ·refine⟨⟨hs.name,by simpa using hs.few,fun e he=>?_,xI hs.order hp rfl,hs.fewS,hs.namesS,hs.orderS,hs.filesS⟩,fun e he=>?_,fun r=>?_,rfl⟩
  ·rcases mF he with rfl | h
   ·exact hs.names x.files[p] (List.getElem_mem hp)
   ·exact hs.names e h
  ·rcases List.mem_append.1 he with h | h
   ·rcases mF h with rfl | h
    ·exact hF
    ·exact jW hx hg e (List.mem_append_left _ h)
   ·exact jW hx hg e (List.mem_append_right _ h)
  ·have:=bU1 hp ⟨(x.files[p]).name,made,((N root size).length:Int)⟩ r
   have e:[(Ent.mk (x.files[p]).name made ((N root size).length:Int)).root].count r=[made].count r:=rfl
   rw[e] at this
   unfold aG
   simp only[List.count_append]
   omega
 ·refine⟨⟨hs.name,by show (_:Nat)<=6; rw[length_insert]; omega,fun e he=>?_,iY (f:=Ent.nm) hs.order h1 h2,hs.fewS,hs.namesS,hs.orderS,hs.filesS⟩,fun e he=>?_,fun r=>?_,rfl⟩
  ·rcases mem_insert.1 he with rfl | h
   ·exact hn
   ·exact hs.names e h
  ·rcases List.mem_append.1 he with h | h
   ·rcases mem_insert.1 h with rfl | h
    ·exact hF
    ·exact jW hx hg e (List.mem_append_left _ h)
   ·exact jW hx hg e (List.mem_append_right _ h)
  ·have:=uN (l:=x.files) p ⟨nm,made,((N root size).length:Int)⟩ r
   have e:[(Ent.mk nm made ((N root size).length:Int)).root].count r=[made].count r:=rfl
   rw[e] at this
   unfold aG
   simp only[List.count_append]
   omega
theorem iO (l:List Ent):(aS l).length=l.length:=by simp[aS]
theorem aU4 {n:Nat}{B:Nat->Blk}{key:Int}{x y:aK}{a:aM}(hx:bD n B key x)(h:Plain x a y):
 Shape y/\(∀ e∈lC y,bU n B key e.root e.size)/\(∀ r:Int,(aG y).count r<=(aG x).count r+6):=by
 have hs:=hx.shape
 rcases h with⟨_,p,hp,_,rfl⟩ | ⟨_,⟨_,hn,_⟩,p,q,hp,_,h1,h2,rfl⟩ | ⟨_,⟨hn,_,h3⟩,q,h1,h2,rfl⟩ | ⟨_,_,q,hq,_,rfl⟩ | ⟨_,_,q,hq,_,rfl⟩
 ·refine⟨⟨hs.name,Nat.le_trans (List.eraseIdx_sublist _ _).length_le hs.few,fun e he=>hs.names e ((List.eraseIdx_sublist _ _).subset he),iK hs.order p,hs.fewS,hs.namesS,hs.orderS,hs.filesS⟩,fun e he=>?_,fun r=>?_⟩
  ·rcases List.mem_append.1 he with h | h
   ·exact hx.ents e (List.mem_append_left _ ((List.eraseIdx_sublist _ _).subset h))
   ·exact hx.ents e (List.mem_append_right _ h)
  ·have:=yK hp r
   unfold aG
   simp only[List.count_append]
   omega
 ·have hmem:=List.getElem_mem hp
  refine⟨⟨hs.name,by show (_:Nat)<=6; rw[length_insert,List.length_eraseIdx,if_pos hp]; have:=hs.few; omega,fun e he=>?_,iY (f:=Ent.nm) (iK hs.order p) h1 h2,hs.fewS,hs.namesS,hs.orderS,hs.filesS⟩,fun e he=>?_,fun r=>?_⟩
  ·rcases mem_insert.1 he with rfl | h
   ·exact hn
   ·exact hs.names e ((List.eraseIdx_sublist _ _).subset h)
  ·rcases List.mem_append.1 he with h | h
   ·rcases mem_insert.1 h with rfl | h
    ·exact hx.ents x.files[p] (List.mem_append_left _ hmem)
    ·exact hx.ents e (List.mem_append_left _ ((List.eraseIdx_sublist _ _).subset h))
   ·exact hx.ents e (List.mem_append_right _ h)
  ·have:=yK hp r
   have h3:=uN (l:=x.files.eraseIdx p) q ⟨a.to,(x.files[p]).root,(x.files[p]).size⟩ r
   have e:[(Ent.mk a.to (x.files[p]).root (x.files[p]).size).root].count r=[(x.files[p]).root].count r:=rfl
   rw[e] at h3
   unfold aG
   simp only[List.count_append]
   omega
 ·refine⟨⟨hs.name,hs.few,hs.names,hs.order,by show (_:Nat)<=3; rw[length_insert]; omega,fun s hsm=>?_,iY (f:=bQ.nm) hs.orderS h1 h2,fun s hsm=>?_⟩,fun e he=>?_,fun r=>?_⟩
  ·rcases mem_insert.1 hsm with rfl | h
   ·exact hn
   ·exact hs.namesS s h
  ·rcases mem_insert.1 hsm with rfl | h
   ·exact⟨hs.few,hs.names,hs.order⟩
   ·exact hs.filesS s h
  ·rcases List.mem_append.1 he with h | h
   ·exact hx.ents e (List.mem_append_left _ h)
   ·obtain⟨s,hsm,h⟩:=List.mem_flatMap.1 h
    rcases mem_insert.1 hsm with rfl | hsm
    ·exact hx.ents e (List.mem_append_left _ h)
    ·exact hx.ents e (List.mem_append_right _ (List.mem_flatMap.2 ⟨s,hsm,h⟩))
  ·have:=tQ (l:=x.snaps) q ⟨a.to,x.files⟩ r
   have e:(aS (bQ.mk a.to x.files).files).count r=(aS x.files).count r:=rfl
   rw[e] at this
   have h6:(aS x.files).count r<=6:=Nat.le_trans List.count_le_length (by rw[iO]; exact hs.few)
   unfold aG
   simp only[List.count_append]
   omega
 ·have hsub:∀ s,s∈x.snaps.eraseIdx q->s∈x.snaps:=fun s h=>(List.eraseIdx_sublist _ _).subset h
  refine⟨⟨hs.name,hs.few,hs.names,hs.order,Nat.le_trans (List.eraseIdx_sublist _ _).length_le hs.fewS,fun s h=>hs.namesS s (hsub s h),iK hs.orderS q,fun s h=>hs.filesS s (hsub s h)⟩,fun e he=>?_,fun r=>?_⟩
  ·rcases List.mem_append.1 he with h | h
   ·exact hx.ents e (List.mem_append_left _ h)
   ·obtain⟨s,hsm,h⟩:=List.mem_flatMap.1 h
    exact hx.ents e (List.mem_append_right _ (List.mem_flatMap.2 ⟨s,hsub s hsm,h⟩))
  ·have:=uY hq r
   unfold aG
   simp only[List.count_append]
   omega
 ·have hmem:=List.getElem_mem hq
  refine⟨⟨hs.name,(hs.filesS _ hmem).1,(hs.filesS _ hmem).2.1,(hs.filesS _ hmem).2.2,hs.fewS,hs.namesS,hs.orderS,hs.filesS⟩,fun e he=>?_,fun r=>?_⟩
  ·rcases List.mem_append.1 he with h | h
   ·exact hx.ents e (List.mem_append_right _ (List.mem_flatMap.2 ⟨_,hmem,h⟩))
   ·exact hx.ents e (List.mem_append_right _ h)
  ·have h6:(aS (x.snaps[q]).files).count r<=6:=Nat.le_trans List.count_le_length (by rw[iO]; exact(hs.filesS _ hmem).1)
   unfold aG
   simp only[List.count_append]
   omega
theorem sV {key:Int}{B:Nat->Blk}{a:aM}(hb:Bytes a.bytes)(ho:okW a)(root size:Int):(sW key B a root size).length<=256/\Bytes (sW key B a root size):=
 ⟨aE4 key (aH B 3 root) size.toNat a.pos.toNat a.bytes (by have:=ho.1; have:=ho.2; omega),xE (fun z hz=>iW _ _ z (List.mem_of_mem_take hz)) hb⟩
theorem aP1 {key:Int}{B:Nat->Blk}{a:aM}{x:aK}(ho:okC x a)(root size:Int):(cJ4 key B a root size).length<=256/\Bytes (cJ4 key B a root size):=
 ⟨by unfold cJ4; rw[List.length_take,bY]; omega,fun z hz=>iW _ _ z (List.mem_of_mem_take hz)⟩
def iN (a:aM):Int:=if a.kind=3\/a.kind=4 then 48 else 0
def leftOf (a:aM):Int:=if a.kind=3\/a.kind=4 then 48 else 6
structure Chg (n:Nat)(B C:Nat->Blk)(key:Int)(x:aK)(a:aM)(made:Int)(y:aK)(cc:Int):Prop where
 grow:Grow n B C [made]
 few:∀ k,k<n->(C k).refs<=cc+iN a
 shape:Shape y
 files:∀ e∈lC y,bU n C key e.root e.size
 left:∀ r:Int,((aG y).count r:Int)<=((aG x).count r:Int)+([made].count r:Int)+leftOf a-iN a
theorem kV.chg {n:Nat}{B C:Nat->Blk}{key:Int}{x y:aK}{a:aM}{made cc:Int}(hx:bD n B key x)(hb:Bytes a.bytes)(hc:∀ k,k<n->(B k).refs<=cc)(h:kV n B C key x a made y cc):Chg n B C key x a made y cc:=by
 rcases h with⟨hk,hn,ho,h⟩ | ⟨hk,hn,ho,h⟩ | ⟨h,rfl,rfl⟩
 ·obtain⟨h1,h2,h3,h4,h5,_⟩:=mU hx hn (sV hb ho) h
  refine⟨h1,fun k hk'=>?_,h3,h4,fun r=>?_⟩
  ·have:=h2 k hk'; unfold iN; rw[if_pos (.inl hk)]; exact this
  ·have:=h5 r; unfold iN leftOf; rw[if_pos (.inl hk),if_pos (.inl hk)]; omega
 ·obtain⟨h1,h2,h3,h4,h5,_⟩:=mU hx hn (aP1 ho) h
  refine⟨h1,fun k hk'=>?_,h3,h4,fun r=>?_⟩
  ·have:=h2 k hk'; unfold iN; rw[if_pos (.inr hk)]; exact this
  ·have:=h5 r; unfold iN leftOf; rw[if_pos (.inr hk),if_pos (.inr hk)]; omega
 ·have hk:¬(a.kind=3\/a.kind=4):=by
   rcases h with⟨h,_⟩ | ⟨h,_⟩ | ⟨h,_⟩ | ⟨h,_⟩ | ⟨h,_⟩<;>omega
  obtain⟨h3,h4,h5⟩:=aU4 hx h
  refine⟨(bB3 hx.right).zero,fun k hk'=>?_,h3,h4,fun r=>?_⟩
  ·have:=hc k hk'; unfold iN; rw[if_neg hk]; omega
  ·have:=h5 r; unfold iN leftOf; rw[if_neg hk,if_neg hk]; omega
theorem jP {x:aK}(h:Shape x):(aG x).length<=24:=by
 have h1:∀ l:List bQ,(∀ s∈l,s.files.length<=6)->(dQ l).length<=6*l.length:=by
  intro l
  induction l with
  | nil=>intro _; simp[dQ]
  | cons s l ih=>
    intro hl
    have h2:=ih fun s hs=>hl s (List.mem_cons_of_mem _ hs)
    have h3:=hl s List.mem_cons_self
    show (aS s.files++dQ l).length<=_
    rw[List.length_append,iO,List.length_cons]
    omega
 have h2:=h1 x.snaps (fun s hs=>(h.filesS s hs).1)
 have h3:=h.fewS
 have h4:=h.few
 unfold aG
 rw[List.length_append,iO]
 omega
theorem Chg.there {n:Nat}{B C:Nat->Blk}{key:Int}{x y:aK}{a:aM}{made cc:Int}(h:Chg n B C key x a made y cc):∀ r∈aG y,r=0\/There n C r:=fun r hr=>by
 rw[gQ] at hr
 obtain⟨e,he,rfl⟩:=bV.1 hr
 rcases(h.files e he).rooted with h0 | ⟨h1,_⟩
 ·exact .inl h0
 ·exact .inr h1
theorem Chg.room {n:Nat}{B C:Nat->Blk}{key:Int}{x y:aK}{a:aM}{made cc:Int}(h:Chg n B C key x a made y cc)(hcc:cc+iN a+24<=1000000):∀ i,i<n->(C i).refs+((aG y).length:Int)<=1000000:=fun i hi=>by
 have h1:=h.few i hi
 have h2:=jP h.shape
 omega
theorem Chg.out {n:Nat}{B C:Nat->Blk}{key:Int}{x y:aK}{a:aM}{made cc:Int}(h:Chg n B C key x a made y cc)(hh:dY n B (aG x)):∀ k,k<n->((aG x++[made]).count ((k:Int)+1):Int)<=outs n C k+((aG y).count ((k:Int)+1):Int):=fun k hk=>by
 rw[h.grow.out k hk,List.count_append]
 have:=hh k hk
 omega
theorem Chg.done {n:Nat}{B C D:Nat->Blk}{key:Int}{x y:aK}{a:aM}{made cc:Int}(hx:bD n B key x)(hh:dY n B (aG x))(h:Chg n B C key x a made y cc)(hcc:cc+iN a+24<=1000000)(hD:Right n D)(hF:iQ n (eX C (aG y)) D (aG x++[made])):
 After n key B D x y/\(∀ e∈lC y,aT key (aH D 3 e.root)=aT key (aH C 3 e.root))/\∀ k,k<n->(D k).refs<=cc+leftOf a:=by
 have hg2:=aC1 h.grow.right h.there (h.room hcc)
 have hg:=h.grow.trans hg2
 have h1:=cE1 (y:=y) hx hh hg hD hF (fun r _=>by simp only[List.count_append]; omega) h.shape (fun e he=>((h.files e he).ext hg2.ext hg2.right).1)
 refine⟨h1.1,fun e he=>(h1.2 e he).trans ((h.files e he).ext hg2.ext hg2.right).2,fun k hk=>?_⟩
 have h2:=bS8 hF k hk
 have h3:=h.few k hk
 have h4:=h.left ((k:Int)+1)
 rw[fO,List.count_append] at h2
 omega
theorem Two.next {base:Nat}{L:Nat->Prop}{w w':World}{ob yb g n:Nat}{B:Nat->Blk}{v v':cB}{x y:aK}{ms ms':List aZ}(h:Two base L w ob yb g n B v x ms)(on:Only (Mine yb v) w w')(hS:nJ base (fun b=>L b\/w.heap.size<=b) w' yb v' y ms')(hm:∀ b,v'.mine b->v.mine b\/w.heap.size<=b):
 Two base (fun b=>L b\/w.heap.size<=b) w' ob yb g n B v' y ms':=by
 have hol:=h.box.lt
 have hgl:=h.own.lt
 have hog:¬Mine yb v ob:=by
  rintro (e | e)
  ·exact h.no.1 e
  ·exact h.no.2.1 e
 have hgg:¬Mine yb v g:=by
  rintro (e | e)
  ·exact h.ng.1 e
  ·exact h.ng.2.1 e
 have hnew:∀ b,b<w.heap.size->¬v.mine b->¬v'.mine b:=fun b hb hn f=>by
  rcases hm b f with f | f
  ·exact hn f
  ·omega
 have hb:dO (fun b=>g<b/\(b≠yb/\¬v.mine b/\b≠ob)) w g 0 n B:=by
  intro i hi
  obtain⟨ka,kn,kc,ba,bn,bc,h1⟩:=h.own.blocks i hi
  obtain⟨ka', kn', kc', ba', bn', bc', h2⟩:=h.lists i hi
  have e1:Value.slice ka kn kc=.slice ka' kn' kc':=Option.some.inj (h1.c2.symm.trans h2.c2)
  have e2:Value.slice ba bn bc=.slice ba' bn' bc':=Option.some.inj (h1.c3.symm.trans h2.c3)
  simp only[Value.slice.injEq] at e1 e2
  obtain⟨rfl,rfl,rfl⟩:=e1
  obtain⟨rfl,rfl,rfl⟩:=e2
  exact⟨ka,kn,kc,ba,bn,bc,h1.c0,h1.c1,h1.c2,h1.c3,mZ h1.kids h2.kids,mZ h1.bytes h2.bytes,h1.refs,h1.level,h1.caps⟩
 have hb2:dO (fun b=>(g<b/\(b≠yb/\¬v'.mine b/\b≠ob))/\¬Mine yb v b) w g 0 n B:=hb.weaken (fun b hl q=>⟨⟨q.1,q.2.1,hnew b hl q.2.2.1,q.2.2.2⟩,fun e=>by
  rcases e with e | e
  ·exact q.2.1 e
  ·exact q.2.2.1 e⟩)
 have hb3:=on.blocks hb2 hgg h.own.lt (fun k q e=>q.2 e)
 refine⟨⟨Nat.lt_of_lt_of_le h.own.lt on.size,hb3.weaken (fun b _ q=>q.1.1),fun i hi=>(World.frozen?_of_block (w:=w) (on.block g h.own.lt hgg)).trans (h.own.free i hi)⟩,on.cells h.box hog,hS,⟨h.no.1,hnew ob hol h.no.2.1,?_,h.no.2.2.2⟩,⟨h.ng.1,hnew g hgl h.ng.2.1,?_,h.ng.2.2.2⟩,hb3.weaken (fun b _ q=>q.1.2),?_⟩
 ·rintro (e | e)
  ·exact h.no.2.2.1 e
  ·omega
 ·rintro (e | e)
  ·exact h.ng.2.2.1 e
  ·omega
 ·rintro b (e | e)
  ·exact h.lb b e
  ·have:=h.ng.2.2.2; omega
def bD3 (base:Nat)(w:World)(ob yb n:Nat)(B:Nat->Blk)(key:Int)(v:cB)(x:aK)(a:aM)(cc:Int)(e:Ending)(w':World):Prop:=
 ∃ made e':Int,e=.returned (.tuple #[.int .i64 made,.int .i64 e'])/\Only (fun b=>b=ob\/Mine yb v b) w w'/\
  ((e'≠0/\zO n B key x a/\lW n B key e' x a)\/(e'=0/\∃ (g:Nat) (C:Nat->Blk) (L:Nat->Prop) (v':cB) (y:aK) (ms:List aZ),kV n B C key x a made y cc/\Two base L w' ob yb g n C v' y ms))
theorem zN.int {base:Nat}{L:Nat->Prop}{w w':World}{yb:Nat}{v:cB}{ok:Prop}{bad:Int->Prop}{R:aK->Prop}{e:Ending}(h:zN base L w yb v ok bad R e w'):∃ e':Int,e=.returned (.int .i64 e'):=by
 rcases h.2 with⟨e', h,_⟩ | ⟨h,_⟩
 ·exact⟨e', h⟩
 ·exact⟨0,h⟩
theorem nO {base:Nat}{L:Nat->Prop}{w w0 w':World}{ob yb g n:Nat}{B:Nat->Blk}{key:Int}{v:cB}{x:aK}{ms:List aZ}{a:aM}{cc e':Int}{ok:Prop}{bad:Int->Prop}{R:aK->Prop}(b0:Below w.heap.size w w0)(hT:Two base L w0 ob yb g n B v x ms)(h:zN base L w0 yb v ok bad R (.returned (.int .i64 e')) w')(hE:¬ok->bad e'->lW n B key e' x a)(hno:¬ok->zO n B key x a)(hyes:∀ y,ok->R y->Plain x a y):
 bD3 base w ob yb n B key v x a cc (.returned (.tuple #[.int .i64 0,.int .i64 e'])) w':=by
 obtain⟨on,h⟩:=h
 refine⟨0,e', rfl,(Only.of_below b0).trans (on.mono (fun b _ h=>.inr h)),?_⟩
 rcases h with⟨e1,he,h1,h2,h3⟩ | ⟨he,h1,v', y,ms', hR,hP,hm⟩
 ·simp only[Ending.returned.injEq,Value.int.injEq,true_and] at he
  exact .inl ⟨he▸h1,hno h2,hE h2 (he▸h3)⟩
 ·simp only[Ending.returned.injEq,Value.int.injEq,true_and] at he
  exact .inr ⟨he,g,B,_,v', y,ms', .inr (.inr ⟨hyes y h1 hR,rfl,rfl⟩),hT.next on hP hm⟩
theorem uH {base:Nat}{w w0 w':World}{ob yb n:Nat}{B:Nat->Blk}{key:Int}{v:cB}{x:aK}{a:aM}{cc:Int}{e:Ending}(b0:Below w.heap.size w w0)(hk:a.kind=3)(h:pK base w0 ob yb n B key v x a.file (0<=a.pos/\a.pos+(a.bytes.length:Int)<=256) (fun e=>e=pI a.pos (a.bytes.length:Int)) (fun root size=>gU ((aT key (aH B 3 root)).take size.toNat) a.pos.toNat a.bytes) cc e w'):
 bD3 base w ob yb n B key v x a cc e w':=by
 obtain⟨made,e', he,on,h⟩:=h
 refine⟨made,e', he,(Only.of_below b0).trans on,?_⟩
 rcases h with⟨h1,h2⟩ | ⟨h1,h2,h3,root,size,h4,g,C,L,v', y,ms,h5,h6,h7⟩
 ·exact .inl ⟨h1,⟨fun _ f1 f2 f3=>(bV6.room h2 f1 f2 f3).2,fun h=>absurd (hk.symm.trans h) (by decide),fun h=>absurd (hk.symm.trans h) (by decide),fun h=>absurd (hk.symm.trans h) (by decide),fun h=>absurd (hk.symm.trans h) (by decide)⟩,cO1 hk h2⟩
 ·exact .inr ⟨h1,g,C,L,v', y,ms,.inl ⟨hk,h2,h3,root,size,h4,h5,h6⟩,h7⟩
theorem bF4 {base:Nat}{w w0 w':World}{ob yb n:Nat}{B:Nat->Blk}{key:Int}{v:cB}{x:aK}{a:aM}{cc:Int}{e:Ending}(b0:Below w.heap.size w w0)(hk:a.kind=4)(h:pK base w0 ob yb n B key v x a.file ((0<=a.num/\a.num<=256)/\∃ f∈x.files,f.nm=a.file.data.toList) (aR2 x a.file) (fun root _=>(aT key (aH B 3 root)).take a.num.toNat) cc e w'):
 bD3 base w ob yb n B key v x a cc e w':=by
 obtain⟨made,e', he,on,h⟩:=h
 refine⟨made,e', he,(Only.of_below b0).trans on,?_⟩
 rcases h with⟨h1,h2⟩ | ⟨h1,h2,h3,root,size,h4,g,C,L,v', y,ms,h5,h6,h7⟩
 ·exact .inl ⟨h1,⟨fun h=>absurd (hk.symm.trans h) (by decide),fun h=>absurd (hk.symm.trans h) (by decide),fun h=>absurd (hk.symm.trans h) (by decide),fun h=>absurd (hk.symm.trans h) (by decide),fun h=>absurd (hk.symm.trans h) (by decide)⟩,cO0 hk h2⟩
 ·exact .inr ⟨h1,g,C,L,v', y,ms,.inr (.inl ⟨hk,h2,h3,root,size,h4,h5,h6⟩),h7⟩
theorem oW {n:Nat}{B:Nat->Blk}{key:Int}{x:aK}{a:aM}(h3:a.kind≠3)(h6:a.kind=6->¬oG x a)(h7:a.kind=7->¬zC x a)(h8:a.kind=8->¬oD x a)(h9:a.kind=9->¬oD x a):zO n B key x a:=⟨fun h=>absurd h h3,h6,h7,h8,h9⟩
theorem bJ0 (base:Nat)(L:Nat->Prop)(ob yb g n:Nat)(B:Nat->Blk)(key:Int)(v:cB)(x:aK)(ms:List aZ)(a:aM)(ba:Option Addr)(bn bc:Nat)(cc:Int)(w:World)(hT:Two base L w ob yb g n B v x ms)(hx:bD n B key x)(hB:aI (fun _=>True) .u8 w ba bn a.bytes)(hao:a.ok)(h64:64<=cc)(hcm:(a.kind=3\/a.kind=4)->cc<=999936)(hc:∀ k,k<n->(B k).refs<=cc)(hbw:base<=w.heap.size):
 Calls Tryz.prog 97 #[.pointer (some ⟨ob,0,none⟩),.int .i64 key,.pointer (some ⟨yb,0,none⟩),a.val ba bn bc] w fun e w'=>bD3 base w ob yb n B key v x a cc e w':=by
 have b0:=aA w (.cells #[.int .i64 a.kind,.string a.set,.string a.file,.string a.to,.int .i64 a.pos,.int .i64 a.num,.slice ba bn bc] 30)
 have hT0:=hid (hT.below b0)
 have hB0:=hid (hB.below b0)
 have hbw0:=Nat.le_trans hbw b0.size
 have hsh:=hid hx.shape
 have hfs:a.file.size<=maxLen:=hao.1.2.1
 have hts:a.to.size<=maxLen:=hao.1.2.2
 replace hx:=hid hx
 replace hc:=hid hc
 replace hcm:=hid hcm
 replace hao:=hid hao
 replace hbw0:=hid hbw0
 clear hT hB
 unfold aM.val
 by_cases hk3:a.kind=3
 ·have e3:(a.kind == 3)=true:=by simp[hk3]
  have hk:Hid (a.kind=3):=hid hk3
  clear hk3
  go_enter Tryz.func97,Tryz.ntmps97
  go_wp2_with fail
  by_cases hth:∃ f∈x.files,f.nm=a.file.data.toList
  ·refine(aR4 base L ob yb g n B key v x ms a ba bn bc cc _ hT0.out hx.out hB0.out hao.out h64 (hcm.out (.inl hk.out)) hc.out hbw0.out hth).mono ?_
   rintro e w' h
   have J:=hid (uH b0 hk.out h)
   obtain⟨made,e', rfl,_⟩:=h
   clear hth
   go_wp2_with fail
   go_ret2
   exact J.out
  ·refine(bL0 base L ob yb g n B key v x ms a ba bn bc cc _ hT0.out hx.out hB0.out hao.out h64 (hcm.out (.inl hk.out)) hc.out hbw0.out hth).mono ?_
   rintro e w' h
   have J:=hid (uH b0 hk.out h)
   obtain⟨made,e', rfl,_⟩:=h
   clear hth
   go_wp2_with fail
   go_ret2
   exact J.out
 have e3:(a.kind == 3)=false:=by simp[hk3]
 replace hk3:=hid hk3
 by_cases hk4:a.kind=4
 ·have e4:(a.kind == 4)=true:=by simp[hk4]
  have hk:Hid (a.kind=4):=hid hk4
  clear hk4
  go_enter Tryz.func97,Tryz.ntmps97
  go_wp2_with fail
  refine(cJ3 base L ob yb g n B key v x ms a ba bn bc cc _ hT0.out hx.out hao.out h64 (hcm.out (.inr hk.out)) hc.out hbw0.out).mono ?_
  rintro e w' h
  have J:=hid (bF4 b0 hk.out h)
  obtain⟨made,e', rfl,_⟩:=h
  go_wp2_with fail
  go_ret2
  exact J.out
 have e4:(a.kind == 4)=false:=by simp[hk4]
 replace hk4:=hid hk4
 by_cases hk5:a.kind=5
 ·have e5:(a.kind == 5)=true:=by simp[hk5]
  have hk:Hid (a.kind=5):=hid hk5
  clear hk5
  go_enter Tryz.func97,Tryz.ntmps97
  go_wp2_with fail
  refine(bF7 base L yb v x ms a.file _ hT0.out.set hsh.out).mono ?_
  rintro e w' h
  obtain⟨e', rfl⟩:=h.int
  have J:=hid (nO (key:=key) (a:=a) (cc:=cc) b0 hT0.out h (fun h1 h2=>cN9 hk.out ⟨h2,h1⟩) (fun h=>oW (fun f=>absurd (hk.out.symm.trans f) (by decide)) (fun f=>absurd (hk.out.symm.trans f) (by decide)) (fun f=>absurd (hk.out.symm.trans f) (by decide)) (fun f=>absurd (hk.out.symm.trans f) (by decide)) (fun f=>absurd (hk.out.symm.trans f) (by decide))) (fun y h hR=>.inl ⟨hk.out,hR⟩))
  clear h
  go_wp2_with fail
  go_ret2
  exact J.out
 have e5:(a.kind == 5)=false:=by simp[hk5]
 replace hk5:=hid hk5
 by_cases hk6:a.kind=6
 ·have e6:(a.kind == 6)=true:=by simp[hk6]
  have hk:Hid (a.kind=6):=hid hk6
  clear hk6
  go_enter Tryz.func97,Tryz.ntmps97
  go_wp2_with fail
  refine(bF6 base L yb v x ms a.file a.to _ hT0.out.set hsh.out hts hbw0.out).mono ?_
  rintro e w' h
  obtain⟨e', rfl⟩:=h.int
  have J:=hid (nO (key:=key) (a:=a) (cc:=cc) b0 hT0.out h (fun _ h2=>cN8 hk.out h2) (fun h=>oW (fun f=>absurd (hk.out.symm.trans f) (by decide)) (fun _=>h) (fun f=>absurd (hk.out.symm.trans f) (by decide)) (fun f=>absurd (hk.out.symm.trans f) (by decide)) (fun f=>absurd (hk.out.symm.trans f) (by decide))) (fun y h hR=>.inr (.inl ⟨hk.out,h,hR⟩)))
  clear h
  go_wp2_with fail
  go_ret2
  exact J.out
 have e6:(a.kind == 6)=false:=by simp[hk6]
 replace hk6:=hid hk6
 by_cases hk7:a.kind=7
 ·have e7:(a.kind == 7)=true:=by simp[hk7]
  have hk:Hid (a.kind=7):=hid hk7
  clear hk7
  go_enter Tryz.func97,Tryz.ntmps97
  go_wp2_with fail
  refine(aJ8 base L yb v x ms a.to _ hT0.out.set hsh.out hts hbw0.out).mono ?_
  rintro e w' h
  obtain⟨e', rfl⟩:=h.int
  have J:=hid (nO (key:=key) (a:=a) (cc:=cc) b0 hT0.out h (fun _ h2=>cN7 hk.out h2) (fun h=>oW (fun f=>absurd (hk.out.symm.trans f) (by decide)) (fun f=>absurd (hk.out.symm.trans f) (by decide)) (fun _=>h) (fun f=>absurd (hk.out.symm.trans f) (by decide)) (fun f=>absurd (hk.out.symm.trans f) (by decide))) (fun y h hR=>.inr (.inr (.inl ⟨hk.out,h,hR⟩))))
  clear h
  go_wp2_with fail
  go_ret2
  exact J.out
 have e7:(a.kind == 7)=false:=by simp[hk7]
 replace hk7:=hid hk7
 by_cases hk8:a.kind=8
 ·have e8:(a.kind == 8)=true:=by simp[hk8]
  have hk:Hid (a.kind=8):=hid hk8
  clear hk8
  go_enter Tryz.func97,Tryz.ntmps97
  go_wp2_with fail
  refine(bI1 base L yb v x ms a.to _ hT0.out.set hsh.out hts).mono ?_
  rintro e w' h
  obtain⟨e', rfl⟩:=h.int
  have J:=hid (nO (key:=key) (a:=a) (cc:=cc) b0 hT0.out h (fun _ h2=>cG2 (.inl hk.out) h2) (fun h=>oW (fun f=>absurd (hk.out.symm.trans f) (by decide)) (fun f=>absurd (hk.out.symm.trans f) (by decide)) (fun f=>absurd (hk.out.symm.trans f) (by decide)) (fun _=>h) (fun f=>absurd (hk.out.symm.trans f) (by decide))) (fun y h hR=>.inr (.inr (.inr (.inl ⟨hk.out,h,hR⟩)))))
  clear h
  go_wp2_with fail
  go_ret2
  exact J.out
 have e8:(a.kind == 8)=false:=by simp[hk8]
 replace hk8:=hid hk8
 by_cases hk9:a.kind=9
 ·have e9:(a.kind == 9)=true:=by simp[hk9]
  have hk:Hid (a.kind=9):=hid hk9
  clear hk9
  go_enter Tryz.func97,Tryz.ntmps97
  go_wp2_with fail
  refine(cD5 base L yb v x ms a.to _ hT0.out.set hsh.out hts hbw0.out).mono ?_
  rintro e w' h
  obtain⟨e', rfl⟩:=h.int
  have J:=hid (nO (key:=key) (a:=a) (cc:=cc) b0 hT0.out h (fun _ h2=>cG2 (.inr hk.out) h2) (fun h=>oW (fun f=>absurd (hk.out.symm.trans f) (by decide)) (fun f=>absurd (hk.out.symm.trans f) (by decide)) (fun f=>absurd (hk.out.symm.trans f) (by decide)) (fun f=>absurd (hk.out.symm.trans f) (by decide)) (fun _=>h)) (fun y h hR=>.inr (.inr (.inr (.inr ⟨hk.out,h,hR⟩)))))
  clear h
  go_wp2_with fail
  go_ret2
  exact J.out
 have e9:(a.kind == 9)=false:=by simp[hk9]
 replace hk9:=hid hk9
 go_enter Tryz.func97,Tryz.ntmps97
 go_wp2_with fail
 go_ret2
 exact⟨0,4,rfl,Only.of_below b0,.inl ⟨by omega,oW hk3.out (fun f=>absurd f hk6.out) (fun f=>absurd f hk7.out) (fun f=>absurd f hk8.out) (fun f=>absurd f hk9.out),cN6 (by have h3:=hk3.out; have h4:=hk4.out; have h5:=hk5.out; have h6:=hk6.out; have h7:=hk7.out; have h8:=hk8.out; have h9:=hk9.out; omega)⟩⟩
structure Cop (W:World)(P:Nat->Prop)(w:World)(n:Nat)(B:Nat->Blk)(x:aK)(g:Nat)(v:cB)(ms:List aZ):Prop where
 own:Own w g n B
 lists:dO (fun b=>g<b/\P b/\¬v.mine b) w g 0 n B
 set:fT W.heap.size (fun b=>P b/\b≠g) w v x ms
 pg:P g
 ng:¬v.mine g
 mine:∀ b,v.mine b->P b
 new:∀ b,P b->W.heap.size<=b
theorem Cop.only {W:World}{P M:Nat->Prop}{w w':World}{n:Nat}{B:Nat->Blk}{x:aK}{g:Nat}{v:cB}{ms:List aZ}(h:Cop W P w n B x g v ms)(on:Only M w w')(hM:∀ b,M b->¬P b):Cop W P w' n B x g v ms:=by
 have hg:¬M g:=fun m=>hM g m h.pg
 have hl:=on.blocks h.lists hg h.own.lt (fun k q e=>hM k e q.2.1)
 exact⟨⟨Nat.lt_of_lt_of_le h.own.lt on.size,hl.weaken (fun b _ q=>q.1),fun i hi=>(World.frozen?_of_block (w:=w) (on.block g h.own.lt hg)).trans (h.own.free i hi)⟩,hl,h.set.only on (fun b hb m=>hM b m (h.mine b hb)) (fun b hb m=>hM b m hb.1),h.pg,h.ng,h.mine,h.new⟩
theorem Cop.two {W:World}{P:Nat->Prop}{w:World}{n:Nat}{B:Nat->Blk}{x:aK}{g ob yb:Nat}{v:cB}{ms:List aZ}(h:Cop W P w n B x g v ms)(ho:aC w ob #[.slice (some ⟨g,0,none⟩) n n] 24)(hy:aC w yb #[.string v.name,.slice v.fa v.fn v.fc,.slice v.sa v.sn v.sc] 84)(hne:ob≠yb)(po:¬P ob)(py:¬P yb):Two W.heap.size (fun b=>P b/\b≠g) w ob yb g n B v x ms:=
 ⟨h.own,ho,⟨by rw[<-h.set.name]; exact hy,h.set,fun f=>py (h.mine _ f),fun f=>py f.1⟩,⟨hne,fun f=>po (h.mine _ f),fun f=>po f.1,fun e=>po (e▸h.pg)⟩,⟨fun e=>py (e▸h.pg),h.ng,fun f=>f.2 rfl,h.new g h.pg⟩,h.lists.weaken (fun b _ q=>⟨fun e=>py (e▸q.2.1),q.2.2,fun e=>po (e▸q.2.1)⟩),fun b h1=>h.new b h1.1⟩
theorem bC4 {W wO wS w:World}{n:Nat}{B:Nat->Blk}{x:aK}{g lo:Nat}{v:cB}{ms:List aZ}(hO:Own wO g n B)(hg:W.heap.size<=g)(bO:Below wO.heap.size wO w)(hS:fT lo (fun b=>lo<=b) wS v x ms)(hlo:W.heap.size<=lo)(bS:Below wS.heap.size wS w)(hap:wO.heap.size<=lo\/wS.heap.size<=g):
 Cop W (fun b=>(g<=b/\b<wO.heap.size)\/(lo<=b/\b<wS.heap.size)) w n B x g v ms:=by
 have hgl:=hO.lt
 have hm:∀ b,v.mine b->lo<=b/\b<wS.heap.size:=fun b hb=>hS.mine_ge hb
 have hl:dO (fun b=>g<b/\((g<=b/\b<wO.heap.size)\/(lo<=b/\b<wS.heap.size))/\¬v.mine b) wO g 0 n B:=hO.blocks.weaken (fun b hb q=>⟨q,.inl ⟨by omega,hb⟩,fun f=>by have:=hm b f; omega⟩)
 have hs:fT lo (fun b=>((g<=b/\b<wO.heap.size)\/(lo<=b/\b<wS.heap.size))/\b≠g) wS v x ms:=hS.weaken (fun b hb q=>⟨.inr ⟨q,hb⟩,by omega⟩)
 have hs2:=hs.below bS
 exact⟨hO.below bO,hl.below bO,⟨hs2.name,hs2.small,dD hlo hs2.files,dD hlo hs2.snaps,hs2.eq,hs2.ok,hs2.lists,hs2.apart⟩,.inl ⟨Nat.le_refl _,hgl⟩,fun f=>by have:=hm g f; omega,fun b f=>.inr (hm b f),fun b f=>by omega⟩
def cH1 (W wc:World)(n:Nat)(B:Nat->Blk)(x:aK)(v12 v13:Value):Prop:=
 ∃ (ob yb g:Nat) (v:cB) (ms:List aZ) (P:Nat->Prop),v12=.pointer (some ⟨ob,0,none⟩)/\v13=.pointer (some ⟨yb,0,none⟩)/\Two W.heap.size P wc ob yb g n B v x ms/\Below W.heap.size W wc/\W.heap.size<=ob/\W.heap.size<=yb/\W.heap.size<=g
theorem yC {W w7 wc:World}{P M:Nat->Prop}{n:Nat}{B:Nat->Blk}{x:aK}{g ob yb:Nat}{v:cB}{ms:List aZ}(h:Cop W P w7 n B x g v ms)(on:Only M w7 wc)(hM:∀ b,M b->¬P b)(bb:Below W.heap.size W wc)(ho:aC wc ob #[.slice (some ⟨g,0,none⟩) n n] 24)(hy:aC wc yb #[.string v.name,.slice v.fa v.fn v.fc,.slice v.sa v.sn v.sc] 84)(hne:ob≠yb)(po:¬P ob)(py:¬P yb)(lo:W.heap.size<=ob)(ly:W.heap.size<=yb):
 cH1 W wc n B x (.pointer (some ⟨ob,0,none⟩)) (.pointer (some ⟨yb,0,none⟩)):=
 ⟨ob,yb,g,v,ms,_,rfl,rfl,(h.only on hM).two ho hy hne po py,bb,lo,ly,h.new g h.pg⟩
abbrev cF8 (v:cB):Obj:=.cells #[.string v.name,.slice v.fa v.fn v.fc,.slice v.sa v.sn v.sc] 84
abbrev iF:Obj:=.cells #[.string (ByteArray.mk #[]),.slice none 0 0,.slice none 0 0] 84
abbrev aZ6 (w:World)(yb:Nat)(v:cB):World:=((w.setCell ⟨yb,0,none⟩ (.string v.name)).setCell ⟨yb,1,none⟩ (.slice v.fa v.fn v.fc)).setCell ⟨yb,2,none⟩ (.slice v.sa v.sn v.sc)
theorem jC (w:World)(yb:Nat)(v:cB):Kept yb w (aZ6 w yb v):=Kept.setCell (g:=yb) (Kept.setCell (g:=yb) (Kept.setCell (g:=yb) (Kept.refl _ _) (p:=⟨yb,0,none⟩) rfl _) (p:=⟨yb,1,none⟩) rfl _) (p:=⟨yb,2,none⟩) rfl _
theorem oZ {w:World}{yb:Nat}{v:cB}{c0 c1 c2:Value}(h:aC w yb #[c0,c1,c2] 84):aC (aZ6 w yb v) yb #[.string v.name,.slice v.fa v.fn v.fc,.slice v.sa v.sn v.sc] 84:=by
 have k2:=((h.set 0 (.string v.name)).set 1 (.slice v.fa v.fn v.fc)).set 2 (.slice v.sa v.sn v.sc)
 simp only[List.setIfInBounds_toArray,List.set_cons_zero,List.set_cons_succ] at k2
 exact k2
theorem gY (w:World)(ob:Nat)(s:Value):Kept ob w (w.setCell ⟨ob,0,none⟩ s):=Kept.setCell (g:=ob) (Kept.refl _ _) (p:=⟨ob,0,none⟩) rfl _
theorem pE {w:World}{ob:Nat}{s c0:Value}(h:aC w ob #[c0] 24):aC (w.setCell ⟨ob,0,none⟩ s) ob #[s] 24:=by
 have k2:=h.set 0 s
 simp only[List.setIfInBounds_toArray,List.set_cons_zero] at k2
 exact k2
section
variable {W w7:World} {P:Nat->Prop} {n:Nat} {B:Nat->Blk} {x:aK} {g:Nat} {v:cB} {ms:List aZ}
theorem bB9 (h:Cop W P w7 n B x g v ms)(hP:∀ b,P b->b<w7.heap.size)(bb:Below W.heap.size W w7):cH1 W ((w7.alloc (bK5 (some ⟨g,0,none⟩) n n)).alloc (cF8 v)) n B x (.pointer (some ⟨w7.heap.size,0,none⟩)) (.pointer (some ⟨w7.heap.size+1,0,none⟩)):=
 yC h (Only.of_below (M:=fun _=>False) (aW _ _ _)) (fun _ m=>m.elim) (Below.tr bb (aW _ _ _)) ((aB w7 _ _).below (aA _ _)) (aF w7 _ _ _) (by omega) (fun f=>by have:=hP _ f; omega) (fun f=>by have:=hP _ f; omega) bb.size (by have:=bb.size; omega)
theorem bB8 (h:Cop W P w7 n B x g v ms)(hP:∀ b,P b->b<w7.heap.size)(bb:Below W.heap.size W w7):cH1 W ((w7.alloc (cF8 v)).alloc (bK5 (some ⟨g,0,none⟩) n n)) n B x (.pointer (some ⟨w7.heap.size+1,0,none⟩)) (.pointer (some ⟨w7.heap.size,0,none⟩)):=
 yC h (Only.of_below (M:=fun _=>False) (aW _ _ _)) (fun _ m=>m.elim) (Below.tr bb (aW _ _ _)) (aF w7 _ _ _) ((aB w7 _ _).below (aA _ _)) (by omega) (fun f=>by have:=hP _ f; omega) (fun f=>by have:=hP _ f; omega) (by have:=bb.size; omega) bb.size
theorem vO {a:Nat}{c0:Value}(ha:W.heap.size<=a)(pa:¬P a)(ka:aC w7 a #[c0] 24)(h:Cop W P w7 n B x g v ms)(hP:∀ b,P b->b<w7.heap.size)(bb:Below W.heap.size W w7):cH1 W ((w7.setCell ⟨a,0,none⟩ (.slice (some ⟨g,0,none⟩) n n)).alloc (cF8 v)) n B x (.pointer (some ⟨a,0,none⟩)) (.pointer (some ⟨w7.heap.size,0,none⟩)):=by
 have kk:=gY w7 a (.slice (some ⟨g,0,none⟩) n n)
 have k3:aC ((w7.setCell ⟨a,0,none⟩ (.slice (some ⟨g,0,none⟩) n n)).alloc (cF8 v)) w7.heap.size #[.string v.name,.slice v.fa v.fn v.fc,.slice v.sa v.sn v.sc] 84:=by
  have:=aB (w7.setCell ⟨a,0,none⟩ (.slice (some ⟨g,0,none⟩) n n)) #[.string v.name,.slice v.fa v.fn v.fc,.slice v.sa v.sn v.sc] 84
  rwa [kk.size] at this
 have hal:=ka.lt
 exact yC h ((Only.of_kept (M:=fun b=>b=a) kk rfl).trans (Only.of_below (aA _ _))) (fun b m f=>pa (m▸f)) (Below.tr (bb.trans (kk.below ha)) (aA _ _)) ((pE ka).below (aA _ _)) k3 (by omega) pa (fun f=>by have:=hP _ f; omega) ha bb.size
theorem vN {a:Nat}{c0 c1 c2:Value}(ha:W.heap.size<=a)(pa:¬P a)(ka:aC w7 a #[c0,c1,c2] 84)(h:Cop W P w7 n B x g v ms)(hP:∀ b,P b->b<w7.heap.size)(bb:Below W.heap.size W w7):cH1 W ((aZ6 w7 a v).alloc (bK5 (some ⟨g,0,none⟩) n n)) n B x (.pointer (some ⟨w7.heap.size,0,none⟩)) (.pointer (some ⟨a,0,none⟩)):=by
 have kk:=jC w7 a v
 have k3:aC ((aZ6 w7 a v).alloc (bK5 (some ⟨g,0,none⟩) n n)) w7.heap.size #[.slice (some ⟨g,0,none⟩) n n] 24:=by
  have:=aB (aZ6 w7 a v) #[.slice (some ⟨g,0,none⟩) n n] 24
  rwa [kk.size] at this
 have hal:=ka.lt
 exact yC h ((Only.of_kept (M:=fun b=>b=a) kk rfl).trans (Only.of_below (aA _ _))) (fun b m f=>pa (m▸f)) (Below.tr (bb.trans (kk.below ha)) (aA _ _)) k3 ((oZ ka).below (aA _ _)) (by omega) (fun f=>by have:=hP _ f; omega) pa bb.size ha
theorem vP {a b:Nat}{c0 d0 d1 d2:Value}(ha:W.heap.size<=a)(hb:W.heap.size<=b)(hne:a≠b)(pa:¬P a)(pb:¬P b)(ka:aC w7 a #[c0] 24)(kb:aC w7 b #[d0,d1,d2] 84)(h:Cop W P w7 n B x g v ms)(bb:Below W.heap.size W w7):cH1 W (aZ6 (w7.setCell ⟨a,0,none⟩ (.slice (some ⟨g,0,none⟩) n n)) b v) n B x (.pointer (some ⟨a,0,none⟩)) (.pointer (some ⟨b,0,none⟩)):=by
 have k1:=gY w7 a (.slice (some ⟨g,0,none⟩) n n)
 have k2:=jC (w7.setCell ⟨a,0,none⟩ (.slice (some ⟨g,0,none⟩) n n)) b v
 have o1:=Only.of_kept (M:=fun k=>k=a\/k=b) k1 (.inl rfl)
 have o2:=Only.of_kept (M:=fun k=>k=a\/k=b) k2 (.inr rfl)
 exact yC h (o1.trans o2) (fun k m f=>by
  rcases m with m | m
  ·exact pa (m▸f)
  ·exact pb (m▸f)) ((bb.trans (k1.below ha)).trans (k2.below hb)) ((Only.of_kept (M:=fun k=>k=b) k2 rfl).cells (pE ka) hne) (oZ ((Only.of_kept (M:=fun k=>k=a) k1 rfl).cells kb hne.symm)) hne pa pb ha hb
end
def Did (n:Nat)(B:Nat->Blk)(key:Int)(x:aK)(a:aM)(cc:Int)(D:Nat->Blk)(y:aK):Prop:=∃ C made,kV n B C key x a made y cc/\Right n D/\iQ n (eX C (aG y)) D (aG x++[made])
def uS (w:World)(n:Nat)(B:Nat->Blk)(key:Int)(x:aK)(a:aM)(cc:Int)(e:Ending)(w':World):Prop:=
 Below w.heap.size w w'/\((∃ e':Int,e=.returned (.tuple #[.agg #[.slice none 0 0],.agg #[.string (ByteArray.mk #[]),.slice none 0 0,.slice none 0 0],.int .i64 e'])/\e'≠0/\(bD n B key x->dY n B (aG x)->zO n B key x a)/\(bD n B key x->dY n B (aG x)->lW n B key e' x a))\/
  (∃ (g:Nat) (D:Nat->Blk) (v:cB) (y:aK),e=.returned (.tuple #[.agg #[.slice (some ⟨g,0,none⟩) n n],.agg #[.string v.name,.slice v.fa v.fn v.fc,.slice v.sa v.sn v.sc],.int .i64 0])/\bD n B key x/\dY n B (aG x)/\Did n B key x a cc D y/\(w.heap.size<=g/\Own w' g n D)/\dN (fun b=>w.heap.size<=b) w' v y))
theorem dA {A C:Prop}(h:A)(k:A->C):C:=k h
theorem dR {a b:World}{k:Nat}(h:Below a.heap.size a b)(hk:b.heap.size<=k):a.heap.size<=k:=Nat.le_trans h.size hk
theorem aD6 (w:World):w.drew.heap.size=w.heap.size:=rfl
theorem mV (w:World)(o:Obj):(w.alloc o).heap.size=w.heap.size+1:=by simp
theorem aO.drew {w:World}{a:Option Addr}{n:Nat}{B:Nat->Blk}(h:aO w a n B):aO w.drew a n B:=h.below (aD _ _)
theorem uS.drew {w w':World}{n:Nat}{B:Nat->Blk}{key:Int}{x:aK}{a:aM}{cc:Int}{e:Ending}(h:uS w n B key x a cc e w'):uS w n B key x a cc e w'.drew:=by
 obtain⟨b,h⟩:=h
 refine⟨b.trans (aD _ _),?_⟩
 rcases h with h | ⟨g,D,v,y,h1,h2,h3,h4,h5,h6⟩
 ·exact .inl h
 ·exact .inr ⟨g,D,v,y,h1,h2,h3,h4,⟨h5.1,h5.2.below (aD _ _)⟩,h6.below (aD _ _)⟩
structure DB (W wr:World)(sa:Option Addr)(n sc:Nat)(v:cB)(a:aM)(ba:Option Addr)(bn bc:Nat):Prop where
 bel:Below W.heap.size W wr
 sz:W.heap.size+5<=wr.heap.size
 bS:aC wr W.heap.size #[.slice sa n sc] 24
 bX:aC wr (W.heap.size+1) #[.string v.name,.slice v.fa v.fn v.fc,.slice v.sa v.sn v.sc] 84
 bA:aC wr (W.heap.size+1+1) #[.int .i64 a.kind,.string a.set,.string a.file,.string a.to,.int .i64 a.pos,.int .i64 a.num,.slice ba bn bc] 30
 r8:aC wr (W.heap.size+1+1+1) #[.slice none 0 0] 24
 r9:aC wr (W.heap.size+1+1+1+1) #[.string (ByteArray.mk #[]),.slice none 0 0,.slice none 0 0] 84
theorem DB.below {W wr w':World}{sa:Option Addr}{n sc:Nat}{v:cB}{a:aM}{ba:Option Addr}{bn bc:Nat}(h:DB W wr sa n sc v a ba bn bc)(b:Below wr.heap.size wr w'):DB W w' sa n sc v a ba bn bc:=⟨Below.tr h.bel b,Nat.le_trans h.sz b.size,h.bS.below b,h.bX.below b,h.bA.below b,h.r8.below b,h.r9.below b⟩
abbrev cG4 (w:World)(sa:Option Addr)(n sc:Nat)(v:cB)(a:aM)(ba:Option Addr)(bn bc:Nat):World:=
 ((((w.alloc (.cells #[.slice sa n sc] 24)).alloc (.cells #[.string v.name,.slice v.fa v.fn v.fc,.slice v.sa v.sn v.sc] 84)).alloc (.cells #[.int .i64 a.kind,.string a.set,.string a.file,.string a.to,.int .i64 a.pos,.int .i64 a.num,.slice ba bn bc] 30)).alloc (.cells #[.slice none 0 0] 24)).alloc (.cells #[.string (ByteArray.mk #[]),.slice none 0 0,.slice none 0 0] 84)
theorem cC2 (w:World)(sa:Option Addr)(n sc:Nat)(v:cB)(a:aM)(ba:Option Addr)(bn bc:Nat):DB w (cG4 w sa n sc v a ba bn bc) sa n sc v a ba bn bc:=by
 have h1:=aB w #[.slice sa n sc] 24
 have h2:=aB (w.alloc (.cells #[.slice sa n sc] 24)) #[.string v.name,.slice v.fa v.fn v.fc,.slice v.sa v.sn v.sc] 84
 have h3:=aB ((w.alloc (.cells #[.slice sa n sc] 24)).alloc (.cells #[.string v.name,.slice v.fa v.fn v.fc,.slice v.sa v.sn v.sc] 84)) #[.int .i64 a.kind,.string a.set,.string a.file,.string a.to,.int .i64 a.pos,.int .i64 a.num,.slice ba bn bc] 30
 have h4:=aB (((w.alloc (.cells #[.slice sa n sc] 24)).alloc (.cells #[.string v.name,.slice v.fa v.fn v.fc,.slice v.sa v.sn v.sc] 84)).alloc (.cells #[.int .i64 a.kind,.string a.set,.string a.file,.string a.to,.int .i64 a.pos,.int .i64 a.num,.slice ba bn bc] 30)) #[.slice none 0 0] 24
 have h5:=aB ((((w.alloc (.cells #[.slice sa n sc] 24)).alloc (.cells #[.string v.name,.slice v.fa v.fn v.fc,.slice v.sa v.sn v.sc] 84)).alloc (.cells #[.int .i64 a.kind,.string a.set,.string a.file,.string a.to,.int .i64 a.pos,.int .i64 a.num,.slice ba bn bc] 30)).alloc (.cells #[.slice none 0 0] 24)) #[.string (ByteArray.mk #[]),.slice none 0 0,.slice none 0 0] 84
 simp only[mV] at h2 h3 h4 h5
 exact⟨bAl (bAl (bAl (bAl (bAl (Below.refl _ w) _) _) _) _) _,by simp,(((h1.below (aA _ _)).below (aA _ _)).below (aA _ _)).below (aA _ _),((h2.below (aA _ _)).below (aA _ _)).below (aA _ _),(h3.below (aA _ _)).below (aA _ _),h4.below (aA _ _),h5⟩
theorem DB.put {W wr:World}{sa:Option Addr}{n sc:Nat}{v:cB}{a:aM}{ba:Option Addr}{bn bc:Nat}(h:DB W wr sa n sc v a ba bn bc)(s:Value)(u:cB):Below W.heap.size W (aZ6 (wr.setCell ⟨W.heap.size+1+1+1,0,none⟩ s) (W.heap.size+1+1+1+1) u):=
 (h.bel.trans ((gY wr (W.heap.size+1+1+1) s).below (by omega))).trans ((jC _ _ u).below (by omega))
theorem aC7 (Q:Nat->Prop)(v:cB)(x:aK)(w:World)(hX:dN Q w v x)(hs:Shape x):
 Calls Tryz.prog 33 #[.agg #[.string v.name,.slice v.fa v.fn v.fc,.slice v.sa v.sn v.sc]] w fun e w'=>(∃ (u:cB) (ms:List aZ) (lo:Nat),e=.returned (.agg #[.string u.name,.slice u.fa u.fn u.fc,.slice u.sa u.sn u.sc])/\w.heap.size<=lo/\fT lo (fun b=>lo<=b) w' u x ms)/\Below w.heap.size w w':=by
 refine(aX4 Q v x w hX hs.few hs.fewS (fun s h=>(hs.filesS s h).1)).mono ?_
 rintro e w' ⟨⟨u,ms,rfl,hn⟩,b⟩
 exact⟨⟨u,ms,w.heap.size+2,rfl,by omega,hn⟩,b⟩
theorem vG (Q:Nat->Prop)(v:cB)(x:aK)(nm:ByteArray)(w:World)(hX:dN Q w v x)(hs:Shape x)(hnm:v.name=nm):
 Calls Tryz.prog 84 #[.agg #[.string nm,.slice v.fa v.fn v.fc,.slice v.sa v.sn v.sc]] w fun e w'=>(∃ (a:Option Addr) (c lo:Nat),e=.returned (.slice a (aG x).length c)/\w.heap.size<=lo/\w'.ownsRow lo 3 1 (.slice a (aG x).length c) (aG x).length ((aG x).map (Value.int .i64))/\(∀ r∈aG x,(Lit.int .i64 r).wf=true)/\lo<=w'.heap.size)/\Below w.heap.size w w':=by
 subst hnm
 refine(wP Q v x w hX hs.few hs.fewS (fun s h=>(hs.filesS s h).1)).mono ?_
 rintro e w' ⟨⟨a,c,h1,h2,h3⟩,b⟩
 exact⟨⟨a,c,w.heap.size,h1,Nat.le_refl _,h2,h3,b.size⟩,b⟩
theorem kV.made {n:Nat}{B C:Nat->Blk}{key:Int}{x y:aK}{a:aM}{made cc:Int}(h:kV n B C key x a made y cc)(hB:Right n B):(made=0\/(1<=made/\made<=n))/\n<=400:=by
 have h4:=hB.small
 have ht:∀ {C:Nat->Blk} {c:Int},Turned n B C made c->(made=0\/(1<=made/\made<=n)):=fun h=>by
  rcases h.root with h | ⟨⟨h1,h2,_⟩,_⟩
  ·exact .inl h
  ·exact .inr ⟨h1,h2⟩
 rcases h with⟨_,_,_,_,_,_,h,_⟩ | ⟨_,_,_,_,_,_,h,_⟩ | ⟨_,_,h⟩
 ·exact⟨ht h.turned,h4⟩
 ·exact⟨ht h.turned,h4⟩
 ·exact⟨.inl h,h4⟩
theorem sH {w5 cur wA:World}{lo n:Nat}{v:Value}{xs:List Value}(bb:Below w5.heap.size w5 cur)(hr:cur.ownsRow lo 3 1 v n xs)(hlo:w5.heap.size<=lo)(hg:cur.grownBy wA v.ownBlock):Below w5.heap.size w5 wA:=bb.grown hg bb.size (fun i hi=>Nat.le_trans hlo (hr.lt i hi).1)
theorem vT {cur wA:World}{lo n hi:Nat}{v:Value}{xs:List Value}(hr:cur.ownsRow lo 3 1 v n xs)(hhi:∀ b,v.ownBlock=some b->b<hi)(hg:cur.grownBy wA v.ownBlock){ya:Option Addr}{yn l h:Nat}{R:List Int}(hN:aI (fun b=>l<=b/\b<h) .i64 cur ya yn R)(hap:h<=lo\/hi<=l):aI (fun b=>l<=b/\b<h) .i64 wA ya yn R:=
 (⟨hg.os,hg.tape,hg.output,hg.size,fun k hk hm=>hg.block k hk (fun e=>hm e.symm)⟩:Only (fun b=>v.ownBlock=some b) cur wA).nums hN (fun k q e=>by have h1:=(hr.lt k e).1; have h2:=hhi k e; omega)
theorem rH {w:World}{A:Nat}{c:Value}{t:TypeId}(h:aC w A #[c] t):∀ j u,[c][j]? =some u->w.cell? ((⟨A,0,none⟩:Addr).add j)=some u:=fun j u hu=>by
 match j,hu with
 | 0,hu=>
   have:=h.cell 0
   simp at this hu
   subst hu
   have hadd:(⟨A,0,none⟩:Addr).add 0=⟨A,0,none⟩:=by unfold Addr.add; split<;>simp_all
   rw[hadd]
   exact this
 | k+1,hu=>simp at hu
theorem vJ {w:World}{lo g gA cap:Nat}{R:List Int}{m:Int}(hr:w.ownsRow lo 3 1 (.slice (some ⟨gA,0,none⟩) (R.length+1) cap) (R.length+1) (R.map (Value.int .i64)++[.int .i64 m]))(hw:∀ r∈R,(Lit.int .i64 r).wf=true)(hm:-9223372036854775808<=m/\m<=9223372036854775807)(hg:g<lo):aI (fun b=>b≠g) .i64 w (some ⟨gA,0,none⟩) (R.length+1) (R++[m]):=by
 have e:R.map (Value.int .i64)++[.int .i64 m]=(R++[m]).map (Value.int .i64):=by simp
 rw[e] at hr
 obtain⟨a,c,hv,_,hN⟩:=fM (fun r hr=>by
  rcases List.mem_append.1 hr with h | h
  ·exact hw r h
  ·simp at h; subst h; exact WalkArith.wf_i64 hm) hr
 simp only[Value.slice.injEq] at hv
 obtain⟨rfl,_,rfl⟩:=hv
 exact hN.weaken (fun b _ h=>by omega)
theorem aE7 {w:World}{lo:Nat}{a:Option Addr}{c:Nat}{R:List Int}(hr:w.ownsRow lo 3 1 (.slice a R.length c) R.length (R.map (Value.int .i64)))(hw:∀ r∈R,(Lit.int .i64 r).wf=true):aI (fun b=>lo<=b/\b<w.heap.size) .i64 w a R.length R:=by
 obtain⟨a', c', hv,_,hN⟩:=fM hw hr
 simp only[Value.slice.injEq] at hv
 obtain⟨rfl,_,rfl⟩:=hv
 exact hN.weaken (fun b hb h=>⟨h,hb⟩)
def bW3 (w2 wc:World)(n ob yb g:Nat)(C:Nat->Blk)(v:cB)(x y:aK)(made:Int):Prop:=
 ∃ (D:Nat->Blk) (L:Nat->Prop) (ms:List aZ),Right n D/\iQ n (eX C (aG y)) D (aG x++[made])/\Own wc g n D/\wc.cell? ⟨ob,0,none⟩=some (.slice (some ⟨g,0,none⟩) n n)/\aC wc yb #[.string y.name,.slice v.fa v.fn v.fc,.slice v.sa v.sn v.sc] 84/\fT w2.heap.size L wc v y ms/\(∀ b,L b->w2.heap.size<=b)/\Below w2.heap.size w2 wc/\ob<wc.heap.size
theorem cN1 {w2 w5 cur w8:World}{L:Nat->Prop}{n ob yb g:Nat}{C D:Nat->Blk}{v:cB}{x y:aK}{ms:List aZ}{made:Int}(b5:Below w2.heap.size w2 w5)(hT:Two w2.heap.size L w5 ob yb g n C v y ms)(bb:Below w5.heap.size w5 cur)(ho:Out g cur w8)(hP:dF w8 ⟨ob,0,none⟩ g n D)(hR:Right n D)(hF:iQ n (eX C (aG y)) D (aG x++[made])):bW3 w2 w8 n ob yb g C v x y made:=by
 have on:Only (fun b=>b=g) cur w8:=Only.of_out ho rfl
 exact⟨D,L,ms,hR,hF,hP.own,hP.cell,on.cells (hT.set.box.below bb) (fun e=>hT.ng.1 e.symm),(hT.set.new.below bb).only on (fun b hb e=>hT.ng.2.1 (e▸hb)) (fun b hb e=>hT.ng.2.2.1 (e▸hb)),hT.lb,(Below.tr b5 bb).trans (ho.below hT.ng.2.2.2 (Nat.le_trans b5.size bb.size)),hP.lt⟩
theorem bW3.keep {w2 wc:World}{n ob yb g:Nat}{C:Nat->Blk}{v:cB}{x y:aK}{made:Int}(h:bW3 w2 wc n ob yb g C v x y made):Below w2.heap.size w2 wc:=by
 obtain⟨_,_,_,_,_,_,_,_,_,_,h,_⟩:=h
 exact h
theorem bW3.y0 {w2 wc:World}{n ob yb g:Nat}{C:Nat->Blk}{v:cB}{x y:aK}{made:Int}(h:bW3 w2 wc n ob yb g C v x y made):wc.cell? ⟨yb,0,none⟩=some (.string y.name):=by
 obtain⟨_,_,_,_,_,_,_,h,_⟩:=h
 exact h.cell 0
theorem bW3.y1 {w2 wc:World}{n ob yb g:Nat}{C:Nat->Blk}{v:cB}{x y:aK}{made:Int}(h:bW3 w2 wc n ob yb g C v x y made):wc.cell? ⟨yb,1,none⟩=some (.slice v.fa v.fn v.fc):=by
 obtain⟨_,_,_,_,_,_,_,h,_⟩:=h
 exact h.cell 1
theorem bW3.y2 {w2 wc:World}{n ob yb g:Nat}{C:Nat->Blk}{v:cB}{x y:aK}{made:Int}(h:bW3 w2 wc n ob yb g C v x y made):wc.cell? ⟨yb,2,none⟩=some (.slice v.sa v.sn v.sc):=by
 obtain⟨_,_,_,_,_,_,_,h,_⟩:=h
 exact h.cell 2
theorem cJ1 {w w2 WC:World}{sa:Option Addr}{n sc:Nat}{B C D:Nat->Blk}{key:Int}{v v3:cB}{x y:aK}{a:aM}{ba:Option Addr}{bn bc g':Nat}{cc made:Int}{L:Nat->Prop}{ms:List aZ}(hdb:DB w WC sa n sc v a ba bn bc)(hsz2:w.heap.size+5<=w2.heap.size)(g8:w2.heap.size<=g')(hx:bD n B key x)(hh:dY n B (aG x))(hYes:kV n B C key x a made y cc)(hRD:Right n D)(hFD:iQ n (eX C (aG y)) D (aG x++[made]))(hOD:Own WC g' n D)(hSN:fT w2.heap.size L WC v3 y ms)(hL:∀ b,L b->w2.heap.size<=b):
 uS w n B key x a cc (.returned (.tuple #[.agg #[.slice (some ⟨g', 0,none⟩) n n],.agg #[.string y.name,.slice v3.fa v3.fn v3.fc,.slice v3.sa v3.sn v3.sc],.int .i64 0])) (aZ6 (WC.setCell ⟨w.heap.size+1+1+1,0,none⟩ (.slice (some ⟨g', 0,none⟩) n n)) (w.heap.size+1+1+1+1) ⟨y.name,v3.fa,v3.fn,v3.fc,v3.sa,v3.sn,v3.sc⟩):=by
 have k1:=gY WC (w.heap.size+1+1+1) (.slice (some ⟨g', 0,none⟩) n n)
 have k2:=jC (WC.setCell ⟨w.heap.size+1+1+1,0,none⟩ (.slice (some ⟨g', 0,none⟩) n n)) (w.heap.size+1+1+1+1) ⟨y.name,v3.fa,v3.fn,v3.fc,v3.sa,v3.sn,v3.sc⟩
 have o1:=Only.of_kept (M:=fun k=>k=w.heap.size+1+1+1\/k=w.heap.size+1+1+1+1) k1 (.inl rfl)
 have o2:=Only.of_kept (M:=fun k=>k=w.heap.size+1+1+1\/k=w.heap.size+1+1+1+1) k2 (.inr rfl)
 have on:=o1.trans o2
 have hS2:=(hSN.only on (fun b hb m=>by have:=(hSN.mine_ge hb).1; omega) (fun b hb m=>by have:=hL b hb; omega)).at
 refine⟨hdb.put _ _,.inr ⟨g', D,⟨y.name,v3.fa,v3.fn,v3.fc,v3.sa,v3.sn,v3.sc⟩,y,rfl,hx,hh,⟨C,made,hYes,hRD,hFD⟩,⟨by omega,rF hOD on (fun b _ m=>by omega)⟩,?_⟩⟩
 exact⟨rfl,hS2.small,hS2.files.weaken (fun b _ h=>by rcases h with h | h; (· omega); have:=hL b h; omega),hS2.snaps.weaken (fun b _ h=>by rcases h with h | h; (· omega); have:=hL b h; omega),hS2.caps⟩
theorem Did.after {n:Nat}{B D:Nat->Blk}{key:Int}{x y:aK}{a:aM}{cc:Int}(hx:bD n B key x)(hh:dY n B (aG x))(hb:Bytes a.bytes)(hc:∀ k,k<n->(B k).refs<=cc)(hcc:cc+iN a+24<=1000000)(h:Did n B key x a cc D y):After n key B D x y/\∀ k,k<n->(D k).refs<=cc+leftOf a:=by
 obtain⟨C,made,hY,hD,hF⟩:=h
 have:=(hY.chg hx hb hc).done hx hh hcc hD hF
 exact⟨this.1,this.2.2⟩
theorem Did.plain {n:Nat}{B D:Nat->Blk}{key:Int}{x y:aK}{a:aM}{cc:Int}(h:Did n B key x a cc D y)(h3:a.kind≠3)(h4:a.kind≠4):Plain x a y/\Right n D/\iQ n (eX B (aG y)) D (aG x++[0]):=by
 obtain⟨C,made,hY,hD,hF⟩:=h
 rcases hY with⟨h,_⟩ | ⟨h,_⟩ | ⟨h,rfl,rfl⟩
 ·exact absurd h h3
 ·exact absurd h h4
 ·exact⟨h,hD,hF⟩
theorem bD.thereX {n:Nat}{B:Nat->Blk}{key:Int}{x:aK}(h:bD n B key x):∀ r∈aG x,r=0\/There n B r:=fun r hr=>by
 rw[gQ] at hr
 obtain⟨e,he,rfl⟩:=bV.1 hr
 rcases(h.ents e he).rooted with h0 | ⟨h1,_⟩
 ·exact .inl h0
 ·exact .inr h1
theorem aL6 {α:Type}{f:α->List UInt8}{l:List α}(h:l.Pairwise fun a b=>f a<f b){p:Nat}(hp:p<l.length){z:α}:z∈l.eraseIdx p↔z∈l/\f z≠f l[p]:=by
 have e:l=l.take p++l[p]::l.drop (p+1):=by rw[List.getElem_cons_drop,List.take_append_drop]
 have h':=h
 rw[e] at h'
 rw[List.pairwise_append,List.pairwise_cons] at h'
 obtain⟨_,⟨h3,_⟩,h4⟩:=h'
 rw[List.eraseIdx_eq_take_drop_succ,List.mem_append]
 constructor
 ·rintro (hz | hz)
  ·refine⟨List.mem_of_mem_take hz,fun e2=>?_⟩
   have:=h4 z hz l[p] List.mem_cons_self
   rw[e2] at this
   exact absurd this (List.lt_irrefl _)
  ·refine⟨List.mem_of_mem_drop hz,fun e2=>?_⟩
   have:=h3 z hz
   rw[e2] at this
   exact absurd this (List.lt_irrefl _)
 ·rintro⟨hz,hne⟩
  rw[e] at hz
  rcases List.mem_append.1 hz with h | h
  ·exact .inl h
  ·rcases List.mem_cons.1 h with h | h
   ·exact absurd (congrArg f h) hne
   ·exact .inr h
end Go.Proofs.YtjafgnohlkkopaaGreatDoor
