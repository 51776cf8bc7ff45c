import Derived.Test.YtjafgnohlkkopaaGreatDoorPart23
import Derived.Test.YtjafgnohlkkopaaGreatDoorPart10
set_option linter.unusedVariables false
set_option maxHeartbeats 8000000
set_option maxRecDepth 100000
namespace Go.Proofs.YtjafgnohlkkopaaGreatDoor
open Go.RowKit
theorem vY {n:Nat}{B C:Nat->Blk}{key:Int}{x y:aK}{nm:ByteArray}{N:Int->Int->List Int}{cc made:Int}(h:Wrote n B C key x nm N cc made y):y.snaps=x.snaps:=by
 obtain⟨root,size,_,_,p,ht⟩:=h
 rcases ht with⟨_,_,_,_,rfl⟩ | ⟨_,_,_,_,_,_,rfl⟩<;>rfl
theorem Did.snap {n:Nat}{B D:Nat->Blk}{key:Int}{x y:aK}{a:aP}{cc:Int}(hx:Shape x)(h:Did n B key x a cc D y){s:bD}(hs:s∈x.snaps)(hno:¬(a.kind=8/\a.to=s.name)):s∈y.snaps:=by
 obtain⟨C,made,hY,_,_⟩:=h
 rcases hY with⟨_,_,_,h⟩ | ⟨_,_,_,h⟩ | ⟨h,_,_⟩
 ·rw[vY h]; exact hs
 ·rw[vY h]; exact hs
 ·rcases h with⟨_,p,hp,_,rfl⟩ | ⟨_,_,p,q,hp,_,_,_,rfl⟩ | ⟨_,_,q,_,_,rfl⟩ | ⟨h8,_,q,hq,hqn,rfl⟩ | ⟨_,_,q,hq,_,rfl⟩
  ·exact hs
  ·exact hs
  ·exact mem_insert.2 (.inr hs)
  ·refine(aL8 (f:=bD.nm) hx.orderS hq).2 ⟨hs,fun e=>hno ⟨h8,?_⟩⟩
   exact(cE9 (e.trans hqn)).symm
  ·exact hs
end Go.Proofs.YtjafgnohlkkopaaGreatDoor
