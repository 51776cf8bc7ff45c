/-
  SnapF in one text. Nothing here is trusted.
-/
import Derived.Test.YtjafgnohlkkopaaGreatDoorPart24
import Derived.Test.YtjafgnohlkkopaaGreatDoorPart12
set_option linter.unusedVariables false
namespace Go.Proofs.YtjafgnohlkkopaaGreatDoor
open Go.RowKit
theorem wrote_snaps {n:Nat} {B C:Nat→Blk} {key:Int} {x y:SetE} {nm:ByteArray} {N:Int→Int→List Int} {cc made:Int} (h:Wrote n B C key x nm N cc made y):y.snaps=x.snaps:=by
 obtain⟨root,size,_,_,p,ht⟩:=h
 rcases ht with⟨_,_,_,_,rfl⟩ | ⟨_,_,_,_,_,_,rfl⟩<;>rfl
theorem Did.snap {n:Nat} {B D:Nat→Blk} {key:Int} {x y:SetE} {a:AskE} {cc:Int} (hx:Shape x) (h:Did n B key x a cc D y) {s:SnapE} (hs:s∈x.snaps) (hno:¬(a.kind=8∧a.to=s.name)):s∈y.snaps:=by
 obtain⟨C,made,hY,_,_⟩:=h
 rcases hY with⟨_,_,_,h⟩ | ⟨_,_,_,h⟩ | ⟨h,_,_⟩
 ·rw[wrote_snaps h]; exact hs
 ·rw[wrote_snaps h]; exact hs
 ·rcases h with⟨_,p,hp,_,rfl⟩ | ⟨_,_,p,q,hp,_,_,_,rfl⟩ | ⟨_,_,q,_,_,rfl⟩ | ⟨h8,_,q,hq,hqn,rfl⟩ | ⟨_,_,q,hq,_,rfl⟩
  ·exact hs
  ·exact hs
  ·exact mem_insert.2 (.inr hs)
  ·refine(mem_erase_ne (f:=SnapE.nm) hx.orderS hq).2 ⟨hs,fun e=>hno ⟨h8,?_⟩⟩
   exact(bytes_eq (e.trans hqn)).symm
  ·exact hs
end Go.Proofs.YtjafgnohlkkopaaGreatDoor
