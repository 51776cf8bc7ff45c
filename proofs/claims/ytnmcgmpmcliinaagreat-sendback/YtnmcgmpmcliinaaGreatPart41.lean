/-
  GathW in one text. Nothing here is trusted.
-/
import Derived.Test.YtnmcgmpmcliinaaGreatPart32
import Derived.Test.YtnmcgmpmcliinaaGreatPart39
import Derived.Test.YtnmcgmpmcliinaaGreatPart40
set_option linter.unusedVariables false
namespace Go.Proofs.YtnmcgmpmcliinaaGreat
open Go.RowKit

/-- a store and a set in two boxes -/
structure GB (W wr : World) (b1 b3 g c : Nat) (B : Nat → Blk) (v : SetV) (y : SetE) : Prop where
  bel : Below W.heap.size W wr
  s : CellsAt wr b1 #[.slice (some ⟨g, 0, none⟩) 40 c] 24
  x : CellsAt wr b3 #[.string v.name, .slice v.fa v.fn v.fc, .slice v.sa v.sn v.sc] 47
  new : W.heap.size ≤ b1 ∧ W.heap.size ≤ b3 ∧ b1 ≠ b3
  store : StoreAt wr (some ⟨g, 0, none⟩) 40 B
  set : SetAt (fun _ => True) wr v y
theorem GB.below {W wr w' : World} {b1 b3 g c : Nat} {B : Nat → Blk} {v : SetV} {y : SetE} (h : GB W wr b1 b3 g c B v y) (b : Below wr.heap.size wr w') : GB W w' b1 b3 g c B v y := ⟨Below.tr h.bel b, h.s.below b, h.x.below b, h.new, h.store.below b, h.set.below b⟩
theorem GB.step {W wr w' : World} {b1 b3 g c g' : Nat} {B D : Nat → Blk} {v v' : SetV} {y y' : SetE} (h : GB W wr b1 b3 g c B v y) (b : Below wr.heap.size wr w') (hg : wr.heap.size ≤ g') (hO : Own w' g' 40 D) (hS : SetAt (fun b => wr.heap.size ≤ b) w' v' y') :
    GB W ((((w'.setCell ⟨b1, 0, none⟩ (.slice (some ⟨g', 0, none⟩) 40 40)).setCell ⟨b3, 0, none⟩ (.string v'.name)).setCell ⟨b3, 1, none⟩ (.slice v'.fa v'.fn v'.fc)).setCell ⟨b3, 2, none⟩ (.slice v'.sa v'.sn v'.sc)) b1 b3 g' 40 D v' y' ∧
    Only (fun k => k = b1 ∨ k = b3) w' ((((w'.setCell ⟨b1, 0, none⟩ (.slice (some ⟨g', 0, none⟩) 40 40)).setCell ⟨b3, 0, none⟩ (.string v'.name)).setCell ⟨b3, 1, none⟩ (.slice v'.fa v'.fn v'.fc)).setCell ⟨b3, 2, none⟩ (.slice v'.sa v'.sn v'.sc)) := by
  have l1 := h.s.lt
  have l3 := h.x.lt
  have k1 := kept_putS w' b1 (.slice (some ⟨g', 0, none⟩) 40 40)
  have k2 := kept_putX (w'.setCell ⟨b1, 0, none⟩ (.slice (some ⟨g', 0, none⟩) 40 40)) b3 v'
  have o1 := Only.of_kept (M := fun k => k = b1 ∨ k = b3) k1 (.inl rfl)
  have o2 := Only.of_kept (M := fun k => k = b1 ∨ k = b3) k2 (.inr rfl)
  have hne := h.new.2.2
  refine ⟨⟨(Below.tr h.bel b).trans ((k1.below h.new.1).trans (k2.below h.new.2.1)), (Only.of_kept (M := fun k => k = b3) k2 rfl).cells (cells_putS (h.s.below b)) hne, cells_putX ((Only.of_kept (M := fun k => k = b1) k1 rfl).cells (h.x.below b) hne.symm), h.new, (own_only hO (o1.trans o2) (fun k _ m => by omega)).store, ?_⟩, o1.trans o2⟩
  have := (hS.kept (fun k q => by omega) k1).kept (fun k q => by omega) k2
  exact this.weaken (fun _ _ _ => trivial)

theorem below_lit (w : World) (o : Obj) : Below w.heap.size w (w.alloc o) := below_alloc w o
theorem str_one : strOfNums one3 = ByteArray.mk #[111, 110, 101] := by kernel_rfl
theorem str_two : strOfNums two3 = ByteArray.mk #[116, 119, 111] := by kernel_rfl

end Go.Proofs.YtnmcgmpmcliinaaGreat
