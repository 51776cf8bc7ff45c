/-
  The contract of store.Drop. Nothing here is trusted.
-/
import Derived.Test.YtaagnojdpediladBlocks6
set_option linter.unusedVariables false
namespace Go.Proofs.Ytaagnojdpedilad
open Go.RowKit

theorem Form.few2 {n : Nat} {B : Nat → Blk} {b : Blk} (h : Form n B b) : b.bytes.length ≤ 4 := by
  rcases h with ⟨_, _, _, h⟩ | ⟨_, ⟨_, _, h⟩ | ⟨_, _, h, _⟩⟩
  · simp [h]
  · omega
  · simp [h]

theorem cellsAt_alloc3 (w : World) (o q : Obj) (cs : Array Value) (t : TypeId) : CellsAt (((w.alloc o).alloc q).alloc (.cells cs t)) (w.heap.size + 2) cs t := by
  have := cellsAt_alloc2 (w.alloc o) q cs t
  simpa using this

/-- what Drop refuses not -/
def Droppable (n : Nat) (B : Nat → Blk) (a : Int) : Prop := Right n B ∧ There n B a ∧ (B (a - 1).toNat).refs ≠ (among n B a : Int)

/-- what store.Drop answers -/
def RetDrop (base : Nat) (e : Ending) (w : World) (n : Nat) (B : Nat → Blk) (a : Int) : Prop :=
  (∃ e', e = .returned (.tuple #[.agg #[.slice none 0 0], .int .i64 e']) ∧ e' ≠ 0 ∧ ¬ Droppable n B a) ∨ (Droppable n B a ∧ ∃ C, RetS base e w n C ∧ Right n C ∧ Fell n B C [a])

end Go.Proofs.Ytaagnojdpedilad
