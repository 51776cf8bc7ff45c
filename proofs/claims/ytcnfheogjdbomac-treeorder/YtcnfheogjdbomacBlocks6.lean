/-
  The contract of blocks.Drop. Nothing here is trusted.
-/
import Derived.Test.YtcnfheogjdbomacBlocks5
import Derived.Deep.RegionWith
import Derived.Deep.Cut
import Derived.Laws.EntriesVeiled
set_option linter.unusedVariables false
namespace Go.Proofs.Ytcnfheogjdbomac
open Go.RowKit

theorem below_drew (B : Nat) (w : World) : Below B w w.drew := ⟨rfl, rfl, rfl, Nat.le_refl _, fun _ _ => rfl⟩

/-- what Drop of one's own store answers: an error, and nothing has turned; or what it has come to be -/
def Dropped (e : Ending) (w : World) (p : Addr) (g n : Nat) (B : Nat → Blk) (a : Int) (w' : World) : Prop :=
  (∃ e' : Int, e = .returned (.int .i64 e') ∧ e' ≠ 0 ∧ ¬ (Right n B ∧ There n B a ∧ (B (a - 1).toNat).refs ≠ (among n B a : Int))) ∨
  (e = .returned (.int .i64 0) ∧ (Right n B ∧ There n B a ∧ (B (a - 1).toNat).refs ≠ (among n B a : Int)) ∧ ∃ C, OwnPtr w' p g n C ∧ Right n C ∧ Fell n B C [a])

end Go.Proofs.Ytcnfheogjdbomac
