/-
  No cell of these rows narrows 'for every input' (looked for: loops, veiled, ifaces, maps, wideKeys, modest, calm, conditions, laid).
  DERIVED. THE GIVEN ROWS OF THIS SEAT. 4 by the template 'for every input the law returns true; each argument reads behind the call as it read before'; 0 by the template 'total and deterministic' (their statements: YtnmcgmpmcliinaaGreatTotals.lean).
  GIVEN WITH THE SEED: the statements are not yours to turn. If you find one false, say at which input.
  Laid BY PROGRAM, IN A SANDBOX (cutbox-rows.mjs): the forced cells as the released guide's own fill.sh prints them over the translation 5f2e200b223fc0ac… (all of the seat's roots in one cut). By AI agents, Wed Nov 11 2026. No macro, syntax, notation, axiom, sorry.
-/
import Derived.Test.YtnmcgmpmcliinaaGreatChecked
import GoSem.Claim
import GoSem.ClaimJoined
import GoSem.ClaimMapViews
import Derived.JoinedTies
import Derived.KernelRfl
namespace Go.Proofs.YtnmcgmpmcliinaaGreat
/- THE CELL 'sum', in the pinned program and in every row, IS THE sha256 OF THE DUMP (.gsa) THAT YtnmcgmpmcliinaaGreatProg.lean LOADS. Nothing in Lean hashes anything: it is a label: what it is worth is what the hold of that sum in a sandbox is worth. -/
noncomputable def Tryz.pinned : Pinned := { name := "ytnmcgmpmcliinaagreat", sum := "5f2e200b223fc0ac191284de7702f5134eba76b1d518bdc0e969c15135e374b3", checked := Tryz.checked }
namespace Rows
def none {H : Type} : Left H := { results := [], args := [] }

/-- 'rookerylaw.PoolStays': WHATEVER THE INPUT: true; the input reads as it did. -/
def poolStaysSpec : ChangeSpec := { name := "poolStays", fn := fun _ => fun
  | [d1, d2, d3] => { results := [.lit (.bool true)], args := [d1, d2, d3] }
  | _ => none }
def poolStaysRow : OpenClaim := { program := "ytnmcgmpmcliinaagreat", sum := "5f2e200b223fc0ac191284de7702f5134eba76b1d518bdc0e969c15135e374b3", func := "rookery/rookerylaw.PoolStays", spec := "poolStays", inPlace := ["internal/bytealg.abigen_runtime_cmpstring", "slices.overlaps[rookery/api.Set]", "slices.overlaps[rookery/api.Entry]", "slices.overlaps[rookery/api.Snap]"], unfollowed := true, recurses := true, apart := false }
def PoolStaysSaid : Prop := poolStaysRow.holds Tryz.pinned (OpenSpec.ofChange poolStaysSpec)

/-- ITS FALSE NEIGHBOUR: 'it returns false'. Refute it at one input. -/
def poolStaysWrong : ChangeSpec := { name := "poolStays", fn := fun _ => fun
  | [d1, d2, d3] => { results := [.lit (.bool false)], args := [d1, d2, d3] }
  | _ => none }
def PoolStaysWrongFalsely : Prop := poolStaysRow.holds Tryz.pinned (OpenSpec.ofChange poolStaysWrong)

/-- 'rookerylaw.PoolUses': WHATEVER THE INPUT: true; the input reads as it did. -/
def poolUsesSpec : ChangeSpec := { name := "poolUses", fn := fun _ => fun
  | [d1, d2, d3, d4] => { results := [.lit (.bool true)], args := [d1, d2, d3, d4] }
  | _ => none }
def poolUsesRow : OpenClaim := { program := "ytnmcgmpmcliinaagreat", sum := "5f2e200b223fc0ac191284de7702f5134eba76b1d518bdc0e969c15135e374b3", func := "rookery/rookerylaw.PoolUses", spec := "poolUses", inPlace := ["internal/bytealg.abigen_runtime_cmpstring", "slices.overlaps[rookery/api.Set]", "slices.overlaps[rookery/api.Entry]", "slices.overlaps[rookery/api.Snap]"], unfollowed := true, recurses := true, apart := false }
def PoolUsesSaid : Prop := poolUsesRow.holds Tryz.pinned (OpenSpec.ofChange poolUsesSpec)

/-- ITS FALSE NEIGHBOUR: 'it returns false'. Refute it at one input. -/
def poolUsesWrong : ChangeSpec := { name := "poolUses", fn := fun _ => fun
  | [d1, d2, d3, d4] => { results := [.lit (.bool false)], args := [d1, d2, d3, d4] }
  | _ => none }
def PoolUsesWrongFalsely : Prop := poolUsesRow.holds Tryz.pinned (OpenSpec.ofChange poolUsesWrong)

/-- 'rookerylaw.SendBack': WHATEVER THE INPUT: true; the input reads as it did. -/
def sendBackSpec : ChangeSpec := { name := "sendBack", fn := fun _ => fun
  | [d1, d2, d3, d4] => { results := [.lit (.bool true)], args := [d1, d2, d3, d4] }
  | _ => none }
def sendBackRow : OpenClaim := { program := "ytnmcgmpmcliinaagreat", sum := "5f2e200b223fc0ac191284de7702f5134eba76b1d518bdc0e969c15135e374b3", func := "rookery/rookerylaw.SendBack", spec := "sendBack", inPlace := ["internal/bytealg.abigen_runtime_cmpstring", "slices.overlaps[rookery/api.Entry]", "slices.overlaps[rookery/api.Snap]"], unfollowed := true, recurses := true, apart := false }
def SendBackSaid : Prop := sendBackRow.holds Tryz.pinned (OpenSpec.ofChange sendBackSpec)

/-- ITS FALSE NEIGHBOUR: 'it returns false'. Refute it at one input. -/
def sendBackWrong : ChangeSpec := { name := "sendBack", fn := fun _ => fun
  | [d1, d2, d3, d4] => { results := [.lit (.bool false)], args := [d1, d2, d3, d4] }
  | _ => none }
def SendBackWrongFalsely : Prop := sendBackRow.holds Tryz.pinned (OpenSpec.ofChange sendBackWrong)

/-- 'rookerylaw.SendNothing': WHATEVER THE INPUT: true; the input reads as it did. -/
def sendNothingSpec : ChangeSpec := { name := "sendNothing", fn := fun _ => fun
  | [d1, d2, d3, d4] => { results := [.lit (.bool true)], args := [d1, d2, d3, d4] }
  | _ => none }
def sendNothingRow : OpenClaim := { program := "ytnmcgmpmcliinaagreat", sum := "5f2e200b223fc0ac191284de7702f5134eba76b1d518bdc0e969c15135e374b3", func := "rookery/rookerylaw.SendNothing", spec := "sendNothing", inPlace := ["internal/bytealg.abigen_runtime_cmpstring", "slices.overlaps[rookery/api.Entry]", "slices.overlaps[rookery/api.Snap]"], unfollowed := true, recurses := true, apart := false }
def SendNothingSaid : Prop := sendNothingRow.holds Tryz.pinned (OpenSpec.ofChange sendNothingSpec)

/-- ITS FALSE NEIGHBOUR: 'it returns false'. Refute it at one input. -/
def sendNothingWrong : ChangeSpec := { name := "sendNothing", fn := fun _ => fun
  | [d1, d2, d3, d4] => { results := [.lit (.bool false)], args := [d1, d2, d3, d4] }
  | _ => none }
def SendNothingWrongFalsely : Prop := sendNothingRow.holds Tryz.pinned (OpenSpec.ofChange sendNothingWrong)

/- THE SECOND FORM. 'bulk': how many values and letters a reading holds, each counted each time it is reached (what is shared counts as often as it is met; a slice's spare places count too). A statement '..UptoSaid' is the law's where the arguments, and the package variables that the reading takes, are together of bulk at most 1048576: NARROWER than '..Said'. Prove '..Said' where nothing that the law and all that it calls make is longer than what came in: it says more and counts as full. Else prove '..UptoSaid'. A law counts once. -/
mutual
def uptoBulk {H : Type} : DataW H → Nat
  | .lit (.string bytes) => bytes.length + 1
  | .lit _ => 1
  | .nil => 1
  | .ptr d => uptoBulk d + 1
  | .slice elems spare => uptoBulkAll elems + uptoBulkAll spare + 1
  | .agg parts => uptoBulkAll parts + 1
  | .iface _ d => uptoBulk d + 1
  | .map entries => uptoBulkEntries entries + 1
  | .held _ => 1
def uptoBulkAll {H : Type} : List (DataW H) → Nat
  | [] => 0
  | d :: r => uptoBulk d + uptoBulkAll r
def uptoBulkEntries {H : Type} : List (Lit × DataW H) → Nat
  | [] => 0
  | x :: r => uptoBulkEntry x + uptoBulkEntries r
def uptoBulkEntry {H : Type} : Lit × DataW H → Nat
  | (.string bytes, d) => bytes.length + uptoBulk d + 1
  | (_, d) => uptoBulk d + 1
 end
def uptoSmall : (H : Type) → List (DataW H) → Bool := fun _ ds => decide (uptoBulkAll ds ≤ 1048576)
def OpenSpec.upto (s : _root_.Go.ChangeSpec) : _root_.Go.OpenSpec := { _root_.Go.OpenSpec.ofChange s with cond := some uptoSmall }

/-- 'rookerylaw.PoolStays', WHERE WHAT IT READS IS OF BULK AT MOST 1048576: true; the input reads as it did. -/
def poolStaysUptoRow : OpenClaim := { program := "ytnmcgmpmcliinaagreat", sum := "5f2e200b223fc0ac191284de7702f5134eba76b1d518bdc0e969c15135e374b3", func := "rookery/rookerylaw.PoolStays", spec := "poolStays", inPlace := ["internal/bytealg.abigen_runtime_cmpstring", "slices.overlaps[rookery/api.Set]", "slices.overlaps[rookery/api.Entry]", "slices.overlaps[rookery/api.Snap]"], unfollowed := true, recurses := true, apart := false, narrowed := true }
def PoolStaysUptoSaid : Prop := poolStaysUptoRow.holds Tryz.pinned (OpenSpec.upto poolStaysSpec)

/-- 'rookerylaw.PoolUses', WHERE WHAT IT READS IS OF BULK AT MOST 1048576: true; the input reads as it did. -/
def poolUsesUptoRow : OpenClaim := { program := "ytnmcgmpmcliinaagreat", sum := "5f2e200b223fc0ac191284de7702f5134eba76b1d518bdc0e969c15135e374b3", func := "rookery/rookerylaw.PoolUses", spec := "poolUses", inPlace := ["internal/bytealg.abigen_runtime_cmpstring", "slices.overlaps[rookery/api.Set]", "slices.overlaps[rookery/api.Entry]", "slices.overlaps[rookery/api.Snap]"], unfollowed := true, recurses := true, apart := false, narrowed := true }
def PoolUsesUptoSaid : Prop := poolUsesUptoRow.holds Tryz.pinned (OpenSpec.upto poolUsesSpec)

/-- 'rookerylaw.SendBack', WHERE WHAT IT READS IS OF BULK AT MOST 1048576: true; the input reads as it did. -/
def sendBackUptoRow : OpenClaim := { program := "ytnmcgmpmcliinaagreat", sum := "5f2e200b223fc0ac191284de7702f5134eba76b1d518bdc0e969c15135e374b3", func := "rookery/rookerylaw.SendBack", spec := "sendBack", inPlace := ["internal/bytealg.abigen_runtime_cmpstring", "slices.overlaps[rookery/api.Entry]", "slices.overlaps[rookery/api.Snap]"], unfollowed := true, recurses := true, apart := false, narrowed := true }
def SendBackUptoSaid : Prop := sendBackUptoRow.holds Tryz.pinned (OpenSpec.upto sendBackSpec)

/-- 'rookerylaw.SendNothing', WHERE WHAT IT READS IS OF BULK AT MOST 1048576: true; the input reads as it did. -/
def sendNothingUptoRow : OpenClaim := { program := "ytnmcgmpmcliinaagreat", sum := "5f2e200b223fc0ac191284de7702f5134eba76b1d518bdc0e969c15135e374b3", func := "rookery/rookerylaw.SendNothing", spec := "sendNothing", inPlace := ["internal/bytealg.abigen_runtime_cmpstring", "slices.overlaps[rookery/api.Entry]", "slices.overlaps[rookery/api.Snap]"], unfollowed := true, recurses := true, apart := false, narrowed := true }
def SendNothingUptoSaid : Prop := sendNothingUptoRow.holds Tryz.pinned (OpenSpec.upto sendNothingSpec)

end Rows
end Go.Proofs.YtnmcgmpmcliinaaGreat
