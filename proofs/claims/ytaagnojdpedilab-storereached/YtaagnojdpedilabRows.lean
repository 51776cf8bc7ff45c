/-
  No cell of these rows narrows 'for every input' (looked for: loops, veiled, ifaces, maps, wideKeys, modest, calm, conditions, laid).
  DERIVED. THE GIVEN ROWS OF THIS SEAT. 6 by the template 'for every input the law returns true; each argument reads behind the call as it read before'; 0 by the template 'total and deterministic' (their statements: YtaagnojdpedilabTotals.lean).
  GIVEN WITH THE SEED: the statements are not yours to turn. If you find one false, say at which input.
  Laid BY PROGRAM, IN A SANDBOX (cutbox-rows.mjs): the forced cells as the released guide's own fill.sh prints them over the translation 7138c7f85103a11b… (all of the seat's roots in one cut). By AI agents, Wed Nov 11 2026. No macro, syntax, notation, axiom, sorry.
-/
import Derived.Test.YtaagnojdpedilabChecked
import GoSem.Claim
import GoSem.ClaimJoined
import GoSem.ClaimMapViews
import Derived.JoinedTies
import Derived.KernelRfl
namespace Go.Proofs.Ytaagnojdpedilab
/- THE CELL 'sum', in the pinned program and in every row, IS THE sha256 OF THE DUMP (.gsa) THAT YtaagnojdpedilabProg.lean LOADS. Nothing in Lean hashes anything: it is a label: what it is worth is what the hold of that sum in a sandbox is worth. -/
noncomputable def Try.pinned : Pinned := { name := "ytaagnojdpedilab", sum := "7138c7f85103a11ba3c5ac93589cc3ced2b9a6f7688e9f8cefef4a85f10d3f31", checked := Try.checked }
namespace Rows
def none {H : Type} : Left H := { results := [], args := [] }

/-- 'rookerylaw.StoreBack': WHATEVER THE INPUT: true; the input reads as it did. -/
def storeBackSpec : ChangeSpec := { name := "storeBack", fn := fun _ => fun
  | [d1, d2, d3] => { results := [.lit (.bool true)], args := [d1, d2, d3] }
  | _ => none }
def storeBackRow : OpenClaim := { program := "ytaagnojdpedilab", sum := "7138c7f85103a11ba3c5ac93589cc3ced2b9a6f7688e9f8cefef4a85f10d3f31", func := "rookery/rookerylaw.StoreBack", spec := "storeBack", unfollowed := true, recurses := true, apart := false }
def StoreBackSaid : Prop := storeBackRow.holds Try.pinned (OpenSpec.ofChange storeBackSpec)

/-- ITS FALSE NEIGHBOUR: 'it returns false'. Refute it at one input. -/
def storeBackWrong : ChangeSpec := { name := "storeBack", fn := fun _ => fun
  | [d1, d2, d3] => { results := [.lit (.bool false)], args := [d1, d2, d3] }
  | _ => none }
def StoreBackWrongFalsely : Prop := storeBackRow.holds Try.pinned (OpenSpec.ofChange storeBackWrong)

/-- 'rookerylaw.StoreFrees': WHATEVER THE INPUT: true; the input reads as it did. -/
def storeFreesSpec : ChangeSpec := { name := "storeFrees", fn := fun _ => fun
  | [d1, d2] => { results := [.lit (.bool true)], args := [d1, d2] }
  | _ => none }
def storeFreesRow : OpenClaim := { program := "ytaagnojdpedilab", sum := "7138c7f85103a11ba3c5ac93589cc3ced2b9a6f7688e9f8cefef4a85f10d3f31", func := "rookery/rookerylaw.StoreFrees", spec := "storeFrees", unfollowed := true, recurses := true, apart := false }
def StoreFreesSaid : Prop := storeFreesRow.holds Try.pinned (OpenSpec.ofChange storeFreesSpec)

/-- ITS FALSE NEIGHBOUR: 'it returns false'. Refute it at one input. -/
def storeFreesWrong : ChangeSpec := { name := "storeFrees", fn := fun _ => fun
  | [d1, d2] => { results := [.lit (.bool false)], args := [d1, d2] }
  | _ => none }
def StoreFreesWrongFalsely : Prop := storeFreesRow.holds Try.pinned (OpenSpec.ofChange storeFreesWrong)

/-- 'rookerylaw.StoreReached': WHATEVER THE INPUT: true; the input reads as it did. -/
def storeReachedSpec : ChangeSpec := { name := "storeReached", fn := fun _ => fun
  | [d1, d2, d3] => { results := [.lit (.bool true)], args := [d1, d2, d3] }
  | _ => none }
def storeReachedRow : OpenClaim := { program := "ytaagnojdpedilab", sum := "7138c7f85103a11ba3c5ac93589cc3ced2b9a6f7688e9f8cefef4a85f10d3f31", func := "rookery/rookerylaw.StoreReached", spec := "storeReached", unfollowed := true, recurses := true, apart := false }
def StoreReachedSaid : Prop := storeReachedRow.holds Try.pinned (OpenSpec.ofChange storeReachedSpec)

/-- ITS FALSE NEIGHBOUR: 'it returns false'. Refute it at one input. -/
def storeReachedWrong : ChangeSpec := { name := "storeReached", fn := fun _ => fun
  | [d1, d2, d3] => { results := [.lit (.bool false)], args := [d1, d2, d3] }
  | _ => none }
def StoreReachedWrongFalsely : Prop := storeReachedRow.holds Try.pinned (OpenSpec.ofChange storeReachedWrong)

/-- 'rookerylaw.TreeGets': WHATEVER THE INPUT: true; the input reads as it did. -/
def treeGetsSpec : ChangeSpec := { name := "treeGets", fn := fun _ => fun
  | [d1, d2, d3, d4, d5] => { results := [.lit (.bool true)], args := [d1, d2, d3, d4, d5] }
  | _ => none }
def treeGetsRow : OpenClaim := { program := "ytaagnojdpedilab", sum := "7138c7f85103a11ba3c5ac93589cc3ced2b9a6f7688e9f8cefef4a85f10d3f31", func := "rookery/rookerylaw.TreeGets", spec := "treeGets", unfollowed := true, recurses := true, apart := false }
def TreeGetsSaid : Prop := treeGetsRow.holds Try.pinned (OpenSpec.ofChange treeGetsSpec)

/-- ITS FALSE NEIGHBOUR: 'it returns false'. Refute it at one input. -/
def treeGetsWrong : ChangeSpec := { name := "treeGets", fn := fun _ => fun
  | [d1, d2, d3, d4, d5] => { results := [.lit (.bool false)], args := [d1, d2, d3, d4, d5] }
  | _ => none }
def TreeGetsWrongFalsely : Prop := treeGetsRow.holds Try.pinned (OpenSpec.ofChange treeGetsWrong)

/-- 'rookerylaw.TreePut': WHATEVER THE INPUT: true; the input reads as it did. -/
def treePutSpec : ChangeSpec := { name := "treePut", fn := fun _ => fun
  | [d1, d2, d3, d4, d5] => { results := [.lit (.bool true)], args := [d1, d2, d3, d4, d5] }
  | _ => none }
def treePutRow : OpenClaim := { program := "ytaagnojdpedilab", sum := "7138c7f85103a11ba3c5ac93589cc3ced2b9a6f7688e9f8cefef4a85f10d3f31", func := "rookery/rookerylaw.TreePut", spec := "treePut", unfollowed := true, recurses := true, apart := false }
def TreePutSaid : Prop := treePutRow.holds Try.pinned (OpenSpec.ofChange treePutSpec)

/-- ITS FALSE NEIGHBOUR: 'it returns false'. Refute it at one input. -/
def treePutWrong : ChangeSpec := { name := "treePut", fn := fun _ => fun
  | [d1, d2, d3, d4, d5] => { results := [.lit (.bool false)], args := [d1, d2, d3, d4, d5] }
  | _ => none }
def TreePutWrongFalsely : Prop := treePutRow.holds Try.pinned (OpenSpec.ofChange treePutWrong)

/-- 'rookerylaw.TreeKeeps': WHATEVER THE INPUT: true; the input reads as it did. -/
def treeKeepsSpec : ChangeSpec := { name := "treeKeeps", fn := fun _ => fun
  | [d1, d2, d3, d4, d5] => { results := [.lit (.bool true)], args := [d1, d2, d3, d4, d5] }
  | _ => none }
def treeKeepsRow : OpenClaim := { program := "ytaagnojdpedilab", sum := "7138c7f85103a11ba3c5ac93589cc3ced2b9a6f7688e9f8cefef4a85f10d3f31", func := "rookery/rookerylaw.TreeKeeps", spec := "treeKeeps", unfollowed := true, recurses := true, apart := false }
def TreeKeepsSaid : Prop := treeKeepsRow.holds Try.pinned (OpenSpec.ofChange treeKeepsSpec)

/-- ITS FALSE NEIGHBOUR: 'it returns false'. Refute it at one input. -/
def treeKeepsWrong : ChangeSpec := { name := "treeKeeps", fn := fun _ => fun
  | [d1, d2, d3, d4, d5] => { results := [.lit (.bool false)], args := [d1, d2, d3, d4, d5] }
  | _ => none }
def TreeKeepsWrongFalsely : Prop := treeKeepsRow.holds Try.pinned (OpenSpec.ofChange treeKeepsWrong)

/- THE SECOND FORM. 'bulk': how many values and letters a reading holds, each counted each time it is reached (what is shared counts as often as it is met; a slice's spare places count too). A statement '..UptoSaid' is the law's where the arguments, and the package variables that the reading takes, are together of bulk at most 1048576: NARROWER than '..Said'. Prove '..Said' where nothing that the law and all that it calls make is longer than what came in: it says more and counts as full. Else prove '..UptoSaid'. A law counts once. -/
mutual
def uptoBulk {H : Type} : DataW H → Nat
  | .lit (.string bytes) => bytes.length + 1
  | .lit _ => 1
  | .nil => 1
  | .ptr d => uptoBulk d + 1
  | .slice elems spare => uptoBulkAll elems + uptoBulkAll spare + 1
  | .agg parts => uptoBulkAll parts + 1
  | .iface _ d => uptoBulk d + 1
  | .map entries => uptoBulkEntries entries + 1
  | .held _ => 1
def uptoBulkAll {H : Type} : List (DataW H) → Nat
  | [] => 0
  | d :: r => uptoBulk d + uptoBulkAll r
def uptoBulkEntries {H : Type} : List (Lit × DataW H) → Nat
  | [] => 0
  | x :: r => uptoBulkEntry x + uptoBulkEntries r
def uptoBulkEntry {H : Type} : Lit × DataW H → Nat
  | (.string bytes, d) => bytes.length + uptoBulk d + 1
  | (_, d) => uptoBulk d + 1
 end
def uptoSmall : (H : Type) → List (DataW H) → Bool := fun _ ds => decide (uptoBulkAll ds ≤ 1048576)
def OpenSpec.upto (s : _root_.Go.ChangeSpec) : _root_.Go.OpenSpec := { _root_.Go.OpenSpec.ofChange s with cond := some uptoSmall }

/-- 'rookerylaw.StoreBack', WHERE WHAT IT READS IS OF BULK AT MOST 1048576: true; the input reads as it did. -/
def storeBackUptoRow : OpenClaim := { program := "ytaagnojdpedilab", sum := "7138c7f85103a11ba3c5ac93589cc3ced2b9a6f7688e9f8cefef4a85f10d3f31", func := "rookery/rookerylaw.StoreBack", spec := "storeBack", unfollowed := true, recurses := true, apart := false, narrowed := true }
def StoreBackUptoSaid : Prop := storeBackUptoRow.holds Try.pinned (OpenSpec.upto storeBackSpec)

/-- 'rookerylaw.StoreFrees', WHERE WHAT IT READS IS OF BULK AT MOST 1048576: true; the input reads as it did. -/
def storeFreesUptoRow : OpenClaim := { program := "ytaagnojdpedilab", sum := "7138c7f85103a11ba3c5ac93589cc3ced2b9a6f7688e9f8cefef4a85f10d3f31", func := "rookery/rookerylaw.StoreFrees", spec := "storeFrees", unfollowed := true, recurses := true, apart := false, narrowed := true }
def StoreFreesUptoSaid : Prop := storeFreesUptoRow.holds Try.pinned (OpenSpec.upto storeFreesSpec)

/-- 'rookerylaw.StoreReached', WHERE WHAT IT READS IS OF BULK AT MOST 1048576: true; the input reads as it did. -/
def storeReachedUptoRow : OpenClaim := { program := "ytaagnojdpedilab", sum := "7138c7f85103a11ba3c5ac93589cc3ced2b9a6f7688e9f8cefef4a85f10d3f31", func := "rookery/rookerylaw.StoreReached", spec := "storeReached", unfollowed := true, recurses := true, apart := false, narrowed := true }
def StoreReachedUptoSaid : Prop := storeReachedUptoRow.holds Try.pinned (OpenSpec.upto storeReachedSpec)

/-- 'rookerylaw.TreeGets', WHERE WHAT IT READS IS OF BULK AT MOST 1048576: true; the input reads as it did. -/
def treeGetsUptoRow : OpenClaim := { program := "ytaagnojdpedilab", sum := "7138c7f85103a11ba3c5ac93589cc3ced2b9a6f7688e9f8cefef4a85f10d3f31", func := "rookery/rookerylaw.TreeGets", spec := "treeGets", unfollowed := true, recurses := true, apart := false, narrowed := true }
def TreeGetsUptoSaid : Prop := treeGetsUptoRow.holds Try.pinned (OpenSpec.upto treeGetsSpec)

/-- 'rookerylaw.TreePut', WHERE WHAT IT READS IS OF BULK AT MOST 1048576: true; the input reads as it did. -/
def treePutUptoRow : OpenClaim := { program := "ytaagnojdpedilab", sum := "7138c7f85103a11ba3c5ac93589cc3ced2b9a6f7688e9f8cefef4a85f10d3f31", func := "rookery/rookerylaw.TreePut", spec := "treePut", unfollowed := true, recurses := true, apart := false, narrowed := true }
def TreePutUptoSaid : Prop := treePutUptoRow.holds Try.pinned (OpenSpec.upto treePutSpec)

/-- 'rookerylaw.TreeKeeps', WHERE WHAT IT READS IS OF BULK AT MOST 1048576: true; the input reads as it did. -/
def treeKeepsUptoRow : OpenClaim := { program := "ytaagnojdpedilab", sum := "7138c7f85103a11ba3c5ac93589cc3ced2b9a6f7688e9f8cefef4a85f10d3f31", func := "rookery/rookerylaw.TreeKeeps", spec := "treeKeeps", unfollowed := true, recurses := true, apart := false, narrowed := true }
def TreeKeepsUptoSaid : Prop := treeKeepsUptoRow.holds Try.pinned (OpenSpec.upto treeKeepsSpec)

end Rows
end Go.Proofs.Ytaagnojdpedilab
