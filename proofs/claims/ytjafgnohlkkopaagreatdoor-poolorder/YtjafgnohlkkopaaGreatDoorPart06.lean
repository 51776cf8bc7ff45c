import Derived.Test.YtjafgnohlkkopaaGreatDoorPart05
import Derived.Deep.RegionHeld3
import Derived.Lib.AppendZeros
import Derived.Laws.AppendOwnNone
import Derived.Maps.AppendAt
set_option linter.unusedVariables false
set_option maxHeartbeats 8000000
set_option maxRecDepth 100000
namespace Go.Proofs.YtjafgnohlkkopaaGreatDoor
open Go.RowKit
end Go.Proofs.YtjafgnohlkkopaaGreatDoor
