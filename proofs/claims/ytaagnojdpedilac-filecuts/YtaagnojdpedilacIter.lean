/-
  (nothing here at this seat)
-/
import Derived.Test.YtaagnojdpedilacRows
