/-
  The walk of the law SealSays out of contracts. Nothing here is trusted.
-/
import Derived.Test.YtjiodpggbmldnaaRef
set_option linter.unusedVariables false
namespace Go.Proofs.Ytjiodpggbmldnaa
open Go.RowKit

theorem sealSays_range (key at' : Int) (a : Option Addr) (n c : Nat) (w : World) (hk : keyB key at' = false) :
    Calls Try.prog 4 #[.int .i64 key, .int .i64 at', .slice a n c] w fun e w' => e = .returned (.bool true) ∧ Below w.heap.size w w' := by
  go_enter Try.func4, Try.ntmps4
  go_wp2_with fail
  refine (seal_range key at' a n c _ hk).mono ?_
  rintro e w ⟨rfl, rfl⟩
  go_wp2_with fail
  refine (open_range key at' a n c _ hk).mono ?_
  rintro e w ⟨rfl, rfl⟩
  go_wp2_with fail
  refine (checkKey_no key at' _ hk).mono ?_
  rintro e w ⟨rfl, rfl⟩
  go_wp2_with fail
  refine (sealed_any _).mono ?_
  rintro e w1 ⟨rfl, b1⟩
  go_wp2_with fail
  refine (check_no key at' _ hk).mono ?_
  rintro e w1 ⟨rfl, rfl⟩
  go_wp2
  go_ret
  exact ⟨rfl, b1⟩

theorem sealSays_many (key at' : Int) (a : Option Addr) (n c : Nat) (w : World) (hk : keyB key at' = true) (hn : 256 < n) :
    Calls Try.prog 4 #[.int .i64 key, .int .i64 at', .slice a n c] w fun e w' => e = .returned (.bool true) ∧ Below w.heap.size w w' := by
  go_enter Try.func4, Try.ntmps4
  go_wp2_with fail
  refine (seal_many key at' a n c _ hk hn).mono ?_
  rintro e w ⟨rfl, rfl⟩
  go_wp2_with fail
  refine (open_many key at' a n c _ hk hn).mono ?_
  rintro e w ⟨rfl, rfl⟩
  go_wp2_with fail
  refine (checkKey_ok key at' _ hk).mono ?_
  rintro e w ⟨rfl, rfl⟩
  go_wp2_with fail
  refine (sealed_any _).mono ?_
  rintro e w1 ⟨rfl, b1⟩
  go_wp2_with fail
  refine (check_ok key at' _ hk).mono ?_
  rintro e w1 ⟨rfl, rfl⟩
  go_wp2
  go_ret
  exact ⟨rfl, b1⟩

set_option maxHeartbeats 1000000 in
theorem sealSays_ok (key at' : Int) (a : Option Addr) (n c : Nat) (l : List Int) (w : World) (hk : keyB key at' = true) (hn : n ≤ 256) (h : BytesAt w a n l) :
    Calls Try.prog 4 #[.int .i64 key, .int .i64 at', .slice a n c] w fun e w' => e = .returned (.bool true) ∧ Below w.heap.size w w' := by
  go_enter Try.func4, Try.ntmps4
  go_wp2_with fail
  refine (seal_ok key at' a n c l _ hk hn h).mono ?_
  rintro e w1 ⟨g1, rfl, x1, b1⟩
  have h1 := h.below b1
  clear h
  go_wp2_with fail
  refine (open_ok key at' a n c l _ hk hn h1).mono ?_
  rintro e w2 ⟨g2, rfl, y2, b2⟩
  have h2 := h1.below b2
  have x2 := x1.below b2
  have c2 := Below.tr b1 b2
  clear h1 x1 b1 b2
  go_wp2_with fail
  refine (checkKey_ok key at' _ hk).mono ?_
  rintro e w2 ⟨rfl, rfl⟩
  go_wp2_with fail
  refine (sealed_any _).mono ?_
  rintro e w3 ⟨rfl, b3⟩
  have h3 := h2.below b3
  have x3 := x2.below b3
  have y3 := y2.below b3
  have c3 := Below.tr c2 b3
  clear h2 x2 y2 b3 c2
  go_wp2_with fail
  refine (check_ok key at' _ hk).mono ?_
  rintro e w3 ⟨rfl, rfl⟩
  go_wp2_with fail
  refine (refSealed_any key at' a n c l _ hk hn h3).mono ?_
  rintro e w4 ⟨a4, c4', rfl, s4, b4⟩
  have h4 := h3.below b4
  have x4 := x3.below b4
  have y4 := y3.below b4
  have c4 := Below.tr c3 b4
  clear h3 x3 y3 b4 c3
  go_wp2_with fail
  refine (equal_same _ _ n _ n _ _ _ x4 s4).mono ?_
  rintro e w4 ⟨rfl, rfl⟩
  clear x4 s4
  go_wp2_with fail
  refine (refOpened_any key at' a n c l _ hk hn h4).mono ?_
  rintro e w5 ⟨a5, c5', rfl, s5, b5⟩
  have y5 := y4.below b5
  have c5 := Below.tr c4 b5
  clear h4 y4 b5 c4
  go_wp2_with fail
  refine (equal_same _ _ n _ n _ _ _ y5 s5).mono ?_
  rintro e w5 ⟨rfl, rfl⟩
  go_wp2
  go_ret
  exact ⟨rfl, c5⟩

theorem sealSays_walk (key at' : Int) (a : Option Addr) (n c : Nat) (l : List Int) (w : World) (h : BytesAt w a n l) :
    Calls Try.prog 4 #[.int .i64 key, .int .i64 at', .slice a n c] w fun e w' => e = .returned (.bool true) ∧ Below w.heap.size w w' := by
  by_cases hk : keyB key at' = true
  · by_cases hn : n ≤ 256
    · exact sealSays_ok key at' a n c l w hk hn h
    · exact sealSays_many key at' a n c w hk (by omega)
  · exact sealSays_range key at' a n c w (by simpa using hk)

end Go.Proofs.Ytjiodpggbmldnaa
