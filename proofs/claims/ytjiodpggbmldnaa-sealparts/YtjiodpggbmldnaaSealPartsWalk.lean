/-
  The walk of the law SealParts out of contracts. Nothing here is trusted.
-/
import Derived.Test.YtjiodpggbmldnaaLists
set_option linter.unusedVariables false
namespace Go.Proofs.Ytjiodpggbmldnaa
open Go.RowKit

theorem sealParts_range (key at' : Int) (a : Option Addr) (n c : Nat) (k : Int) (w : World) (hk : keyB key at' = false) :
    Calls Try.prog 6 #[.int .i64 key, .int .i64 at', .slice a n c, .int .i64 k] w fun e w' => e = .returned (.bool true) ∧ Below w.heap.size w w' := by
  go_enter Try.func6, Try.ntmps6
  go_wp2_with fail
  refine (seal_range key at' a n c _ hk).mono ?_
  rintro e w ⟨rfl, rfl⟩
  go_wp2_with fail
  refine (sealed_any _).mono ?_
  rintro e w1 ⟨rfl, b1⟩
  go_wp2_with fail
  refine (sealed_any _).mono ?_
  rintro e w2 ⟨rfl, b2⟩
  go_wp2
  go_ret
  exact ⟨rfl, Below.tr b1 b2⟩

theorem sealParts_many (key at' : Int) (a : Option Addr) (n c : Nat) (k : Int) (w : World) (hk : keyB key at' = true) (hn : 256 < n) :
    Calls Try.prog 6 #[.int .i64 key, .int .i64 at', .slice a n c, .int .i64 k] w fun e w' => e = .returned (.bool true) ∧ Below w.heap.size w w' := by
  go_enter Try.func6, Try.ntmps6
  go_wp2_with fail
  refine (seal_many key at' a n c _ hk hn).mono ?_
  rintro e w ⟨rfl, rfl⟩
  go_wp2_with fail
  refine (sealed_any _).mono ?_
  rintro e w1 ⟨rfl, b1⟩
  go_wp2_with fail
  refine (sealed_any _).mono ?_
  rintro e w2 ⟨rfl, b2⟩
  go_wp2
  go_ret
  exact ⟨rfl, Below.tr b1 b2⟩

set_option maxHeartbeats 1000000 in
theorem sealParts_ok (key at' : Int) (a : Option Addr) (n c : Nat) (l : List Int) (k : Int) (w : World) (hk : keyB key at' = true) (hn : n ≤ 256) (hnc : n ≤ c) (h : BytesAt w a n l) :
    Calls Try.prog 6 #[.int .i64 key, .int .i64 at', .slice a n c, .int .i64 k] w fun e w' => e = .returned (.bool true) ∧ Below w.heap.size w w' := by
  go_enter Try.func6, Try.ntmps6
  go_wp2_with fail
  refine (seal_ok key at' a n c l _ hk hn h).mono ?_
  rintro e w1 ⟨g, rfl, hB, b1⟩
  have h1 := h.below b1
  go_wp2_with fail
  refine (sealed_any _).mono ?_
  rintro e w2 ⟨rfl, b2⟩
  have h2 := h1.below b2
  have hB2 := hB.below b2
  clear h1 hB
  have c2 := Below.tr b1 b2
  clear b1 b2
  go_wp2_with fail
  refine (at_any k (n + 1) _ (by omega) (by omega)).mono ?_
  rintro e w2 ⟨⟨r, rfl, hr⟩, rfl⟩
  have hrn : r ≤ n := by omega
  go_wp2_with fail
  refine (seal_ok key at' a r c (l.take r) _ hk (by omega) (h2.take hrn)).mono ?_
  rintro e w3 ⟨g3, rfl, hB3, b3⟩
  have hr3 := (hB2.below b3).take hrn
  have h3 := (h2.below b3).take hrn
  rw [← sealL_take _ _ _ _ (by rw [h.1]; exact hrn)] at hr3
  have c3 := Below.tr c2 b3
  clear h2 hB2 b3 c2 hr
  go_wp2_with fail
  refine (open_ok key at' _ r _ _ _ hk (by omega) hr3).mono ?_
  rintro e w4 ⟨g4, rfl, hB4, b4⟩
  rw [open_sealL _ _ _ h3.2.1] at hB4
  have hr4 := hr3.below b4
  have hB34 := hB3.below b4
  have h4 := h3.below b4
  have c4 := Below.tr c3 b4
  clear b4 c3 hr3 hB3 h3
  go_wp2_with fail
  refine (equal_same _ _ r _ r _ _ _ hB34 hr4).mono ?_
  rintro e w4 ⟨rfl, rfl⟩
  go_wp2_with fail
  refine (equal_same _ _ r _ r _ _ _ hB4 h4).mono ?_
  rintro e w4 ⟨rfl, rfl⟩
  go_wp2
  go_ret
  exact ⟨rfl, c4⟩

theorem sealParts_walk (key at' : Int) (a : Option Addr) (n c : Nat) (l : List Int) (k : Int) (w : World) (hnc : n ≤ c) (h : BytesAt w a n l) :
    Calls Try.prog 6 #[.int .i64 key, .int .i64 at', .slice a n c, .int .i64 k] w fun e w' => e = .returned (.bool true) ∧ Below w.heap.size w w' := by
  by_cases hk : keyB key at' = true
  · by_cases hn : n ≤ 256
    · exact sealParts_ok key at' a n c l k w hk hn hnc h
    · exact sealParts_many key at' a n c k w hk (by omega)
  · exact sealParts_range key at' a n c k w (by simpa using hk)

end Go.Proofs.Ytjiodpggbmldnaa
