/-
  The closed fact 'sealed' of the laws, and 'at'. Nothing here is trusted.
-/
import Derived.Test.YtjiodpggbmldnaaSeal
set_option linter.unusedVariables false
namespace Go.Proofs.Ytjiodpggbmldnaa
open Go.RowKit

theorem bytesAt_lit2 (w : World) (p q : Int) (hp : 0 ≤ p ∧ p < 256) (hq : 0 ≤ q ∧ q < 256) : BytesAt (w.alloc (.cells #[.int .u8 p, .int .u8 q] 5)) (some ⟨w.heap.size, 0, none⟩) 2 [p, q] := by
  refine ⟨rfl, by simp [hp, hq], fun _ => ⟨w.heap.size, 0, rfl, by simp, fun i hi => ?_⟩⟩
  rw [World.cell?_alloc_at _ _ _ _ rfl]
  match i, hi with
  | 0, _ => rfl
  | 1, _ => rfl

theorem below_alloc (w : World) (o : Obj) : Below w.heap.size w (w.alloc o) := (Below.refl _ _).alloc (Nat.le_refl _) o
theorem Below.tr {a b c : World} (h : Below a.heap.size a b) (k : Below b.heap.size b c) : Below a.heap.size a c := h.trans (k.mono h.size)

theorem sealed_any (w : World) : Calls Try.prog 11 #[] w fun e w' => e = .returned (.bool true) ∧ Below w.heap.size w w' := by
  go_enter Try.func11, Try.ntmps11
  go_wp2_with fail
  refine (seal_ok 0 0 _ 2 _ [0, 5] _ rfl (by omega) (bytesAt_lit2 w 0 5 (by omega) (by omega))).mono ?_
  rintro e w1 ⟨g, rfl, hB, hb1⟩
  rw [sealL_fact] at hB
  have b1 := Below.tr (below_alloc w _) hb1
  clear hb1
  go_wp2_with fail
  refine (open_ok 0 0 _ 2 _ [29, 205] w1 rfl (by omega) hB).mono ?_
  rintro e w2 ⟨g2, rfl, hB2, hb2⟩
  rw [openL_fact] at hB2
  have hB' := hB.below hb2
  have b2 := Below.tr b1 hb2
  clear hb2 hB b1
  go_wp2_with fail
  refine (equal_same _ _ 2 _ 2 _ [29, 205] _ (hB'.below (below_alloc w2 _)) (bytesAt_lit2 w2 29 205 (by omega) (by omega))).mono ?_
  rintro e w3 ⟨rfl, rfl⟩
  have hB2' := hB2.below (below_alloc w2 (.cells #[.int .u8 29, .int .u8 205] 5))
  have b3 := Below.tr b2 (below_alloc w2 (.cells #[.int .u8 29, .int .u8 205] 5))
  clear hB2 hB' b2
  generalize w2.alloc (.cells #[.int .u8 29, .int .u8 205] 5) = w4 at *
  go_wp2_with fail
  refine (equal_same _ _ 2 _ 2 _ [0, 5] _ (hB2'.below (below_alloc w4 _)) (bytesAt_lit2 w4 0 5 (by omega) (by omega))).mono ?_
  rintro e w5 ⟨rfl, rfl⟩
  go_wp2
  go_ret
  exact ⟨rfl, Below.tr b3 (below_alloc w4 _)⟩

theorem at_any (k n : Int) (w : World) (h0 : 1 ≤ n) (h1 : n ≤ 1000) :
    Calls Try.prog 17 #[.int .i64 k, .int .i64 n] w fun e w' => (∃ r : Nat, e = .returned (.int .i64 r) ∧ (r : Int) < n) ∧ w' = w := by
  have t1 := Int.tmod_lt_of_pos k (show 0 < n by omega)
  have t2 : -n < k.tmod n := by have := Int.tmod_lt_of_pos (-k) (show 0 < n by omega); rw [Int.neg_tmod] at this; omega
  have hnz : (n == 0) = false := by simp; omega
  generalize ht : k.tmod n = t at t1 t2
  by_cases hneg : t < 0
  · go_enter Try.func17, Try.ntmps17
    go_wp2
    go_ret
    exact ⟨⟨(t + n).toNat, congrArg (fun z => Ending.returned (.int .i64 z)) (show t + n = ((t + n).toNat : Int) by omega), by omega⟩, rfl⟩
  · go_enter Try.func17, Try.ntmps17
    go_wp2
    go_ret
    exact ⟨⟨t.toNat, congrArg (fun z => Ending.returned (.int .i64 z)) (show t = (t.toNat : Int) by omega), by omega⟩, rfl⟩

end Go.Proofs.Ytjiodpggbmldnaa
