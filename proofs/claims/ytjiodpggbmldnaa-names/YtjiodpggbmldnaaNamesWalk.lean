/-
  The walk of the closed law Names. Nothing here is trusted.
-/
import Derived.Test.YtjiodpggbmldnaaRows
import Derived.WalkKit
import Derived.Deep.QuietTactic
import Derived.BigQuiet
import Derived.WalkSmall
import Derived.LoopN
set_option linter.unusedVariables false
namespace Go.Proofs.Ytjiodpggbmldnaa
open Go.RowKit

set_option maxHeartbeats 1000000 in
set_option maxRecDepth 100000 in
theorem slicesEqual_same (b1 o1 n c b2 o2 d : Nat) (xs : List Int) (w : World) (hn : n ≤ 1000) (hc1 : ∀ j, j < n → w.cell? ⟨b1, o1 + j, none⟩ = some (.int .i64 (xs.getD j 0))) (hc2 : ∀ j, j < n → w.cell? ⟨b2, o2 + j, none⟩ = some (.int .i64 (xs.getD j 0))) :
    Calls Try.prog 7 #[.slice (some ⟨b1, o1, none⟩) n c, .slice (some ⟨b2, o2, none⟩) n d] w fun e w' => e = .returned (.bool true) ∧ ∃ q, w' = w.drewN q := by
  go_enter Try.func7, Try.ntmps7
  go_wp2
  go_loopw [13] (fun i wr => ∃ k q : Nat, k ≤ n ∧ i = .int .i64 k ∧ wr = w.drewN q) (fun i _ => n - (intOf i).toNat)
  case atStart => exact ⟨0, 0, Nat.zero_le _, rfl, rfl⟩
  case round =>
    obtain ⟨k, q, hk, rfl, rfl⟩ := hrel
    by_cases hlt : k < n
    · have g1 := hc1 k (by omega)
      have g2 := hc2 k (by omega)
      clear hc1 hc2
      generalize xs.getD k 0 = x at *
      go_wp2_with fail
      go_quiet (fail)
      go_wp2
      go_roundw
      case rel => exact ⟨k + 1, q + nq, by omega, by go_num, rfl⟩
      case measure => simp [intOf]; omega
    · have : k = n := by omega
      subst this
      clear hc1 hc2
      go_wp2
      go_ret
      exact ⟨rfl, q, rfl⟩

theorem grown_drewN {W w' : World} (h : Grown W w') (q : Nat) : Grown W (w'.drewN q) := h

theorem lit_cells (w : World) (xs : List Int) (t : TypeId) (arr : Array Value) (h : arr = (xs.map (Value.int .i64)).toArray) (j : Nat) (hj : j < xs.length) :
    (w.alloc (.cells arr t)).cell? ⟨w.heap.size, 0 + j, none⟩ = some (.int .i64 (xs.getD j 0)) := by
  subst h
  rw [World.cell?_alloc_at _ _ _ _ rfl, Nat.zero_add]
  simp [List.getD, hj]

theorem lit_at (w : World) (xs : List Int) (t : TypeId) (arr : Array Value) (b : Nat) (hb : b = w.heap.size) (h : arr = (xs.map (Value.int .i64)).toArray) (j : Nat) (hj : j < xs.length) :
    (w.alloc (.cells arr t)).cell? ⟨b, 0 + j, none⟩ = some (.int .i64 (xs.getD j 0)) := by
  subst hb
  exact lit_cells w xs t arr h j hj

def limits : List Int := [400, 4, 4, 3, 256, 8, 6, 3, 3, 3, 1000, 90, 20000, 60, 40, 1000000]
def kinds : List Int := [1, 2, 3, 4, 5, 6, 7, 8, 9, 10, 11, 12, 13, 1, 2, 3]
def errs : List Int := [0, 1, 2, 3, 4, 5, 6, 7, 8, 9, 10]
theorem errs_at (k : Nat) (h : k < 11) : errs.getD k 0 = k := by
  match k, h with
  | 0, _ | 1, _ | 2, _ | 3, _ | 4, _ | 5, _ | 6, _ | 7, _ | 8, _ | 9, _ | 10, _ => rfl

set_option maxHeartbeats 4000000 in
set_option maxRecDepth 100000 in
theorem names_walk (w : World) : Calls Try.prog 3 #[] w fun e w' => e = .returned (.bool true) ∧ Grown w w' := by
  have hE := fun k hk => lit_cells w errs 22 _ rfl k hk
  have hG0 := (Grown.refl w).alloc ((errs.map (Value.int .i64)).toArray) 22
  have HE : Hid (∀ k, k < 11 → (w.alloc (.cells (errs.map (Value.int .i64)).toArray 22)).cell? ⟨w.heap.size, k, none⟩ = some (.int .i64 k)) := by
    intro k hk
    have := hE k hk
    rw [Nat.zero_add, errs_at k hk] at this
    exact this
  clear hE
  simp only [errs, List.map_cons, List.map_nil] at HE hG0
  go_enter Try.func3, Try.ntmps3
  go_wp2_with fail
  generalize w.alloc (.cells #[.int .i64 0, .int .i64 1, .int .i64 2, .int .i64 3, .int .i64 4, .int .i64 5, .int .i64 6, .int .i64 7, .int .i64 8, .int .i64 9, .int .i64 10] 22) = w1 at *
  go_loop [9] (fun i => ∃ k : Nat, k ≤ 11 ∧ i = .int .i64 k) (fun i => 11 - (intOf i).toNat)
  case atStart => exact ⟨0, Nat.zero_le _, rfl⟩
  case round =>
    obtain ⟨k, hk, rfl⟩ := hrel
    by_cases hlt : k < 11
    · have hc := HE.out k hlt
      go_wp2
      go_round
      case rel => exact ⟨k + 1, by omega, by go_num⟩
      case measure => simp [intOf]; omega
    · have : k = 11 := by omega
      subst this
      clear hlt hk HE
      go_wp2_with fail
      refine (slicesEqual_same _ 0 16 16 _ 0 16 limits _ (by omega) ?_ ?_).mono ?_
      · intro j hj
        rw [World.cell?_alloc_past _ _ _ (by simp; omega), World.cell?_alloc_past _ _ _ (by simp)]
        exact lit_at _ limits _ _ _ rfl rfl j hj
      · intro j hj
        exact lit_at _ limits _ _ _ (by simp) rfl j hj
      rintro e w2 ⟨rfl, q, rfl⟩
      go_wp2_with fail
      refine (slicesEqual_same _ 0 16 16 _ 0 16 kinds _ (by omega) ?_ ?_).mono ?_
      · intro j hj
        rw [World.cell?_alloc_past _ _ _ (by simp), World.cell?_drewN, World.cell?_alloc_past _ _ _ (by simp)]
        exact lit_at _ kinds _ _ _ (by simp) rfl j hj
      · intro j hj
        exact lit_at _ kinds _ _ _ (by simp) rfl j hj
      rintro e w2 ⟨rfl, q2, rfl⟩
      go_wp2
      go_ret
      exact ⟨rfl, by repeat (first | exact hG0 | apply grown_drewN | apply Grown.drew | apply Grown.alloc)⟩

end Go.Proofs.Ytjiodpggbmldnaa
