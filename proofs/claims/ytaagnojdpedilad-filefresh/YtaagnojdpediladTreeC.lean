/-
  The closed fact 'rooted'. Nothing here is trusted.
-/
import Derived.Test.YtaagnojdpediladTreeB
set_option linter.unusedVariables false
namespace Go.Proofs.Ytaagnojdpedilad
open Go.RowKit

theorem lowest_eq {n : Nat} {B : Nat → Blk} {i j : Nat} (h : Lowest n B i) (h0 : (B j).refs = 0) (hlt : ∀ k, k < j → (B k).refs ≠ 0) : i = j := by
  rcases Nat.lt_trichotomy i j with h' | h' | h'
  · exact absurd h.2.1 (hlt i h')
  · exact h'
  · exact absurd h0 (h.2.2 j h')

/-- the first leaf below nothing, at place 6 of level 2, has a root at address 3 -/
theorem puts_first {C : Nat → Blk} {a : Int} (h : Puts 9 [1, 2, 3, 4] 2 (fun _ => Blk.zero) 0 6 C a) : a = 3 := by
  obtain ⟨D, k, ⟨D1, k1, h0, h1⟩, h2⟩ := h
  simp only [kidsL_zero] at h0 h1 h2
  rcases h0 with ⟨h, _⟩ | ⟨_, j, hj, _, rfl, rfl⟩
  · exact absurd h (by simp)
  obtain rfl : j = 0 := lowest_eq hj rfl (fun k hk => absurd hk (by omega))
  have e1 : (kidsL (fun _ => Blk.zero) (([0, 0, 0, 0] : List Int).getD (6 / pw 1) 0)).set (6 % pw 1 / pw 0) (((0 : Nat) : Int) + 1) = [0, 0, 1, 0] := by decide
  rw [e1] at h1
  rcases h1 with ⟨h, _⟩ | ⟨_, j, hj1, _, rfl, rfl⟩
  · exact absurd h (by decide)
  obtain rfl : j = 1 := lowest_eq hj1 (by decide) (fun k hk => by
    obtain rfl : k = 0 := by omega
    decide)
  have e2 : ([0, 0, 0, 0] : List Int).set (6 / pw 1) (((1 : Nat) : Int) + 1) = [0, 2, 0, 0] := by decide
  rw [e2] at h2
  rcases h2 with ⟨h, _⟩ | ⟨_, j, hj2, _, rfl, rfl⟩
  · exact absurd h (by decide)
  obtain rfl : j = 2 := lowest_eq hj2 (by decide) (fun k hk => by
    match k, hk with
    | 0, _ => decide
    | 1, _ => decide)
  rfl

theorem diffs_one {C : Nat → Blk} {a : Int} (h : ∀ j, j < pw 2 → leafAt C 2 a j = if j = 6 then [1, 2, 3, 4] else []) : diffs C 2 a 0 0 = [6] := by
  have e : diffTo C 2 a 0 (pw 2) = (List.range (pw 2)).filter (fun j => decide (j = 6)) := by
    unfold diffTo
    apply List.filter_congr
    intro j hj
    have hj' := List.mem_range.1 hj
    rw [h j hj', leafAt_zero C 2 j hj']
    by_cases e : j = 6 <;> simp [e]
  unfold diffs
  rw [e]
  decide

theorem used_zero : ∀ n, usedTo (fun _ => Blk.zero) n = 0
  | 0 => rfl
  | n + 1 => by rw [usedTo_succ, used_zero n]; rfl

end Go.Proofs.Ytaagnojdpedilad
