/-
  The walk of the law StoreFrees out of contracts. Nothing here is trusted.
-/
import Derived.Test.YtaagnojdpedilacStored
set_option linter.unusedVariables false
namespace Go.Proofs.Ytaagnojdpedilac
open Go.RowKit

/-- the addresses, rising, of those of the first places of which p holds -/
def heldL (p : Nat → Bool) : Nat → List Int
  | 0 => []
  | i + 1 => heldL p i ++ (if p i then [(i : Int) + 1] else [])
theorem heldL_length (p : Nat → Bool) : ∀ i, (heldL p i).length ≤ i
  | 0 => by simp [heldL]
  | i + 1 => by
    have := heldL_length p i
    unfold heldL
    split <;> simp <;> omega
theorem mem_heldL (p : Nat → Bool) (x : Int) : ∀ i, x ∈ heldL p i ↔ ∃ k, k < i ∧ p k = true ∧ x = (k : Int) + 1
  | 0 => by simp [heldL]
  | i + 1 => by
    unfold heldL
    rw [List.mem_append, mem_heldL p x i]
    constructor
    · rintro (⟨k, hk, h⟩ | h)
      · exact ⟨k, by omega, h⟩
      · by_cases hp : p i = true
        · rw [if_pos hp] at h
          exact ⟨i, by omega, hp, by simpa using h⟩
        · rw [if_neg hp] at h
          cases h
    · rintro ⟨k, hk, hp, h⟩
      by_cases e : k = i
      · subst e
        right
        rw [if_pos hp]
        simpa using h
      · exact .inl ⟨k, by omega, hp, h⟩
theorem heldL_wf (p : Nat → Bool) (i : Nat) (hi : i ≤ 400) : ∀ x ∈ heldL p i, (Lit.int .i64 x).wf = true := by
  intro x hx
  obtain ⟨k, hk, _, rfl⟩ := (mem_heldL p x i).1 hx
  exact WalkArith.wf_i64 (by omega)

end Go.Proofs.Ytaagnojdpedilac
