/-
  All that is there is reached from what somebody outside holds. (For StoreReached.) Nothing here is trusted.
-/
import Derived.Test.YtaagnojdpediladSto3
set_option linter.unusedVariables false
namespace Go.Proofs.Ytaagnojdpedilad

theorem heldL_rising (p : Nat → Bool) : ∀ i, Rising (heldL p i)
  | 0 => by simp [heldL, Rising]
  | i + 1 => by
    have h1 := heldL_rising p i
    unfold Rising at *
    unfold heldL
    rw [List.pairwise_append]
    refine ⟨h1, by split <;> simp, fun x hx y hy => ?_⟩
    obtain ⟨k, hk, _, rfl⟩ := (mem_heldL p x i).1 hx
    split at hy
    · simp only [List.mem_singleton] at hy
      omega
    · cases hy
theorem heldL_count (p : Nat → Bool) : ∀ i, (heldL p i).length = sumTo (fun k => if p k then 1 else 0) i
  | 0 => rfl
  | i + 1 => by
    have := heldL_count p i
    unfold heldL
    simp only [sumTo, List.length_append, this]
    split <;> simp

theorem all_reached {n : Nat} {B : Nat → Blk} (hR : Right n B) {l : List Int} (hl : ∀ k : Nat, k < n → 0 < outs n B k → ((k : Int) + 1) ∈ l) : ∀ i : Nat, i < n → (B i).refs ≠ 0 → Clo B l ((i : Int) + 1) := by
  have step : ∀ d : Nat, d ≤ 4 → ∀ i : Nat, i < n → (4 : Int) - d ≤ (B i).level → (B i).refs ≠ 0 → Clo B l ((i : Int) + 1) := by
    intro d
    induction d with
    | zero =>
      intro _ i hi hlv _
      have := (hR.one i hi).bounds
      omega
    | succ d ih =>
      intro hd i hi hlv hr
      by_cases ho : 0 < outs n B i
      · exact Clo.root (hl i hi ho) (by omega)
      · have hb := (hR.one i hi).bounds
        unfold outs at ho
        obtain ⟨j, hj, hc⟩ := sumTo_pos (f := fun j => (B j).kids.count ((i : Int) + 1)) (n := n) (show 0 < among n B ((i : Int) + 1) by omega)
        have hm := List.count_pos_iff.1 hc
        obtain ⟨_, h2, h3⟩ := kid_of hR hj hm
        have h4 := ih (by omega) j hj (by omega) h3
        exact h4.kid (by rw [show ((j : Int) + 1 - 1).toNat = j by omega]; exact hm) (by omega)
  intro i hi hr
  have := (hR.one i hi).bounds
  exact step 4 (Nat.le_refl _) i hi (by omega) hr

/-- a rising list of just what is there has as many as are used -/
theorem used_length {n : Nat} {B : Nat → Blk} (hR : Right n B) {L : List Int} (hL : Rising L) (hm : ∀ x, x ∈ L ↔ There n B x) : L.length = usedTo B n := by
  have e : L = heldL (fun k => decide (0 < (B k).refs)) n := rising_eq hL (heldL_rising _ _) (fun x => by
    rw [hm x, mem_heldL]
    constructor
    · rintro ⟨h1, h2, h3⟩
      have hb := (hR.one _ (ix h1 h2).1).bounds
      exact ⟨(x - 1).toNat, (ix h1 h2).1, decide_eq_true (show 0 < (B (x - 1).toNat).refs by omega), by omega⟩
    · rintro ⟨k, hk, hp, rfl⟩
      refine ⟨by omega, by omega, ?_⟩
      rw [show ((k : Int) + 1 - 1).toNat = k by omega]
      have h0 : 0 < (B k).refs := by simpa using hp
      omega)
  rw [e, heldL_count]
  unfold usedTo
  exact sumTo_congr fun k _ => by by_cases h : 0 < (B k).refs <;> simp [h]

/-- who starts from what was reached reaches just that -/
theorem clo_again {B : Nat → Blk} {l L : List Int} (hm : ∀ x, x ∈ L ↔ Clo B l x) (h0 : (0 : Int) ∉ L) (x : Int) : Clo B L x ↔ x ∈ L := by
  constructor
  · intro h
    exact (hm x).2 (h.mono fun r hr _ => (hm r).1 hr)
  · intro h
    exact Clo.root h (fun e => h0 (e ▸ h))
/-- from more roots no less is reached -/
theorem clo_more {B : Nat → Blk} {l m : List Int} {x : Int} (h : Clo B l x) : Clo B (l ++ m) x := h.mono fun r hr h0 => Clo.root (List.mem_append_left _ hr) h0
end Go.Proofs.Ytaagnojdpedilad
