/-
  slices.EqualFunc of lists of bytes by bytes.Equal; what Put leaves. Nothing here is trusted.
-/
import Derived.Test.YtaagnojdpediladTreeC
set_option linter.unusedVariables false
namespace Go.Proofs.Ytaagnojdpedilad
open Go.RowKit

theorem leavesL_getD (B : Nat → Blk) (l : Nat) (a : Int) (j : Nat) (hj : j < pw l) : (leavesL B l a).getD j [] = leafAt B l a j := by
  unfold leavesL
  simp [List.getD, hj]
theorem leavesL_ext {n : Nat} {B C : Nat → Blk} (h : Ext n B C) (hR : Right n B) (l : Nat) (a : Int) (ha : Root n B l a) : leavesL C l a = leavesL B l a := by
  unfold leavesL
  apply List.map_congr_left
  intro j hj
  exact h.leaf hR l a ha j (List.mem_range.1 hj)
/-- the store that Put made, the new root let go, is what was -/
theorem keeps_like {n : Nat} {B C : Nat → Blk} (hB : Right n B) (h : Ext n B C) : Like n C B := fun k hk => by
  by_cases e : (B k).refs = 0
  · exact .inr (.inl e)
  · obtain ⟨_, h1, h2, h3⟩ := h.keep k hk e
    exact .inr (.inr ⟨h1, h2, h3⟩)
theorem keeps_none {n : Nat} {B C : Nat → Blk} {l : Nat} {c : Int} (hB : Right n B) (h : Grew n B C l 0 c) : ∀ k, k < n → C k = B k := by
  refine same_of h.right hB (keeps_like hB h.ext) fun k hk => ?_
  rw [h.out k hk, if_neg (by omega)]
  omega
theorem keeps_back {n : Nat} {B C D : Nat → Blk} {l m : Nat} {c : Int} (hB : Right n B) (h : Grew n B C l ((m : Int) + 1) c) (hD : Right n D) (hF : Fell n C D [(m : Int) + 1]) : ∀ k, k < n → D k = B k := by
  refine same_of hD hB (fun k hk => ?_) fun k hk => ?_
  · rcases fell_like hF k hk with h' | h' | ⟨h1, h2, h3⟩
    · exact .inl h'
    · by_cases e : (B k).refs = 0
      · exact .inr (.inl e)
      · exact absurd h' (h.ext.keep k hk e).1
    · rcases keeps_like hB h.ext k hk with h' | h' | ⟨g1, g2, g3⟩
      · by_cases e : (B k).refs = 0
        · exact .inr (.inl e)
        · exact absurd h' (h.ext.keep k hk e).1
      · exact .inr (.inl h')
      · exact .inr (.inr ⟨h1.trans g1, h2.trans g2, h3.trans g3⟩)
  · rw [hF.outs k hk, h.out k hk]
    by_cases e : k = m
    · subst e
      rw [if_pos rfl, List.count_cons_self]
      simp
    · rw [if_neg (by omega), List.count_cons_of_ne (by omega)]
      simp
theorem outs_nonneg {n : Nat} {B : Nat → Blk} (hB : Right n B) (k : Nat) (hk : k < n) : 0 ≤ outs n B k := by
  have := hB.held k hk
  simp at this
  unfold outs
  omega

/-- what the laws of trees keep in memory -/
structure TE (W w : World) (a : Option Addr) (n c : Nat) : Prop where
  s : CellsAt w W.heap.size #[.slice a n c] 24
  bel : Below W.heap.size W w
theorem TE.below {W w w' : World} {a : Option Addr} {n c : Nat} (h : TE W w a n c) (b : Below w.heap.size w w') : TE W w' a n c := ⟨h.s.below b, h.bel.trans (b.mono h.bel.size)⟩
end Go.Proofs.Ytaagnojdpedilad
