/-
  The contract of the function within blocks.Reach that calls itself. Nothing here is trusted.
-/
import Derived.Test.YtaagnojdpediladClo
set_option linter.unusedVariables false
namespace Go.Proofs.Ytaagnojdpedilad
open Go.RowKit Go.Maps

/-- what has been seen when some of l have been walked -/
structure Got (n : Nat) (B : Nat → Blk) (l l' : List Int) (V V' : List Int) : Prop where
  there : ∀ x ∈ V', There n B x
  sub : ∀ x ∈ V, x ∈ V'
  all : ∀ x ∈ l', x ≠ 0 → x ∈ V'
  clo : ∀ x ∈ V', x ∈ V ∨ Clo B l x
  shut : ∀ x ∈ V', x ∉ V → ∀ k ∈ (B (x - 1).toNat).kids, k ≠ 0 → k ∈ V'

theorem Got.start {n : Nat} {B : Nat → Blk} (l : List Int) {V : List Int} (h : ∀ x ∈ V, There n B x) : Got n B l [] V V := ⟨h, fun x hx => hx, by simp, fun x hx => .inl hx, fun x hx hn => absurd hx hn⟩
theorem Got.skip {n : Nat} {B : Nat → Blk} {l l' V V' : List Int} (h : Got n B l l' V V') {x : Int} (hx : x = 0 ∨ x ∈ V') : Got n B l (l' ++ [x]) V V' :=
  ⟨h.there, h.sub, fun y hy h0 => by
    rcases List.mem_append.1 hy with hy | hy
    · exact h.all y hy h0
    · simp at hy
      subst hy
      exact hx.resolve_left h0, h.clo, h.shut⟩
theorem Got.next {n : Nat} {B : Nat → Blk} {l l' V V' V'' : List Int} (h : Got n B l l' V V') {x : Int} (hx0 : x ≠ 0) (hxl : x ∈ l) (hxt : There n B x)
    (k : Got n B (B (x - 1).toNat).kids (B (x - 1).toNat).kids (V' ++ [x]) V'') : Got n B l (l' ++ [x]) V V'' := by
  have hxin : x ∈ V'' := k.sub x (by simp)
  refine ⟨k.there, fun y hy => k.sub y (by simp [h.sub y hy]), fun y hy h0 => ?_, fun y hy => ?_, fun y hy hn => ?_⟩
  · rcases List.mem_append.1 hy with hy | hy
    · exact k.sub y (by simp [h.all y hy h0])
    · simp at hy; subst hy; exact hxin
  · rcases k.clo y hy with h1 | h1
    · rcases List.mem_append.1 h1 with h2 | h2
      · exact h.clo y h2
      · simp at h2; subst h2; exact .inr (Clo.root hxl hx0)
    · exact .inr (h1.mono fun r hr h0 => (Clo.root hxl hx0).kid hr h0)
  · intro z hz h0
    by_cases e : y = x
    · subst e; exact k.all z hz h0
    · by_cases e2 : y ∈ V'
      · exact k.sub z (by simp [h.shut y e2 hn z hz h0])
      · exact k.shut y hy (by simp [e, e2]) z hz h0

end Go.Proofs.Ytaagnojdpedilad
