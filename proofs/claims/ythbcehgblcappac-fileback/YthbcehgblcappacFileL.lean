/-
  What the laws of files keep in memory; what they say, without memory. Nothing here is trusted.
-/
import Derived.Test.YthbcehgblcappacFileK
set_option linter.unusedVariables false
namespace Go.Proofs.Ythbcehgblcappac
open Go.RowKit

/-- the arguments' boxes -/
structure FE (W w : World) (a : Option Addr) (n c : Nat) (fr fs : Int) : Prop where
  s : CellsAt w W.heap.size #[.slice a n c] 24
  f : CellsAt w (W.heap.size + 1) #[.int .i64 fr, .int .i64 fs] 44
  bel : Below W.heap.size W w
theorem FE.below {W w w' : World} {a : Option Addr} {n c : Nat} {fr fs : Int} (h : FE W w a n c fr fs) (b : Below w.heap.size w w') : FE W w' a n c fr fs := ⟨h.s.below b, h.f.below b, Below.tr h.bel b⟩
theorem fe_start (w : World) (a : Option Addr) (n c : Nat) (fr fs : Int) : FE w ((w.alloc (.cells #[.slice a n c] 24)).alloc (.cells #[.int .i64 fr, .int .i64 fs] 44)) a n c fr fs :=
  ⟨(cellsAt_alloc w _ _).below (below_alloc _ (.cells #[.int .i64 fr, .int .i64 fs] 44)), cellsAt_alloc2 w (.cells #[.slice a n c] 24) _ _, below_two w _ _⟩

/-- a store and a file in boxes of their own -/
structure Box (w : World) (q : Nat) (a : Option Addr) (n c : Nat) (fr fs : Int) : Prop where
  s : CellsAt w q #[.slice a n c] 24
  f : CellsAt w (q + 1) #[.int .i64 fr, .int .i64 fs] 44
theorem Box.below {w w' : World} {q : Nat} {a : Option Addr} {n c : Nat} {fr fs : Int} (h : Box w q a n c fr fs) (b : Below w.heap.size w w') : Box w' q a n c fr fs := ⟨h.s.below b, h.f.below b⟩
theorem box_start (w : World) (a : Option Addr) (n c : Nat) (fr fs : Int) : Box ((w.alloc (.cells #[.slice a n c] 24)).alloc (.cells #[.int .i64 fr, .int .i64 fs] 44)) w.heap.size a n c fr fs :=
  ⟨(fe_start w a n c fr fs).s, (fe_start w a n c fr fs).f⟩

theorem readL_all (O : List Int) (s : Nat) (hO : O.length = 256) (hs : s ≤ 256) : readL O s 0 256 = O.take s := by
  unfold readL
  rw [List.drop_zero]
  exact List.take_of_length_le (by simp [hO]; omega)
theorem take_pad (N : List Int) : (padTo N).take N.length = N := by unfold padTo; simp
theorem take_getD (O : List Int) (s k : Nat) (h : k < s) : (O.take s).getD k 0 = O.getD k 0 := by simp [List.getD, h]
theorem take_getD_out (O : List Int) (s k : Nat) (h : s ≤ k) : (O.take s).getD k 0 = 0 := by
  simp only [List.getD]
  rw [List.getElem?_eq_none (by simp; omega)]
  rfl
theorem used_le (B : Nat → Blk) : ∀ n, usedTo B n ≤ n
  | 0 => Nat.le_refl _
  | n + 1 => by
    have := used_le B n
    rw [usedTo_succ]
    split <;> omega
theorem store_congr {w : World} {a : Option Addr} {n : Nat} {B C : Nat → Blk} (h : StoreAt w a n B) (e : ∀ k, k < n → B k = C k) : StoreAt w a n C := fun hp => by
  obtain ⟨b, off, rfl, hlt, hB⟩ := h hp
  exact ⟨b, off, rfl, hlt, hB.congr e⟩
end Go.Proofs.Ythbcehgblcappac
