/-
  TreeA in one text. Nothing here is trusted.
-/
import Derived.Test.YtihkljfcplfldaaGreatPart10
import Derived.Deep.RegionHeld3
import Derived.Lib.AppendZeros
import Derived.Laws.AppendOwnNone
import Derived.Maps.AppendAt
set_option linter.unusedVariables false
namespace Go.Proofs.YtihkljfcplfldaaGreat
open Go.RowKit

/-- at which of the first k places the leaves differ -/
def diffTo (B : Nat → Blk) (l : Nat) (a b : Int) (k : Nat) : List Nat := (List.range k).filter (fun j => decide (leafAt B l a j ≠ leafAt B l b j))
/-- these, counted from first on -/
def diffs (B : Nat → Blk) (l : Nat) (a b : Int) (first : Nat) : List Int := (diffTo B l a b (pw l)).map (fun j => ((first + j : Nat) : Int))
def diffsTo (B : Nat → Blk) (l : Nat) (a b : Int) (first k : Nat) : List Int := (diffTo B l a b k).map (fun j => ((first + j : Nat) : Int))
theorem diffs_same (B : Nat → Blk) (l : Nat) (a : Int) (first : Nat) : diffs B l a a first = [] := by simp [diffs, diffTo]
theorem diffs_leaf (B : Nat → Blk) (a b : Int) (first : Nat) : diffs B 0 a b first = if bytesL B a = bytesL B b then [] else [(first : Int)] := by
  simp only [diffs, diffTo, pw, leafAt]
  by_cases h : bytesL B a = bytesL B b <;> simp [h, List.range_succ]
theorem diffsTo_next (B : Nat → Blk) (l : Nat) (a b : Int) (first j : Nat) : diffsTo B (l + 1) a b first ((j + 1) * pw l) = diffsTo B (l + 1) a b first (j * pw l) ++ diffs B l ((kidsL B a).getD j 0) ((kidsL B b).getD j 0) (first + j * pw l) := by
  have hp := pw_pos l
  unfold diffsTo diffs diffTo
  rw [Nat.add_mul, Nat.one_mul, List.range_add, List.filter_append, List.map_append, List.filter_map, List.map_map]
  congr 1
  have e : ∀ (c : Int) r, r < pw l → leafAt B (l + 1) c (j * pw l + r) = leafAt B l ((kidsL B c).getD j 0) r := by
    intro c r hr
    simp only [leafAt]
    rw [Nat.mul_comm, Nat.mul_add_div hp, Nat.mul_add_mod, Nat.div_eq_of_lt hr, Nat.mod_eq_of_lt hr, Nat.add_zero]
  have e2 : (List.range (pw l)).filter ((fun j_1 => decide (leafAt B (l + 1) a j_1 ≠ leafAt B (l + 1) b j_1)) ∘ fun x => j * pw l + x) = (List.range (pw l)).filter (fun r => decide (leafAt B l ((kidsL B a).getD j 0) r ≠ leafAt B l ((kidsL B b).getD j 0) r)) := by
    apply List.filter_congr
    intro r hr
    have hr' := List.mem_range.1 hr
    simp only [Function.comp]
    rw [e a r hr', e b r hr']
  rw [e2]
  apply List.map_congr_left
  intro r _
  simp only [Function.comp]
  omega
theorem diffsTo_all (B : Nat → Blk) (l : Nat) (a b : Int) (first : Nat) : diffsTo B (l + 1) a b first (4 * pw l) = diffs B (l + 1) a b first := rfl

theorem diffTo_length (B : Nat → Blk) (l : Nat) (a b : Int) (k : Nat) : (diffTo B l a b k).length ≤ k := by
  have := List.length_filter_le (fun j => decide (leafAt B l a j ≠ leafAt B l b j)) (List.range k)
  simpa [diffTo] using this
theorem diffs_length (B : Nat → Blk) (l : Nat) (a b : Int) (first : Nat) : (diffs B l a b first).length ≤ pw l := by
  rw [diffs, List.length_map]; exact diffTo_length _ _ _ _ _
theorem diffsTo_length (B : Nat → Blk) (l : Nat) (a b : Int) (first k : Nat) : (diffsTo B l a b first k).length ≤ k := by
  rw [diffsTo, List.length_map]; exact diffTo_length _ _ _ _ _

theorem ownsRow_below {w w' : World} {base : Nat} {e : TypeId} {v : Value} {n : Nat} {xs : List Value} (h : w.ownsRow base e 1 v n xs) (b : Below w.heap.size w w') : w'.ownsRow base e 1 v n xs := by
  refine h.kept (row := none) ⟨b.os, b.tape, b.output, b.size, fun k hk _ => b.block k hk⟩ ?_
  cases hv : v.ownBlock with
  | none => exact .inl rfl
  | some k => exact .inr (by simp)

theorem zero4 {w : World} {g : Nat} {t : TypeId} (k : CellsAt w g #[.int .i64 0, .int .i64 0, .int .i64 0, .int .i64 0] t) :
    w.cell? ⟨g, 0, none⟩ = some (.int .i64 0) ∧ w.cell? ⟨g, 1, none⟩ = some (.int .i64 0) ∧ w.cell? ⟨g, 2, none⟩ = some (.int .i64 0) ∧ w.cell? ⟨g, 3, none⟩ = some (.int .i64 0) ∧
    w.frozen? ⟨g, 0, none⟩ = false ∧ w.frozen? ⟨g, 1, none⟩ = false ∧ w.frozen? ⟨g, 2, none⟩ = false ∧ w.frozen? ⟨g, 3, none⟩ = false :=
  ⟨k.cell 0, k.cell 1, k.cell 2, k.cell 3, k.frozen 0, k.frozen 1, k.frozen 2, k.frozen 3⟩

/-- the blocks of K are as they were -/
def SameK (K : Nat → Prop) (w w' : World) : Prop := ∀ k, K k → w'.heap[k]? = w.heap[k]?
/-- two arrays of kids, in memory -/
def Kids2 (w wc : World) (x0 x1 x2 x3 y0 y1 y2 y3 : Int) (u v : Value) : Prop :=
  ∃ lb rb, u = .pointer (some ⟨lb, 0, none⟩) ∧ v = .pointer (some ⟨rb, 0, none⟩) ∧ CellsAt wc lb #[.int .i64 x0, .int .i64 x1, .int .i64 x2, .int .i64 x3] 242 ∧ CellsAt wc rb #[.int .i64 y0, .int .i64 y1, .int .i64 y2, .int .i64 y3] 242 ∧ Below w.heap.size w wc ∧ w.heap.size ≤ lb ∧ w.heap.size ≤ rb

theorem set4 {w : World} {g : Nat} {x0 x1 x2 x3 : Int} (k : CellsAt w g #[.int .i64 0, .int .i64 0, .int .i64 0, .int .i64 0] 242) : CellsAt ((((w.setCell ⟨g, 0, none⟩ (.int .i64 x0)).setCell ⟨g, 1, none⟩ (.int .i64 x1)).setCell ⟨g, 2, none⟩ (.int .i64 x2)).setCell ⟨g, 3, none⟩ (.int .i64 x3)) g #[.int .i64 x0, .int .i64 x1, .int .i64 x2, .int .i64 x3] 242 ∧ Kept g w ((((w.setCell ⟨g, 0, none⟩ (.int .i64 x0)).setCell ⟨g, 1, none⟩ (.int .i64 x1)).setCell ⟨g, 2, none⟩ (.int .i64 x2)).setCell ⟨g, 3, none⟩ (.int .i64 x3)) := by
  refine ⟨?_, Kept.setCell (g := g) (Kept.setCell (g := g) (Kept.setCell (g := g) (Kept.setCell (g := g) (Kept.refl _ _) (p := ⟨g, 0, none⟩) rfl _) (p := ⟨g, 1, none⟩) rfl _) (p := ⟨g, 2, none⟩) rfl _) (p := ⟨g, 3, none⟩) rfl _⟩
  have h := (((k.set 0 (.int .i64 x0)).set 1 (.int .i64 x1)).set 2 (.int .i64 x2)).set 3 (.int .i64 x3)
  simpa using h
theorem kids2_1 {w w2 : World} {x0 x1 x2 x3 y0 y1 y2 y3 : Int} (b : Below w.heap.size w w2) : Kids2 w ((w2.alloc (.cells #[.int .i64 x0, .int .i64 x1, .int .i64 x2, .int .i64 x3] 242)).alloc (.cells #[.int .i64 y0, .int .i64 y1, .int .i64 y2, .int .i64 y3] 242)) x0 x1 x2 x3 y0 y1 y2 y3 (.pointer (some ⟨w2.heap.size, 0, none⟩)) (.pointer (some ⟨w2.heap.size + 1, 0, none⟩)) :=
  ⟨_, _, rfl, rfl, (cellsAt_alloc w2 _ _).below (below_alloc _ _), cellsAt_alloc2 w2 _ _ _, (b.alloc b.size _).alloc (by have := b.size; simp; omega) _, by have := b.size; omega, by have := b.size; omega⟩
theorem kids2_2 {w w2 : World} {x0 x1 x2 x3 y0 y1 y2 y3 : Int} (b : Below w.heap.size w w2) : Kids2 w ((w2.alloc (.cells #[.int .i64 y0, .int .i64 y1, .int .i64 y2, .int .i64 y3] 242)).alloc (.cells #[.int .i64 x0, .int .i64 x1, .int .i64 x2, .int .i64 x3] 242)) x0 x1 x2 x3 y0 y1 y2 y3 (.pointer (some ⟨w2.heap.size + 1, 0, none⟩)) (.pointer (some ⟨w2.heap.size, 0, none⟩)) :=
  ⟨_, _, rfl, rfl, cellsAt_alloc2 w2 _ _ _, (cellsAt_alloc w2 _ _).below (below_alloc _ _), (b.alloc b.size _).alloc (by have := b.size; simp; omega) _, by have := b.size; omega, by have := b.size; omega⟩
theorem kids2_3 {w w2 : World} {g : Nat} {x0 x1 x2 x3 y0 y1 y2 y3 : Int} (b : Below w.heap.size w w2) (k : CellsAt w2 g #[.int .i64 0, .int .i64 0, .int .i64 0, .int .i64 0] 242) (hg : w.heap.size ≤ g) : Kids2 w (((((w2.setCell ⟨g, 0, none⟩ (.int .i64 x0)).setCell ⟨g, 1, none⟩ (.int .i64 x1)).setCell ⟨g, 2, none⟩ (.int .i64 x2)).setCell ⟨g, 3, none⟩ (.int .i64 x3)).alloc (.cells #[.int .i64 y0, .int .i64 y1, .int .i64 y2, .int .i64 y3] 242)) x0 x1 x2 x3 y0 y1 y2 y3 (.pointer (some ⟨g, 0, none⟩)) (.pointer (some ⟨w2.heap.size, 0, none⟩)) := by
  obtain ⟨h1, h2⟩ := set4 (x0 := x0) (x1 := x1) (x2 := x2) (x3 := x3) k
  have h3 := cellsAt_alloc ((((w2.setCell ⟨g, 0, none⟩ (.int .i64 x0)).setCell ⟨g, 1, none⟩ (.int .i64 x1)).setCell ⟨g, 2, none⟩ (.int .i64 x2)).setCell ⟨g, 3, none⟩ (.int .i64 x3)) #[.int .i64 y0, .int .i64 y1, .int .i64 y2, .int .i64 y3] 242
  rw [h2.size] at h3
  exact ⟨_, _, rfl, rfl, h1.below (below_alloc _ _), h3, (b.trans (h2.below hg)).alloc (by rw [h2.size]; exact b.size) _, by have := b.size; omega, by have := b.size; omega⟩
theorem kids2_4 {w w2 : World} {g : Nat} {x0 x1 x2 x3 y0 y1 y2 y3 : Int} (b : Below w.heap.size w w2) (k : CellsAt w2 g #[.int .i64 0, .int .i64 0, .int .i64 0, .int .i64 0] 242) (hg : w.heap.size ≤ g) : Kids2 w (((((w2.setCell ⟨g, 0, none⟩ (.int .i64 y0)).setCell ⟨g, 1, none⟩ (.int .i64 y1)).setCell ⟨g, 2, none⟩ (.int .i64 y2)).setCell ⟨g, 3, none⟩ (.int .i64 y3)).alloc (.cells #[.int .i64 x0, .int .i64 x1, .int .i64 x2, .int .i64 x3] 242)) x0 x1 x2 x3 y0 y1 y2 y3 (.pointer (some ⟨w2.heap.size, 0, none⟩)) (.pointer (some ⟨g, 0, none⟩)) := by
  obtain ⟨h1, h2⟩ := set4 (x0 := y0) (x1 := y1) (x2 := y2) (x3 := y3) k
  have h3 := cellsAt_alloc ((((w2.setCell ⟨g, 0, none⟩ (.int .i64 y0)).setCell ⟨g, 1, none⟩ (.int .i64 y1)).setCell ⟨g, 2, none⟩ (.int .i64 y2)).setCell ⟨g, 3, none⟩ (.int .i64 y3)) #[.int .i64 x0, .int .i64 x1, .int .i64 x2, .int .i64 x3] 242
  rw [h2.size] at h3
  exact ⟨_, _, rfl, rfl, h3, h1.below (below_alloc _ _), (b.trans (h2.below hg)).alloc (by rw [h2.size]; exact b.size) _, by have := b.size; omega, by have := b.size; omega⟩
theorem kids2_5 {w w2 : World} {g h : Nat} {x0 x1 x2 x3 y0 y1 y2 y3 : Int} (b : Below w.heap.size w w2) (k : CellsAt w2 g #[.int .i64 0, .int .i64 0, .int .i64 0, .int .i64 0] 242) (q : CellsAt w2 h #[.int .i64 0, .int .i64 0, .int .i64 0, .int .i64 0] 242) (hg : w.heap.size ≤ g) (hh : w.heap.size ≤ h) (hne : g ≠ h) : Kids2 w ((((((((w2.setCell ⟨g, 0, none⟩ (.int .i64 x0)).setCell ⟨g, 1, none⟩ (.int .i64 x1)).setCell ⟨g, 2, none⟩ (.int .i64 x2)).setCell ⟨g, 3, none⟩ (.int .i64 x3)).setCell ⟨h, 0, none⟩ (.int .i64 y0)).setCell ⟨h, 1, none⟩ (.int .i64 y1)).setCell ⟨h, 2, none⟩ (.int .i64 y2)).setCell ⟨h, 3, none⟩ (.int .i64 y3)) x0 x1 x2 x3 y0 y1 y2 y3 (.pointer (some ⟨g, 0, none⟩)) (.pointer (some ⟨h, 0, none⟩)) := by
  obtain ⟨h1, h2⟩ := set4 (x0 := x0) (x1 := x1) (x2 := x2) (x3 := x3) k
  have q' : CellsAt ((((w2.setCell ⟨g, 0, none⟩ (.int .i64 x0)).setCell ⟨g, 1, none⟩ (.int .i64 x1)).setCell ⟨g, 2, none⟩ (.int .i64 x2)).setCell ⟨g, 3, none⟩ (.int .i64 x3)) h #[.int .i64 0, .int .i64 0, .int .i64 0, .int .i64 0] 242 := by
    unfold CellsAt; rw [h2.block h (Ne.symm hne)]; exact q
  obtain ⟨h3, h4⟩ := set4 (x0 := y0) (x1 := y1) (x2 := y2) (x3 := y3) q'
  refine ⟨_, _, rfl, rfl, ?_, h3, (b.trans (h2.below hg)).trans (h4.below hh), hg, hh⟩
  unfold CellsAt
  rw [h4.block g hne]
  exact h1

end Go.Proofs.YtihkljfcplfldaaGreat
