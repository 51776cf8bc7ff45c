/-
  Contract of tree.Differ and of the function in it that calls itself. Nothing here is trusted.
-/
import Derived.Test.YtaagnojdpediladTree9
import Derived.Deep.RegionHeld3
import Derived.Lib.AppendZeros
import Derived.Laws.AppendOwnNone
import Derived.Maps.AppendAt
set_option linter.unusedVariables false
namespace Go.Proofs.Ytaagnojdpedilad
open Go.RowKit

/-- at which of the first k places the leaves differ -/
def diffTo (B : Nat → Blk) (l : Nat) (a b : Int) (k : Nat) : List Nat := (List.range k).filter (fun j => decide (leafAt B l a j ≠ leafAt B l b j))
/-- these, counted from first on -/
def diffs (B : Nat → Blk) (l : Nat) (a b : Int) (first : Nat) : List Int := (diffTo B l a b (pw l)).map (fun j => ((first + j : Nat) : Int))
def diffsTo (B : Nat → Blk) (l : Nat) (a b : Int) (first k : Nat) : List Int := (diffTo B l a b k).map (fun j => ((first + j : Nat) : Int))
theorem diffs_same (B : Nat → Blk) (l : Nat) (a : Int) (first : Nat) : diffs B l a a first = [] := by simp [diffs, diffTo]
theorem diffs_leaf (B : Nat → Blk) (a b : Int) (first : Nat) : diffs B 0 a b first = if bytesL B a = bytesL B b then [] else [(first : Int)] := by
  simp only [diffs, diffTo, pw, leafAt]
  by_cases h : bytesL B a = bytesL B b <;> simp [h, List.range_succ]
theorem diffsTo_next (B : Nat → Blk) (l : Nat) (a b : Int) (first j : Nat) : diffsTo B (l + 1) a b first ((j + 1) * pw l) = diffsTo B (l + 1) a b first (j * pw l) ++ diffs B l ((kidsL B a).getD j 0) ((kidsL B b).getD j 0) (first + j * pw l) := by
  have hp := pw_pos l
  unfold diffsTo diffs diffTo
  rw [Nat.add_mul, Nat.one_mul, List.range_add, List.filter_append, List.map_append, List.filter_map, List.map_map]
  congr 1
  have e : ∀ (c : Int) r, r < pw l → leafAt B (l + 1) c (j * pw l + r) = leafAt B l ((kidsL B c).getD j 0) r := by
    intro c r hr
    simp only [leafAt]
    rw [Nat.mul_comm, Nat.mul_add_div hp, Nat.mul_add_mod, Nat.div_eq_of_lt hr, Nat.mod_eq_of_lt hr, Nat.add_zero]
  have e2 : (List.range (pw l)).filter ((fun j_1 => decide (leafAt B (l + 1) a j_1 ≠ leafAt B (l + 1) b j_1)) ∘ fun x => j * pw l + x) = (List.range (pw l)).filter (fun r => decide (leafAt B l ((kidsL B a).getD j 0) r ≠ leafAt B l ((kidsL B b).getD j 0) r)) := by
    apply List.filter_congr
    intro r hr
    have hr' := List.mem_range.1 hr
    simp only [Function.comp]
    rw [e a r hr', e b r hr']
  rw [e2]
  apply List.map_congr_left
  intro r _
  simp only [Function.comp]
  omega
theorem diffsTo_all (B : Nat → Blk) (l : Nat) (a b : Int) (first : Nat) : diffsTo B (l + 1) a b first (4 * pw l) = diffs B (l + 1) a b first := rfl

theorem diffTo_length (B : Nat → Blk) (l : Nat) (a b : Int) (k : Nat) : (diffTo B l a b k).length ≤ k := by
  have := List.length_filter_le (fun j => decide (leafAt B l a j ≠ leafAt B l b j)) (List.range k)
  simpa [diffTo] using this
theorem diffs_length (B : Nat → Blk) (l : Nat) (a b : Int) (first : Nat) : (diffs B l a b first).length ≤ pw l := by
  rw [diffs, List.length_map]; exact diffTo_length _ _ _ _ _
theorem diffsTo_length (B : Nat → Blk) (l : Nat) (a b : Int) (first k : Nat) : (diffsTo B l a b first k).length ≤ k := by
  rw [diffsTo, List.length_map]; exact diffTo_length _ _ _ _ _

theorem ownsRow_below {w w' : World} {base : Nat} {e : TypeId} {v : Value} {n : Nat} {xs : List Value} (h : w.ownsRow base e 1 v n xs) (b : Below w.heap.size w w') : w'.ownsRow base e 1 v n xs := by
  refine h.kept (row := none) ⟨b.os, b.tape, b.output, b.size, fun k hk _ => b.block k hk⟩ ?_
  cases hv : v.ownBlock with
  | none => exact .inl rfl
  | some k => exact .inr (by simp)

/-- what the closure of Differ finds; W is the world ahead of Differ; z is above all that was laid for it; the places' row lies in no block of K -/
structure DE (W w : World) (sb pb wb z : Nat) (a : Option Addr) (n c : Nat) (K : Nat → Prop) (L : List Int) : Prop where
  bel : Below W.heap.size W w
  s : w.cell? ⟨sb, 0, none⟩ = some (.slice a n c)
  slt : sb < w.heap.size
  fn : w.cell? ⟨wb, 0, none⟩ = some (.func (.func 18) #[] #[.pointer (some ⟨sb, 0, none⟩), .pointer (some ⟨pb, 0, none⟩), .pointer (some ⟨wb, 0, none⟩)])
  wlt : wb < w.heap.size
  places : ∃ v, CellsAt w pb #[v] 35 ∧ w.ownsRow z 3 1 v L.length (L.map (Value.int .i64)) ∧ ∀ k, K k → v.ownBlock ≠ some k
  ge : W.heap.size ≤ pb ∧ pb < z ∧ sb < z ∧ wb < z ∧ z ≤ w.heap.size
  ne : sb ≠ pb ∧ wb ≠ pb
  klt : ∀ k, K k → k < w.heap.size ∧ k ≠ pb
theorem DE.below {W w w' : World} {sb pb wb z : Nat} {a : Option Addr} {n c : Nat} {K : Nat → Prop} {L : List Int} (h : DE W w sb pb wb z a n c K L) (b : Below w.heap.size w w') : DE W w' sb pb wb z a n c K L := by
  obtain ⟨v, h1, h2, h3⟩ := h.places
  obtain ⟨g1, g2, g3, g4, g5⟩ := h.ge
  have hs := b.size
  exact ⟨h.bel.trans (b.mono h.bel.size), (b.cell (p := ⟨sb, 0, none⟩) h.slt).trans h.s, Nat.lt_of_lt_of_le h.slt b.size, (b.cell (p := ⟨wb, 0, none⟩) h.wlt).trans h.fn, Nat.lt_of_lt_of_le h.wlt b.size, ⟨v, h1.below b, ownsRow_below h2 b, h3⟩, ⟨g1, g2, g3, g4, by omega⟩, h.ne, fun k hk => by have := h.klt k hk; omega⟩
/-- blocks that are newer than the places' row -/
theorem DE.more {W w w' : World} {sb pb wb z : Nat} {a : Option Addr} {n c : Nat} {K : Nat → Prop} {L : List Int} (h : DE W w sb pb wb z a n c K L) (b : Below w.heap.size w w') {lb rb : Nat} (hl : w.heap.size ≤ lb) (hr : w.heap.size ≤ rb) (hl' : lb < w'.heap.size) (hr' : rb < w'.heap.size) : DE W w' sb pb wb z a n c (fun k => K k ∨ k = lb ∨ k = rb) L := by
  have h' := h.below b
  obtain ⟨v, h1, h2, h3⟩ := h.places
  have hpb := h1.lt
  refine ⟨h'.bel, h'.s, h'.slt, h'.fn, h'.wlt, ⟨v, h1.below b, ownsRow_below h2 b, fun k hk e => ?_⟩, h'.ge, h'.ne, fun k hk => ?_⟩
  · have := (h2.lt k e).2
    rcases hk with hk | rfl | rfl
    · exact h3 k hk e
    · omega
    · omega
  · rcases hk with hk | rfl | rfl
    · exact h'.klt k hk
    · omega
    · omega
theorem DE.less {W w : World} {sb pb wb z : Nat} {a : Option Addr} {n c : Nat} {K K' : Nat → Prop} {L : List Int} (h : DE W w sb pb wb z a n c K L) (hk : ∀ k, K' k → K k) : DE W w sb pb wb z a n c K' L := by
  obtain ⟨v, h1, h2, h3⟩ := h.places
  exact ⟨h.bel, h.s, h.slt, h.fn, h.wlt, ⟨v, h1, h2, fun k h => h3 k (hk k h)⟩, h.ge, h.ne, fun k h' => h.klt k (hk k h')⟩
theorem DE.push {W w w3 : World} {sb pb wb z : Nat} {a : Option Addr} {n c : Nat} {K : Nat → Prop} {L : List Int} {v v' : Value} {x : Int} (h : DE W w sb pb wb z a n c K L) (hv : CellsAt w pb #[v] 35) (hown : w.ownsRow z 3 1 v L.length (L.map (Value.int .i64))) (hK : ∀ k, K k → v.ownBlock ≠ some k)
    (hrow : w3.ownsRow z 3 1 v' (L.length + 1) (L.map (Value.int .i64) ++ [.int .i64 x])) (hg : w.grownBy w3 v.ownBlock) (hat : v'.ownBlock = v.ownBlock ∨ v'.ownBlock = some w.heap.size) :
    DE W (w3.setCell ⟨pb, 0, none⟩ v') sb pb wb z a n c K (L ++ [x]) ∧ CellsAt w3 pb #[v] 35 ∧ ∀ k, K k → (w3.setCell ⟨pb, 0, none⟩ v').heap[k]? = w.heap[k]? := by
  obtain ⟨n1, n2⟩ := h.ne
  obtain ⟨g1, g2, g3, g4, g5⟩ := h.ge
  have hs := hg.size
  have hslt := h.slt
  have hwlt := h.wlt
  have hpl := hv.lt
  have far : ∀ k, k < z → some k ≠ v.ownBlock := fun k hk e => by have := (hown.lt k e.symm).1; omega
  have hk : Kept pb w3 (w3.setCell ⟨pb, 0, none⟩ v') := Kept.setCell (Kept.refl _ _) (p := ⟨pb, 0, none⟩) rfl _
  have hp3 : CellsAt w3 pb #[v] 35 := by
    unfold CellsAt
    rw [hg.block pb hpl (far pb g2)]
    exact hv
  refine ⟨⟨?_, ?_, by rw [hk.size]; omega, ?_, by rw [hk.size]; omega, ⟨v', ?_, ?_, fun k hk' e => ?_⟩, ⟨g1, g2, g3, g4, by rw [hk.size]; omega⟩, h.ne, fun k hk' => by have := h.klt k hk'; rw [hk.size]; omega⟩, hp3, fun k hk' => (hk.block k (h.klt k hk').2).trans (hg.block k (h.klt k hk').1 (fun e => hK k hk' e.symm))⟩
  · exact (h.bel.grown hg h.bel.size (fun k hk' => by have := (hown.lt k hk').1; omega)).trans (hk.below g1)
  · exact ((hk.cell (p := ⟨sb, 0, none⟩) n1).trans (World.cell?_of_block (a := ⟨sb, 0, none⟩) (hg.block sb hslt (far sb g3)))).trans h.s
  · exact ((hk.cell (p := ⟨wb, 0, none⟩) n2).trans (World.cell?_of_block (a := ⟨wb, 0, none⟩) (hg.block wb hwlt (far wb g4)))).trans h.fn
  · have := hp3.set 0 v'
    simpa using this
  · have e : (L ++ [x]).length = L.length + 1 := by simp
    rw [e, List.map_append]
    refine hrow.kept (row := some pb) ⟨hk.os, hk.tape, hk.output, Nat.le_of_eq hk.size.symm, fun k _ hne => hk.block k (fun e => hne (by rw [e]))⟩ ?_
    right
    intro e
    have := (hrow.lt pb e).1
    omega
  · rcases hat with h1 | h1
    · exact hK k hk' (h1 ▸ e)
    · rw [h1] at e
      have := (h.klt k hk').1
      cases e
      omega

theorem zero4 {w : World} {g : Nat} {t : TypeId} (k : CellsAt w g #[.int .i64 0, .int .i64 0, .int .i64 0, .int .i64 0] t) :
    w.cell? ⟨g, 0, none⟩ = some (.int .i64 0) ∧ w.cell? ⟨g, 1, none⟩ = some (.int .i64 0) ∧ w.cell? ⟨g, 2, none⟩ = some (.int .i64 0) ∧ w.cell? ⟨g, 3, none⟩ = some (.int .i64 0) ∧
    w.frozen? ⟨g, 0, none⟩ = false ∧ w.frozen? ⟨g, 1, none⟩ = false ∧ w.frozen? ⟨g, 2, none⟩ = false ∧ w.frozen? ⟨g, 3, none⟩ = false :=
  ⟨k.cell 0, k.cell 1, k.cell 2, k.cell 3, k.frozen 0, k.frozen 1, k.frozen 2, k.frozen 3⟩

/-- the blocks of K are as they were -/
def SameK (K : Nat → Prop) (w w' : World) : Prop := ∀ k, K k → w'.heap[k]? = w.heap[k]?
/-- two arrays of kids, in memory -/
def Kids2 (w wc : World) (x0 x1 x2 x3 y0 y1 y2 y3 : Int) (u v : Value) : Prop :=
  ∃ lb rb, u = .pointer (some ⟨lb, 0, none⟩) ∧ v = .pointer (some ⟨rb, 0, none⟩) ∧ CellsAt wc lb #[.int .i64 x0, .int .i64 x1, .int .i64 x2, .int .i64 x3] 56 ∧ CellsAt wc rb #[.int .i64 y0, .int .i64 y1, .int .i64 y2, .int .i64 y3] 56 ∧ Below w.heap.size w wc ∧ w.heap.size ≤ lb ∧ w.heap.size ≤ rb

theorem set4 {w : World} {g : Nat} {x0 x1 x2 x3 : Int} (k : CellsAt w g #[.int .i64 0, .int .i64 0, .int .i64 0, .int .i64 0] 56) : CellsAt ((((w.setCell ⟨g, 0, none⟩ (.int .i64 x0)).setCell ⟨g, 1, none⟩ (.int .i64 x1)).setCell ⟨g, 2, none⟩ (.int .i64 x2)).setCell ⟨g, 3, none⟩ (.int .i64 x3)) g #[.int .i64 x0, .int .i64 x1, .int .i64 x2, .int .i64 x3] 56 ∧ Kept g w ((((w.setCell ⟨g, 0, none⟩ (.int .i64 x0)).setCell ⟨g, 1, none⟩ (.int .i64 x1)).setCell ⟨g, 2, none⟩ (.int .i64 x2)).setCell ⟨g, 3, none⟩ (.int .i64 x3)) := by
  refine ⟨?_, Kept.setCell (g := g) (Kept.setCell (g := g) (Kept.setCell (g := g) (Kept.setCell (g := g) (Kept.refl _ _) (p := ⟨g, 0, none⟩) rfl _) (p := ⟨g, 1, none⟩) rfl _) (p := ⟨g, 2, none⟩) rfl _) (p := ⟨g, 3, none⟩) rfl _⟩
  have h := (((k.set 0 (.int .i64 x0)).set 1 (.int .i64 x1)).set 2 (.int .i64 x2)).set 3 (.int .i64 x3)
  simpa using h
theorem kids2_1 {w w2 : World} {x0 x1 x2 x3 y0 y1 y2 y3 : Int} (b : Below w.heap.size w w2) : Kids2 w ((w2.alloc (.cells #[.int .i64 x0, .int .i64 x1, .int .i64 x2, .int .i64 x3] 56)).alloc (.cells #[.int .i64 y0, .int .i64 y1, .int .i64 y2, .int .i64 y3] 56)) x0 x1 x2 x3 y0 y1 y2 y3 (.pointer (some ⟨w2.heap.size, 0, none⟩)) (.pointer (some ⟨w2.heap.size + 1, 0, none⟩)) :=
  ⟨_, _, rfl, rfl, (cellsAt_alloc w2 _ _).below (below_alloc _ _), cellsAt_alloc2 w2 _ _ _, (b.alloc b.size _).alloc (by have := b.size; simp; omega) _, by have := b.size; omega, by have := b.size; omega⟩
theorem kids2_2 {w w2 : World} {x0 x1 x2 x3 y0 y1 y2 y3 : Int} (b : Below w.heap.size w w2) : Kids2 w ((w2.alloc (.cells #[.int .i64 y0, .int .i64 y1, .int .i64 y2, .int .i64 y3] 56)).alloc (.cells #[.int .i64 x0, .int .i64 x1, .int .i64 x2, .int .i64 x3] 56)) x0 x1 x2 x3 y0 y1 y2 y3 (.pointer (some ⟨w2.heap.size + 1, 0, none⟩)) (.pointer (some ⟨w2.heap.size, 0, none⟩)) :=
  ⟨_, _, rfl, rfl, cellsAt_alloc2 w2 _ _ _, (cellsAt_alloc w2 _ _).below (below_alloc _ _), (b.alloc b.size _).alloc (by have := b.size; simp; omega) _, by have := b.size; omega, by have := b.size; omega⟩
theorem kids2_3 {w w2 : World} {g : Nat} {x0 x1 x2 x3 y0 y1 y2 y3 : Int} (b : Below w.heap.size w w2) (k : CellsAt w2 g #[.int .i64 0, .int .i64 0, .int .i64 0, .int .i64 0] 56) (hg : w.heap.size ≤ g) : Kids2 w (((((w2.setCell ⟨g, 0, none⟩ (.int .i64 x0)).setCell ⟨g, 1, none⟩ (.int .i64 x1)).setCell ⟨g, 2, none⟩ (.int .i64 x2)).setCell ⟨g, 3, none⟩ (.int .i64 x3)).alloc (.cells #[.int .i64 y0, .int .i64 y1, .int .i64 y2, .int .i64 y3] 56)) x0 x1 x2 x3 y0 y1 y2 y3 (.pointer (some ⟨g, 0, none⟩)) (.pointer (some ⟨w2.heap.size, 0, none⟩)) := by
  obtain ⟨h1, h2⟩ := set4 (x0 := x0) (x1 := x1) (x2 := x2) (x3 := x3) k
  have h3 := cellsAt_alloc ((((w2.setCell ⟨g, 0, none⟩ (.int .i64 x0)).setCell ⟨g, 1, none⟩ (.int .i64 x1)).setCell ⟨g, 2, none⟩ (.int .i64 x2)).setCell ⟨g, 3, none⟩ (.int .i64 x3)) #[.int .i64 y0, .int .i64 y1, .int .i64 y2, .int .i64 y3] 56
  rw [h2.size] at h3
  exact ⟨_, _, rfl, rfl, h1.below (below_alloc _ _), h3, (b.trans (h2.below hg)).alloc (by rw [h2.size]; exact b.size) _, by have := b.size; omega, by have := b.size; omega⟩
theorem kids2_4 {w w2 : World} {g : Nat} {x0 x1 x2 x3 y0 y1 y2 y3 : Int} (b : Below w.heap.size w w2) (k : CellsAt w2 g #[.int .i64 0, .int .i64 0, .int .i64 0, .int .i64 0] 56) (hg : w.heap.size ≤ g) : Kids2 w (((((w2.setCell ⟨g, 0, none⟩ (.int .i64 y0)).setCell ⟨g, 1, none⟩ (.int .i64 y1)).setCell ⟨g, 2, none⟩ (.int .i64 y2)).setCell ⟨g, 3, none⟩ (.int .i64 y3)).alloc (.cells #[.int .i64 x0, .int .i64 x1, .int .i64 x2, .int .i64 x3] 56)) x0 x1 x2 x3 y0 y1 y2 y3 (.pointer (some ⟨w2.heap.size, 0, none⟩)) (.pointer (some ⟨g, 0, none⟩)) := by
  obtain ⟨h1, h2⟩ := set4 (x0 := y0) (x1 := y1) (x2 := y2) (x3 := y3) k
  have h3 := cellsAt_alloc ((((w2.setCell ⟨g, 0, none⟩ (.int .i64 y0)).setCell ⟨g, 1, none⟩ (.int .i64 y1)).setCell ⟨g, 2, none⟩ (.int .i64 y2)).setCell ⟨g, 3, none⟩ (.int .i64 y3)) #[.int .i64 x0, .int .i64 x1, .int .i64 x2, .int .i64 x3] 56
  rw [h2.size] at h3
  exact ⟨_, _, rfl, rfl, h3, h1.below (below_alloc _ _), (b.trans (h2.below hg)).alloc (by rw [h2.size]; exact b.size) _, by have := b.size; omega, by have := b.size; omega⟩
theorem kids2_5 {w w2 : World} {g h : Nat} {x0 x1 x2 x3 y0 y1 y2 y3 : Int} (b : Below w.heap.size w w2) (k : CellsAt w2 g #[.int .i64 0, .int .i64 0, .int .i64 0, .int .i64 0] 56) (q : CellsAt w2 h #[.int .i64 0, .int .i64 0, .int .i64 0, .int .i64 0] 56) (hg : w.heap.size ≤ g) (hh : w.heap.size ≤ h) (hne : g ≠ h) : Kids2 w ((((((((w2.setCell ⟨g, 0, none⟩ (.int .i64 x0)).setCell ⟨g, 1, none⟩ (.int .i64 x1)).setCell ⟨g, 2, none⟩ (.int .i64 x2)).setCell ⟨g, 3, none⟩ (.int .i64 x3)).setCell ⟨h, 0, none⟩ (.int .i64 y0)).setCell ⟨h, 1, none⟩ (.int .i64 y1)).setCell ⟨h, 2, none⟩ (.int .i64 y2)).setCell ⟨h, 3, none⟩ (.int .i64 y3)) x0 x1 x2 x3 y0 y1 y2 y3 (.pointer (some ⟨g, 0, none⟩)) (.pointer (some ⟨h, 0, none⟩)) := by
  obtain ⟨h1, h2⟩ := set4 (x0 := x0) (x1 := x1) (x2 := x2) (x3 := x3) k
  have q' : CellsAt ((((w2.setCell ⟨g, 0, none⟩ (.int .i64 x0)).setCell ⟨g, 1, none⟩ (.int .i64 x1)).setCell ⟨g, 2, none⟩ (.int .i64 x2)).setCell ⟨g, 3, none⟩ (.int .i64 x3)) h #[.int .i64 0, .int .i64 0, .int .i64 0, .int .i64 0] 56 := by
    unfold CellsAt; rw [h2.block h (Ne.symm hne)]; exact q
  obtain ⟨h3, h4⟩ := set4 (x0 := y0) (x1 := y1) (x2 := y2) (x3 := y3) q'
  refine ⟨_, _, rfl, rfl, ?_, h3, (b.trans (h2.below hg)).trans (h4.below hh), hg, hh⟩
  unfold CellsAt
  rw [h4.block g hne]
  exact h1

set_option maxHeartbeats 4000000 in
set_option maxRecDepth 100000 in
theorem diffWalk_any (W : World) (a : Option Addr) (n c : Nat) (B : Nat → Blk) (sb pb wb z : Nat) (hS : StoreAt W a n B) (hR : Right n B) (l : Nat) :
    ∀ (x y : Int) (first : Nat) (L : List Int) (K : Nat → Prop) (w : World), l ≤ 3 → Root n B l x → Root n B l y → first + pw l ≤ 64 → L.length ≤ first → DE W w sb pb wb z a n c K L →
    Calls Try.prog 18 #[.agg #[.int .i64 x, .int .i64 y], .int .i64 l, .int .i64 first, .pointer (some ⟨sb, 0, none⟩), .pointer (some ⟨pb, 0, none⟩), .pointer (some ⟨wb, 0, none⟩)] w fun e w' => e = .returned (.tuple #[]) ∧ DE W w' sb pb wb z a n c K (L ++ diffs B l x y first) ∧ SameK K w w' := by
  obtain ⟨i0, hi0, hz0, hz1, hz2⟩ := info_parts Try.infoInt
  have hn := hR.small
  induction l with
  | zero =>
    intro x y first L K w hl hrx hry hf hL hE
    have bp := below_alloc w (.cells #[.int .i64 x, .int .i64 y] 50)
    have kp := cellsAt_alloc w #[.int .i64 x, .int .i64 y] 50
    have hE0 := hid (hE.below bp)
    replace hE := hid hE
    have px := kp.cell 0
    have py := kp.cell 1
    simp only [List.getElem?_toArray, List.getElem?_cons_zero, List.getElem?_cons_succ] at px py
    replace hS := hid hS
    replace hR := hid hR
    by_cases hxy : x = y
    · subst hxy
      rw [diffs_same, List.append_nil]
      clear px py
      replace kp := hid kp
      go_enter Try.func18, Try.ntmps18
      go_wp2_with fail
      exact bodyPost_ret (results_none rfl _ _ _) rfl ⟨rfl, hE0.out, fun k hk => bp.block k (hE.out.klt k hk).1⟩
    · have hxy' : (x == y) = false := by simp [hxy]
      have hx : x = 0 ∨ There n B x := hrx.imp id (·.1)
      have hy : y = 0 ∨ There n B y := hry.imp id (·.1)
      have hx4 : (bytesL B x).length ≤ 4 := by rw [hrx.leaf hR.out]; split <;> omega
      have hy4 : (bytesL B y).length ≤ 4 := by rw [hry.leaf hR.out]; split <;> omega
      replace kp := hid kp
      go_enter Try.func18, Try.ntmps18
      go_upto_region 3 with fail
      generalize w.alloc (.cells #[.int .i64 x, .int .i64 y] 50) = w0 at *
      have s0 := hE0.out.s
      have hS0 := hid (hS.out.below hE0.out.bel)
      go_cut [26] from 19 (fun v wc => v = .bool (!decide (bytesL B x = bytesL B y)) ∧ Below w0.heap.size w0 wc)
      case first =>
        go_region_with (first | (go_at_call_of 20 (Value.int .i64 x); refine Calls.mono (bytesOf_any ⟨sb, 0, none⟩ a n c B x _ hn ?_ ?_ hx) ?_; exact s0; exact hS0.out.below (below_drew _ _); rintro e w1 ⟨⟨xa, xn, xc, rfl, hNx⟩, rfl⟩; replace hNx := hid hNx) | (go_at_call_of 20 (Value.int .i64 y); refine Calls.mono (bytesOf_any ⟨sb, 0, none⟩ a n c B y _ hn ?_ ?_ hy) ?_; exact s0; exact hS0.out.below (below_drew _ _); rintro e w1 ⟨⟨ya, yn, yc, rfl, hNy⟩, rfl⟩; replace hNy := hid hNy) | (go_at_call 19; refine Calls.mono (equalBytes_any xa ya xn yn xc yc (fun _ => True) (fun _ => True) (bytesL B x) (bytesL B y) _ ?_ ?_ hNx.out hNy.out) ?_; (have := hNx.out.1; omega); (have := hNy.out.1; omega); rintro e w2 ⟨⟨t, rfl, ht⟩, q, rfl⟩; have ht' : t = decide (bytesL B x = bytesL B y) := (by cases t <;> simp at ht <;> simp [ht]); subst ht'; clear ht))
        all_goals (go_wp2_with fail; go_meet; exact ⟨rfl, below_drewN _ _ _⟩)
      case rest =>
        obtain ⟨rfl, bc0⟩ := hcut
        rename_i wc
        replace hE0 := hid (hE0.out.below bc0)
        have bpc := hid (Below.tr bp bc0)
        clear bc0 s0 hS0 px py kp
        by_cases hb : bytesL B x = bytesL B y
        · have hd : decide (bytesL B x = bytesL B y) = true := decide_eq_true hb
          have hfin : Hid (DE W wc sb pb wb z a n c K (L ++ diffs B 0 x y first)) := hid (by rw [diffs_leaf, if_pos hb, List.append_nil]; exact hE0.out)
          rw [hd]
          clear hd hb
          go_wp2_with fail
          exact bodyPost_ret (results_none rfl _ _ _) rfl ⟨rfl, hfin.out, fun k hk => bpc.out.block k (hE.out.klt k hk).1⟩
        · have hd : decide (bytesL B x = bytesL B y) = false := decide_eq_false hb
          rw [hd]
          have bz := below_alloc wc (.cells #[.int .i64 (first : Int)] 3)
          have hE1 := hE0.out.below bz
          obtain ⟨v, hv, hown, hKv⟩ := hE1.places
          obtain ⟨v', w3, hrun, hrow3, hg3, _, hat⟩ := run_append_own_at (P := Try.prog) (wc.alloc (.cells #[.int .i64 (first : Int)] 3)) z 35 35 3 i0 (.int .i64 0) 1 8 Try.underlying35 hi0 hz0 hz1 hz2 rfl (by decide) v L.length _ hown ⟨wc.heap.size, 0, none⟩ 1 1 [.int .i64 (first : Int)] rfl (news_one _ _ _) (fun u hu => by simp at hu; subst hu; rfl) (by unfold maxLen; simp only [pw] at hf; omega) (by simp only [pw] at hf; omega) hE1.ge.2.2.2.2
          have hform : ∃ g' cap', v' = .slice (some ⟨g', 0, none⟩) (L.length + 1) cap' := by
            rcases hrow3.2 with ⟨_, h⟩ | ⟨g', cap', cur, h, _⟩
            · omega
            · exact ⟨g', cap', h⟩
          obtain ⟨g', cap', rfl⟩ := hform
          obtain ⟨hfin, hp3, hsk⟩ := hE1.push hv hown hKv hrow3 hg3 hat
          have hsk' : Hid (SameK K w (w3.setCell ⟨pb, 0, none⟩ (.slice (some ⟨g', 0, none⟩) (L.length + 1) cap'))) := hid (fun k hk => (hsk k hk).trans ((Below.tr bpc.out bz).block k (hE.out.klt k hk).1))
          have hv0 : wc.cell? ⟨pb, 0, none⟩ = some v := by
            obtain ⟨v0, hv0, _, _⟩ := hE0.out.places
            have e := (hv0.below bz).cell 0
            rw [hv.cell 0] at e
            simp at e
            rw [e]
            exact hv0.cell 0
          have m3 := hp3.cell 0
          have f3 := hp3.frozen 0
          simp only [List.getElem?_toArray, List.getElem?_cons_zero] at m3
          have hfin' : Hid (DE W (w3.setCell ⟨pb, 0, none⟩ (.slice (some ⟨g', 0, none⟩) (L.length + 1) cap')) sb pb wb z a n c K (L ++ diffs B 0 x y first)) := hid (by rw [diffs_leaf, if_neg hb]; exact hfin)
          clear hd hb hfin hp3 hrow3 hg3 hown hv hE1 bz hKv hat hsk
          go_wp2_with (at_builtin; refine Lib.wpList_append_run _ rfl _ _ _ _ rfl _ _ rfl rfl _ _ hrun ?_)
          exact bodyPost_ret (results_none rfl _ _ _) rfl ⟨rfl, hfin'.out, hsk'.out⟩
  | succ l ih =>
    intro x y first L K w hl hrx hry hf hL hE
    have bp := below_alloc w (.cells #[.int .i64 x, .int .i64 y] 50)
    have kp := cellsAt_alloc w #[.int .i64 x, .int .i64 y] 50
    have hE0 := hid (hE.below bp)
    replace hE := hid hE
    have px := kp.cell 0
    have py := kp.cell 1
    simp only [List.getElem?_toArray, List.getElem?_cons_zero, List.getElem?_cons_succ] at px py
    have hlp := kp.lt
    have hP0 : PtrAt _ ⟨sb, 0, none⟩ a n c B := ⟨hE0.out.slt, hE0.out.s, hS.below hE0.out.bel⟩
    by_cases hxy : x = y
    · subst hxy
      rw [diffs_same, List.append_nil]
      clear px py
      replace hP0 := hid hP0
      replace hS := hid hS
      replace hR := hid hR
      replace kp := hid kp
      replace ih := hid ih
      go_enter Try.func18, Try.ntmps18
      go_wp2_with fail
      exact bodyPost_ret (results_none rfl _ _ _) rfl ⟨rfl, hE0.out, fun k hk => bp.block k (hE.out.klt k hk).1⟩
    · have hxy' : (x == y) = false := by simp [hxy]
      obtain ⟨x0, x1, x2, x3, hkx⟩ := four (hrx.len hR)
      obtain ⟨y0, y1, y2, y3, hky⟩ := four (hry.len hR)
      have hx : x = 0 ∨ There n B x := hrx.imp id (·.1)
      have hy : y = 0 ∨ There n B y := hry.imp id (·.1)
      replace hP0 := hid hP0
      replace hS := hid hS
      replace hR := hid hR
      replace kp := hid kp
      replace ih := hid ih
      go_enter Try.func18, Try.ntmps18
      go_upto_region 5 with fail
      generalize w.alloc (.cells #[.int .i64 x, .int .i64 y] 50) = w0 at *
      go_cut [9, 10] from 31 (fun u v wc => Kids2 w0 wc x0 x1 x2 x3 y0 y1 y2 y3 u v)
      case first =>
        have hPa := hid (hP0.out.below (below_drew _ _))
        have hPb := hid ((hP0.out.below (below_alloc _ (.cells #[.int .i64 0, .int .i64 0, .int .i64 0, .int .i64 0] 56))).below (below_drew _ _))
        have hPc := hid (((hP0.out.below (below_alloc _ (.cells #[.int .i64 0, .int .i64 0, .int .i64 0, .int .i64 0] 56))).below (below_alloc _ (.cells #[.int .i64 0, .int .i64 0, .int .i64 0, .int .i64 0] 56))).below (below_drew _ _))
        have nn1 := Nat.ne_of_lt hlp
        have nn2 := nn1.symm
        have nn3 : w0.heap.size + 1 ≠ w.heap.size := by omega
        have nn4 := nn3.symm
        have ba := hid (below_drew w0.heap.size w0)
        have bb := hid ((below_alloc w0 (.cells #[.int .i64 0, .int .i64 0, .int .i64 0, .int .i64 0] 56)).drew)
        have bc := hid (((below_alloc w0 (.cells #[.int .i64 0, .int .i64 0, .int .i64 0, .int .i64 0] 56)).alloc (by simp) (.cells #[.int .i64 0, .int .i64 0, .int .i64 0, .int .i64 0] 56)).drew)
        have kb0 : Hid (CellsAt (w0.alloc (.cells #[.int .i64 0, .int .i64 0, .int .i64 0, .int .i64 0] 56)).drew w0.heap.size #[.int .i64 0, .int .i64 0, .int .i64 0, .int .i64 0] 56) := hid ((cellsAt_alloc w0 _ _).below (below_drew _ _))
        have kc0 : Hid (CellsAt ((w0.alloc (.cells #[.int .i64 0, .int .i64 0, .int .i64 0, .int .i64 0] 56)).alloc (.cells #[.int .i64 0, .int .i64 0, .int .i64 0, .int .i64 0] 56)).drew w0.heap.size #[.int .i64 0, .int .i64 0, .int .i64 0, .int .i64 0] 56) := hid (((cellsAt_alloc w0 _ _).below (below_alloc _ _)).below (below_drew _ _))
        have kc1 : Hid (CellsAt ((w0.alloc (.cells #[.int .i64 0, .int .i64 0, .int .i64 0, .int .i64 0] 56)).alloc (.cells #[.int .i64 0, .int .i64 0, .int .i64 0, .int .i64 0] 56)).drew (w0.heap.size + 1) #[.int .i64 0, .int .i64 0, .int .i64 0, .int .i64 0] 56) := hid ((cellsAt_alloc2 w0 (.cells #[.int .i64 0, .int .i64 0, .int .i64 0, .int .i64 0] 56) _ _).below (below_drew _ _))
        have kp0 := hid kp.out
        go_region_held3 (fun w' => w'.cell? ⟨w.heap.size, 0, none⟩ = some (.int .i64 x) ∧ w'.cell? ⟨w.heap.size, 1, none⟩ = some (.int .i64 y)) (first | go_keep | assumption) (first | (go_at_call_of 21 (Value.int .i64 x); refine Calls.mono (kidsOf_any ⟨sb, 0, none⟩ a n c B x x0 x1 x2 x3 _ hn ?_ hx hkx) ?_; (first | with_reducible exact hPa.out | with_reducible exact hPb.out | with_reducible exact hPc.out); rintro e w1 ⟨rfl, b1⟩; (first | (with_reducible have b01 := hid (Below.tr ba.out b1)) | (with_reducible have b01 := hid (Below.tr bb.out b1); have q0 := hid (kb0.out.below b1)) | (with_reducible have b01 := hid (Below.tr bc.out b1); have q0 := hid (kc0.out.below b1); have q1 := hid (kc1.out.below b1))); have hP1 := hid (hP0.out.below b01.out); have kp1 := kp0.out.below b01.out; have px1 := kp1.cell 0; have py1 := kp1.cell 1; simp only [List.getElem?_toArray, List.getElem?_cons_zero, List.getElem?_cons_succ] at px1 py1; have hs01 := b01.out.size; have lt1 : w.heap.size < w1.heap.size := (by omega); have ne1 := Nat.ne_of_lt lt1; have ne1' := ne1.symm; have ne2 : w1.heap.size + 1 ≠ w.heap.size := (by omega); have ne2' := ne2.symm; (try (have lq0 := q0.out.lt; have ne3 := Nat.ne_of_lt lq0; have ne3' := ne3.symm)); (try (have lq1 := q1.out.lt)); clear b1 kp1) | (go_at_call_of 21 (Value.int .i64 y); refine Calls.mono (kidsOf_any ⟨sb, 0, none⟩ a n c B y y0 y1 y2 y3 _ hn ?_ hy hky) ?_; (first | with_reducible exact hP1.out | with_reducible exact hP1.out.below (below_alloc _ (.cells #[.int .i64 0, .int .i64 0, .int .i64 0, .int .i64 0] 56)) | with_reducible exact (hP1.out.below (below_alloc _ (.cells #[.int .i64 0, .int .i64 0, .int .i64 0, .int .i64 0] 56))).below (below_alloc _ (.cells #[.int .i64 0, .int .i64 0, .int .i64 0, .int .i64 0] 56))); rintro e w2 ⟨rfl, b2⟩; (first | (with_reducible have b12 := hid (show Below w1.heap.size w1 w2 from b2)) | (with_reducible have b12 := hid (Below.tr (below_alloc w1 (.cells #[.int .i64 0, .int .i64 0, .int .i64 0, .int .i64 0] 56)) b2); have r0 := hid ((cellsAt_alloc w1 #[.int .i64 0, .int .i64 0, .int .i64 0, .int .i64 0] 56).below b2)) | (with_reducible have b12 := hid (Below.tr ((below_alloc w1 (.cells #[.int .i64 0, .int .i64 0, .int .i64 0, .int .i64 0] 56)).alloc (by simp) (.cells #[.int .i64 0, .int .i64 0, .int .i64 0, .int .i64 0] 56)) b2); have r0 := hid (((cellsAt_alloc w1 #[.int .i64 0, .int .i64 0, .int .i64 0, .int .i64 0] 56).below (below_alloc _ _)).below b2); have r1 := hid ((cellsAt_alloc2 w1 (.cells #[.int .i64 0, .int .i64 0, .int .i64 0, .int .i64 0] 56) #[.int .i64 0, .int .i64 0, .int .i64 0, .int .i64 0] 56).below b2))); have b02 := hid (Below.tr b01.out b12.out); have kp2 := kp0.out.below b02.out; have px2 := kp2.cell 0; have py2 := kp2.cell 1; simp only [List.getElem?_toArray, List.getElem?_cons_zero, List.getElem?_cons_succ] at px2 py2; have hs02 := b02.out.size; have lt2 : w.heap.size < w2.heap.size := (by omega); have ne4 := Nat.ne_of_lt lt2; have ne4' := ne4.symm; have ne5 : w2.heap.size + 1 ≠ w.heap.size := (by omega); have ne5' := ne5.symm; (try (have s0 := hid (q0.out.below b12.out); obtain ⟨t0, t1, t2, t3, t4, t5, t6, t7⟩ := zero4 s0.out; have ls0 := s0.out.lt; have ne6 := Nat.ne_of_lt ls0; have ne6' := ne6.symm)); (try (have s1 := hid (q1.out.below b12.out); obtain ⟨t10, t11, t12, t13, t14, t15, t16, t17⟩ := zero4 s1.out; have ls1 := s1.out.lt)); (try (obtain ⟨u0, u1, u2, u3, u4, u5, u6, u7⟩ := zero4 r0.out; have lr0 := r0.out.lt; have ne7 := Nat.ne_of_lt lr0; have ne7' := ne7.symm)); (try (obtain ⟨u10, u11, u12, u13, u14, u15, u16, u17⟩ := zero4 r1.out; have lr1 := r1.out.lt)); clear b2 kp2))
        all_goals (go_wp2_with fail; go_meet; first | with_reducible exact kids2_1 b02.out | with_reducible exact kids2_2 b02.out | (with_reducible refine kids2_3 b02.out ?_ ?_; (first | with_reducible exact r0.out | with_reducible exact r1.out | with_reducible exact s0.out | with_reducible exact s1.out); omega) | (with_reducible refine kids2_4 b02.out ?_ ?_; (first | with_reducible exact r0.out | with_reducible exact r1.out | with_reducible exact s0.out | with_reducible exact s1.out); omega) | (with_reducible refine kids2_5 b02.out ?_ ?_ ?_ ?_ ?_; (first | with_reducible exact r0.out | with_reducible exact r1.out | with_reducible exact s0.out | with_reducible exact s1.out); (first | with_reducible exact r0.out | with_reducible exact r1.out | with_reducible exact s0.out | with_reducible exact s1.out); omega; omega; omega))
      case rest =>
        obtain ⟨lb, rb, rfl, rfl, kl, kr, bw, hlb, hrb⟩ := hcut
        rename_i wc
        have hE1 := hid (hE0.out.more bw hlb hrb kl.lt kr.lt)
        have bpw := hid (Below.tr bp bw)
        have hnx := diffsTo_next B l x y first
        have hall := diffsTo_all B l x y first
        have hkx' : ∀ j, j < 4 → Root n B l ((kidsL B x).getD j 0) := fun j hj => hrx.kidAt hR.out hj
        have hky' : ∀ j, j < 4 → Root n B l ((kidsL B y).getD j 0) := fun j hj => hry.kidAt hR.out hj
        have hlen : ∀ j, (L ++ diffsTo B (l + 1) x y first (j * pw l)).length ≤ first + j * pw l := fun j => by
          have := diffsTo_length B (l + 1) x y first (j * pw l)
          rw [List.length_append]; omega
        rw [hkx] at hnx hkx'
        rw [hky] at hnx hky'
        have epw : pw (l + 1) = 4 * pw l := rfl
        rw [epw] at hf
        have hq64 : pw l ≤ 16 := by omega
        generalize hqd : pw l = q at *
        replace hnx := hid hnx
        replace hall := hid hall
        replace hkx' := hid hkx'
        replace hky' := hid hky'
        replace hlen := hid hlen
        have el : ((l + 1 : Nat) : Int) - 1 = (l : Int) := by omega
        have el' : ((l : Int) + 1) - 1 = (l : Int) := by omega
        have wl : IntKind.i64.wrap (l : Int) = (l : Int) := Go.IntWalk.i64_in _ (by omega)
        have hll : l ≤ 3 := by omega
        clear hE0 bw px py kp hP0 hx hy
        replace kl := hid kl
        replace kr := hid kr
        have hc1 : ((l + 1 : Nat) : Int) = (l : Int) + 1 := by omega
        have hb0 : (((l : Int) + 1) == 0) = false := by simp; omega
        go_wp2_with fail
        simp only [hc1, hb0]
        go_loopw [37] (fun v wr => ∃ j : Nat, j ≤ 4 ∧ v = .int .i64 j ∧ DE W wr sb pb wb z a n c (fun k => K k ∨ k = lb ∨ k = rb) (L ++ diffsTo B (l + 1) x y first (j * q)) ∧ SameK (fun k => K k ∨ k = lb ∨ k = rb) wc wr) (fun v _ => 4 - (Go.RowKit.intOf v).toNat)
        case atStart => exact ⟨0, Nat.zero_le _, rfl, by simpa [diffsTo, diffTo] using hE1.out, fun _ _ => rfl⟩
        case round =>
          clear hE1
          obtain ⟨j, hj4, rfl, hE2, hsk⟩ := hrel
          by_cases hlt : j < 4
          · have kl2 : CellsAt wr lb #[.int .i64 x0, .int .i64 x1, .int .i64 x2, .int .i64 x3] 56 := (hsk lb (.inr (.inl rfl))).trans kl.out
            have kr2 : CellsAt wr rb #[.int .i64 y0, .int .i64 y1, .int .i64 y2, .int .i64 y3] 56 := (hsk rb (.inr (.inr rfl))).trans kr.out
            have cl := cell_at4 kl2 j hlt
            have cr := cell_at4 kr2 j hlt
            have fn0 := hE2.fn
            have hmq : (j + 1) * q ≤ 4 * q := Nat.mul_le_mul_right q (by omega)
            have hmq2 : (j + 1) * q = j * q + q := by rw [Nat.add_mul]; omega
            have hI : ∀ w', DE W w' sb pb wb z a n c (fun k => K k ∨ k = lb ∨ k = rb) (L ++ diffsTo B (l + 1) x y first (j * q)) → Calls Try.prog 18 #[.agg #[.int .i64 ([x0, x1, x2, x3].getD j 0), .int .i64 ([y0, y1, y2, y3].getD j 0)], .int .i64 l, .int .i64 ((first : Int) + ((j * q : Nat) : Int)), .pointer (some ⟨sb, 0, none⟩), .pointer (some ⟨pb, 0, none⟩), .pointer (some ⟨wb, 0, none⟩)] w' fun e w'' => e = .returned (.tuple #[]) ∧ DE W w'' sb pb wb z a n c (fun k => K k ∨ k = lb ∨ k = rb) ((L ++ diffsTo B (l + 1) x y first (j * q)) ++ diffs B l ([x0, x1, x2, x3].getD j 0) ([y0, y1, y2, y3].getD j 0) (first + j * q)) ∧ SameK (fun k => K k ∨ k = lb ∨ k = rb) w' w'' := fun w' h' => by
              have := ih.out ([x0, x1, x2, x3].getD j 0) ([y0, y1, y2, y3].getD j 0) (first + j * q) _ (fun k => K k ∨ k = lb ∨ k = rb) w' hll (hkx'.out j hlt) (hky'.out j hlt) (by omega) (hlen.out j) h'
              rw [Int.natCast_add] at this
              exact this
            have hstep : (L ++ diffsTo B (l + 1) x y first (j * q)) ++ diffs B l ([x0, x1, x2, x3].getD j 0) ([y0, y1, y2, y3].getD j 0) (first + j * q) = L ++ diffsTo B (l + 1) x y first ((j + 1) * q) := by
              rw [hnx.out j, List.append_assoc]
            rw [hstep] at hI
            have hjq : (j : Int) * (q : Int) = ((j * q : Nat) : Int) := by rw [Int.natCast_mul]
            have hm64 : j * q ≤ 64 := by omega
            generalize j * q = m at *
            generalize [x0, x1, x2, x3].getD j 0 = xj at *
            generalize [y0, y1, y2, y3].getD j 0 = yj at *
            have wm : IntKind.i64.wrap (m : Int) = (m : Int) := Go.IntWalk.i64_in _ (by omega)
            have wf' : IntKind.i64.wrap ((first : Int) + (m : Int)) = (first : Int) + (m : Int) := Go.IntWalk.i64_in _ (by omega)
            have hsb : lb < wr.heap.size ∧ rb < wr.heap.size := ⟨kl2.lt, kr2.lt⟩
            replace hI := hid hI
            replace hE2 := hid hE2
            replace hsk := hid hsk
            clear hstep kl2 kr2
            go_upto_region 9 with fail
            go_region_held3 (fun w' => w'.cell? ⟨wb, 0, none⟩ = some (.func (.func 18) #[] #[.pointer (some ⟨sb, 0, none⟩), .pointer (some ⟨pb, 0, none⟩), .pointer (some ⟨wb, 0, none⟩)]) ∧ w'.cell? ⟨lb, j, none⟩ = some (.int .i64 xj) ∧ w'.cell? ⟨rb, j, none⟩ = some (.int .i64 yj)) (first | go_keep | assumption) (first | (go_at_call 22; refine Calls.mono (width_any l _ hll) ?_; rintro e w1 ⟨rfl, rfl⟩; rw [hqd]) | (go_at_call 18; refine Calls.mono (hI.out _ ?_) ?_; exact hE2.out.below (below_drew _ _); rintro e w2 ⟨rfl, hE3, hs3⟩; have fn3 := hE3.fn; have cl3 := (World.cell?_of_block (a := ⟨lb, j, none⟩) (hs3 lb (.inr (.inl rfl)))).trans cl; have cr3 := (World.cell?_of_block (a := ⟨rb, j, none⟩) (hs3 rb (.inr (.inr rfl)))).trans cr; have hE4 := hid hE3; have hs4 : Hid (SameK (fun k => K k ∨ k = lb ∨ k = rb) wc w2) := hid (fun k hk => (hs3 k hk).trans (hsk.out k hk)); clear hE3 hs3))
            all_goals (go_wp2_with fail; go_roundw; (case rel => exact ⟨j + 1, by omega, by go_num, hE4.out, hs4.out⟩); (case measure => simp [Go.RowKit.intOf]; omega))
          · have hge : ¬ ((j : Int) < 4) := by omega
            have e4 : Hid (j = 4) := hid (by omega)
            replace hE2 := hid hE2
            replace hsk := hid hsk
            go_wp2_with fail
            go_end0
            refine ⟨rfl, ?_, fun k hk => (hsk.out k (.inl hk)).trans (bpw.out.block k (hE.out.klt k hk).1)⟩
            rw [← hall.out]
            exact (e4.out ▸ hE2.out).less (fun k hk => .inl hk)
end Go.Proofs.Ytaagnojdpedilad
