/-
  The closed fact 'stored' of the laws, 'at', slices.Equal. Nothing here is trusted.
-/
import Derived.Test.YtaagnojdpediladSto2
set_option linter.unusedVariables false
namespace Go.Proofs.Ytaagnojdpedilad
open Go.RowKit

theorem Row.nums {w : World} {base g n : Nat} {f : Nat → Int} (r : Row w base g n f) (hf : ∀ k, k < n → -9223372036854775808 ≤ f k ∧ f k ≤ 9223372036854775807) : NumsAt (fun b => base ≤ b) .i64 w (some ⟨g, 0, none⟩) n ((List.range n).map f) := by
  refine ⟨by simp, ?_, fun hn => ⟨g, 0, rfl, r.lt.2, r.lt.1, fun i hi => ?_⟩⟩
  · intro x hx
    simp only [List.mem_map, List.mem_range] at hx
    obtain ⟨k, hk, rfl⟩ := hx
    exact WalkArith.wf_i64 (hf k hk)
  · rw [Nat.zero_add, r.cell hi]
    simp [List.getD, hi]

theorem lit_nums (w : World) (xs : List Int) (t : TypeId) (k : IntKind) (hw : ∀ x ∈ xs, (Lit.int k x).wf = true) : NumsAt (fun b => w.heap.size ≤ b) k (w.alloc (.cells (xs.map (Value.int k)).toArray t)) (some ⟨w.heap.size, 0, none⟩) xs.length xs := by
  refine ⟨rfl, hw, fun hn => ⟨_, _, rfl, by simp, Nat.le_refl _, fun i hi => ?_⟩⟩
  rw [World.cell?_alloc_at _ _ _ _ rfl, Nat.zero_add]
  simp [List.getD, hi]

/-- a variable that holds a store is given another one -/
theorem cur_set {w : World} {q base g n : Nat} {u v : Value} {t : TypeId} {B : Nat → Blk} (k : CellsAt w q #[u] t) (hq : q < base) (hg : base ≤ g) (hgl : g < w.heap.size) (hB : Blocks (fun b => base ≤ b) w g 0 n B) :
    CellsAt (w.setCell ⟨q, 0, none⟩ v) q #[v] t ∧ StoreAt (w.setCell ⟨q, 0, none⟩ v) (some ⟨g, 0, none⟩) n B := by
  have kk := Kept.setCell (g := q) (Kept.refl _ w) (p := ⟨q, 0, none⟩) rfl v
  refine ⟨?_, store_of (by simpa using hgl) (hB.kept (by omega) (fun b h => by omega) kk)⟩
  have := k.set 0 v
  simpa using this

end Go.Proofs.Ytaagnojdpedilad
