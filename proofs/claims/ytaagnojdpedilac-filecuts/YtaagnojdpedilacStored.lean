/-
  The closed fact 'stored' of the laws, 'at', slices.Equal. Nothing here is trusted.
-/
import Derived.Test.YtaagnojdpedilacSto2
set_option linter.unusedVariables false
namespace Go.Proofs.Ytaagnojdpedilac
open Go.RowKit

set_option maxHeartbeats 1000000 in
set_option maxRecDepth 100000 in
theorem equalInts_same (a1 a2 : Option Addr) (n c d : Nat) (Q1 Q2 : Nat → Prop) (xs : List Int) (w : World) (hn : n ≤ 1000) (h1 : NumsAt Q1 .i64 w a1 n xs) (h2 : NumsAt Q2 .i64 w a2 n xs) :
    Calls Try.prog 16 #[.slice a1 n c, .slice a2 n d] w fun e w' => e = .returned (.bool true) ∧ ∃ q, w' = w.drewN q := by
  replace h1 := hid h1
  replace h2 := hid h2
  go_enter Try.func16, Try.ntmps16
  go_wp2
  go_loopw [13] (fun i wr => ∃ k q : Nat, k ≤ n ∧ i = .int .i64 k ∧ wr = w.drewN q) (fun i _ => n - (Go.RowKit.intOf i).toNat)
  case atStart => exact ⟨0, 0, Nat.zero_le _, rfl, rfl⟩
  case round =>
    obtain ⟨k, q, hk, rfl, rfl⟩ := hrel
    by_cases hlt : k < n
    · obtain ⟨b1, o1, rfl, _, _, hc1⟩ := h1.out.2.2 (by omega)
      obtain ⟨b2, o2, rfl, _, _, hc2⟩ := h2.out.2.2 (by omega)
      have g1 := hc1 k (by omega)
      have g2 := hc2 k (by omega)
      clear hc1 hc2 h1 h2
      generalize xs.getD k 0 = x at *
      go_wp2_with fail
      go_quiet (fail)
      go_wp2
      go_roundw
      case rel => exact ⟨k + 1, q + nq, by omega, by go_num, rfl⟩
      case measure => simp [Go.RowKit.intOf]; omega
    · have : k = n := by omega
      subst this
      clear h1 h2
      go_wp2
      go_ret
      exact ⟨rfl, q, rfl⟩

theorem at_any (k n : Int) (w : World) (h0 : 1 ≤ n) (h1 : n ≤ 1000) :
    Calls Try.prog 35 #[.int .i64 k, .int .i64 n] w fun e w' => (∃ r : Nat, e = .returned (.int .i64 r) ∧ (r : Int) < n) ∧ w' = w := by
  have t1 := Int.tmod_lt_of_pos k (show 0 < n by omega)
  have t2 : -n < k.tmod n := by have := Int.tmod_lt_of_pos (-k) (show 0 < n by omega); rw [Int.neg_tmod] at this; omega
  have hnz : (n == 0) = false := by simp; omega
  generalize ht : k.tmod n = t at t1 t2
  by_cases hneg : t < 0
  · go_enter Try.func35, Try.ntmps35
    go_wp2
    go_ret
    exact ⟨⟨(t + n).toNat, congrArg (fun z => Ending.returned (.int .i64 z)) (show t + n = ((t + n).toNat : Int) by omega), by omega⟩, rfl⟩
  · go_enter Try.func35, Try.ntmps35
    go_wp2
    go_ret
    exact ⟨⟨t.toNat, congrArg (fun z => Ending.returned (.int .i64 z)) (show t = (t.toNat : Int) by omega), by omega⟩, rfl⟩

theorem Row.nums {w : World} {base g n : Nat} {f : Nat → Int} (r : Row w base g n f) (hf : ∀ k, k < n → -9223372036854775808 ≤ f k ∧ f k ≤ 9223372036854775807) : NumsAt (fun b => base ≤ b) .i64 w (some ⟨g, 0, none⟩) n ((List.range n).map f) := by
  refine ⟨by simp, ?_, fun hn => ⟨g, 0, rfl, r.lt.2, r.lt.1, fun i hi => ?_⟩⟩
  · intro x hx
    simp only [List.mem_map, List.mem_range] at hx
    obtain ⟨k, hk, rfl⟩ := hx
    exact WalkArith.wf_i64 (hf k hk)
  · rw [Nat.zero_add, r.cell hi]
    simp [List.getD, hi]

theorem lit_nums (w : World) (xs : List Int) (t : TypeId) (k : IntKind) (hw : ∀ x ∈ xs, (Lit.int k x).wf = true) : NumsAt (fun b => w.heap.size ≤ b) k (w.alloc (.cells (xs.map (Value.int k)).toArray t)) (some ⟨w.heap.size, 0, none⟩) xs.length xs := by
  refine ⟨rfl, hw, fun hn => ⟨_, _, rfl, by simp, Nat.le_refl _, fun i hi => ?_⟩⟩
  rw [World.cell?_alloc_at _ _ _ _ rfl, Nat.zero_add]
  simp [List.getD, hi]

/-- a variable that holds a store is given another one -/
theorem cur_set {w : World} {q base g n : Nat} {u v : Value} {t : TypeId} {B : Nat → Blk} (k : CellsAt w q #[u] t) (hq : q < base) (hg : base ≤ g) (hgl : g < w.heap.size) (hB : Blocks (fun b => base ≤ b) w g 0 n B) :
    CellsAt (w.setCell ⟨q, 0, none⟩ v) q #[v] t ∧ StoreAt (w.setCell ⟨q, 0, none⟩ v) (some ⟨g, 0, none⟩) n B := by
  have kk := Kept.setCell (g := q) (Kept.refl _ w) (p := ⟨q, 0, none⟩) rfl v
  refine ⟨?_, store_of (by simpa using hgl) (hB.kept (by omega) (fun b h => by omega) kk)⟩
  have := k.set 0 v
  simpa using this

end Go.Proofs.Ytaagnojdpedilac
