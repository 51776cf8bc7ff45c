/-
  Contracts of package seal's small functions, of the law's and of the library's that they meet. Nothing here is trusted.
-/
import Derived.Test.YtaagnojdpediladBlocks4
import Derived.Test.YtaagnojdpediladMath
import Derived.WalkKit
import Derived.Laws.BytesArg
set_option linter.unusedVariables false
namespace Go.Proofs.Ytaagnojdpedilad
open Go.RowKit

theorem next_any (b : Nat) (x : Int) (w : World) (h0 : 0 ≤ x) (h1 : x < 65537) (hc : w.cell? ⟨b, 0, none⟩ = some (.int .i64 x)) (hf : w.frozen? ⟨b, 0, none⟩ = false) :
    Calls Try.prog 57 #[.pointer (some ⟨b, 0, none⟩)] w fun e w' => e = .returned (.int .u8 (outb (nxt x))) ∧ w' = w.setCell ⟨b, 0, none⟩ (.int .i64 (nxt x)) := by
  go_enter Try.func57, Try.ntmps57
  go_wp2
  go_ret
  exact ⟨rfl, rfl⟩

theorem add_any (p q : Int) (w : World) (h0 : 0 ≤ p) (h1 : p < 256) (h2 : 0 ≤ q) (h3 : q < 256) :
    Calls Try.prog 52 #[.int .u8 p, .int .u8 q] w fun e w' => e = .returned (.int .u8 (add8 p q)) ∧ w' = w := by
  go_enter Try.func52, Try.ntmps52
  go_wp2
  go_ret
  exact ⟨rfl, rfl⟩

theorem sub_any (p q : Int) (w : World) (h0 : 0 ≤ p) (h1 : p < 256) (h2 : 0 ≤ q) (h3 : q < 256) :
    Calls Try.prog 39 #[.int .u8 p, .int .u8 q] w fun e w' => e = .returned (.int .u8 (sub8 p q)) ∧ w' = w := by
  go_enter Try.func39, Try.ntmps39
  go_wp2
  go_ret
  exact ⟨rfl, rfl⟩

theorem stream_any (key at' : Int) (w : World) (h0 : 0 ≤ key) (h1 : key ≤ 1000) (h2 : 0 ≤ at') (h3 : at' ≤ 255) :
    Calls Try.prog 49 #[.int .i64 key, .int .i64 at'] w fun e w' => e = .returned (.func (.func 57) #[] #[.pointer (some ⟨w.heap.size, 0, none⟩)]) ∧ w' = w.alloc (.cells #[.int .i64 (start key at')] 3) := by
  have hmf : ∀ (fn : Fn) (first cap : Array Value) (w : World), (Instr.makeFunc fn first cap).run Try.prog w = .ok (.func fn first cap) w := fun _ _ _ _ => rfl
  go_enter Try.func49, Try.ntmps49
  go_wp2
  go_ret
  exact ⟨rfl, rfl⟩

/-- is it a key and a place? -/
def keyB (key at' : Int) : Bool := decide (0 ≤ key ∧ key ≤ 1000 ∧ 0 ≤ at' ∧ at' ≤ 255)
theorem keyB_true {key at' : Int} (h : keyB key at' = true) : 0 ≤ key ∧ key ≤ 1000 ∧ 0 ≤ at' ∧ at' ≤ 255 := of_decide_eq_true h
theorem keyB_false {key at' : Int} (h : keyB key at' = false) : ¬ (0 ≤ key ∧ key ≤ 1000 ∧ 0 ≤ at' ∧ at' ≤ 255) := of_decide_eq_false h

theorem check_ok (key at' : Int) (w : World) (h : keyB key at' = true) :
    Calls Try.prog 24 #[.int .i64 key, .int .i64 at'] w fun e w' => e = .returned (.int .i64 0) ∧ w' = w := by
  obtain ⟨h0, h1, h2, h3⟩ := keyB_true h
  clear h
  go_enter Try.func24, Try.ntmps24
  go_wp2
  go_ret
  exact ⟨rfl, rfl⟩

theorem check_no (key at' : Int) (w : World) (h : keyB key at' = false) :
    Calls Try.prog 24 #[.int .i64 key, .int .i64 at'] w fun e w' => e = .returned (.int .i64 3) ∧ w' = w := by
  have h' := keyB_false h
  clear h
  by_cases h0 : key < 0
  · clear h'
    go_enter Try.func24, Try.ntmps24
    go_wp2
    go_ret
    exact ⟨rfl, rfl⟩
  · by_cases h1 : 1000 < key
    · clear h'
      go_enter Try.func24, Try.ntmps24
      go_wp2
      go_ret
      exact ⟨rfl, rfl⟩
    · by_cases h2 : at' < 0
      · clear h'
        go_enter Try.func24, Try.ntmps24
        go_wp2
        go_ret
        exact ⟨rfl, rfl⟩
      · have h3 : 256 ≤ at' := by omega
        clear h'
        go_enter Try.func24, Try.ntmps24
        go_wp2
        go_ret
        exact ⟨rfl, rfl⟩

/-- WHAT A SLICE OF BYTES HOLDS: n bytes, the numbers l; where there is one, it lies in a block that is there. -/
def BytesAt (w : World) (a : Option Addr) (n : Nat) (l : List Int) : Prop :=
  l.length = n ∧ (∀ x ∈ l, 0 ≤ x ∧ x < 256) ∧ (0 < n → ∃ b off, a = some ⟨b, off, none⟩ ∧ b < w.heap.size ∧ ∀ i, i < n → w.cell? ⟨b, off + i, none⟩ = some (.int .u8 (l.getD i 0)))

theorem BytesAt.below {w w' : World} {a : Option Addr} {n : Nat} {l : List Int} (h : BytesAt w a n l) (hb : Below w.heap.size w w') : BytesAt w' a n l := by
  refine ⟨h.1, h.2.1, fun hn => ?_⟩
  obtain ⟨b, off, rfl, hlt, hc⟩ := h.2.2 hn
  exact ⟨b, off, rfl, Nat.lt_of_lt_of_le hlt hb.size, fun i hi => (hb.cell (p := ⟨b, off + i, none⟩) hlt).trans (hc i hi)⟩

theorem BytesAt.bd {w : World} {a : Option Addr} {n : Nat} {l : List Int} (h : BytesAt w a n l) {i : Nat} (hi : i < n) : 0 ≤ l.getD i 0 ∧ l.getD i 0 < 256 := by
  have hl : i < l.length := by rw [h.1]; exact hi
  have e : l.getD i 0 = l[i] := by simp [List.getD, hl]
  rw [e]
  exact h.2.1 _ (List.getElem_mem hl)

end Go.Proofs.Ytaagnojdpedilad
