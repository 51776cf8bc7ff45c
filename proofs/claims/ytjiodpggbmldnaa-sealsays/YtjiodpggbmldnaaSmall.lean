/-
  Contracts of package seal's small functions, of the law's and of the library's that they meet. Nothing here is trusted.
-/
import Derived.Test.YtjiodpggbmldnaaRows
import Derived.Test.YtjiodpggbmldnaaMath
import Derived.WalkKit
import Derived.Laws.BytesArg
set_option linter.unusedVariables false
namespace Go.Proofs.Ytjiodpggbmldnaa
open Go.RowKit

theorem next_any (b : Nat) (x : Int) (w : World) (h0 : 0 ≤ x) (h1 : x < 65537) (hc : w.cell? ⟨b, 0, none⟩ = some (.int .i64 x)) (hf : w.frozen? ⟨b, 0, none⟩ = false) :
    Calls Try.prog 23 #[.pointer (some ⟨b, 0, none⟩)] w fun e w' => e = .returned (.int .u8 (outb (nxt x))) ∧ w' = w.setCell ⟨b, 0, none⟩ (.int .i64 (nxt x)) := by
  go_enter Try.func23, Try.ntmps23
  go_wp2
  go_ret
  exact ⟨rfl, rfl⟩

theorem add_any (p q : Int) (w : World) (h0 : 0 ≤ p) (h1 : p < 256) (h2 : 0 ≤ q) (h3 : q < 256) :
    Calls Try.prog 19 #[.int .u8 p, .int .u8 q] w fun e w' => e = .returned (.int .u8 (add8 p q)) ∧ w' = w := by
  go_enter Try.func19, Try.ntmps19
  go_wp2
  go_ret
  exact ⟨rfl, rfl⟩

theorem sub_any (p q : Int) (w : World) (h0 : 0 ≤ p) (h1 : p < 256) (h2 : 0 ≤ q) (h3 : q < 256) :
    Calls Try.prog 20 #[.int .u8 p, .int .u8 q] w fun e w' => e = .returned (.int .u8 (sub8 p q)) ∧ w' = w := by
  go_enter Try.func20, Try.ntmps20
  go_wp2
  go_ret
  exact ⟨rfl, rfl⟩

theorem stream_any (key at' : Int) (w : World) (h0 : 0 ≤ key) (h1 : key ≤ 1000) (h2 : 0 ≤ at') (h3 : at' ≤ 255) :
    Calls Try.prog 22 #[.int .i64 key, .int .i64 at'] w fun e w' => e = .returned (.func (.func 23) #[] #[.pointer (some ⟨w.heap.size, 0, none⟩)]) ∧ w' = w.alloc (.cells #[.int .i64 (start key at')] 3) := by
  have hmf : ∀ (fn : Fn) (first cap : Array Value) (w : World), (Instr.makeFunc fn first cap).run Try.prog w = .ok (.func fn first cap) w := fun _ _ _ _ => rfl
  go_enter Try.func22, Try.ntmps22
  go_wp2
  go_ret
  exact ⟨rfl, rfl⟩

/-- is it a key and a place? -/
def keyB (key at' : Int) : Bool := decide (0 ≤ key ∧ key ≤ 1000 ∧ 0 ≤ at' ∧ at' ≤ 255)
theorem keyB_true {key at' : Int} (h : keyB key at' = true) : 0 ≤ key ∧ key ≤ 1000 ∧ 0 ≤ at' ∧ at' ≤ 255 := of_decide_eq_true h
theorem keyB_false {key at' : Int} (h : keyB key at' = false) : ¬ (0 ≤ key ∧ key ≤ 1000 ∧ 0 ≤ at' ∧ at' ≤ 255) := of_decide_eq_false h

theorem check_ok (key at' : Int) (w : World) (h : keyB key at' = true) :
    Calls Try.prog 12 #[.int .i64 key, .int .i64 at'] w fun e w' => e = .returned (.int .i64 0) ∧ w' = w := by
  obtain ⟨h0, h1, h2, h3⟩ := keyB_true h
  clear h
  go_enter Try.func12, Try.ntmps12
  go_wp2
  go_ret
  exact ⟨rfl, rfl⟩

theorem check_no (key at' : Int) (w : World) (h : keyB key at' = false) :
    Calls Try.prog 12 #[.int .i64 key, .int .i64 at'] w fun e w' => e = .returned (.int .i64 3) ∧ w' = w := by
  have h' := keyB_false h
  clear h
  by_cases h0 : key < 0
  · clear h'
    go_enter Try.func12, Try.ntmps12
    go_wp2
    go_ret
    exact ⟨rfl, rfl⟩
  · by_cases h1 : 1000 < key
    · clear h'
      go_enter Try.func12, Try.ntmps12
      go_wp2
      go_ret
      exact ⟨rfl, rfl⟩
    · by_cases h2 : at' < 0
      · clear h'
        go_enter Try.func12, Try.ntmps12
        go_wp2
        go_ret
        exact ⟨rfl, rfl⟩
      · have h3 : 256 ≤ at' := by omega
        clear h'
        go_enter Try.func12, Try.ntmps12
        go_wp2
        go_ret
        exact ⟨rfl, rfl⟩

theorem checkKey_ok (key at' : Int) (w : World) (h : keyB key at' = true) :
    Calls Try.prog 10 #[.int .i64 key, .int .i64 at'] w fun e w' => e = .returned (.int .i64 0) ∧ w' = w := by
  obtain ⟨h0, h1, h2, h3⟩ := keyB_true h
  clear h
  go_enter Try.func10, Try.ntmps10
  go_wp2
  go_ret
  exact ⟨rfl, rfl⟩

theorem checkKey_no (key at' : Int) (w : World) (h : keyB key at' = false) :
    Calls Try.prog 10 #[.int .i64 key, .int .i64 at'] w fun e w' => e = .returned (.int .i64 3) ∧ w' = w := by
  have h' := keyB_false h
  clear h
  by_cases h0 : key < 0
  · clear h'
    go_enter Try.func10, Try.ntmps10
    go_wp2
    go_ret
    exact ⟨rfl, rfl⟩
  · by_cases h1 : 1000 < key
    · clear h'
      go_enter Try.func10, Try.ntmps10
      go_wp2
      go_ret
      exact ⟨rfl, rfl⟩
    · by_cases h2 : at' < 0
      · clear h'
        go_enter Try.func10, Try.ntmps10
        go_wp2
        go_ret
        exact ⟨rfl, rfl⟩
      · have h3 : 255 < at' := by omega
        clear h'
        go_enter Try.func10, Try.ntmps10
        go_wp2
        go_ret
        exact ⟨rfl, rfl⟩

/-- WHAT A SLICE OF BYTES HOLDS: n bytes, the numbers l; where there is one, it lies in a block that is there. -/
def BytesAt (w : World) (a : Option Addr) (n : Nat) (l : List Int) : Prop :=
  l.length = n ∧ (∀ x ∈ l, 0 ≤ x ∧ x < 256) ∧ (0 < n → ∃ b off, a = some ⟨b, off, none⟩ ∧ b < w.heap.size ∧ ∀ i, i < n → w.cell? ⟨b, off + i, none⟩ = some (.int .u8 (l.getD i 0)))

theorem BytesAt.below {w w' : World} {a : Option Addr} {n : Nat} {l : List Int} (h : BytesAt w a n l) (hb : Below w.heap.size w w') : BytesAt w' a n l := by
  refine ⟨h.1, h.2.1, fun hn => ?_⟩
  obtain ⟨b, off, rfl, hlt, hc⟩ := h.2.2 hn
  exact ⟨b, off, rfl, Nat.lt_of_lt_of_le hlt hb.size, fun i hi => (hb.cell (p := ⟨b, off + i, none⟩) hlt).trans (hc i hi)⟩

theorem hid {p : Prop} (h : p) : Hid p := h

theorem BytesAt.bd {w : World} {a : Option Addr} {n : Nat} {l : List Int} (h : BytesAt w a n l) {i : Nat} (hi : i < n) : 0 ≤ l.getD i 0 ∧ l.getD i 0 < 256 := by
  have hl : i < l.length := by rw [h.1]; exact hi
  have e : l.getD i 0 = l[i] := by simp [List.getD, hl]
  rw [e]
  exact h.2.1 _ (List.getElem_mem hl)

theorem run_string_of (w : World) {a : Option Addr} {n : Nat} {l : List Int} (c : Nat) (h : BytesAt w a n l) :
    (convert 27 9 (.slice a n c)).run Try.prog w = .ok (.string (strOfNums l)) w := by
  rcases Nat.eq_zero_or_pos n with hn | hn
  · subst hn
    obtain rfl : l = [] := List.eq_nil_of_length_eq_zero h.1
    rw [run_convert_bytes_string w 27 9 5 _ 0 c Try.underlying27 Try.underlying5 Try.underlying9]
    cases a <;> simp [Conv.bytesToString, loadCells]
    all_goals rfl
  · obtain ⟨b, off, rfl, _, hc⟩ := h.2.2 hn
    exact run_convert_bytes_arg w 27 5 Try.underlying27 Try.underlying5 b off n c l h.1 hc 9 Try.underlying9

theorem equal_any (a1 a2 : Option Addr) (n c m d : Nat) (l k : List Int) (w : World) (h1 : BytesAt w a1 n l) (h2 : BytesAt w a2 m k) :
    Calls Try.prog 13 #[.slice a1 n c, .slice a2 m d] w fun e w' => e = .returned (.bool ((strOfNums l).toList == (strOfNums k).toList)) ∧ w' = w := by
  have g1 := run_string_of w c h1
  have g2 := run_string_of w d h2
  clear h1 h2
  go_enter Try.func13, Try.ntmps13
  go_wp2
  go_ret
  exact ⟨rfl, rfl⟩

theorem equal_same (a1 a2 : Option Addr) (n c m d : Nat) (l : List Int) (w : World) (h1 : BytesAt w a1 n l) (h2 : BytesAt w a2 m l) :
    Calls Try.prog 13 #[.slice a1 n c, .slice a2 m d] w fun e w' => e = .returned (.bool true) ∧ w' = w := by
  refine (equal_any a1 a2 n c m d l l w h1 h2).mono ?_
  rintro e w' ⟨rfl, rfl⟩
  exact ⟨by simp, rfl⟩

end Go.Proofs.Ytjiodpggbmldnaa
