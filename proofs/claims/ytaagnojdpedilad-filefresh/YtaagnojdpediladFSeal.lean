/-
  The contracts of Seal and Open. Nothing here is trusted.
-/
import Derived.Test.YtaagnojdpediladFTurn
set_option linter.unusedVariables false
namespace Go.Proofs.Ytaagnojdpedilad
open Go.RowKit

theorem bytesAt_own {B : Nat} {w : World} {g n : Nat} {l : List Int} (hl : ∀ x ∈ l, 0 ≤ x ∧ x < 256) (h : w.ownsRow B 5 1 (.slice (some ⟨g, 0, none⟩) n n) n (l.map (Value.int .u8))) : BytesAt w (some ⟨g, 0, none⟩) n l := by
  have hn : l.length = n := by have := h.1; simpa using this
  refine ⟨hn, hl, fun hp => ⟨g, 0, rfl, (h.lt g rfl).2, fun i hi => ?_⟩⟩
  rw [Nat.zero_add, h.cellAt i (by omega)]
  simp [hn, hi]

theorem add8_bd (a b : Int) : 0 ≤ add8 a b ∧ add8 a b < 256 := by unfold add8; omega
theorem sub8_bd (a b : Int) : 0 ≤ sub8 a b ∧ sub8 a b < 256 := by unfold sub8; omega
theorem mixed_bd (f : Int → Int → Int) (hf : ∀ a b, 0 ≤ f a b ∧ f a b < 256) (x : Int) (l : List Int) (n : Nat) : ∀ y ∈ mixed f x l n, 0 ≤ y ∧ y < 256 := by
  intro y hy
  simp only [mixed, List.mem_map] at hy
  obtain ⟨i, _, rfl⟩ := hy
  exact hf _ _

/-- what Seal makes of l -/
def sealL (key at' : Int) (l : List Int) : List Int := mixed add8 (start key at') l l.length
/-- what Open makes of l -/
def openL (key at' : Int) (l : List Int) : List Int := mixed sub8 (start key at') l l.length
theorem sealL_length (key at' : Int) (l : List Int) : (sealL key at' l).length = l.length := mixed_length _ _ _ _
theorem openL_length (key at' : Int) (l : List Int) : (openL key at' l).length = l.length := mixed_length _ _ _ _

theorem seal_ok (key at' : Int) (a : Option Addr) (n c : Nat) (l : List Int) (w : World) (hk : keyB key at' = true) (hn : n ≤ 256) (h : BytesAt w a n l) :
    Calls Try.prog 44 #[.int .i64 key, .int .i64 at', .slice a n c] w fun e w' =>
      ∃ g, e = .returned (.tuple #[.slice (some ⟨g, 0, none⟩) n n, .int .i64 0]) ∧ BytesAt w' (some ⟨g, 0, none⟩) n (sealL key at' l) ∧ Below w.heap.size w w' := by
  have hmf : ∀ (fn : Fn) (first cap : Array Value) (w : World), (Instr.makeFunc fn first cap).run Try.prog w = .ok (.func fn first cap) w := fun _ _ _ _ => rfl
  go_enter Try.func44, Try.ntmps44
  go_wp2_with fail
  refine (turnAdd_ok key at' a n c l _ hk hn h).mono ?_
  rintro e w1 ⟨g, rfl, hown, hbel⟩
  have hB := bytesAt_own (mixed_bd add8 add8_bd _ _ _) hown
  clear hown
  go_wp2
  go_ret2
  exact ⟨g, rfl, by rw [sealL, h.1]; exact hB, hbel⟩

theorem open_ok (key at' : Int) (a : Option Addr) (n c : Nat) (l : List Int) (w : World) (hk : keyB key at' = true) (hn : n ≤ 256) (h : BytesAt w a n l) :
    Calls Try.prog 26 #[.int .i64 key, .int .i64 at', .slice a n c] w fun e w' =>
      ∃ g, e = .returned (.tuple #[.slice (some ⟨g, 0, none⟩) n n, .int .i64 0]) ∧ BytesAt w' (some ⟨g, 0, none⟩) n (openL key at' l) ∧ Below w.heap.size w w' := by
  have hmf : ∀ (fn : Fn) (first cap : Array Value) (w : World), (Instr.makeFunc fn first cap).run Try.prog w = .ok (.func fn first cap) w := fun _ _ _ _ => rfl
  go_enter Try.func26, Try.ntmps26
  go_wp2_with fail
  refine (turnSub_ok key at' a n c l _ hk hn h).mono ?_
  rintro e w1 ⟨g, rfl, hown, hbel⟩
  have hB := bytesAt_own (mixed_bd sub8 sub8_bd _ _ _) hown
  clear hown
  go_wp2
  go_ret2
  exact ⟨g, rfl, by rw [openL, h.1]; exact hB, hbel⟩

end Go.Proofs.Ytaagnojdpedilad
