/-
  The plain mathematics of chapter 1's stream: no program. Nothing here is trusted.
-/
import Derived.WalkKit
namespace Go.Proofs.Ytaagnojdpedilac

def nxt (x : Int) : Int := (75 * x + 74) % 65537
def outb (x : Int) : Int := x / 8 % 256
def xk (x : Int) : Nat → Int
  | 0 => x
  | k + 1 => nxt (xk x k)
def start (key at' : Int) : Int := (key * 104729 + at' * 7919 + 12345) % 65537

theorem nxt_bd (x : Int) : 0 ≤ nxt x ∧ nxt x < 65537 := by unfold nxt; omega
theorem outb_bd (x : Int) : 0 ≤ outb x ∧ outb x < 256 := by unfold outb; omega
theorem start_bd (k a : Int) : 0 ≤ start k a ∧ start k a < 65537 := by unfold start; omega
theorem xk_bd (x : Int) (h0 : 0 ≤ x) (h1 : x < 65537) (k : Nat) : 0 ≤ xk x k ∧ xk x k < 65537 := by
  cases k with
  | zero => exact ⟨h0, h1⟩
  | succ k => exact nxt_bd _

/-- what stands at place i, mixed by f with the stream that begins behind x -/
def mixAt (f : Int → Int → Int) (x : Int) (zs : List Int) (i : Nat) : Int := f (zs.getD i 0) (outb (xk x (i + 1)))
def mixed (f : Int → Int → Int) (x : Int) (zs : List Int) (n : Nat) : List Int := (List.range n).map (mixAt f x zs)
/-- the row after k rounds: k places are done, the others are nought -/
def part (f : Int → Int → Int) (x : Int) (zs : List Int) (n k : Nat) : List Int := (List.range n).map fun i => if i < k then mixAt f x zs i else 0

def add8 (a b : Int) : Int := (a + b) % 256
def sub8 (a b : Int) : Int := (a - b) % 256

theorem mixed_length (f : Int → Int → Int) (x : Int) (zs : List Int) (n : Nat) : (mixed f x zs n).length = n := by simp [mixed]
theorem part_length (f : Int → Int → Int) (x : Int) (zs : List Int) (n k : Nat) : (part f x zs n k).length = n := by simp [part]
theorem mixed_getD (f : Int → Int → Int) (x : Int) (zs : List Int) (n i : Nat) (h : i < n) : (mixed f x zs n).getD i 0 = mixAt f x zs i := by
  simp [mixed, List.getD, h]
theorem part_zero (f : Int → Int → Int) (x : Int) (zs : List Int) (n : Nat) : part f x zs n 0 = List.replicate n 0 := by
  apply List.ext_getElem
  · simp [part]
  · intro i h1 h2
    simp [part]
theorem part_all (f : Int → Int → Int) (x : Int) (zs : List Int) (n : Nat) : part f x zs n n = mixed f x zs n := by
  unfold part mixed
  apply List.map_congr_left
  intro i hi
  simp at hi
  simp [hi]
theorem part_succ (f : Int → Int → Int) (x : Int) (zs : List Int) (n k : Nat) : (part f x zs n k).set k (mixAt f x zs k) = part f x zs n (k + 1) := by
  apply List.ext_getElem?
  intro i
  rw [List.getElem?_set]
  by_cases hi : i < n
  · by_cases e : k = i
    · subst e
      simp [part, hi]
    · rw [if_neg e]
      have : (i < k + 1) ↔ (i < k) := by omega
      simp [part, hi, this]
  · have hl : n ≤ i := by omega
    by_cases e : k = i
    · subst e; simp [part, hi]
    · rw [if_neg e]; simp [part, hl]

theorem wrap_add8 (a b : Int) : (a + b) % 256 = add8 a b := rfl
theorem wrap_sub8 (a b : Int) : (a - b) % 256 = sub8 a b := rfl

end Go.Proofs.Ytaagnojdpedilac
