/-
  Contracts of slices.Equal of bytes, tree.find, tree.Get. Nothing here is trusted.
-/
import Derived.Test.YtaagnojdpediladTree8
set_option linter.unusedVariables false
namespace Go.Proofs.Ytaagnojdpedilad
open Go.RowKit

theorem list_ext_getD {l m : List Int} (hl : l.length = m.length) (h : ∀ i, i < l.length → l.getD i 0 = m.getD i 0) : l = m := by
  apply List.ext_getElem hl
  intro i h1 h2
  have := h i h1
  simpa [List.getD, h1, h2] using this

theorem equalBytes_any (a1 a2 : Option Addr) (n m c d : Nat) (Q1 Q2 : Nat → Prop) (xs ys : List Int) (w : World) (hn : n ≤ 1000) (hm : m ≤ 1000) (h1 : NumsAt Q1 .u8 w a1 n xs) (h2 : NumsAt Q2 .u8 w a2 m ys) :
    Calls Try.prog 19 #[.slice a1 n c, .slice a2 m d] w fun e w' => RetB e (xs = ys) ∧ ∃ q, w' = w.drewN q := by
  have l1 := h1.1
  have l2 := h2.1
  replace h1 := hid h1
  replace h2 := hid h2
  by_cases hnm : n = m
  · subst hnm
    go_enter Try.func19, Try.ntmps19
    go_wp2
    go_loopw [13] (fun i wr => ∃ k q : Nat, k ≤ n ∧ i = .int .i64 k ∧ wr = w.drewN q ∧ ∀ j, j < k → xs.getD j 0 = ys.getD j 0) (fun i _ => n - (Go.RowKit.intOf i).toNat)
    case atStart => exact ⟨0, 0, Nat.zero_le _, rfl, rfl, fun j hj => absurd hj (by omega)⟩
    case round =>
      obtain ⟨k, q, hk, rfl, rfl, hsame⟩ := hrel
      replace hsame := hid hsame
      by_cases hlt : k < n
      · obtain ⟨b1, o1, rfl, _, _, hc1⟩ := h1.out.2.2 (by omega)
        obtain ⟨b2, o2, rfl, _, _, hc2⟩ := h2.out.2.2 (by omega)
        have g1 := hc1 k (by omega)
        have g2 := hc2 k (by omega)
        clear hc1 hc2 h1 h2
        by_cases he : xs.getD k 0 = ys.getD k 0
        · have hs' : Hid (∀ j, j < k + 1 → xs.getD j 0 = ys.getD j 0) := hid (fun j hj => by
            rcases Nat.lt_or_ge j k with h | h
            · exact hsame.out j h
            · obtain rfl : j = k := by omega
              exact he)
          rw [he] at g1
          clear he hsame
          generalize ys.getD k 0 = y at *
          go_wp2_with fail
          go_quiet (fail)
          go_wp2
          go_roundw
          case rel => exact ⟨k + 1, q + nq, by omega, by go_num, rfl, hs'.out⟩
          case measure => simp [Go.RowKit.intOf]; omega
        · have hno : Hid (¬ xs = ys) := hid (fun e => he (by rw [e]))
          have he' : (xs.getD k 0 == ys.getD k 0) = false := by simpa using he
          have he2 : (xs.getD k 0 != ys.getD k 0) = true := by simpa using he
          clear hsame
          generalize xs.getD k 0 = x at *
          generalize ys.getD k 0 = y at *
          go_wp2_with fail
          go_quiet (fail)
          go_wp2
          go_ret
          exact ⟨⟨false, rfl, by simpa using hno.out⟩, q + nq, by first | rfl | (rw [World.drewN_drewN]) | (simp [World.drewN]; omega)⟩
      · have hkn : k = n := by omega
        subst hkn
        clear h1 h2
        go_wp2
        go_ret
        exact ⟨⟨true, rfl, by simpa using list_ext_getD (l1.trans l2.symm) (fun i hi => hsame.out i (by omega))⟩, q, rfl⟩
  · have hno : Hid (¬ xs = ys) := hid (fun e => hnm (by rw [← l1, ← l2, e]))
    have h' : ((n : Int) == (m : Int)) = false := by simp; omega
    have h3 : ¬ ((n : Int) = (m : Int)) := by omega
    go_enter Try.func19, Try.ntmps19
    go_wp2
    go_ret
    exact ⟨⟨false, rfl, by simpa using hno.out⟩, 0, rfl⟩

/-- where the leaf at place i stands -/
def leafAddr (B : Nat → Blk) : Nat → Int → Nat → Int
  | 0, a, _ => a
  | l + 1, a, i => leafAddr B l ((kidsL B a).getD (i / pw l) 0) (i % pw l)
theorem leafAddr_bytes (B : Nat → Blk) : ∀ (l : Nat) (a : Int) (i : Nat), bytesL B (leafAddr B l a i) = leafAt B l a i
  | 0, _, _ => rfl
  | l + 1, a, i => leafAddr_bytes B l _ _
theorem leafAddr_root {n : Nat} {B : Nat → Blk} (hR : Right n B) : ∀ (l : Nat) (a : Int) (i : Nat), Root n B l a → i < pw l → Root n B 0 (leafAddr B l a i)
  | 0, _, _, h, _ => h
  | l + 1, a, i, h, hi => by
    have hp := pw_pos l
    have hd : i / pw l < 4 := by simp only [pw] at hi; exact Nat.div_lt_of_lt_mul (by rw [Nat.mul_comm]; exact hi)
    exact leafAddr_root hR l _ _ (h.kidAt hR hd) (Nat.mod_lt _ hp)

/-- what Get answers -/
def RetG (base : Nat) (e : Ending) (w : World) (n : Nat) (B : Nat → Blk) (root lv i : Int) : Prop :=
  (∃ e' : Int, e = .returned (.tuple #[.slice none 0 0, .int .i64 e']) ∧ e' ≠ 0 ∧ ¬ Checked n B root lv i) ∨
  (∃ (l j : Nat) (v : Option Addr) (ln lc : Nat), e = .returned (.tuple #[.slice v ln lc, .int .i64 0]) ∧ lv = l ∧ i = j ∧ l ≤ 3 ∧ j < pw l ∧ Right n B ∧ Root n B l root ∧ NumsAt (fun b => base ≤ b) .u8 w v ln (leafAt B l root j))

end Go.Proofs.Ytaagnojdpedilad
