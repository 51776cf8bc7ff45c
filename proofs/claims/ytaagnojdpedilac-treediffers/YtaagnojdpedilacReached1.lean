/-
  Contracts of slices.Index, Contains, IndexFunc, ContainsFunc, IsSorted at ints, of cmp.Less and of the law's own closure. Nothing here is trusted.
-/
import Derived.Test.YtaagnojdpedilacSto4
import Derived.Deep.QuietTactic
set_option linter.unusedVariables false
namespace Go.Proofs.Ytaagnojdpedilac
open Go.RowKit

/-- what Index answers -/
def RetIn (e : Ending) (xs : List Int) (v : Int) : Prop := ∃ i : Int, e = .returned (.int .i64 i) ∧ (0 ≤ i ↔ v ∈ xs)

theorem mem_of_getD {xs : List Int} {v : Int} (h : v ∈ xs) : ∃ k, k < xs.length ∧ xs.getD k 0 = v := by
  obtain ⟨k, hk, e⟩ := List.getElem_of_mem h
  exact ⟨k, hk, by simp [List.getD, hk, e]⟩

theorem isNaN_any (x : Int) (w : World) : Calls Try.prog 77 #[.int .i64 x] w fun e w' => e = .returned (.bool false) ∧ w' = w := by
  go_enter Try.func77, Try.ntmps77
  go_wp2
  go_ret
  exact ⟨by simp, rfl⟩

theorem cmpLess_any (x y : Int) (w : World) : Calls Try.prog 50 #[.int .i64 x, .int .i64 y] w fun e w' => e = .returned (.bool (decide (x < y))) ∧ w' = w := by
  go_enter Try.func50, Try.ntmps50
  go_wp2_with fail
  refine (isNaN_any x w).mono ?_
  rintro e w1 ⟨rfl, rfl⟩
  go_wp2_with fail
  go_ret
  exact ⟨by first | rfl | simp, rfl⟩

theorem rising_getD {xs : List Int} (h : Rising xs) {t : Nat} (ht : t + 1 < xs.length) : ¬ xs.getD (t + 1) 0 < xs.getD t 0 := by
  have := List.pairwise_iff_getElem.1 h t (t + 1) (by omega) ht (by omega)
  simp [List.getD, show t < xs.length by omega, ht]
  omega

set_option maxHeartbeats 1000000 in
theorem isSorted_any (a : Option Addr) (n c : Nat) (xs : List Int) (w : World) (hn : n ≤ 1000) (h : NumsAt (fun _ => True) .i64 w a n xs) (hr : Rising xs) :
    Calls Try.prog 17 #[.slice a n c] w fun e w' => e = .returned (.bool true) ∧ ∃ q, w' = w.drewN q := by
  replace h := hid h
  replace hr := hid hr
  go_enter Try.func17, Try.ntmps17
  go_wp2
  go_loopw [3] (fun u wr => ∃ (iz : Int) (q : Nat), u = .int .i64 iz ∧ -1 ≤ iz ∧ iz < n ∧ wr = w.drewN q) (fun u _ => (Go.RowKit.intOf u).toNat)
  case atStart => exact ⟨(n : Int) - 1, 0, rfl, by omega, by omega, rfl⟩
  case round =>
    obtain ⟨iz, q, rfl, h1, h2, rfl⟩ := hrel
    by_cases hlt : 0 < iz
    · obtain ⟨t, rfl⟩ : ∃ t : Nat, iz = (t : Int) + 1 := ⟨(iz - 1).toNat, by omega⟩
      obtain ⟨b, off, rfl, _, _, hc⟩ := h.out.2.2 (by omega)
      have g1 := hc (t + 1) (by omega)
      have g2 := hc t (by omega)
      have hxy := rising_getD hr.out (t := t) (by rw [h.out.1]; omega)
      clear hc
      generalize xs.getD (t + 1) 0 = x at *
      generalize xs.getD t 0 = y at *
      obtain ⟨iN, hiN⟩ : ∃ q, q = t + 1 := ⟨_, rfl⟩
      obtain ⟨jN, hjN⟩ : ∃ q, q = t := ⟨_, rfl⟩
      have ea : ((t : Int) + 1).toNat = iN := by omega
      have pa : (0 : Int) ≤ (t : Int) + 1 := by omega
      have ba : (t : Int) + 1 < (n : Int) := by omega
      have ra : IntKind.i64.wrap ((t : Int) + 1) = (t : Int) + 1 := by rw [IntKind.wrap_i64]; omega
      have ec : ((t : Int)).toNat = jN := by omega
      have pc : (0 : Int) ≤ (t : Int) := by omega
      have bc : (t : Int) < (n : Int) := by omega
      have rc : IntKind.i64.wrap ((t : Int)) = (t : Int) := by rw [IntKind.wrap_i64]; omega
      have la : ∀ m, ((w.drewN q).drewN m).cell? ⟨b, off + iN, none⟩ = some (.int .i64 x) := by intro m; rw [hiN]; simpa using g1
      have lb : ∀ m, ((w.drewN q).drewN m).cell? ⟨b, off + jN, none⟩ = some (.int .i64 y) := by intro m; rw [hjN]; simpa using g2
      clear hiN hjN g1 g2
      generalize hW : w.drewN q = W at la lb ⊢
      replace hW := hid hW
      go_wp2_with fail
      go_quiet (refine Calls.quiet_of_same (cmpLess_any _ _ _))
      clear la lb ea ec
      go_wp2
      go_roundw
      case rel => exact ⟨(t : Int), q + nq, by go_num, by omega, by omega, by rw [← hW.out, World.drewN_drewN]⟩
      case measure => simp [Go.RowKit.intOf]
    · clear h
      go_wp2
      go_ret
      exact ⟨rfl, q, rfl⟩

end Go.Proofs.Ytaagnojdpedilac
