/-
  Contracts of slices.Index, Contains, IndexFunc, ContainsFunc, IsSorted at ints, of cmp.Less and of the law's own closure. Nothing here is trusted.
-/
import Derived.Test.YtaagnojdpedilabSto4
import Derived.Deep.QuietTactic
set_option linter.unusedVariables false
namespace Go.Proofs.Ytaagnojdpedilab
open Go.RowKit

/-- what Index answers -/
def RetIn (e : Ending) (xs : List Int) (v : Int) : Prop := ∃ i : Int, e = .returned (.int .i64 i) ∧ (0 ≤ i ↔ v ∈ xs)

theorem mem_of_getD {xs : List Int} {v : Int} (h : v ∈ xs) : ∃ k, k < xs.length ∧ xs.getD k 0 = v := by
  obtain ⟨k, hk, e⟩ := List.getElem_of_mem h
  exact ⟨k, hk, by simp [List.getD, hk, e]⟩

theorem index_any (a : Option Addr) (n c : Nat) (xs : List Int) (v : Int) (w : World) (hn : n ≤ 1000) (h : NumsAt (fun _ => True) .i64 w a n xs) :
    Calls Try.prog 57 #[.slice a n c, .int .i64 v] w fun e w' => RetIn e xs v ∧ w' = w := by
  replace h := hid h
  go_enter Try.func57, Try.ntmps57
  go_wp2_with fail
  go_loopw [8] (fun u wr => ∃ i : Nat, i ≤ n ∧ u = .int .i64 i ∧ (∀ k, k < i → xs.getD k 0 ≠ v) ∧ wr = w) (fun u _ => n - (Go.RowKit.intOf u).toNat)
  case atStart => exact ⟨0, Nat.zero_le _, rfl, fun k hk => absurd hk (by omega), rfl⟩
  case round =>
    obtain ⟨i, hin, rfl, hno, rfl⟩ := hrel
    replace hno := hid hno
    by_cases hlt : i < n
    · obtain ⟨b, off, rfl, _, _, hc⟩ := h.out.2.2 (by omega)
      have g := hc i hlt
      have hm := hid (h.out.getD hlt)
      clear hc
      generalize hx : xs.getD i 0 = x at *
      replace hx := hid hx
      by_cases hv : v = x
      · have hv' : (v == x) = true := by simp [hv]
        replace hv := hid hv
        go_wp2_with fail
        go_ret
        exact ⟨⟨_, rfl, ⟨fun _ => by rw [hv.out]; exact hm.out, fun _ => by omega⟩⟩, rfl⟩
      · have hv' : (v == x) = false := by simp [hv]
        replace hv := hid hv
        go_wp2_with fail
        go_roundw
        case rel =>
          refine ⟨i + 1, by omega, by go_num, fun k hk => ?_, trivial⟩
          rcases Nat.lt_or_ge k i with h' | h'
          · exact hno.out k h'
          · obtain rfl : k = i := by omega
            rw [hx.out]; exact fun e => hv.out e.symm
        case measure => simp [Go.RowKit.intOf]; omega
    · obtain rfl : i = n := by omega
      go_wp2_with fail
      go_ret
      refine ⟨⟨_, rfl, ⟨fun h0 => by omega, fun hm => ?_⟩⟩, rfl⟩
      obtain ⟨k, hk, e⟩ := mem_of_getD hm
      exact absurd e (hno.out k (by rw [h.out.1] at hk; exact hk))

theorem contains_any (a : Option Addr) (n c : Nat) (xs : List Int) (v : Int) (w : World) (hn : n ≤ 1000) (h : NumsAt (fun _ => True) .i64 w a n xs) (hv : v ∈ xs) :
    Calls Try.prog 25 #[.slice a n c, .int .i64 v] w fun e w' => e = .returned (.bool true) ∧ w' = w := by
  replace h := hid h
  replace hv := hid hv
  go_enter Try.func25, Try.ntmps25
  go_wp2_with fail
  refine (index_any a n c xs v w hn h.out).mono ?_
  rintro e w1 ⟨⟨i, rfl, hi⟩, rfl⟩
  have h0 : 0 ≤ i := hi.2 hv.out
  clear hi
  go_wp2_with fail
  go_ret
  exact ⟨by simp, rfl⟩

theorem missing_any (p : Addr) (a : Option Addr) (n c : Nat) (xs : List Int) (v : Int) (w : World) (hp : w.cell? p = some (.slice a n c)) (hn : n ≤ 1000) (h : NumsAt (fun _ => True) .i64 w a n xs) (hv : v ∈ xs) :
    Calls Try.prog 24 #[.int .i64 v, .pointer (some p)] w fun e w' => e = .returned (.bool false) ∧ w' = w := by
  replace h := hid h
  replace hv := hid hv
  go_enter Try.func24, Try.ntmps24
  go_wp2_with fail
  refine (contains_any a n c xs v w hn h.out hv.out).mono ?_
  rintro e w1 ⟨rfl, rfl⟩
  go_wp2_with fail
  go_ret
  exact ⟨rfl, rfl⟩

theorem indexMissing_any (p : Addr) (a : Option Addr) (n c : Nat) (xs : List Int) (ya : Option Addr) (yn yc : Nat) (ys : List Int) (w : World) (hp : w.cell? p = some (.slice a n c)) (hn : n ≤ 1000) (h : NumsAt (fun _ => True) .i64 w a n xs)
    (hyn : yn ≤ 1000) (hy : NumsAt (fun _ => True) .i64 w ya yn ys) (hv : ∀ y ∈ ys, y ∈ xs) :
    Calls Try.prog 56 #[.slice ya yn yc, .func (.func 24) #[] #[.pointer (some p)]] w fun e w' => e = .returned (.int .i64 (-1)) ∧ w' = w := by
  replace h := hid h
  replace hy := hid hy
  replace hv := hid hv
  go_enter Try.func56, Try.ntmps56
  go_wp2_with fail
  go_loopw [8] (fun u wr => ∃ i : Nat, i ≤ yn ∧ u = .int .i64 i ∧ wr = w) (fun u _ => yn - (Go.RowKit.intOf u).toNat)
  case atStart => exact ⟨0, Nat.zero_le _, rfl, rfl⟩
  case round =>
    obtain ⟨i, hin, rfl, rfl⟩ := hrel
    by_cases hlt : i < yn
    · obtain ⟨b, off, rfl, _, _, hc⟩ := hy.out.2.2 (by omega)
      have g := hc i hlt
      have hm := hid (hv.out _ (hy.out.getD hlt))
      clear hc
      generalize ys.getD i 0 = x at *
      go_wp2_with fail
      refine (missing_any p a n c xs x wr hp hn h.out hm.out).mono ?_
      rintro e w1 ⟨rfl, rfl⟩
      go_wp2_with fail
      go_roundw
      case rel => exact ⟨i + 1, by omega, by go_num, trivial⟩
      case measure => simp [Go.RowKit.intOf]; omega
    · obtain rfl : i = yn := by omega
      go_wp2_with fail
      go_ret
      exact ⟨rfl, rfl⟩

theorem containsMissing_any (p : Addr) (a : Option Addr) (n c : Nat) (xs : List Int) (ya : Option Addr) (yn yc : Nat) (ys : List Int) (w : World) (hp : w.cell? p = some (.slice a n c)) (hn : n ≤ 1000) (h : NumsAt (fun _ => True) .i64 w a n xs)
    (hyn : yn ≤ 1000) (hy : NumsAt (fun _ => True) .i64 w ya yn ys) (hv : ∀ y ∈ ys, y ∈ xs) :
    Calls Try.prog 23 #[.slice ya yn yc, .func (.func 24) #[] #[.pointer (some p)]] w fun e w' => e = .returned (.bool false) ∧ w' = w := by
  replace h := hid h
  replace hy := hid hy
  replace hv := hid hv
  go_enter Try.func23, Try.ntmps23
  go_wp2_with fail
  refine (indexMissing_any p a n c xs ya yn yc ys w hp hn h.out hyn hy.out hv.out).mono ?_
  rintro e w1 ⟨rfl, rfl⟩
  go_wp2_with fail
  go_ret
  exact ⟨rfl, rfl⟩

theorem isNaN_any (x : Int) (w : World) : Calls Try.prog 87 #[.int .i64 x] w fun e w' => e = .returned (.bool false) ∧ w' = w := by
  go_enter Try.func87, Try.ntmps87
  go_wp2
  go_ret
  exact ⟨by simp, rfl⟩

theorem cmpLess_any (x y : Int) (w : World) : Calls Try.prog 58 #[.int .i64 x, .int .i64 y] w fun e w' => e = .returned (.bool (decide (x < y))) ∧ w' = w := by
  go_enter Try.func58, Try.ntmps58
  go_wp2_with fail
  refine (isNaN_any x w).mono ?_
  rintro e w1 ⟨rfl, rfl⟩
  go_wp2_with fail
  go_ret
  exact ⟨by first | rfl | simp, rfl⟩

theorem rising_getD {xs : List Int} (h : Rising xs) {t : Nat} (ht : t + 1 < xs.length) : ¬ xs.getD (t + 1) 0 < xs.getD t 0 := by
  have := List.pairwise_iff_getElem.1 h t (t + 1) (by omega) ht (by omega)
  simp [List.getD, show t < xs.length by omega, ht]
  omega

set_option maxHeartbeats 1000000 in
theorem isSorted_any (a : Option Addr) (n c : Nat) (xs : List Int) (w : World) (hn : n ≤ 1000) (h : NumsAt (fun _ => True) .i64 w a n xs) (hr : Rising xs) :
    Calls Try.prog 26 #[.slice a n c] w fun e w' => e = .returned (.bool true) ∧ ∃ q, w' = w.drewN q := by
  replace h := hid h
  replace hr := hid hr
  go_enter Try.func26, Try.ntmps26
  go_wp2
  go_loopw [3] (fun u wr => ∃ (iz : Int) (q : Nat), u = .int .i64 iz ∧ -1 ≤ iz ∧ iz < n ∧ wr = w.drewN q) (fun u _ => (Go.RowKit.intOf u).toNat)
  case atStart => exact ⟨(n : Int) - 1, 0, rfl, by omega, by omega, rfl⟩
  case round =>
    obtain ⟨iz, q, rfl, h1, h2, rfl⟩ := hrel
    by_cases hlt : 0 < iz
    · obtain ⟨t, rfl⟩ : ∃ t : Nat, iz = (t : Int) + 1 := ⟨(iz - 1).toNat, by omega⟩
      obtain ⟨b, off, rfl, _, _, hc⟩ := h.out.2.2 (by omega)
      have g1 := hc (t + 1) (by omega)
      have g2 := hc t (by omega)
      have hxy := rising_getD hr.out (t := t) (by rw [h.out.1]; omega)
      clear hc
      generalize xs.getD (t + 1) 0 = x at *
      generalize xs.getD t 0 = y at *
      obtain ⟨iN, hiN⟩ : ∃ q, q = t + 1 := ⟨_, rfl⟩
      obtain ⟨jN, hjN⟩ : ∃ q, q = t := ⟨_, rfl⟩
      have ea : ((t : Int) + 1).toNat = iN := by omega
      have pa : (0 : Int) ≤ (t : Int) + 1 := by omega
      have ba : (t : Int) + 1 < (n : Int) := by omega
      have ra : IntKind.i64.wrap ((t : Int) + 1) = (t : Int) + 1 := by rw [IntKind.wrap_i64]; omega
      have ec : ((t : Int)).toNat = jN := by omega
      have pc : (0 : Int) ≤ (t : Int) := by omega
      have bc : (t : Int) < (n : Int) := by omega
      have rc : IntKind.i64.wrap ((t : Int)) = (t : Int) := by rw [IntKind.wrap_i64]; omega
      have la : ∀ m, ((w.drewN q).drewN m).cell? ⟨b, off + iN, none⟩ = some (.int .i64 x) := by intro m; rw [hiN]; simpa using g1
      have lb : ∀ m, ((w.drewN q).drewN m).cell? ⟨b, off + jN, none⟩ = some (.int .i64 y) := by intro m; rw [hjN]; simpa using g2
      clear hiN hjN g1 g2
      generalize hW : w.drewN q = W at la lb ⊢
      replace hW := hid hW
      go_wp2_with fail
      go_quiet (refine Calls.quiet_of_same (cmpLess_any _ _ _))
      clear la lb ea ec
      go_wp2
      go_roundw
      case rel => exact ⟨(t : Int), q + nq, by go_num, by omega, by omega, by rw [← hW.out, World.drewN_drewN]⟩
      case measure => simp [Go.RowKit.intOf]
    · clear h
      go_wp2
      go_ret
      exact ⟨rfl, q, rfl⟩

end Go.Proofs.Ytaagnojdpedilab
