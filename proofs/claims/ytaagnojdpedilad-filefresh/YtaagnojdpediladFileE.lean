/-
  Contracts of file.Check, file.Read, file.Over. Nothing here is trusted.
-/
import Derived.Test.YtaagnojdpediladFileD
set_option linter.unusedVariables false
namespace Go.Proofs.Ytaagnojdpedilad
open Go.RowKit

theorem below_two (w : World) (o q : Obj) : Below w.heap.size w ((w.alloc o).alloc q) := (below_alloc w o).alloc (by simp) q

/-- m bytes from at on of the first s -/
def readL (O : List Int) (s at' m : Nat) : List Int := ((O.take s).drop at').take m
theorem readL_getD (O : List Int) (s at' m k : Nat) (h : at' + k < s) (hk : k < m) : (readL O s at' m).getD k 0 = O.getD (at' + k) 0 := by simp [readL, List.getD, hk, h]
theorem readL_length (O : List Int) (s at' m : Nat) (hO : O.length = 256) (hs : s ≤ 256) : (readL O s at' m).length = min m (s - at') := by simp [readL, hO]; omega
theorem readL_cut (O : List Int) (s at' m lo ln : Nat) (hO : O.length = 256) (hs : s ≤ 256) (h : ln = min m (s - at')) (hlo : 0 < ln → lo = at') : (O.drop lo).take ln = readL O s at' m := by
  by_cases h0 : ln = 0
  · have h1 : (readL O s at' m).length = 0 := by rw [readL_length _ _ _ _ hO hs]; omega
    rw [List.eq_nil_of_length_eq_zero h1, h0]; simp
  · have h2 := hlo (by omega)
    subst h2
    apply list_ext_getD
    · rw [readL_length _ _ _ _ hO hs]; simp [hO]; omega
    · intro k hk
      have hk' : k < ln := by simp [hO] at hk; omega
      rw [readL_getD _ _ _ _ _ (by omega) (by omega)]
      simp [List.getD, hk']

/-- what Read answers -/
def RetRd (base : Nat) (e : Ending) (w : World) (n : Nat) (B : Nat → Blk) (key root size at' m : Int) : Prop :=
  (∃ e' : Int, e = .returned (.tuple #[.slice none 0 0, .int .i64 e']) ∧ e' ≠ 0 ∧ ¬ (FileOk n B key root size ∧ (0 ≤ at' ∧ at' ≤ 256) ∧ (0 ≤ m ∧ m ≤ 256))) ∨
  (∃ (x : Option Addr) (ln lc : Nat), e = .returned (.tuple #[.slice x ln lc, .int .i64 0]) ∧ FileOk n B key root size ∧ ln ≤ lc ∧ NumsAt (fun b => base ≤ b) .u8 w x ln (readL (fileL key (leafAt B 3 root)) size.toNat at'.toNat m.toNat))

set_option maxHeartbeats 4000000 in
set_option maxRecDepth 100000 in
theorem fileRead_any (a : Option Addr) (n c : Nat) (B : Nat → Blk) (key root size at' m : Int) (w : World) (h : StoreAt w a n B) :
    Calls Try.prog 5 #[.agg #[.slice a n c], .int .i64 key, .agg #[.int .i64 root, .int .i64 size], .int .i64 at', .int .i64 m] w fun e w' => RetRd w.heap.size e w' n B key root size at' m ∧ Below w.heap.size w w' := by
  have b0 := hid (below_two w (.cells #[.slice a n c] 24) (.cells #[.int .i64 root, .int .i64 size] 26))
  have kf : CellsAt _ (w.heap.size + 1) #[.int .i64 root, .int .i64 size] 26 := cellsAt_alloc2 w (.cells #[.slice a n c] 24) _ _
  replace kf := hid kf
  replace h := hid h
  go_enter Try.func5, Try.ntmps5
  go_wp2_with fail
  generalize (w.alloc (.cells #[.slice a n c] 24)).alloc (.cells #[.int .i64 root, .int .i64 size] 26) = w0 at *
  refine (open_any a n c B key root size w0 (h.out.below b0.out)).mono ?_
  rintro e w1 ⟨⟨e', rfl, he, hno⟩ | ⟨g, rfl, hok, hg, hrow⟩, b1⟩
  · have he' : (e' == 0) = false := by simp [he]
    replace hno := hid hno
    go_wp2_with fail
    go_ret2
    exact ⟨.inl ⟨e', rfl, he, fun f => hno.out f.1⟩, Below.tr b0.out b1⟩
  have hs := hok.sb
  obtain ⟨sz, rfl⟩ : ∃ sz : Nat, size = (sz : Int) := ⟨size.toNat, by omega⟩
  have hN := nums_of_cells (Q := fun b => w.heap.size ≤ b) (Nat.le_trans b0.out.size hg) (fileL_bytes key (leafAt B 3 root)) hrow
  rw [fileL_length] at hN
  have hfl := fileL_length key (leafAt B 3 root)
  have f1 := (kf.out.below b1).cell 1
  simp at f1
  have bel := hid (Below.tr b0.out b1)
  have hcut := hid (fun (at' m lo ln : Nat) => readL_cut (fileL key (leafAt B 3 root)) sz at' m lo ln hfl (by omega))
  replace hN := hid hN
  replace hok := hid hok
  clear hrow b1 kf hfl b0 h hg
  by_cases ha : 0 ≤ at' ∧ at' ≤ 256
  case neg =>
    go_wp2_with fail
    refine (isSize_no at' w1 ha).mono ?_
    rintro e w2 ⟨rfl, rfl⟩
    replace ha := hid ha
    go_wp2_with fail
    go_ret2
    exact ⟨.inl ⟨3, rfl, by omega, fun f => ha.out f.2.1⟩, bel.out⟩
  go_wp2_with fail
  refine (isSize_ok at' w1 ha).mono ?_
  rintro e w2 ⟨rfl, rfl⟩
  obtain ⟨A, rfl⟩ : ∃ A : Nat, at' = (A : Int) := ⟨at'.toNat, by omega⟩
  have hA : A ≤ 256 := by omega
  clear ha
  by_cases hm : 0 ≤ m ∧ m ≤ 256
  case neg =>
    go_wp2_with fail
    refine (isSize_no m w2 hm).mono ?_
    rintro e w3 ⟨rfl, rfl⟩
    replace hm := hid hm
    go_wp2_with fail
    go_ret2
    exact ⟨.inl ⟨3, rfl, by omega, fun f => hm.out f.2.2⟩, bel.out⟩
  go_wp2_with fail
  refine (isSize_ok m w2 hm).mono ?_
  rintro e w3 ⟨rfl, rfl⟩
  obtain ⟨M, rfl⟩ : ∃ M : Nat, m = (M : Int) := ⟨m.toNat, by omega⟩
  have hM : M ≤ 256 := by omega
  have hsz : sz ≤ 256 := by omega
  clear hm hs
  have fin : Hid (∀ (x : Option Addr) (ln lc lo : Nat), ln ≤ lc → ln = min M (sz - A) → (0 < ln → x = some ⟨g, lo, none⟩ ∧ lo = A ∧ lo + ln ≤ 256) → RetRd w.heap.size (.returned (.tuple #[.slice x ln lc, .int .i64 0])) w3 n B key root sz A M) := hid (fun x ln lc lo h1 h2 h3 => .inr ⟨x, ln, lc, rfl, hok.out, h1, by
    rw [Int.toNat_natCast, Int.toNat_natCast, Int.toNat_natCast, ← hcut.out A M lo ln h2 (fun h => (h3 h).2.1)]
    by_cases h0 : ln = 0
    · subst h0
      simp only [List.take_zero]
      exact numsAt_nil _ _ _ _
    · obtain ⟨rfl, _, h4⟩ := h3 (by omega)
      have := hN.out.piece (lo := lo) (m := ln) h4
      rwa [Nat.zero_add] at this⟩)
  clear hN hcut
  by_cases h1 : A < sz
  · have h1' : (A : Int) < (sz : Int) := by omega
    by_cases h2 : A + M < sz
    · have h2' : (A : Int) + (M : Int) < (sz : Int) := by omega
      go_wp2_with fail
      all_goals (go_ret2; exact ⟨fin.out _ _ _ A (by omega) (by omega) (fun _ => ⟨by simp, rfl, by omega⟩), bel.out⟩)
    · have h2' : ¬ (A : Int) + (M : Int) < (sz : Int) := by omega
      go_wp2_with fail
      all_goals (go_ret2; exact ⟨fin.out _ _ _ A (by omega) (by omega) (fun _ => ⟨by simp, rfl, by omega⟩), bel.out⟩)
  · have h1' : ¬ (A : Int) < (sz : Int) := by omega
    have h2' : ¬ (A : Int) + (M : Int) < (sz : Int) := by omega
    go_wp2_with fail
    all_goals (go_ret2; exact ⟨fin.out _ _ _ A (by omega) (by omega) (fun f => absurd f (by omega)), bel.out⟩)
end Go.Proofs.Ytaagnojdpedilad
