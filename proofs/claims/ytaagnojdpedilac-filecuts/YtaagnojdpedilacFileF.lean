/-
  Contract of file.Over. Nothing here is trusted.
-/
import Derived.Test.YtaagnojdpedilacFileE
set_option linter.unusedVariables false
namespace Go.Proofs.Ytaagnojdpedilac
open Go.RowKit

set_option maxHeartbeats 400000 in
theorem cloneRow_any (a : Option Addr) (n c : Nat) (l : List Int) (Q : Nat → Prop) (w : World) (hn : n ≤ 1000) (h : NumsAt Q .u8 w a n l) :
    Calls Try.prog 31 #[.slice a n c] w fun e w' =>
      Below w.heap.size w w' ∧ ∃ a' c', e = .returned (.slice a' n c') ∧ n ≤ c' ∧ NumsAt (fun b => w.heap.size ≤ b) .u8 w' a' n l := by
  obtain ⟨i0, hi, hz0, hz1, hz2⟩ := info_parts Try.infoByte
  have qn : ∀ (w : World) (a : Option Addr) (n c n' c' : Nat), (binOp .eql 25 (.slice a n c) (.slice none n' c')).run Try.prog w = .ok (.bool a.isNone) w := fun w a n c n' c' => Lib.run_eql_slice_nil w _ _ a n c n' c' Try.underlying25
  cases a with
  | none =>
    have hn0 : n = 0 := by
      rcases Nat.eq_zero_or_pos n with h0 | h0
      · exact h0
      · obtain ⟨_, _, h1, _⟩ := h.2.2 h0
        cases h1
    subst hn0
    have hl := h.1
    replace h := hid h
    go_enter Try.func31, Try.ntmps31
    go_wp2_with fail
    go_ret
    exact ⟨Below.refl _ _, _, _, rfl, Nat.le_refl _, by rw [List.eq_nil_of_length_eq_zero hl]; exact numsAt_nil _ _ _ _⟩
  | some x =>
    have hl := h.1
    have hcn : ∀ j u, (l.map (Value.int .u8))[j]? = some u → (w.alloc (.cells #[] 5)).cell? (x.add j) = some u := by
      intro j u hj
      have hjl : j < l.length := by
        rcases Nat.lt_or_ge j l.length with h | h
        · exact h
        · simp [List.getElem?_eq_none h] at hj
      obtain ⟨b, off, he, hb, _, hc⟩ := h.2.2 (by omega)
      obtain rfl : x = ⟨b, off, none⟩ := by simpa using he
      have ea : (⟨b, off, none⟩ : Addr).add j = ⟨b, off + j, none⟩ := by unfold Addr.add; split <;> simp_all
      rw [ea, World.cell?_alloc_past _ _ _ hb, hc j (by omega)]
      simp [hjl] at hj
      simp [List.getD, hjl, hj]
    have A := hid hcn
    have hwf := hid h.2.1
    replace hl := hid hl
    clear hcn h
    go_enter Try.func31, Try.ntmps31
    go_wp2_with (at_builtin; refine wpList_append_own _ rfl _ _ 25 rfl w.heap.size 5 i0 (.int .u8 0) 1 1 Try.underlying25 hi hz0 hz1 hz2 rfl (by decide) _ _ _ rfl (World.ownsRow_made w #[] 0 (Nat.le_refl _) (Nat.zero_le _) (by simp)) x n c (l.map (Value.int .u8)) rfl ?qc1 ?qc2 ?qc3 ?qc4 ?qc5 ?qc6 ?_)
    case qc1 => simp [hl.out]
    case qc2 => exact A.out
    case qc3 => intro u hu; simp at hu; obtain ⟨x, _, rfl⟩ := hu; rfl
    case qc4 => unfold maxLen; omega
    case qc5 => omega
    case qc6 => simp
    intro v' w1 hown hgrow hnil
    have hown' : w1.ownsRow w.heap.size 5 1 v' n (l.map (Value.int .u8)) := by simpa using hown
    have hbel := ((Below.refl _ w).alloc (Nat.le_refl _) _).grown hgrow (by simp) (by intro k hk; simp [Value.ownBlock] at hk; omega)
    clear hown hgrow A hnil
    obtain ⟨a', c', rfl, hnc, hN⟩ := numsAt_own hwf.out hown'
    replace hN := hid hN
    clear hown'
    go_wp2_with fail
    go_ret
    exact ⟨hbel, a', c', rfl, hnc, hN.out⟩

/-- what Over answers -/
def RetOv (base : Nat) (e : Ending) (w : World) (b : List Int) (at' : Int) (more : List Int) : Prop :=
  (∃ e' : Int, e = .returned (.tuple #[.slice none 0 0, .int .i64 e']) ∧ e' ≠ 0 ∧ ¬ (0 ≤ at' ∧ at' + (more.length : Int) ≤ 256)) ∨
  (∃ (x : Option Addr) (ln lc A : Nat), e = .returned (.tuple #[.slice x ln lc, .int .i64 0]) ∧ at' = (A : Int) ∧ A + more.length ≤ 256 ∧ ln ≤ lc ∧ NumsAt (fun q => base ≤ q) .u8 w x ln (overL b A more))

theorem over_row {w : World} {g M A base : Nat} {b more : List Int} (hb : Bytes b) (hm : Bytes more) (hne : more ≠ []) (hM : M = max b.length (A + more.length)) (hg : base ≤ g)
    (h : CellsAt w g (splice (splice ((zeros M).map (Value.int .u8)) 0 (b.map (Value.int .u8))) A (more.map (Value.int .u8))).toArray 5) : NumsAt (fun q => base ≤ q) .u8 w (some ⟨g, 0, none⟩) M (overL b A more) := by
  rw [map_splice, map_splice] at h
  have e : splice (splice (zeros M) 0 b) A more = overL b A more := by unfold overL; rw [if_neg hne, hM]
  rw [e] at h
  have hl : (overL b A more).length = M := by rw [overL_length, if_neg hne, hM]
  have := nums_of_cells (Q := fun q => base ≤ q) hg (overL_bytes (at' := A) hb hm) h
  rwa [hl] at this

set_option maxHeartbeats 4000000 in
set_option maxRecDepth 100000 in
theorem over_any (ba : Option Addr) (bn bc : Nat) (b : List Int) (at' : Int) (ma : Option Addr) (mn mc : Nat) (more : List Int) (w : World) (hbn : bn ≤ 256) (hb : NumsAt (fun _ => True) .u8 w ba bn b) (hm : NumsAt (fun _ => True) .u8 w ma mn more) :
    Calls Try.prog 19 #[.slice ba bn bc, .int .i64 at', .slice ma mn mc] w fun e w' => RetOv w.heap.size e w' b at' more ∧ Below w.heap.size w w' := by
  obtain ⟨i0, hi0, hz0, hz1, hz2⟩ := info_parts Try.infoByte
  have hml := hm.1
  have hbl := hb.1
  replace hb := hid hb
  replace hm := hid hm
  by_cases ha : 0 ≤ at' ∧ at' ≤ 256
  case neg =>
    go_enter Try.func19, Try.ntmps19
    go_wp2_with fail
    refine (isSize_no at' w ha).mono ?_
    rintro e w1 ⟨rfl, rfl⟩
    replace ha := hid ha
    go_wp2_with fail
    go_ret2
    exact ⟨.inl ⟨3, rfl, by omega, fun f => ha.out (by omega)⟩, Below.refl _ _⟩
  obtain ⟨A, rfl⟩ : ∃ A : Nat, at' = (A : Int) := ⟨at'.toNat, by omega⟩
  have hA : A ≤ 256 := by omega
  by_cases h2 : mn ≤ 256
  case neg =>
    have h2' : ¬ (0 ≤ (mn : Int) ∧ (mn : Int) ≤ 256) := by omega
    go_enter Try.func19, Try.ntmps19
    go_wp2_with fail
    refine (isSize_ok A w ha).mono ?_
    rintro e w1 ⟨rfl, rfl⟩
    go_wp2_with fail
    refine (isSize_no mn w1 h2').mono ?_
    rintro e w2 ⟨rfl, rfl⟩
    clear h2'
    go_wp2_with fail
    go_ret2
    exact ⟨.inl ⟨3, rfl, by omega, fun f => h2 (by omega)⟩, Below.refl _ _⟩
  have h2' : 0 ≤ (mn : Int) ∧ (mn : Int) ≤ 256 := by omega
  by_cases h3 : A + mn ≤ 256
  case neg =>
    go_enter Try.func19, Try.ntmps19
    go_wp2_with fail
    refine (isSize_ok A w ha).mono ?_
    rintro e w1 ⟨rfl, rfl⟩
    go_wp2_with fail
    refine (isSize_ok mn w1 h2').mono ?_
    rintro e w2 ⟨rfl, rfl⟩
    have h3' : (256 : Int) < (A : Int) + (mn : Int) := by omega
    go_wp2_with fail
    go_ret2
    exact ⟨.inl ⟨8, rfl, by omega, fun f => h3 (by omega)⟩, Below.refl _ _⟩
  have h3' : ¬ (256 : Int) < (A : Int) + (mn : Int) := by omega
  by_cases h4 : mn = 0
  · subst h4
    obtain rfl : more = [] := List.eq_nil_of_length_eq_zero hml
    go_enter Try.func19, Try.ntmps19
    go_wp2_with fail
    refine (isSize_ok A w ha).mono ?_
    rintro e w1 ⟨rfl, rfl⟩
    go_wp2_with fail
    refine (isSize_ok 0 w1 h2').mono ?_
    rintro e w2 ⟨rfl, rfl⟩
    go_wp2_with fail
    refine (cloneRow_any ba bn bc b (fun _ => True) w2 (by omega) hb.out).mono ?_
    rintro e w3 ⟨b3, x, lc, rfl, hlc, hN⟩
    replace hN := hid hN
    go_wp2_with fail
    go_ret2
    exact ⟨.inr ⟨x, bn, lc, A, rfl, rfl, by simpa using hA, hlc, by simpa [overL] using hN.out⟩, b3⟩
  have h4' : ((mn : Int) == 0) = false := by simp [h4]
  have hne : Hid (more ≠ []) := hid fun f => h4 (by rw [← hml, f]; rfl)
  obtain ⟨M, hM⟩ : ∃ M, M = max bn (A + mn) := ⟨_, rfl⟩
  have hMm : Hid (M = max b.length (A + more.length)) := hid (by rw [hbl, hml]; exact hM)
  have hM256 : M ≤ 256 := by omega
  have hMb : bn ≤ M := by omega
  have hMa : A + mn ≤ M := by omega
  have fin : Hid (∀ w', CellsAt w' w.heap.size (splice (splice ((zeros M).map (Value.int .u8)) 0 (b.map (Value.int .u8))) A (more.map (Value.int .u8))).toArray 5 → RetOv w.heap.size (.returned (.tuple #[.slice (some ⟨w.heap.size, 0, none⟩) M M, .int .i64 0])) w' b A more) := hid fun w' h => .inr ⟨_, M, M, A, rfl, rfl, by omega, Nat.le_refl _, over_row hb.out.bytes hm.out.bytes hne.out hMm.out (Nat.le_refl _) h⟩
  have hzl : Hid (((zeros M).map (Value.int .u8)).length = M) := hid (by rw [List.length_map, zeros_length])
  have hbX : Hid ((b.map (Value.int .u8)).length = bn) := hid (by rw [List.length_map, hbl])
  have hmX : Hid ((more.map (Value.int .u8)).length = mn) := hid (by rw [List.length_map, hml])
  have h1b := hid (one_map b)
  have h1m := hid (one_map more)
  have hsb : Hid (∀ w', Below w.heap.size w w' → 0 < bn → ∃ ad, ba = some ad ∧ ∀ j v, (b.map (Value.int .u8))[j]? = some v → w'.cell? (ad.add j) = some v) := hid fun w' hw hp => by
    have := hb.out.below hw
    obtain ⟨q, off, rfl, _⟩ := this.2.2 hp
    exact ⟨_, rfl, src_map this hp⟩
  have hsm : Hid (∀ w', Below w.heap.size w w' → 0 < mn → ∃ ad, ma = some ad ∧ ∀ j v, (more.map (Value.int .u8))[j]? = some v → w'.cell? (ad.add j) = some v) := hid fun w' hw hp => by
    have := hm.out.below hw
    obtain ⟨q, off, rfl, _⟩ := this.2.2 hp
    exact ⟨_, rfl, src_map this hp⟩
  have hmx : (if (bn : Int) < (A : Int) + (mn : Int) then (A : Int) + (mn : Int) else (bn : Int)) = (M : Int) := by split <;> omega
  clear hb hm hml hbl hMm hne hmx
  replace hM := hid hM
  go_enter Try.func19, Try.ntmps19
  go_wp2_with fail
  refine (isSize_ok A w ha).mono ?_
  rintro e w1 ⟨rfl, rfl⟩
  go_wp2_with fail
  refine (isSize_ok mn w1 h2').mono ?_
  rintro e w2 ⟨rfl, rfl⟩
  clear ha h2'
  by_cases hmax : (bn : Int) < (A : Int) + (mn : Int)
  all_goals (
    go_wp2_with (at_make; refine wpList_make_full _ rfl (.tmp 34) (.tmp 34) 25 rfl w2.heap.size 5 i0 (.int .u8 0) 1 Try.underlying25 hi0 hz0 hz1 .i64 .i64 _ _ M rfl rfl (by have := hM.out; omega) (by have := hM.out; omega) (by rw [hz2]; omega) (by unfold maxLen; omega) (Nat.le_refl _) ?_; intro w4 hown hgr; have hc4 := made_zero hown; have b4 : Below w2.heap.size w2 w4 := ⟨hgr.os, hgr.tape, hgr.output, hgr.size, fun k hk => hgr.block k hk (by simp)⟩; clear hown hgr; obtain ⟨w5, hr5, hc5, b5⟩ := copy_run (off := 0) (dLen := M) (dCap := M) (sLen := bn) (sCap := bc) (m := bn) _ _ hc4 hbX.out (show bn = min bn M by omega) (hsb.out w4 b4) (by rw [hzl.out]; omega) h1b.out b4 (Nat.le_refl _); clear hc4 b4; have hl5 : (splice ((zeros M).map (Value.int .u8)) 0 (b.map (Value.int .u8))).length = M := (by rw [length_splice _ _ _ (by rw [hzl.out, hbX.out]; omega), hzl.out]); obtain ⟨w6, hr6, hc6, b6⟩ := copy_run (off := A) (dLen := M - A) (dCap := M - A) (sLen := mn) (sCap := mc) (m := mn) _ _ hc5 hmX.out (show mn = min mn (M - A) by omega) (hsm.out w5 b5) (by rw [hl5]; omega) h1m.out b5 (Nat.le_refl _); replace hc6 := hid (fin.out w6 hc6); replace b6 := hid b6; clear hc5 b5 hl5)
    go_ret2
    exact ⟨hc6.out, b6.out⟩)
end Go.Proofs.Ytaagnojdpedilac
