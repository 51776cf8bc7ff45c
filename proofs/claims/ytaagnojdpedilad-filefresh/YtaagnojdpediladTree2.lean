/-
  Contracts of package tree's small functions. Nothing here is trusted.
-/
import Derived.Test.YtaagnojdpediladTree1
import Derived.Laws.IdiomCopy
import Derived.Laws.CopyOwn
set_option linter.unusedVariables false
namespace Go.Proofs.Ytaagnojdpedilad
open Go.RowKit

theorem pw_mono {i l : Nat} (h : i ≤ l) : pw i ≤ pw l := by
  induction l with
  | zero => obtain rfl : i = 0 := by omega
            exact Nat.le_refl _
  | succ l ih =>
    by_cases e : i = l + 1
    · subst e; exact Nat.le_refl _
    · have := ih (by omega); simp only [pw]; omega
theorem pw_le {l : Nat} (h : l ≤ 3) : pw l ≤ 64 := pw_mono h

theorem width_any (l : Nat) (w : World) (hl : l ≤ 3) :
    Calls Try.prog 22 #[.int .i64 l] w fun e w' => e = .returned (.int .i64 (pw l)) ∧ w' = w := by
  go_enter Try.func22, Try.ntmps22
  go_wp2_with fail
  go_loopw [3, 5] (fun v u wr => ∃ i : Nat, i ≤ l ∧ v = .int .i64 (pw i) ∧ u = .int .i64 i ∧ wr = w) (fun _ u _ => l - (Go.RowKit.intOf u).toNat)
  case atStart => exact ⟨0, Nat.zero_le _, rfl, rfl, rfl⟩
  case round =>
    obtain ⟨i, hil, rfl, rfl, rfl⟩ := hrel
    have hb := pw_le (Nat.le_trans hil hl)
    have hs : ((pw i : Nat) : Int) * 4 = ((pw (i + 1) : Nat) : Int) := by simp only [pw]; omega
    have hs2 : Int.ofNat (pw i) * 4 = ((pw (i + 1) : Nat) : Int) := hs
    by_cases hlt : i < l
    · generalize pw i = q at *
      go_wp2_with fail
      go_roundw
      case rel => exact ⟨i + 1, by omega, by go_num, by go_num, by simp⟩
      case measure => simp [Go.RowKit.intOf]; omega
    · obtain rfl : i = l := by omega
      clear hs hs2
      go_wp2_with fail
      go_ret
      exact ⟨rfl, rfl⟩

/-- what Leaves answers -/
def RetL (e : Ending) (lv : Int) : Prop := (∃ l : Nat, l ≤ 3 ∧ lv = l ∧ e = .returned (.tuple #[.int .i64 (pw l), .int .i64 0])) ∨ ((lv < 0 ∨ 3 < lv) ∧ e = .returned (.tuple #[.int .i64 0, .int .i64 3]))

theorem leaves_any (lv : Int) (w : World) :
    Calls Try.prog 34 #[.int .i64 lv] w fun e w' => RetL e lv ∧ w' = w := by
  by_cases h1 : lv < 0
  · go_enter Try.func34, Try.ntmps34
    go_wp2_with fail
    go_ret2
    exact ⟨.inr ⟨.inl h1, rfl⟩, rfl⟩
  · by_cases h2 : 3 < lv
    · go_enter Try.func34, Try.ntmps34
      go_wp2_with fail
      go_ret2
      exact ⟨.inr ⟨.inr h2, rfl⟩, rfl⟩
    · obtain ⟨l, rfl⟩ : ∃ l : Nat, lv = (l : Int) := ⟨lv.toNat, by omega⟩
      have hl : l ≤ 3 := by omega
      go_enter Try.func34, Try.ntmps34
      go_wp2_with fail
      refine (width_any l w hl).mono ?_
      rintro e w1 ⟨rfl, rfl⟩
      go_wp2_with fail
      go_ret2
      exact ⟨.inl ⟨l, hl, rfl, rfl⟩, rfl⟩

/-- it answers these bytes -/
def RetY (e : Ending) (w : World) (l : List Int) : Prop := ∃ ba bn bc, e = .returned (.slice ba bn bc) ∧ NumsAt (fun _ => True) .u8 w ba bn l
/-- the bytes of the block at a, where they lie -/
theorem bytesOf_any (p : Addr) (a : Option Addr) (n c : Nat) (B : Nat → Blk) (x : Int) (w : World) (hn : n ≤ 400) (hs : w.cell? p = some (.slice a n c)) (hS : StoreAt w a n B) (hx : x = 0 ∨ There n B x) :
    Calls Try.prog 20 #[.pointer (some p), .int .i64 x] w fun e w' => RetY e w (bytesL B x) ∧ w' = w := by
  by_cases h0 : x = 0
  · subst h0
    go_enter Try.func20, Try.ntmps20
    go_wp2_with fail
    go_ret
    exact ⟨⟨none, 0, 0, rfl, by simp [bytesL]; exact numsAt_nil _ _ _ _⟩, rfl⟩
  · rcases hx with hx | hx
    · exact absurd hx h0
    have hx0' : (x == 0) = false := by simp [h0]
    obtain ⟨i, rfl⟩ : ∃ i : Nat, x = (i : Int) + 1 := ⟨(x - 1).toNat, by have := hx.1; omega⟩
    have hi : i < n := by have := hx.2.1; omega
    obtain ⟨b, off, rfl, hlt, hB⟩ := hS (by omega)
    obtain ⟨ka, kn, kc, ba, bn, bc, hb⟩ := hB i hi
    have c3 := hb.c3
    have hbb := hb.bytes
    have e1 : bytesL B ((i : Int) + 1) = (B i).bytes := by unfold bytesL; rw [if_neg h0, show ((i : Int) + 1 - 1).toNat = i by omega]
    rw [e1]
    replace hbb := hid hbb
    clear hb hB hS e1 hx
    go_enter Try.func20, Try.ntmps20
    go_wp2_with fail
    refine (at_ptr p b off n c i _ hn hs hi).mono ?_
    rintro e w1 ⟨rfl, rfl⟩
    go_wp2_with fail
    go_ret
    exact ⟨⟨_, _, _, rfl, hbb.out⟩, rfl⟩

/-- what check answers 0 to -/
def Checked (n : Nat) (B : Nat → Blk) (root lv i : Int) : Prop := Right n B ∧ ∃ l : Nat, l ≤ 3 ∧ lv = l ∧ Root n B l root ∧ 0 ≤ i ∧ i < pw l

set_option maxHeartbeats 1000000 in
theorem treeCheck_any (p : Addr) (a : Option Addr) (n c : Nat) (B : Nat → Blk) (root lv i : Int) (w : World) (h : PtrAt w p a n c B) :
    Calls Try.prog 17 #[.pointer (some p), .int .i64 root, .int .i64 lv, .int .i64 i] w fun e w' => RetE e (Checked n B root lv i) ∧ Below w.heap.size w w' := by
  replace h := hid h
  go_enter Try.func17, Try.ntmps17
  go_wp2_with fail
  refine (check_any p a n c B w h.out).mono ?_
  rintro e w1 ⟨⟨e1, rfl, he⟩, b1⟩
  replace h := hid (h.out.below b1)
  by_cases h0 : e1 = 0
  · have h0' : (e1 == 0) = true := by simp [h0]
    have hR := hid (he.1 h0)
    have hn := hR.out.small
    clear he
    go_wp2_with fail
    refine (leaves_any lv w1).mono ?_
    rintro e w2 ⟨⟨l, hl, rfl, rfl⟩ | ⟨hlv, rfl⟩, rfl⟩
    · have hb := pw_le hl
      by_cases hr0 : root = 0
      · have hr0' : (root == 0) = true := by simp [hr0]
        by_cases hi : 0 ≤ i ∧ i < pw l
        · have hi1 : ¬ (i < 0) := by omega
          have hi2 : ¬ (((pw l : Nat) : Int) ≤ i) := by omega
          have hy := hid (retE_yes (p := Checked n B root l i) ⟨hR.out, l, hl, rfl, .inl hr0, hi.1, hi.2⟩)
          clear hi
          generalize pw l = q at *
          go_wp2_with fail
          go_ret
          exact ⟨hy.out, b1⟩
        · have hno : Hid (¬ Checked n B root l i) := hid (fun f => by obtain ⟨_, l', _, e, _, h1, h2⟩ := f; have e' : l = l' := (by omega); subst e'; exact hi ⟨h1, h2⟩)
          by_cases hi1 : i < 0
          · clear hi
            generalize pw l = q at *
            go_wp2_with fail
            go_ret
            exact ⟨retE_no 3 (by omega) hno.out, b1⟩
          · have hi2 : ((pw l : Nat) : Int) ≤ i := by omega
            clear hi
            generalize pw l = q at *
            go_wp2_with fail
            go_ret
            exact ⟨retE_no 3 (by omega) hno.out, b1⟩
      · have hr0' : (root == 0) = false := by simp [hr0]
        have s1 := h.out.cell
        go_wp2_with fail
        refine (there_any p a n c B root w2 hn s1 h.out.store).mono ?_
        rintro e w3 ⟨⟨t, rfl, ht⟩, rfl⟩
        cases t
        · have hno : Hid (¬ Checked n B root l i) := hid (fun f => by
            obtain ⟨_, l', _, e, hr, _⟩ := f
            rcases hr with hr | ⟨hr, _⟩
            · exact hr0 hr
            · exact absurd (ht.2 hr) (by simp))
          clear ht
          go_wp2_with fail
          go_ret
          exact ⟨retE_no 5 (by omega) hno.out, b1⟩
        · have hth := ht.1 rfl
          obtain ⟨j, rfl⟩ : ∃ j : Nat, root = (j : Int) + 1 := ⟨(root - 1).toNat, by have := hth.1; omega⟩
          have hj : j < n := by have := hth.2.1; omega
          obtain ⟨b, off, rfl, hlt, hB⟩ := h.out.store (by omega)
          obtain ⟨ka, kn, kc, ba, bn, bc, hbk⟩ := hB j hj
          have c1 := hbk.c1
          have ej : ((j : Int) + 1 - 1).toNat = j := by omega
          clear ht hbk hB
          replace hth := hid hth
          go_wp2_with fail
          refine (at_ptr p b off n c j _ hn s1 hj).mono ?_
          rintro e w4 ⟨rfl, rfl⟩
          by_cases hlv : (B j).level = l
          · have hlv' : ((B j).level == (l : Int)) = true := by simp [hlv]
            by_cases hi : 0 ≤ i ∧ i < pw l
            · have hi1 : ¬ (i < 0) := by omega
              have hi2 : ¬ (((pw l : Nat) : Int) ≤ i) := by omega
              have hy := hid (retE_yes (p := Checked n B ((j : Int) + 1) l i) ⟨hR.out, l, hl, rfl, .inr ⟨hth.out, by rw [ej]; exact hlv⟩, hi.1, hi.2⟩)
              clear hi
              generalize pw l = q at *
              generalize (B j).level = lv at *
              go_wp2_with fail
              go_ret
              exact ⟨hy.out, b1⟩
            · have hno : Hid (¬ Checked n B ((j : Int) + 1) l i) := hid (fun f => by obtain ⟨_, l', _, e, _, h1, h2⟩ := f; have e' : l = l' := (by omega); subst e'; exact hi ⟨h1, h2⟩)
              by_cases hi1 : i < 0
              · clear hi
                generalize pw l = q at *
                generalize (B j).level = lv at *
                go_wp2_with fail
                go_ret
                exact ⟨retE_no 3 (by omega) hno.out, b1⟩
              · have hi2 : ((pw l : Nat) : Int) ≤ i := by omega
                clear hi
                generalize pw l = q at *
                generalize (B j).level = lv at *
                go_wp2_with fail
                go_ret
                exact ⟨retE_no 3 (by omega) hno.out, b1⟩
          · have hlv' : ((B j).level == (l : Int)) = false := by simp [hlv]
            have hlv2 : ((B j).level != (l : Int)) = true := by simp [hlv]
            have hj2 : ((j : Int) + 1 != 0) = true := by simp; omega
            have hno : Hid (¬ Checked n B ((j : Int) + 1) l i) := hid (fun f => by
              obtain ⟨_, l', _, e, hr, _⟩ := f
              obtain rfl : l = l' := by omega
              rcases hr with hr | ⟨_, hr⟩
              · omega
              · rw [ej] at hr; exact hlv hr)
            clear hlv
            generalize (B j).level = lv at *
            go_wp2_with fail
            go_ret
            exact ⟨retE_no 4 (by omega) hno.out, b1⟩
    · have hno : Hid (¬ Checked n B root lv i) := hid (fun f => by obtain ⟨_, l, _, e, _⟩ := f; omega)
      go_wp2_with fail
      go_ret
      exact ⟨retE_no 3 (by omega) hno.out, b1⟩
  · have h0' : (e1 == 0) = false := by simp [h0]
    have hno : Hid (¬ Checked n B root lv i) := hid (fun f => h0 (he.2 f.1))
    clear he
    go_wp2_with fail
    go_ret
    exact ⟨retE_no e1 h0 hno.out, b1⟩
end Go.Proofs.Ytaagnojdpedilad
