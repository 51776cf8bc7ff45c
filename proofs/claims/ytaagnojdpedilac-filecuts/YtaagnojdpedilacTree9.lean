/-
  Contracts of slices.Equal of bytes, tree.find, tree.Get. Nothing here is trusted.
-/
import Derived.Test.YtaagnojdpedilacTree8
set_option linter.unusedVariables false
namespace Go.Proofs.Ytaagnojdpedilac
open Go.RowKit

theorem list_ext_getD {l m : List Int} (hl : l.length = m.length) (h : ∀ i, i < l.length → l.getD i 0 = m.getD i 0) : l = m := by
  apply List.ext_getElem hl
  intro i h1 h2
  have := h i h1
  simpa [List.getD, h1, h2] using this

theorem equalBytes_any (a1 a2 : Option Addr) (n m c d : Nat) (Q1 Q2 : Nat → Prop) (xs ys : List Int) (w : World) (hn : n ≤ 1000) (hm : m ≤ 1000) (h1 : NumsAt Q1 .u8 w a1 n xs) (h2 : NumsAt Q2 .u8 w a2 m ys) :
    Calls Try.prog 49 #[.slice a1 n c, .slice a2 m d] w fun e w' => RetB e (xs = ys) ∧ ∃ q, w' = w.drewN q := by
  have l1 := h1.1
  have l2 := h2.1
  replace h1 := hid h1
  replace h2 := hid h2
  by_cases hnm : n = m
  · subst hnm
    go_enter Try.func49, Try.ntmps49
    go_wp2
    go_loopw [13] (fun i wr => ∃ k q : Nat, k ≤ n ∧ i = .int .i64 k ∧ wr = w.drewN q ∧ ∀ j, j < k → xs.getD j 0 = ys.getD j 0) (fun i _ => n - (Go.RowKit.intOf i).toNat)
    case atStart => exact ⟨0, 0, Nat.zero_le _, rfl, rfl, fun j hj => absurd hj (by omega)⟩
    case round =>
      obtain ⟨k, q, hk, rfl, rfl, hsame⟩ := hrel
      replace hsame := hid hsame
      by_cases hlt : k < n
      · obtain ⟨b1, o1, rfl, _, _, hc1⟩ := h1.out.2.2 (by omega)
        obtain ⟨b2, o2, rfl, _, _, hc2⟩ := h2.out.2.2 (by omega)
        have g1 := hc1 k (by omega)
        have g2 := hc2 k (by omega)
        clear hc1 hc2 h1 h2
        by_cases he : xs.getD k 0 = ys.getD k 0
        · have hs' : Hid (∀ j, j < k + 1 → xs.getD j 0 = ys.getD j 0) := hid (fun j hj => by
            rcases Nat.lt_or_ge j k with h | h
            · exact hsame.out j h
            · obtain rfl : j = k := by omega
              exact he)
          rw [he] at g1
          clear he hsame
          generalize ys.getD k 0 = y at *
          go_wp2_with fail
          go_quiet (fail)
          go_wp2
          go_roundw
          case rel => exact ⟨k + 1, q + nq, by omega, by go_num, rfl, hs'.out⟩
          case measure => simp [Go.RowKit.intOf]; omega
        · have hno : Hid (¬ xs = ys) := hid (fun e => he (by rw [e]))
          have he' : (xs.getD k 0 == ys.getD k 0) = false := by simpa using he
          have he2 : (xs.getD k 0 != ys.getD k 0) = true := by simpa using he
          clear hsame
          generalize xs.getD k 0 = x at *
          generalize ys.getD k 0 = y at *
          go_wp2_with fail
          go_quiet (fail)
          go_wp2
          go_ret
          exact ⟨⟨false, rfl, by simpa using hno.out⟩, q + nq, by first | rfl | (rw [World.drewN_drewN]) | (simp [World.drewN]; omega)⟩
      · have hkn : k = n := by omega
        subst hkn
        clear h1 h2
        go_wp2
        go_ret
        exact ⟨⟨true, rfl, by simpa using list_ext_getD (l1.trans l2.symm) (fun i hi => hsame.out i (by omega))⟩, q, rfl⟩
  · have hno : Hid (¬ xs = ys) := hid (fun e => hnm (by rw [← l1, ← l2, e]))
    have h' : ((n : Int) == (m : Int)) = false := by simp; omega
    have h3 : ¬ ((n : Int) = (m : Int)) := by omega
    go_enter Try.func49, Try.ntmps49
    go_wp2
    go_ret
    exact ⟨⟨false, rfl, by simpa using hno.out⟩, 0, rfl⟩

/-- where the leaf at place i stands -/
def leafAddr (B : Nat → Blk) : Nat → Int → Nat → Int
  | 0, a, _ => a
  | l + 1, a, i => leafAddr B l ((kidsL B a).getD (i / pw l) 0) (i % pw l)
theorem leafAddr_bytes (B : Nat → Blk) : ∀ (l : Nat) (a : Int) (i : Nat), bytesL B (leafAddr B l a i) = leafAt B l a i
  | 0, _, _ => rfl
  | l + 1, a, i => leafAddr_bytes B l _ _
theorem leafAddr_root {n : Nat} {B : Nat → Blk} (hR : Right n B) : ∀ (l : Nat) (a : Int) (i : Nat), Root n B l a → i < pw l → Root n B 0 (leafAddr B l a i)
  | 0, _, _, h, _ => h
  | l + 1, a, i, h, hi => by
    have hp := pw_pos l
    have hd : i / pw l < 4 := by simp only [pw] at hi; exact Nat.div_lt_of_lt_mul (by rw [Nat.mul_comm]; exact hi)
    exact leafAddr_root hR l _ _ (h.kidAt hR hd) (Nat.mod_lt _ hp)

set_option maxHeartbeats 4000000 in
set_option maxRecDepth 100000 in
theorem find_any (p : Addr) (a : Option Addr) (n c : Nat) (B : Nat → Blk) (hR : Right n B) (l : Nat) :
    ∀ (root : Int) (i : Nat) (w : World), l ≤ 3 → Root n B l root → i < pw l → PtrAt w p a n c B →
    Calls Try.prog 76 #[.pointer (some p), .int .i64 root, .int .i64 l, .int .i64 i] w fun e w' => e = .returned (.int .i64 (leafAddr B l root i)) ∧ Below w.heap.size w w' := by
  induction l with
  | zero =>
    intro root i w hl hr hi h
    go_enter Try.func76, Try.ntmps76
    go_wp2_with fail
    go_ret
    exact ⟨rfl, Below.refl _ _⟩
  | succ l ih =>
    intro root i w hl hr hi h
    have hp := pw_pos l
    have hq64 := pw_le (show l ≤ 3 by omega)
    have hi64 := pw_le hl
    have hd : i / pw l < 4 := by simp only [pw] at hi; exact Nat.div_lt_of_lt_mul (by rw [Nat.mul_comm]; exact hi)
    have hm := Nat.mod_lt i hp
    have hdv := tdiv_nat i (pw l)
    have hmv := tmod_nat i (pw l)
    obtain ⟨k0, k1, k2, k3, hks⟩ := four (hr.len hR)
    have hx : root = 0 ∨ There n B root := hr.imp id (·.1)
    have hn := hR.small
    have hroot := hr.kidAt hR hd
    have eL : leafAddr B (l + 1) root i = leafAddr B l ((kidsL B root).getD (i / pw l) 0) (i % pw l) := rfl
    rw [eL, hks]
    rw [hks] at hroot
    have hix := index4 k0 k1 k2 k3 (i / pw l) hd
    have hI := ih ([k0, k1, k2, k3].getD (i / pw l) 0) (i % pw l)
    have hiI : i < 9223372036854775807 := by omega
    generalize hqd : pw l = q at *
    generalize i / q = d at *
    generalize i % q = r at *
    generalize [k0, k1, k2, k3].getD d 0 = x at *
    replace hI := hid hI
    replace hroot := hid hroot
    replace h := hid h
    clear ih
    have el : ((l + 1 : Nat) : Int) - 1 = (l : Int) := by omega
    have el' : ((l : Int) + 1) - 1 = (l : Int) := by omega
    have hll : l ≤ 3 := by omega
    have hq0 : ¬ q = 0 := by omega
    have wd : IntKind.i64.wrap (d : Int) = (d : Int) := Go.IntWalk.i64_in _ (by omega)
    have wr : IntKind.i64.wrap (r : Int) = (r : Int) := Go.IntWalk.i64_in _ (by omega)
    have wl : IntKind.i64.wrap (l : Int) = (l : Int) := Go.IntWalk.i64_in _ (by omega)
    go_enter Try.func76, Try.ntmps76
    go_wp2_with fail
    refine (width_any l w hll).mono ?_
    rintro e w1 ⟨rfl, rfl⟩
    rw [hqd]
    go_upto_region 4 with fail
    go_region_with (first | (go_at_call 47; refine Calls.mono (kidsOf_any p a n c B root k0 k1 k2 k3 _ hn ?_ hx hks) ?_; exact h.out.below (below_drew _ _); rintro e w2 ⟨rfl, b2⟩; have hP2 := hid ((h.out.below (below_drew _ _)).below b2); have b12 := hid (Below.tr (below_drew _ w1) b2); clear b2) | (go_at_call 76; refine Calls.mono (hI.out _ hll hroot.out hm hP2.out) ?_; rintro e w3 ⟨rfl, b3⟩; have b13 := hid (Below.tr b12.out b3); clear b3))
    all_goals (go_wp2_with fail; go_ret; exact ⟨rfl, b13.out⟩)

/-- what Get answers -/
def RetG (base : Nat) (e : Ending) (w : World) (n : Nat) (B : Nat → Blk) (root lv i : Int) : Prop :=
  (∃ e' : Int, e = .returned (.tuple #[.slice none 0 0, .int .i64 e']) ∧ e' ≠ 0 ∧ ¬ Checked n B root lv i) ∨
  (∃ (l j : Nat) (v : Option Addr) (ln lc : Nat), e = .returned (.tuple #[.slice v ln lc, .int .i64 0]) ∧ lv = l ∧ i = j ∧ l ≤ 3 ∧ j < pw l ∧ Right n B ∧ Root n B l root ∧ NumsAt (fun b => base ≤ b) .u8 w v ln (leafAt B l root j))

set_option maxHeartbeats 2000000 in
theorem treeGet_any (a : Option Addr) (n c : Nat) (B : Nat → Blk) (root lv i : Int) (w : World) (h : StoreAt w a n B) :
    Calls Try.prog 42 #[.agg #[.slice a n c], .int .i64 root, .int .i64 lv, .int .i64 i] w fun e w' => RetG w.heap.size e w' n B root lv i ∧ Below w.heap.size w w' := by
  have b0 := below_alloc w (.cells #[.slice a n c] 24)
  have hP := ptr_boxed a n c B w 24 h
  replace hP := hid hP
  clear h
  go_enter Try.func42, Try.ntmps42
  go_wp2_with fail
  generalize w.alloc (.cells #[.slice a n c] 24) = w0 at *
  refine (treeCheck_any ⟨w.heap.size, 0, none⟩ a n c B root lv i w0 hP.out).mono ?_
  rintro e w1 ⟨⟨e1, rfl, he⟩, b1⟩
  replace hP := hid (hP.out.below b1)
  replace b1 := Below.tr b0 b1
  clear b0
  by_cases h0 : e1 = 0
  · have h0' : (e1 == 0) = true := by simp [h0]
    obtain ⟨hR, l, hl, rfl, hr, hi0, hi1⟩ := he.1 h0
    obtain ⟨j, rfl⟩ : ∃ j : Nat, i = (j : Int) := ⟨i.toNat, by omega⟩
    have hj : j < pw l := by omega
    have hn := hR.small
    have hy := leafAddr_bytes B l root j
    have hrt := leafAddr_root hR l root j hr hj
    have h4 : (leafAt B l root j).length ≤ 4 := leafAt_len hR l root hr j hj
    have hF := fun w' hP' => find_any ⟨w.heap.size, 0, none⟩ a n c B hR l root j w' hl hr hj hP'
    replace hF := hid hF
    replace hR := hid hR
    replace hr := hid hr
    clear he hi0 hi1
    generalize leafAddr B l root j = x at *
    have hx : x = 0 ∨ There n B x := hrt.imp id (·.1)
    go_wp2_with fail
    refine (hF.out w1 hP.out).mono ?_
    rintro e w2 ⟨rfl, b2⟩
    replace hP := hid (hP.out.below b2)
    replace b1 := Below.tr b1 b2
    go_wp2_with fail
    refine (bytesOf_any ⟨w.heap.size, 0, none⟩ a n c B x w2 hn hP.out.cell hP.out.store hx).mono ?_
    rintro e w3 ⟨⟨ba, bn, bc, rfl, hN⟩, rfl⟩
    rw [hy] at hN
    replace hN := hid hN
    go_wp2_with fail
    refine (cloneBytes_any ba bn bc _ (fun _ => True) w3 (by rw [← hN.out.1]; exact h4) hN.out).mono ?_
    rintro e w4 ⟨b4, ba', bc', rfl, _, hN4⟩
    have hs := b1.size
    replace hN4 := hid (hN4.weaken (R := fun b => w.heap.size ≤ b) (fun b _ h => by omega))
    replace b1 := Below.tr b1 b4
    go_wp2_with fail
    go_ret2
    exact ⟨.inr ⟨l, j, _, _, _, rfl, rfl, rfl, hl, hj, hR.out, hr.out, hN4.out⟩, b1⟩
  · have h0' : (e1 == 0) = false := by simp [h0]
    have hno : Hid (¬ Checked n B root lv i) := hid (fun f => h0 (he.2 f))
    clear he
    go_wp2_with fail
    go_ret2
    exact ⟨.inl ⟨e1, rfl, h0, hno.out⟩, b1⟩
end Go.Proofs.Ytaagnojdpedilac
