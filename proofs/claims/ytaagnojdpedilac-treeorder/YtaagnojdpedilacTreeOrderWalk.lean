/-
  The walk of the law TreeOrder out of contracts. Nothing here is trusted.
-/
import Derived.Test.YtaagnojdpedilacTreeD
set_option linter.unusedVariables false
namespace Go.Proofs.Ytaagnojdpedilac
open Go.RowKit

/-- what is so where Put answers no error -/
def PutYes (base : Nat) (w : World) (n : Nat) (B : Nat → Blk) (root lv i : Int) (bs : List Int) (cc : Int) (sa : Option Addr) (sn sc : Nat) (r : Int) : Prop :=
  ∃ (l j : Nat) (C : Nat → Blk) (g : Nat), sa = some ⟨g, 0, none⟩ ∧ n = sn ∧ n = sc ∧ lv = l ∧ i = j ∧ l ≤ 3 ∧ j < pw l ∧ Right n B ∧ Root n B l root ∧ (bs = [] ∨ bs.length = 4) ∧ PutOk n B l root j bs cc C r ∧ base ≤ g ∧ g < w.heap.size ∧ Blocks (fun b => base ≤ b) w g 0 n C
/-- what Put answers, told in one -/
theorem RetPut.uni {base : Nat} {e : Ending} {w : World} {n : Nat} {B : Nat → Blk} {root lv i : Int} {bs : List Int} {cc : Int} (h : RetPut base e w n B root lv i bs cc) :
    ∃ (sa : Option Addr) (sn sc : Nat) (r e' : Int), e = .returned (.tuple #[.agg #[.slice sa sn sc], .int .i64 r, .int .i64 e']) ∧ (e' = 0 → PutYes base w n B root lv i bs cc sa sn sc r) ∧ (Checked n B root lv i → bs = [] ∨ bs.length = 4 → e' = 0 ∨ e' = 8) := by
  rcases h with ⟨e', rfl, he, h8⟩ | ⟨l, j, C, r, g, rfl, hlv, hi, hl, hj, hR, hr, hbs, hP, hg, hgl, hB⟩
  · exact ⟨none, 0, 0, 0, e', rfl, fun h => absurd h he, fun h1 h2 => .inr (h8 h1 h2).1⟩
  · exact ⟨some ⟨g, 0, none⟩, n, n, r, 0, rfl, fun _ => ⟨l, j, C, g, rfl, rfl, rfl, hlv, hi, hl, hj, hR, hr, hbs, hP, hg, hgl, hB⟩, fun _ _ => .inl rfl⟩

/-- leaves at two places, put in either order -/
theorem order_leaves {n l i j : Nat} {B C1 C2 C3 C4 : Nat → Blk} {root x y x' y' c1 c2 : Int} {bs ds : List Int} (hij : i ≠ j) (h1 : PutOk n B l root i bs c1 C1 x) (h2 : PutOk n B l root j ds c1 C2 y) (h3 : PutOk n C1 l x j ds c2 C3 x') (h4 : PutOk n C2 l y i bs c2 C4 y') : leavesL C3 l x' = leavesL C4 l y' := by
  unfold leavesL
  apply List.map_congr_left
  intro k hk
  have hk' := List.mem_range.1 hk
  rw [h3.leaf k hk', h4.leaf k hk', h1.leaf k hk', h2.leaf k hk']
  by_cases e1 : k = j
  · subst e1
    rw [if_pos rfl, if_neg (fun e => hij e.symm), if_pos rfl]
  · by_cases e2 : k = i
    · subst e2
      rw [if_neg e1, if_pos rfl, if_pos rfl]
    · rw [if_neg e1, if_neg e2, if_neg e2, if_neg e1]

theorem store_frame {w w' : World} {g n q : Nat} {C : Nat → Blk} {base : Nat} (hB : Blocks (fun b => base ≤ b) w g 0 n C) (hgl : g < w.heap.size) (hk : Kept q w w') (hg : base ≤ g) (hq : q < base) : StoreAt w' (some ⟨g, 0, none⟩) n C :=
  store_of (by rw [hk.size]; exact hgl) (hB.kept (by omega) (fun b h => by omega) hk)

set_option maxHeartbeats 8000000 in
set_option maxRecDepth 100000 in
theorem treeOrder_walk (a : Option Addr) (n c : Nat) (B : Nat → Blk) (root lv i : Int) (ba : Option Addr) (bn bc : Nat) (bs : List Int) (j : Int) (da : Option Addr) (dn dc : Nat) (ds : List Int) (w : World) (hnm : n ≤ 9223372036854775807) (h : StoreAt w a n B) (hb : NumsAt (fun _ => True) .u8 w ba bn bs) (hbc : bn ≤ bc) (hd : NumsAt (fun _ => True) .u8 w da dn ds) (hdc : dn ≤ dc) :
    Calls Try.prog 3 #[.agg #[.slice a n c], .int .i64 root, .int .i64 lv, .int .i64 i, .slice ba bn bc, .int .i64 j, .slice da dn dc] w fun e w' => e = .returned (.bool true) ∧ Below w.heap.size w w' := by
  have hE : TE w _ a n c := ⟨cellsAt_alloc w #[.slice a n c] 24, below_alloc w (.cells #[.slice a n c] 24)⟩
  replace hE := hid hE
  replace h := hid h
  replace hb := hid hb
  replace hd := hid hd
  go_enter Try.func3, Try.ntmps3
  go_wp2_with fail
  generalize w.alloc (.cells #[.slice a n c] 24) = w0 at *
  refine (crowded_any a n c B w0 hnm (h.out.below hE.out.bel)).mono ?_
  rintro e w1 ⟨⟨t, rfl, ht⟩, b1⟩
  replace hE := hE.out.below b1
  clear b1
  cases t
  case true =>
    replace hE := hid hE
    go_wp2_with fail
    go_ret
    exact ⟨rfl, hE.out.bel⟩
  have hcr := hid (ht rfl)
  clear ht
  have m0 := hE.s.cell 0
  simp at m0
  have hst := hid hE.s.lt
  replace hE := hid hE
  go_wp2_with fail
  refine (treePut_any a n c B root lv i ba bn bc bs 999000 w1 (h.out.below hE.out.bel) (hb.out.below hE.out.bel) hbc (by omega) (by omega) hcr.out).mono ?_
  rintro e w2 ⟨hP, b2⟩
  obtain ⟨ma, mn, mc, x, e1, rfl, hY1, _⟩ := hP.uni
  have bA := below_alloc w2 (.cells #[.slice ma mn mc] 24)
  have kM := cellsAt_alloc w2 #[.slice ma mn mc] 24
  have hlt1 := b2.size
  replace hE := (hE.out.below b2).below bA
  replace hY1 := hid hY1
  replace kM := hid kM
  clear b2 m0 hP
  have m0 := hE.s.cell 0
  simp at m0
  replace hE := hid hE
  go_wp2_with fail
  generalize hw3 : w2.alloc (.cells #[.slice ma mn mc] 24) = w3 at *
  replace hw3 := hid hw3
  refine (treePut_any a n c B root lv j da dn dc ds 999000 w3 (h.out.below hE.out.bel) (hd.out.below hE.out.bel) hdc (by omega) (by omega) hcr.out).mono ?_
  rintro e w4 ⟨hP, b4⟩
  obtain ⟨na, nk, nc, y, e2, rfl, hY2, _⟩ := hP.uni
  have bC := below_alloc w4 (.cells #[.slice na nk nc] 24)
  have kN := cellsAt_alloc w4 #[.slice na nk nc] 24
  have hlt2 := b4.size
  have hlt3 := kM.out.lt
  replace hE := (hE.out.below b4).below bC
  replace kM := hid ((kM.out.below b4).below bC)
  replace hY2 := hid hY2
  replace kN := hid kN
  clear m0 hP
  replace hE := hid hE
  replace b4 := hid b4
  replace bA := hid bA
  replace bC := hid bC
  go_wp2_with fail
  generalize hw5 : w4.alloc (.cells #[.slice na nk nc] 24) = w5 at *
  replace hw5 := hid hw5
  refine (rooted_any w5).mono ?_
  rintro e w6 ⟨rfl, b6⟩
  replace hE := hid (hE.out.below b6)
  replace kM := hid (kM.out.below b6)
  replace kN := hid (kN.out.below b6)
  by_cases hall : e1 = 0 ∧ e2 = 0 ∧ i ≠ j
  case neg =>
    by_cases h1 : e1 = 0
    · by_cases h2 : e2 = 0
      · have h3 : i = j := by
          by_cases e : i = j
          · exact e
          · exact absurd ⟨h1, h2, e⟩ hall
        subst h1 h2 h3
        clear hall
        go_wp2_with fail
        refine (rooted_any w6).mono ?_
        rintro e w7 ⟨rfl, b7⟩
        replace hE := hid (hE.out.below b7)
        go_wp2_with fail
        go_ret
        exact ⟨rfl, hE.out.bel⟩
      · have h2' : (e2 == 0) = false := by simp [h2]
        have h2'' : (e2 != 0) = true := by simp [h2]
        subst h1
        clear hall
        go_wp2_with fail
        refine (rooted_any w6).mono ?_
        rintro e w7 ⟨rfl, b7⟩
        replace hE := hid (hE.out.below b7)
        go_wp2_with fail
        go_ret
        exact ⟨rfl, hE.out.bel⟩
    · have h1' : (e1 == 0) = false := by simp [h1]
      have h1'' : (e1 != 0) = true := by simp [h1]
      clear hall
      go_wp2_with fail
      refine (rooted_any w6).mono ?_
      rintro e w7 ⟨rfl, b7⟩
      replace hE := hid (hE.out.below b7)
      go_wp2_with fail
      go_ret
      exact ⟨rfl, hE.out.bel⟩
  obtain ⟨rfl, rfl, hij⟩ := hall
  obtain ⟨l, i', C1, g1, rfl, rfl, rfl, rfl, rfl, hl, hi', hR, hr, hbs, hP1, hg1, hgl1, hB1⟩ := hY1.out rfl
  obtain ⟨l2, j', C2, g2, rfl, rfl, rfl, hl2, rfl, _, hj', _, _, hds, hP2, hg2, hgl2, hB2⟩ := hY2.out rfl
  obtain rfl : l2 = l := by omega
  have hijN : i' ≠ j' := fun e => hij (by rw [e])
  have hijI : ((i' : Int) == (j' : Int)) = false := by simp; omega
  have b26 := Below.tr (Below.tr (Below.tr bA.out b4.out) bC.out) b6
  have b46 := Below.tr bC.out b6
  have hS1 := store_of (Nat.lt_of_lt_of_le hgl1 b26.size) (hB1.below b26)
  have hB2' := hB2.below b46
  have hgl2' := Nat.lt_of_lt_of_le hgl2 b46.size
  have hck3 : Checked n C1 x l2 j' := ⟨hP1.grew.right, l2, hl, rfl, hP1.grew.root, by omega, by omega⟩
  have hck4 : Checked n C2 y l2 i' := ⟨hP2.grew.right, l2, hl, rfl, hP2.grew.root, by omega, by omega⟩
  have hfew1 := hP1.grew.few
  have hfew2 := hP2.grew.few
  have hsw : w.heap.size < w2.heap.size := by
    have h1 := hE.out.s.lt
    have h2 := hlt1
    have h3 := hst.out
    omega
  have m1 := kM.out.cell 0
  have n1 := kN.out.cell 0
  simp at m1 n1
  have hsz26 := b26.size
  have hsz46 := b46.size
  have hlt4 := kM.out.lt
  have hlt5 := kN.out.lt
  have hw45 : w3.heap.size ≤ w4.heap.size := hlt2
  replace hS1 := hid hS1
  replace hB2' := hid hB2'
  replace hP1 := hid hP1
  replace hP2 := hid hP2
  replace hck3 := hid hck3
  replace hck4 := hid hck4
  replace hfew1 := hid hfew1
  replace hfew2 := hid hfew2
  replace hR := hid hR
  replace hr := hid hr
  replace hbs := hid hbs
  replace hds := hid hds
  clear hY1 hY2 hB1 hB2 b26 b46 b4 bA bC b6 hij hl2
  go_wp2_with fail
  refine (treePut_any (some ⟨g1, 0, none⟩) n n C1 x l2 j' da dn dc ds (999000 + 4 * (l2 + 1)) w6 hS1.out (hd.out.below hE.out.bel) hdc (by omega) (by omega) hfew1.out).mono ?_
  rintro e w7 ⟨hP, b7⟩
  obtain ⟨pa, pn, pc, x', e3, rfl, hY3, h83⟩ := hP.uni
  replace h83 := h83 hck3.out hds.out
  have kM7 := kM.out.below b7
  have kN7 := kN.out.below b7
  have m7 := kM7.cell 0
  have f7 := kM7.frozen 0
  simp at m7
  have hsz7 := b7.size
  have hneMN : w2.heap.size ≠ w4.heap.size := by omega
  have kk := Kept.setCell (g := w2.heap.size) (Kept.refl _ w7) (p := ⟨w2.heap.size, 0, none⟩) rfl (.slice pa pn pc)
  have kM8 := kM7.set 0 (.slice pa pn pc)
  simp only [List.setIfInBounds_toArray, List.set_cons_zero] at kM8
  have kN8 := kN7.past (a := ⟨w2.heap.size, 0, none⟩) (Ne.symm hneMN) (.slice pa pn pc)
  have hE8 : TE w (w7.setCell ⟨w2.heap.size, 0, none⟩ (.slice pa pn pc)) a n c := ⟨(hE.out.s.below b7).past (a := ⟨w2.heap.size, 0, none⟩) (by show w.heap.size ≠ w2.heap.size; omega) _, (hE.out.below b7).bel.setCell (p := ⟨w2.heap.size, 0, none⟩) (by show w.heap.size ≤ w2.heap.size; omega) _⟩
  have hS2 := store_frame (hB2'.out.below b7) (by omega) kk hg2 (by omega)
  have hB3 : Hid (e3 = 0 → PutYes w6.heap.size (w7.setCell ⟨w2.heap.size, 0, none⟩ (.slice pa pn pc)) n C1 x l2 j' ds (999000 + 4 * (l2 + 1)) pa pn pc x') := hid (fun h => by
    obtain ⟨l5, j5, C5, g5, q1, q2, q3, q4, q5, q6, q7, q8, q9, q10, q11, q12, q13, q14⟩ := hY3 h
    exact ⟨l5, j5, C5, g5, q1, q2, q3, q4, q5, q6, q7, q8, q9, q10, q11, q12, by rw [kk.size]; exact q13, q14.kept (by omega) (fun b h => by omega) kk⟩)
  have hsz8 := kk.size
  replace hE8 := hid hE8
  replace hS2 := hid hS2
  replace kM8 := hid kM8
  replace kN8 := hid kN8
  have n7 := kN7.cell 0
  simp at n7
  have hneMN' := hneMN.symm
  clear hP hY3 kM7 kN7 kk hS1 hB2' hE kM kN b7 m1 n1
  go_wp2_with fail
  clear m7 f7 n7
  generalize w7.setCell ⟨w2.heap.size, 0, none⟩ (.slice pa pn pc) = w8 at *
  refine (treePut_any (some ⟨g2, 0, none⟩) n n C2 y l2 i' ba bn bc bs (999000 + 4 * (l2 + 1)) w8 hS2.out (hb.out.below hE8.out.bel) hbc (by omega) (by omega) hfew2.out).mono ?_
  rintro e w9 ⟨hP, b9⟩
  obtain ⟨qa, qn, qc, y', e4, rfl, hY4, h84⟩ := hP.uni
  replace h84 := h84 hck4.out hbs.out
  have kM9 := kM8.out.below b9
  have kN9 := kN8.out.below b9
  have m9 := kN9.cell 0
  have f9 := kN9.frozen 0
  simp at m9
  have hsz9 := b9.size
  have kk := Kept.setCell (g := w4.heap.size) (Kept.refl _ w9) (p := ⟨w4.heap.size, 0, none⟩) rfl (.slice qa qn qc)
  have kN10 := kN9.set 0 (.slice qa qn qc)
  simp only [List.setIfInBounds_toArray, List.set_cons_zero] at kN10
  have kM10 := kM9.past (a := ⟨w4.heap.size, 0, none⟩) hneMN (.slice qa qn qc)
  have hE10 : Below w.heap.size w (w9.setCell ⟨w4.heap.size, 0, none⟩ (.slice qa qn qc)) := (hE8.out.below b9).bel.setCell (p := ⟨w4.heap.size, 0, none⟩) (by show w.heap.size ≤ w4.heap.size; omega) _
  have hB4 : Hid (e4 = 0 → PutYes w8.heap.size (w9.setCell ⟨w4.heap.size, 0, none⟩ (.slice qa qn qc)) n C2 y l2 i' bs (999000 + 4 * (l2 + 1)) qa qn qc y') := hid (fun h => by
    obtain ⟨l5, j5, C5, g5, q1, q2, q3, q4, q5, q6, q7, q8, q9, q10, q11, q12, q13, q14⟩ := hY4 h
    exact ⟨l5, j5, C5, g5, q1, q2, q3, q4, q5, q6, q7, q8, q9, q10, q11, q12, by rw [kk.size]; exact q13, q14.kept (by omega) (fun b h => by omega) kk⟩)
  have hB3' : Hid (e3 = 0 → PutYes w6.heap.size (w9.setCell ⟨w4.heap.size, 0, none⟩ (.slice qa qn qc)) n C1 x l2 j' ds (999000 + 4 * (l2 + 1)) pa pn pc x') := hid (fun h => by
    obtain ⟨l5, j5, C5, g5, q1, q2, q3, q4, q5, q6, q7, q8, q9, q10, q11, q12, q13, q14⟩ := hB3.out h
    exact ⟨l5, j5, C5, g5, q1, q2, q3, q4, q5, q6, q7, q8, q9, q10, q11, q12, by rw [kk.size]; omega, (q14.below b9).kept (by omega) (fun b h => by omega) kk⟩)
  replace hE10 := hid hE10
  replace kM10 := hid kM10
  replace kN10 := hid kN10
  have mM9 := kM9.cell 0
  simp at mM9
  clear hP hY4 kM9 kN9 kk hS2 hB3 hE8 kM8 kN8 b9
  rcases h83 with rfl | rfl
  · rcases h84 with rfl | rfl
    · obtain ⟨l3, j3, C3, g3, rfl, rfl, rfl, hl3, hj3, _, _, _, _, _, hP3, hg3, hgl3, hB3⟩ := hB3'.out rfl
      obtain ⟨l4, i4, C4, g4, rfl, hqn, rfl, hl4, hi4, _, _, _, _, _, hP4, hg4, hgl4, hB4'⟩ := hB4.out rfl
      obtain rfl : l3 = l2 := by omega
      obtain rfl : l4 = l3 := by omega
      obtain rfl : j3 = j' := by omega
      obtain rfl : i4 = i' := by omega
      subst hqn
      have hlv := order_leaves hijN hP1.out hP2.out hP3 hP4
      have hS3 := store_of hgl3 hB3
      have hS4 := store_of hgl4 hB4'
      have hq := pw_le hl
      have hp := pw_pos l4
      have hc3 : Checked _ C3 x' l4 0 := ⟨hP3.grew.right, l4, hl, rfl, hP3.grew.root, by omega, by omega⟩
      have hc4 : Checked _ C4 y' l4 0 := ⟨hP4.grew.right, l4, hl, rfl, hP4.grew.root, by omega, by omega⟩
      replace hlv := hid hlv
      replace hS3 := hid hS3
      replace hS4 := hid hS4
      replace hc3 := hid hc3
      replace hc4 := hid hc4
      clear hP3 hP4 hB3 hB4' hB3' hB4 hl3 hl4 hj3 hi4
      go_wp2_with fail
      clear m9 f9 mM9
      generalize w9.setCell ⟨w4.heap.size, 0, none⟩ (.slice (some ⟨g4, 0, none⟩) n n) = w10 at *
      refine (treeAll_any (some ⟨g3, 0, none⟩) _ _ C3 x' l4 w10 hS3.out).mono ?_
      rintro e w11 ⟨⟨e', _, _, hno⟩ | ⟨l5, va, vc, rfl, _, hl5, _, _, hW⟩, b11⟩
      · exact absurd hc3.out hno
      obtain rfl : l5 = l4 := by omega
      have n11 := ((kN10.out.below b11).cell 0)
      simp at n11
      replace hE10 := hid (Below.tr hE10.out b11)
      replace hS4 := hid (hS4.out.below b11)
      replace hW := hid hW
      clear b11 hl5
      go_wp2_with fail
      refine (treeAll_any (some ⟨g4, 0, none⟩) _ _ C4 y' l5 w11 hS4.out).mono ?_
      rintro e w12 ⟨⟨e', _, _, hno⟩ | ⟨l6, ua, uc, rfl, _, hl6, _, _, hU⟩, b12⟩
      · exact absurd hc4.out hno
      obtain rfl : l6 = l5 := by omega
      rw [← hlv.out] at hU
      replace hE10 := hid (Below.tr hE10.out b12)
      replace hW := hid (hW.out.below b12)
      replace hU := hid hU
      clear n11 b12 hl6
      go_wp2_with fail
      refine (equalFuncBytes_true va ua _ vc uc _ w12 hq hW.out hU.out).mono ?_
      rintro e w13 ⟨rfl, rfl⟩
      go_wp2_with fail
      go_ret
      exact ⟨rfl, hE10.out⟩
    · go_wp2_with fail
      go_ret
      exact ⟨rfl, hE10.out⟩
  · rcases h84 with rfl | rfl
    · go_wp2_with fail
      go_ret
      exact ⟨rfl, hE10.out⟩
    · go_wp2_with fail
      go_ret
      exact ⟨rfl, hE10.out⟩
end Go.Proofs.Ytaagnojdpedilac
