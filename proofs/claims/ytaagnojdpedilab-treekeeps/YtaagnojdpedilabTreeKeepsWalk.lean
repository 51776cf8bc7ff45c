/-
  The walk of the law TreeKeeps out of contracts. Nothing here is trusted.
-/
import Derived.Test.YtaagnojdpedilabTreeD
import Derived.Test.YtaagnojdpedilabStoreBackWalk
set_option linter.unusedVariables false
namespace Go.Proofs.Ytaagnojdpedilab
open Go.RowKit

set_option maxHeartbeats 8000000 in
set_option maxRecDepth 100000 in
theorem treeKeeps_walk (a : Option Addr) (n c : Nat) (B : Nat → Blk) (root lv i : Int) (ba : Option Addr) (bn bc : Nat) (bs : List Int) (w : World) (hnm : n ≤ 9223372036854775807) (h : StoreAt w a n B) (hb : NumsAt (fun _ => True) .u8 w ba bn bs) (hbc : bn ≤ bc) :
    Calls Try.prog 8 #[.agg #[.slice a n c], .int .i64 root, .int .i64 lv, .int .i64 i, .slice ba bn bc] w fun e w' => e = .returned (.bool true) ∧ Below w.heap.size w w' := by
  have hE : TE w _ a n c := ⟨cellsAt_alloc w #[.slice a n c] 24, below_alloc w (.cells #[.slice a n c] 24)⟩
  replace hE := hid hE
  replace h := hid h
  replace hb := hid hb
  go_enter Try.func8, Try.ntmps8
  go_wp2_with fail
  generalize w.alloc (.cells #[.slice a n c] 24) = w0 at *
  refine (crowded_any a n c B w0 hnm (h.out.below hE.out.bel)).mono ?_
  rintro e w1 ⟨⟨t, rfl, ht⟩, b1⟩
  replace hE := hE.out.below b1
  clear b1
  cases t
  case true =>
    replace hE := hid hE
    go_wp2_with fail
    go_ret
    exact ⟨rfl, hE.out.bel⟩
  have hcr := ht rfl
  clear ht
  have m0 := hE.s.cell 0
  simp at m0
  replace hE := hid hE
  go_wp2_with fail
  refine (treePut_any a n c B root lv i ba bn bc bs 999000 w1 (h.out.below hE.out.bel) (hb.out.below hE.out.bel) hbc (by omega) (by omega) hcr).mono ?_
  rintro e w2 ⟨hP, b2⟩
  replace hE := hid (hE.out.below b2)
  clear b2 m0 hcr
  rcases hP with ⟨e', rfl, he, _⟩ | ⟨l, j, C, r, g, rfl, rfl, rfl, hl, hj, hR, hr, hbs, hPut, hg, hgl, hB2⟩
  · have he' : (e' == 0) = false := by simp [he]
    have he2 : (e' != 0) = true := by simp [he]
    have bA := below_alloc w2 (.cells #[.slice none 0 0] 24)
    replace hE := hid (hE.out.below bA)
    go_wp2_with fail
    generalize w2.alloc (.cells #[.slice none 0 0] 24) = w3 at *
    refine (rooted_any w3).mono ?_
    rintro e w4 ⟨rfl, b4⟩
    replace hE := hid (hE.out.below b4)
    go_wp2_with fail
    refine (rooted_any w4).mono ?_
    rintro e w5 ⟨rfl, b5⟩
    replace hE := hid (hE.out.below b5)
    go_wp2_with fail
    go_ret
    exact ⟨rfl, hE.out.bel⟩
  have hn := hR.small
  have hq := pw_le hl
  have hRC := hPut.grew.right
  have hrC := hPut.grew.root
  have hE1 := leavesL_ext hPut.grew.ext hR l root hr
  have hrt := (hPut.grew.ext.root hr).1
  have hleaf := hPut.leaf
  have hnone := fun (e : r = 0) => keeps_none (C := C) (l := l) (c := 999000 + 4 * (l + 1)) hR (e ▸ hPut.grew)
  have hback := fun (m : Nat) (e : r = (m : Int) + 1) (D : Nat → Blk) => keeps_back (C := C) (D := D) (l := l) (m := m) (c := 999000 + 4 * (l + 1)) hR (e ▸ hPut.grew)
  have hdrop : ∀ m : Nat, r = (m : Int) + 1 → Droppable n C ((m : Int) + 1) := fun m e => by
    rcases hrC with h0 | ⟨⟨h1, h2, _⟩, _⟩
    · omega
    · have hm : m < n := by omega
      refine droppable_of hRC hm ?_
      have := hPut.grew.out m hm
      rw [if_pos e.symm] at this
      have := outs_nonneg hR m hm
      omega
  have hcheck : ∀ x, Root n C l x → Checked n C x l 0 := fun x hx => ⟨hRC, l, hl, rfl, hx, by omega, by have := pw_pos l; omega⟩
  have hcheckB : Checked n B root l 0 := ⟨hR, l, hl, rfl, hr, by omega, by have := pw_pos l; omega⟩
  have hfewB := right_few hR
  have hrdec : r = 0 ∨ ∃ m : Nat, r = (m : Int) + 1 := by
    rcases hrC with h0 | ⟨⟨h1, _, _⟩, _⟩
    · exact .inl h0
    · exact .inr ⟨(r - 1).toNat, by omega⟩
  clear hPut
  have hSC := store_of hgl hB2
  have bA := below_alloc w2 (.cells #[.slice (some ⟨g, 0, none⟩) n n] 24)
  have kM := cellsAt_alloc w2 #[.slice (some ⟨g, 0, none⟩) n n] 24
  replace hE := hid (hE.out.below bA)
  replace hSC := hid (hSC.below bA)
  replace kM := hid kM
  replace hR := hid hR
  replace hr := hid hr
  replace hRC := hid hRC
  replace hrC := hid hrC
  replace hE1 := hid hE1
  replace hrt := hid hrt
  replace hleaf := hid hleaf
  replace hnone := hid hnone
  replace hback := hid hback
  replace hdrop := hid hdrop
  replace hcheck := hid hcheck
  replace hcheckB := hid hcheckB
  replace hfewB := hid hfewB
  replace hrdec := hid hrdec
  clear hbs hB2 bA hg hgl
  go_wp2_with fail
  generalize w2.alloc (.cells #[.slice (some ⟨g, 0, none⟩) n n] 24) = w3 at *
  generalize w2.heap.size = mb at *
  refine (rooted_any w3).mono ?_
  rintro e w4 ⟨rfl, b4⟩
  replace hE := hE.out.below b4
  replace hSC := hid (hSC.out.below b4)
  replace kM := kM.out.below b4
  have m0 := hE.s.cell 0
  have m1 := kM.cell 0
  simp at m0 m1
  replace hE := hid hE
  replace kM := hid kM
  clear b4
  go_wp2_with fail
  refine (treeAll_any a n c B root l w4 (h.out.below hE.out.bel)).mono ?_
  rintro e w5 ⟨⟨e', _, _, hno⟩ | ⟨l', va, vc, rfl, _, hl', _, _, hW⟩, b5⟩
  · exact absurd hcheckB.out hno
  obtain rfl : l' = l := by omega
  replace hE := hE.out.below b5
  replace hSC := hid (hSC.out.below b5)
  replace kM := kM.out.below b5
  clear m0 m1 b5 hl'
  have m0 := hE.s.cell 0
  have m1 := kM.cell 0
  simp at m0 m1
  replace hE := hid hE
  replace kM := hid kM
  replace hW := hid hW
  go_wp2_with fail
  refine (treeAll_any (some ⟨g, 0, none⟩) n n C root l' w5 hSC.out).mono ?_
  rintro e w6 ⟨⟨e', _, _, hno⟩ | ⟨l2, oa, oc, rfl, _, hl', _, _, hOld⟩, b6⟩
  · exact absurd (hcheck.out root hrt.out) hno
  obtain rfl : l2 = l' := by omega
  rw [hE1.out] at hOld
  replace hE := hE.out.below b6
  replace hSC := hid (hSC.out.below b6)
  replace kM := kM.out.below b6
  replace hW := hid (hW.out.below b6)
  clear m0 m1 b6 hl'
  have m0 := hE.s.cell 0
  have m1 := kM.cell 0
  simp at m0 m1
  replace hE := hid hE
  replace kM := hid kM
  replace hOld := hid hOld
  go_wp2_with fail
  refine (treeAll_any (some ⟨g, 0, none⟩) n n C r l2 w6 hSC.out).mono ?_
  rintro e w7 ⟨⟨e', _, _, hno⟩ | ⟨l3, na, nc, rfl, _, hl', _, _, hNow⟩, b7⟩
  · exact absurd (hcheck.out r hrC.out) hno
  obtain rfl : l3 = l2 := by omega
  replace hE := hE.out.below b7
  replace hSC := hid (hSC.out.below b7)
  replace kM := kM.out.below b7
  replace hW := hid (hW.out.below b7)
  replace hOld := hid (hOld.out.below b7)
  clear m0 m1 b7 hl'
  have m0 := hE.s.cell 0
  have m1 := kM.cell 0
  simp at m0 m1
  replace hE := hid hE
  replace kM := hid kM
  have hjI : (j : Int) < (pw l3 : Nat) := by omega
  have hjN : ¬ (((pw l3 : Nat) : Int) ≤ (j : Int)) := by omega
  obtain ⟨xb, xo, x, xn, xc, rfl, hxb, hxc, hxN⟩ := hNow.2 j hj
  rw [leavesL_getD C l3 r j hj, hleaf.out j hj, if_pos rfl] at hxN
  replace hNow := hid hNow
  replace hxN := hid hxN
  have hq64 : pw l3 ≤ 64 := hq
  have hbw := hid (hb.out.below hE.out.bel)
  generalize hqd : pw l3 = q at *
  replace hqd := hid hqd
  go_wp2_with fail
  refine (equalFuncBytes_true va oa q vc oc _ w7 hq64 hW.out hOld.out).mono ?_
  rintro e w8 ⟨rfl, rfl⟩
  go_wp2_with fail
  refine (bytesEqual_same x ba xn xc bn bc _ _ bs w8 hxN.out hbw.out).mono ?_
  rintro e w9 ⟨rfl, rfl⟩
  go_wp2_with fail
  refine (storeCheck_any (some ⟨g, 0, none⟩) n n C w9 hSC.out).mono ?_
  rintro e w10 ⟨⟨e', rfl, he'⟩, b10⟩
  obtain rfl : e' = 0 := he'.2 hRC.out
  replace hE := hE.out.below b10
  replace hSC := hid (hSC.out.below b10)
  replace kM := kM.out.below b10
  replace hW := hid (hW.out.below b10)
  replace hNow := hid (hNow.out.below b10)
  clear m0 m1 hOld hbw hxN hxc b10 he'
  have m0 := hE.s.cell 0
  have m1 := kM.cell 0
  simp at m0 m1
  replace hE := hid hE
  replace kM := hid kM
  go_wp2_with fail
  have d1 : decide ((j : Int) < 0) = false := decide_eq_false (by omega)
  have d2 : decide (q ≤ j) = false := decide_eq_false (by omega)
  simp only [d1, d2, Bool.or_false]
  clear d1 d2
  go_loopw [104] (fun v wr => ∃ k : Nat, k ≤ q ∧ v = .int .i64 k ∧ wr = w10) (fun v _ => q - (Go.RowKit.intOf v).toNat)
  case atStart => exact ⟨0, Nat.zero_le _, rfl, rfl⟩
  case round =>
    obtain ⟨k, hkq, rfl, rfl⟩ := hrel
    by_cases hlt : k < q
    · obtain ⟨yb, yo, y, yn, yc, he1, hyb, hyc, hyN⟩ := hNow.out.2 k hlt
      cases he1
      obtain ⟨zb, zo, z, zn, zc, rfl, hzb, hzc, hzN⟩ := hW.out.2 k hlt
      rw [leavesL_getD C l3 r k (by rw [hqd.out]; exact hlt), hleaf.out k hlt] at hyN
      rw [leavesL_getD B l3 root k (by rw [hqd.out]; exact hlt)] at hzN
      by_cases hkj : k = j
      · subst hkj
        replace hyN := hid hyN
        replace hzN := hid hzN
        go_wp2_with fail
        go_roundw
        case rel => exact ⟨k + 1, by omega, by go_num, by simp⟩
        case measure => simp [Go.RowKit.intOf]; omega
      · have hkj' : ((k : Int) == (j : Int)) = false := by simp; omega
        have hkj2 : ((k : Int) != (j : Int)) = true := by simp; omega
        rw [if_neg hkj] at hyN
        replace hyN := hid hyN
        replace hzN := hid hzN
        go_wp2_with fail
        refine (bytesEqual_same y z yn yc zn zc _ _ _ wr hyN.out hzN.out).mono ?_
        rintro e w11 ⟨rfl, rfl⟩
        go_wp2_with fail
        go_roundw
        case rel => exact ⟨k + 1, by omega, by go_num, by simp⟩
        case measure => simp [Go.RowKit.intOf]; omega
    · obtain rfl : k = q := by omega
      rcases hrdec.out with h0 | ⟨m, hm⟩
      · subst h0
        have hSC' := hid (hSC.out.congr (hnone.out rfl))
        go_wp2_with fail
        refine (storeSame_true (some ⟨g, 0, none⟩) a n n c B wr hn hfewB.out hSC'.out (h.out.below hE.out.bel)).mono ?_
        rintro e w11 ⟨rfl, b11⟩
        replace hE := hid (hE.out.below b11)
        go_wp2_with fail
        go_ret
        exact ⟨rfl, hE.out.bel⟩
      · subst hm
        have hm0 : (((m : Int) + 1) == 0) = false := by simp; omega
        go_wp2_with fail
        refine (storeDrop_any (some ⟨g, 0, none⟩) n n C ((m : Int) + 1) wr hSC.out).mono ?_
        rintro e w11 ⟨hD, b11⟩
        obtain ⟨da, dc, D, rfl, hSD, hRD, hFD⟩ := hD.yes (hdrop.out m rfl)
        replace hSD := hSD.congr (hback.out m rfl D hRD hFD)
        have bA := below_alloc w11 (.cells #[.slice da n dc] 24)
        have kD := cellsAt_alloc w11 #[.slice da n dc] 24
        replace hE := (hE.out.below b11).below bA
        replace hSD := hid (hSD.below bA)
        clear m0 m1 hD hRD hFD b11 bA
        have m0 := hE.s.cell 0
        simp at m0
        replace hE := hid hE
        replace kD := hid kD
        go_wp2_with fail
        generalize w11.alloc (.cells #[.slice da n dc] 24) = w12 at *
        refine (storeSame_true da a n dc c B w12 hn hfewB.out hSD.out (h.out.below hE.out.bel)).mono ?_
        rintro e w13 ⟨rfl, b13⟩
        replace hE := hid (hE.out.below b13)
        go_wp2_with fail
        go_ret
        exact ⟨rfl, hE.out.bel⟩
end Go.Proofs.Ytaagnojdpedilab
