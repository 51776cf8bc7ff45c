/-
  The walk of the law TreeDiffers out of contracts. Nothing here is trusted.
-/
import Derived.Test.YtaagnojdpedilacTreeD
import Derived.Test.YtaagnojdpedilacReached1
set_option linter.unusedVariables false
namespace Go.Proofs.Ytaagnojdpedilac
open Go.RowKit

theorem diffs_symm (B : Nat → Blk) (l : Nat) (x y : Int) : diffs B l y x 0 = diffs B l x y 0 := by
  unfold diffs diffTo
  congr 1
  apply List.filter_congr
  intro j _
  by_cases e : leafAt B l x j = leafAt B l y j
  · simp [e]
  · have e' : ¬ leafAt B l y j = leafAt B l x j := fun h => e h.symm
    simp [e, e']
theorem diffs_rising (B : Nat → Blk) (l : Nat) (x y : Int) : Rising (diffs B l x y 0) := by
  unfold Rising diffs diffTo
  rw [List.pairwise_map]
  refine (List.Pairwise.filter _ List.pairwise_lt_range).imp ?_
  intro a b h
  omega
theorem range_one (i : Nat) : ∀ n, i < n → (List.range n).filter (fun j => decide (j = i)) = [i]
  | 0, h => absurd h (by omega)
  | n + 1, h => by
    rw [List.range_succ, List.filter_append]
    by_cases e : i < n
    · rw [range_one i n e]
      have : ¬ n = i := by omega
      simp [this]
    · obtain rfl : i = n := by omega
      have : (List.range i).filter (fun j => decide (j = i)) = [] := by
        apply List.filter_eq_nil_iff.2
        intro j hj
        have := List.mem_range.1 hj
        simp; omega
      rw [this]
      simp
/-- behind a Put nothing differs but that place -/
theorem diffs_put {n : Nat} {B C : Nat → Blk} {l i : Nat} {root a cc : Int} {bs : List Int} (hR : Right n B) (hr : Root n B l root) (hi : i < pw l) (h : PutOk n B l root i bs cc C a) : diffs C l root a 0 = [] ∨ diffs C l root a 0 = [(i : Int)] := by
  have h1 : ∀ j, j < pw l → leafAt C l root j = leafAt B l root j := fun j hj => h.grew.ext.leaf hR l root hr j hj
  by_cases e : leafAt B l root i = bs
  · left
    unfold diffs diffTo
    rw [List.map_eq_nil_iff]
    apply List.filter_eq_nil_iff.2
    intro j hj
    have hj' := List.mem_range.1 hj
    rw [h1 j hj', h.leaf j hj']
    by_cases e2 : j = i
    · subst e2; rw [if_pos rfl]; simp [e]
    · rw [if_neg e2]; simp
  · right
    unfold diffs
    have e3 : diffTo C l root a (pw l) = (List.range (pw l)).filter (fun j => decide (j = i)) := by
      unfold diffTo
      apply List.filter_congr
      intro j hj
      have hj' := List.mem_range.1 hj
      rw [h1 j hj', h.leaf j hj']
      by_cases e2 : j = i
      · subst e2; rw [if_pos rfl]; simp [e]
      · rw [if_neg e2]; simp [e2]
    rw [e3, range_one i _ hi]
    simp

set_option maxHeartbeats 8000000 in
set_option maxRecDepth 100000 in
theorem treeDiffers_walk (a : Option Addr) (n c : Nat) (B : Nat → Blk) (root other lv i : Int) (ba : Option Addr) (bn bc : Nat) (bs : List Int) (w : World) (hnm : n ≤ 9223372036854775807) (h : StoreAt w a n B) (hb : NumsAt (fun _ => True) .u8 w ba bn bs) (hbc : bn ≤ bc) :
    Calls Try.prog 4 #[.agg #[.slice a n c], .int .i64 root, .int .i64 other, .int .i64 lv, .int .i64 i, .slice ba bn bc] w fun e w' => e = .returned (.bool true) ∧ Below w.heap.size w w' := by
  have hE : TE w _ a n c := ⟨cellsAt_alloc w #[.slice a n c] 24, below_alloc w (.cells #[.slice a n c] 24)⟩
  replace hE := hid hE
  replace h := hid h
  replace hb := hid hb
  go_enter Try.func4, Try.ntmps4
  go_wp2_with fail
  generalize w.alloc (.cells #[.slice a n c] 24) = w0 at *
  refine (crowded_any a n c B w0 hnm (h.out.below hE.out.bel)).mono ?_
  rintro e w1 ⟨⟨t, rfl, ht⟩, b1⟩
  replace hE := hE.out.below b1
  clear b1
  cases t
  case true =>
    replace hE := hid hE
    go_wp2_with fail
    go_ret
    exact ⟨rfl, hE.out.bel⟩
  have hcr := hid (ht rfl)
  clear ht
  have m0 := hE.s.cell 0
  simp at m0
  replace hE := hid hE
  go_wp2_with fail
  refine (treeDiffer_any a n c B root other lv w1 (h.out.below hE.out.bel)).mono ?_
  rintro e w2 ⟨hD, b2⟩
  replace hE := hE.out.below b2
  clear b2 m0
  rcases hD with ⟨e', rfl, he, _⟩ | ⟨l, va, vn, vc, rfl, hl, rfl, hR, hr, ho, hN⟩
  · have he' : (e' == 0) = false := by simp [he]
    have he2 : (e' != 0) = true := by simp [he]
    replace hE := hid hE
    go_wp2_with fail
    refine (rooted_any w2).mono ?_
    rintro e w4 ⟨rfl, b4⟩
    replace hE := hid (hE.out.below b4)
    go_wp2_with fail
    refine (rooted_any w4).mono ?_
    rintro e w5 ⟨rfl, b5⟩
    replace hE := hid (hE.out.below b5)
    go_wp2_with fail
    go_ret
    exact ⟨rfl, hE.out.bel⟩
  have hp := pw_pos l
  have hq := pw_le hl
  have hc1 : Checked n B root l 0 := ⟨hR, l, hl, rfl, hr, by omega, by omega⟩
  have hc2 : Checked n B other l 0 := ⟨hR, l, hl, rfl, ho, by omega, by omega⟩
  have hlen := diffs_length B l root other 0
  have hsy := diffs_symm B l root other
  have hri := diffs_rising B l root other
  replace hN := hid hN
  replace hR := hid hR
  replace hr := hid hr
  replace ho := hid ho
  replace hc1 := hid hc1
  replace hc2 := hid hc2
  replace hsy := hid hsy
  replace hri := hid hri
  replace hE := hid hE
  have hvn : vn ≤ 1000 := by rw [← hN.out.1]; omega
  go_wp2_with fail
  refine (rooted_any w2).mono ?_
  rintro e w3 ⟨rfl, b3⟩
  replace hE := hE.out.below b3
  replace hN := hid (hN.out.below b3)
  clear b3
  have m0 := hE.s.cell 0
  simp at m0
  replace hE := hid hE
  go_wp2_with fail
  refine (treeDiffer_any a n c B other root l w3 (h.out.below hE.out.bel)).mono ?_
  rintro e w4 ⟨⟨e', _, _, hno⟩ | ⟨l2, ua, un, uc, rfl, _, hl2, _, _, _, hU⟩, b4⟩
  · exact absurd ⟨hc2.out, hc1.out⟩ hno
  obtain rfl : l2 = l := by omega
  rw [hsy.out] at hU
  obtain rfl : un = vn := hU.1.symm.trans hN.out.1
  replace hE := hE.out.below b4
  replace hN := hid (hN.out.below b4)
  clear b4 m0 hl2
  have m0 := hE.s.cell 0
  simp at m0
  replace hE := hid hE
  replace hU := hid hU
  go_wp2_with fail
  refine (treeDiffer_any a n c B root root l2 w4 (h.out.below hE.out.bel)).mono ?_
  rintro e w5 ⟨⟨e', _, _, hno⟩ | ⟨l3, oa, on, oc, rfl, _, hl3, _, _, _, hO⟩, b5⟩
  · exact absurd ⟨hc1.out, hc1.out⟩ hno
  obtain rfl : l3 = l2 := by omega
  rw [diffs_same] at hO
  obtain rfl : on = 0 := hO.1.symm
  replace hE := hE.out.below b5
  replace hN := hid (hN.out.below b5)
  replace hU := hid (hU.out.below b5)
  clear b5 m0 hl3 hO
  have m0 := hE.s.cell 0
  simp at m0
  replace hE := hid hE
  go_wp2_with fail
  refine (equalInts_same ua va un uc vc _ _ _ w5 hvn hU.out hN.out).mono ?_
  rintro e w6 ⟨rfl, q, rfl⟩
  have b6 := below_drewN w5.heap.size w5 q
  replace hE := hE.out.below b6
  replace hN := hid (hN.out.below b6)
  clear m0 hU b6
  generalize w5.drewN q = w6 at *
  have m0 := hE.s.cell 0
  simp at m0
  replace hE := hid hE
  go_wp2_with fail
  refine (isSorted_any va un vc _ w6 hvn hN.out hri.out).mono ?_
  rintro e w7 ⟨rfl, q2, rfl⟩
  have b7 := below_drewN w6.heap.size w6 q2
  replace hE := hE.out.below b7
  clear m0 hN b7
  generalize w6.drewN q2 = w7 at *
  have m0 := hE.s.cell 0
  simp at m0
  replace hE := hid hE
  go_wp2_with fail
  refine (treePut_any a n c B root l3 i ba bn bc bs 999000 w7 (h.out.below hE.out.bel) (hb.out.below hE.out.bel) hbc (by omega) (by omega) hcr.out).mono ?_
  rintro e w8 ⟨hP, b8⟩
  replace hE := hid (hE.out.below b8)
  clear b8 m0
  rcases hP with ⟨e', rfl, he, _⟩ | ⟨l4, j, C, r, g, rfl, hl4, rfl, _, hj, _, _, _, hPut, hg, hgl, hB2⟩
  · have he' : (e' == 0) = false := by simp [he]
    have he2 : (e' != 0) = true := by simp [he]
    have bA := below_alloc w8 (.cells #[.slice none 0 0] 24)
    replace hE := hid (hE.out.below bA)
    go_wp2_with fail
    go_ret
    exact ⟨rfl, hE.out.bel⟩
  obtain rfl : l4 = l3 := by omega
  have hdf := diffs_put hR.out hr.out hj hPut
  have hRC := hPut.grew.right
  have hck1 : Checked n C root l4 0 := ⟨hRC, l4, hl, rfl, (hPut.grew.ext.root hr.out).1, by omega, by omega⟩
  have hck2 : Checked n C r l4 0 := ⟨hRC, l4, hl, rfl, hPut.grew.root, by omega, by omega⟩
  have hSC := store_of hgl hB2
  have bA := below_alloc w8 (.cells #[.slice (some ⟨g, 0, none⟩) n n] 24)
  replace hE := hid (hE.out.below bA)
  replace hSC := hid (hSC.below bA)
  replace hdf := hid hdf
  replace hck1 := hid hck1
  replace hck2 := hid hck2
  clear hPut hB2 bA hg hgl hl4 hRC
  go_wp2_with fail
  generalize w8.alloc (.cells #[.slice (some ⟨g, 0, none⟩) n n] 24) = w9 at *
  refine (treeDiffer_any (some ⟨g, 0, none⟩) n n C root r l4 w9 hSC.out).mono ?_
  rintro e w10 ⟨⟨e', _, _, hno⟩ | ⟨l5, da, dn, dc, rfl, _, hl5, _, _, _, hDN⟩, b10⟩
  · exact absurd ⟨hck1.out, hck2.out⟩ hno
  obtain rfl : l5 = l4 := by omega
  replace hE := hid (hE.out.below b10)
  clear hl5
  rcases hdf.out with hd | hd
  · rw [hd] at hDN
    obtain rfl : dn = 0 := hDN.1.symm
    clear hDN
    go_wp2_with fail
    go_ret
    exact ⟨rfl, hE.out.bel⟩
  · rw [hd] at hDN
    obtain rfl : dn = 1 := hDN.1.symm
    obtain ⟨db, dof, rfl, _, _, hcell⟩ := hDN.2.2 (by omega)
    have d0 : w10.cell? ⟨db, dof, none⟩ = some (.int .i64 (j : Int)) := hcell 0 (by omega)
    clear hDN hcell
    go_wp2_with fail
    go_ret
    exact ⟨rfl, hE.out.bel⟩
end Go.Proofs.Ytaagnojdpedilac
