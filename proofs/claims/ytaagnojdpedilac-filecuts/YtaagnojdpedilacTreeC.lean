/-
  The closed fact 'rooted'. Nothing here is trusted.
-/
import Derived.Test.YtaagnojdpedilacTreeB
set_option linter.unusedVariables false
namespace Go.Proofs.Ytaagnojdpedilac
open Go.RowKit

theorem lowest_eq {n : Nat} {B : Nat → Blk} {i j : Nat} (h : Lowest n B i) (h0 : (B j).refs = 0) (hlt : ∀ k, k < j → (B k).refs ≠ 0) : i = j := by
  rcases Nat.lt_trichotomy i j with h' | h' | h'
  · exact absurd h.2.1 (hlt i h')
  · exact h'
  · exact absurd h0 (h.2.2 j h')

/-- the first leaf below nothing, at place 6 of level 2, has a root at address 3 -/
theorem puts_first {C : Nat → Blk} {a : Int} (h : Puts 9 [1, 2, 3, 4] 2 (fun _ => Blk.zero) 0 6 C a) : a = 3 := by
  obtain ⟨D, k, ⟨D1, k1, h0, h1⟩, h2⟩ := h
  simp only [kidsL_zero] at h0 h1 h2
  rcases h0 with ⟨h, _⟩ | ⟨_, j, hj, _, rfl, rfl⟩
  · exact absurd h (by simp)
  obtain rfl : j = 0 := lowest_eq hj rfl (fun k hk => absurd hk (by omega))
  have e1 : (kidsL (fun _ => Blk.zero) (([0, 0, 0, 0] : List Int).getD (6 / pw 1) 0)).set (6 % pw 1 / pw 0) (((0 : Nat) : Int) + 1) = [0, 0, 1, 0] := by decide
  rw [e1] at h1
  rcases h1 with ⟨h, _⟩ | ⟨_, j, hj1, _, rfl, rfl⟩
  · exact absurd h (by decide)
  obtain rfl : j = 1 := lowest_eq hj1 (by decide) (fun k hk => by
    obtain rfl : k = 0 := by omega
    decide)
  have e2 : ([0, 0, 0, 0] : List Int).set (6 / pw 1) (((1 : Nat) : Int) + 1) = [0, 2, 0, 0] := by decide
  rw [e2] at h2
  rcases h2 with ⟨h, _⟩ | ⟨_, j, hj2, _, rfl, rfl⟩
  · exact absurd h (by decide)
  obtain rfl : j = 2 := lowest_eq hj2 (by decide) (fun k hk => by
    match k, hk with
    | 0, _ => decide
    | 1, _ => decide)
  rfl

theorem diffs_one {C : Nat → Blk} {a : Int} (h : ∀ j, j < pw 2 → leafAt C 2 a j = if j = 6 then [1, 2, 3, 4] else []) : diffs C 2 a 0 0 = [6] := by
  have e : diffTo C 2 a 0 (pw 2) = (List.range (pw 2)).filter (fun j => decide (j = 6)) := by
    unfold diffTo
    apply List.filter_congr
    intro j hj
    have hj' := List.mem_range.1 hj
    rw [h j hj', leafAt_zero C 2 j hj']
    by_cases e : j = 6 <;> simp [e]
  unfold diffs
  rw [e]
  decide

theorem used_zero : ∀ n, usedTo (fun _ => Blk.zero) n = 0
  | 0 => rfl
  | n + 1 => by rw [usedTo_succ, used_zero n]; rfl

set_option maxHeartbeats 4000000 in
set_option maxRecDepth 100000 in
theorem rooted_any (w : World) : Calls Try.prog 11 #[] w fun e w' => e = .returned (.bool true) ∧ Below w.heap.size w w' := by
  go_enter Try.func11, Try.ntmps11
  go_wp2_with fail
  refine (storeNew_ok 9 w (by omega)).mono ?_
  rintro e w1 ⟨⟨g, c, rfl, hg, hgl, hS⟩, b1⟩
  replace hS := store_of hgl hS
  have hq := b1.size
  have b2 := (below_alloc w1 (.cells #[.slice (some ⟨g, 0, none⟩) 9 c] 24)).alloc (by simp) (.cells #[.int .u8 1, .int .u8 2, .int .u8 3, .int .u8 4] 5)
  have kq : CellsAt _ w1.heap.size #[.slice (some ⟨g, 0, none⟩) 9 c] 24 := (cellsAt_alloc w1 _ _).below (below_alloc _ (.cells #[.int .u8 1, .int .u8 2, .int .u8 3, .int .u8 4] 5))
  have hN := lit_nums (w1.alloc (.cells #[.slice (some ⟨g, 0, none⟩) 9 c] 24)) [1, 2, 3, 4] 5 .u8 (by decide)
  simp only [List.map_cons, List.map_nil, World.size_alloc, List.length_cons, List.length_nil] at hN
  replace hN := hid (hN.weaken (R := fun _ => True) (fun _ _ _ => trivial))
  replace kq := hid kq
  replace hS := hid (hS.below b2)
  go_wp2_with fail
  generalize (w1.alloc (.cells #[.slice (some ⟨g, 0, none⟩) 9 c] 24)).alloc (.cells #[.int .u8 1, .int .u8 2, .int .u8 3, .int .u8 4] 5) = w2 at *
  have hq2 := kq.out.lt
  refine (treePut_any (some ⟨g, 0, none⟩) 9 c (fun _ => Blk.zero) 0 2 6 (some ⟨w1.heap.size + 1, 0, none⟩) 4 4 [1, 2, 3, 4] 1 w2 hS.out hN.out (by omega) (by omega) (by omega) (fun k _ => by show (0 : Int) ≤ 1; omega)).mono ?_
  rintro e w3 ⟨⟨e', _, _, hno⟩ | ⟨l, j, C, a, g1, rfl, hlv, hij, hl, hj, hR0, hr0, hbs, hPut, hg1, hgl1, hB1⟩, b3⟩
  · exfalso
    have := (hno ⟨right_zero 9 (by omega), 2, by omega, rfl, .inl rfl, by omega, by decide⟩ (.inr rfl)).2
    rw [used_zero] at this
    omega
  obtain rfl : l = 2 := by omega
  obtain rfl : j = 6 := by omega
  obtain rfl : a = 3 := puts_first hPut.puts
  have hleaf : ∀ j, j < pw 2 → leafAt C 2 3 j = if j = 6 then [1, 2, 3, 4] else [] := fun j hj => by
    rw [hPut.leaf j hj, leafAt_zero _ 2 j hj]
  have hRC := hPut.grew.right
  have hrC := hPut.grew.root
  have hdf := diffs_one hleaf
  have h6 := hleaf 6 (by decide)
  have h5 := hleaf 5 (by decide)
  rw [if_pos rfl] at h6
  rw [if_neg (by omega)] at h5
  replace kq := kq.out.below b3
  have m0 := kq.cell 0
  have m1 := kq.frozen 0
  simp at m0
  replace b3 := Below.tr (Below.tr b1 b2) b3
  replace hB1 := hid hB1
  replace kq := hid kq
  clear hN hS b1 b2 hPut hleaf hR0 hr0 hbs hlv hij
  replace hRC := hid hRC
  replace hrC := hid hrC
  replace hdf := hid hdf
  replace h5 := hid h5
  replace h6 := hid h6
  go_wp2_with fail
  clear m0 m1
  obtain ⟨kq4, hS4⟩ := cur_set (v := .slice (some ⟨g1, 0, none⟩) 9 9) kq.out hq2 hg1 hgl1 hB1.out
  have b4 := b3.setCell (p := ⟨w1.heap.size, 0, none⟩) hq (.slice (some ⟨g1, 0, none⟩) 9 9)
  clear kq hB1 b3
  generalize w3.setCell ⟨w1.heap.size, 0, none⟩ (.slice (some ⟨g1, 0, none⟩) 9 9) = w4 at *
  have hck : ∀ i : Nat, i < pw 2 → Checked 9 C 3 2 i := fun i hi => ⟨hRC.out, 2, by omega, rfl, hrC.out, by omega, by omega⟩
  have hck0 : Checked 9 C 0 2 0 := ⟨hRC.out, 2, by omega, rfl, .inl rfl, by omega, by decide⟩
  replace hck := hid hck
  replace hck0 := hid hck0
  refine (treeGet_any (some ⟨g1, 0, none⟩) 9 9 C 3 2 6 w4 hS4).mono ?_
  rintro e w5 ⟨⟨e', _, _, hno⟩ | ⟨l, j, va, vn, vc, rfl, hlv, hij, _, _, _, _, hN5⟩, b5⟩
  · exact absurd (hck.out 6 (by decide)) hno
  obtain rfl : l = 2 := by omega
  obtain rfl : j = 6 := by omega
  rw [h6.out] at hN5
  obtain rfl : vn = 4 := hN5.1.symm
  replace hN5 := hid (hN5.weaken (R := fun _ => True) (fun _ _ _ => trivial))
  replace hS4 := hS4.below b5
  replace kq4 := kq4.below b5
  replace b4 := Below.tr b4 b5
  have m0 := kq4.cell 0
  simp at m0
  replace hS4 := hid hS4
  replace kq4 := hid kq4
  clear b5 hlv hij
  go_wp2_with fail
  refine (treeGet_any (some ⟨g1, 0, none⟩) 9 9 C 3 2 5 w5 hS4.out).mono ?_
  rintro e w6 ⟨⟨e', _, _, hno⟩ | ⟨l, j, ua, un, uc, rfl, hlv, hij, _, _, _, _, hN6⟩, b6⟩
  · exact absurd (hck.out 5 (by decide)) hno
  obtain rfl : l = 2 := by omega
  obtain rfl : j = 5 := by omega
  rw [h5.out] at hN6
  obtain rfl : un = 0 := hN6.1.symm
  replace hN5 := hid (hN5.out.below b6)
  replace hS4 := hid (hS4.out.below b6)
  replace kq4 := kq4.out.below b6
  replace b4 := Below.tr b4 b6
  clear m0
  have m0 := kq4.cell 0
  simp at m0
  replace kq4 := hid kq4
  clear b6 hlv hij hN6
  go_wp2_with fail
  refine (treeDiffer_any (some ⟨g1, 0, none⟩) 9 9 C 3 0 2 w6 hS4.out).mono ?_
  rintro e w7 ⟨⟨e', _, _, hno⟩ | ⟨l, da, dn, dc, rfl, _, hlv, _, _, _, hN7⟩, b7⟩
  · exact absurd ⟨hck.out 0 (by decide), hck0.out⟩ hno
  obtain rfl : l = 2 := by omega
  rw [hdf.out] at hN7
  obtain rfl : dn = 1 := hN7.1.symm
  replace hN5 := hid (hN5.out.below b7)
  replace hN7 := hid hN7
  replace b4 := Below.tr b4 b7
  clear b7 hlv hS4 kq4 m0
  go_wp2_with fail
  refine (leaves_any 2 w7).mono ?_
  rintro e w8 ⟨⟨l, hl', hlv, rfl⟩ | ⟨hlv, _⟩, rfl⟩
  · obtain rfl : l = 2 := by omega
    have e16 : pw 2 = 16 := rfl
    rw [e16]
    have b9 := below_alloc w8 (.cells #[.int .u8 1, .int .u8 2, .int .u8 3, .int .u8 4] 5)
    have hN9 := lit_nums w8 [1, 2, 3, 4] 5 .u8 (by decide)
    simp only [List.map_cons, List.map_nil, List.length_cons, List.length_nil] at hN9
    replace hN5 := hid (hN5.out.below b9)
    replace hN7 := hid (hN7.out.below b9)
    replace hN9 := hid hN9
    replace b4 := Below.tr b4 b9
    clear hlv
    go_wp2_with fail
    generalize w8.alloc (.cells #[.int .u8 1, .int .u8 2, .int .u8 3, .int .u8 4] 5) = w9 at *
    refine (bytesEqual_same va (some ⟨w8.heap.size, 0, none⟩) 4 vc 4 4 _ _ [1, 2, 3, 4] w9 hN5.out hN9.out).mono ?_
    rintro e w10 ⟨rfl, rfl⟩
    have b10 := below_alloc w10 (.cells #[.int .i64 6] 3)
    have hN10 := lit_nums w10 [6] 3 .i64 (by decide)
    simp only [List.map_cons, List.map_nil, List.length_cons, List.length_nil] at hN10
    replace hN7 := hid (hN7.out.below b10)
    replace hN10 := hid hN10
    replace b4 := Below.tr b4 b10
    clear b9 b10
    go_wp2_with fail
    generalize w10.alloc (.cells #[.int .i64 6] 3) = w11 at *
    refine (equalInts_same da (some ⟨w10.heap.size, 0, none⟩) 1 dc 1 _ _ [6] w11 (by omega) hN7.out hN10.out).mono ?_
    rintro e w12 ⟨rfl, q, rfl⟩
    go_wp2_with fail
    go_ret
    exact ⟨rfl, b4.trans (below_drewN _ _ _)⟩
  · omega
end Go.Proofs.Ytaagnojdpedilac
