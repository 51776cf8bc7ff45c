/-
  The closed fact 'stored' of the laws, 'at', slices.Equal. Nothing here is trusted.
-/
import Derived.Test.YtaagnojdpedilabSto2
set_option linter.unusedVariables false
namespace Go.Proofs.Ytaagnojdpedilab
open Go.RowKit

set_option maxHeartbeats 1000000 in
set_option maxRecDepth 100000 in
theorem equalInts_same (a1 a2 : Option Addr) (n c d : Nat) (Q1 Q2 : Nat → Prop) (xs : List Int) (w : World) (hn : n ≤ 1000) (h1 : NumsAt Q1 .i64 w a1 n xs) (h2 : NumsAt Q2 .i64 w a2 n xs) :
    Calls Try.prog 19 #[.slice a1 n c, .slice a2 n d] w fun e w' => e = .returned (.bool true) ∧ ∃ q, w' = w.drewN q := by
  replace h1 := hid h1
  replace h2 := hid h2
  go_enter Try.func19, Try.ntmps19
  go_wp2
  go_loopw [13] (fun i wr => ∃ k q : Nat, k ≤ n ∧ i = .int .i64 k ∧ wr = w.drewN q) (fun i _ => n - (Go.RowKit.intOf i).toNat)
  case atStart => exact ⟨0, 0, Nat.zero_le _, rfl, rfl⟩
  case round =>
    obtain ⟨k, q, hk, rfl, rfl⟩ := hrel
    by_cases hlt : k < n
    · obtain ⟨b1, o1, rfl, _, _, hc1⟩ := h1.out.2.2 (by omega)
      obtain ⟨b2, o2, rfl, _, _, hc2⟩ := h2.out.2.2 (by omega)
      have g1 := hc1 k (by omega)
      have g2 := hc2 k (by omega)
      clear hc1 hc2 h1 h2
      generalize xs.getD k 0 = x at *
      go_wp2_with fail
      go_quiet (fail)
      go_wp2
      go_roundw
      case rel => exact ⟨k + 1, q + nq, by omega, by go_num, rfl⟩
      case measure => simp [Go.RowKit.intOf]; omega
    · have : k = n := by omega
      subst this
      clear h1 h2
      go_wp2
      go_ret
      exact ⟨rfl, q, rfl⟩

theorem at_any (k n : Int) (w : World) (h0 : 1 ≤ n) (h1 : n ≤ 1000) :
    Calls Try.prog 21 #[.int .i64 k, .int .i64 n] w fun e w' => (∃ r : Nat, e = .returned (.int .i64 r) ∧ (r : Int) < n) ∧ w' = w := by
  have t1 := Int.tmod_lt_of_pos k (show 0 < n by omega)
  have t2 : -n < k.tmod n := by have := Int.tmod_lt_of_pos (-k) (show 0 < n by omega); rw [Int.neg_tmod] at this; omega
  have hnz : (n == 0) = false := by simp; omega
  generalize ht : k.tmod n = t at t1 t2
  by_cases hneg : t < 0
  · go_enter Try.func21, Try.ntmps21
    go_wp2
    go_ret
    exact ⟨⟨(t + n).toNat, congrArg (fun z => Ending.returned (.int .i64 z)) (show t + n = ((t + n).toNat : Int) by omega), by omega⟩, rfl⟩
  · go_enter Try.func21, Try.ntmps21
    go_wp2
    go_ret
    exact ⟨⟨t.toNat, congrArg (fun z => Ending.returned (.int .i64 z)) (show t = (t.toNat : Int) by omega), by omega⟩, rfl⟩

theorem Row.nums {w : World} {base g n : Nat} {f : Nat → Int} (r : Row w base g n f) (hf : ∀ k, k < n → -9223372036854775808 ≤ f k ∧ f k ≤ 9223372036854775807) : NumsAt (fun b => base ≤ b) .i64 w (some ⟨g, 0, none⟩) n ((List.range n).map f) := by
  refine ⟨by simp, ?_, fun hn => ⟨g, 0, rfl, r.lt.2, r.lt.1, fun i hi => ?_⟩⟩
  · intro x hx
    simp only [List.mem_map, List.mem_range] at hx
    obtain ⟨k, hk, rfl⟩ := hx
    exact WalkArith.wf_i64 (hf k hk)
  · rw [Nat.zero_add, r.cell hi]
    simp [List.getD, hi]

theorem lit_nums (w : World) (xs : List Int) (t : TypeId) (k : IntKind) (hw : ∀ x ∈ xs, (Lit.int k x).wf = true) : NumsAt (fun b => w.heap.size ≤ b) k (w.alloc (.cells (xs.map (Value.int k)).toArray t)) (some ⟨w.heap.size, 0, none⟩) xs.length xs := by
  refine ⟨rfl, hw, fun hn => ⟨_, _, rfl, by simp, Nat.le_refl _, fun i hi => ?_⟩⟩
  rw [World.cell?_alloc_at _ _ _ _ rfl, Nat.zero_add]
  simp [List.getD, hi]

/-- a variable that holds a store is given another one -/
theorem cur_set {w : World} {q base g n : Nat} {u v : Value} {t : TypeId} {B : Nat → Blk} (k : CellsAt w q #[u] t) (hq : q < base) (hg : base ≤ g) (hgl : g < w.heap.size) (hB : Blocks (fun b => base ≤ b) w g 0 n B) :
    CellsAt (w.setCell ⟨q, 0, none⟩ v) q #[v] t ∧ StoreAt (w.setCell ⟨q, 0, none⟩ v) (some ⟨g, 0, none⟩) n B := by
  have kk := Kept.setCell (g := q) (Kept.refl _ w) (p := ⟨q, 0, none⟩) rfl v
  refine ⟨?_, store_of (by simpa using hgl) (hB.kept (by omega) (fun b h => by omega) kk)⟩
  have := k.set 0 v
  simpa using this

set_option maxHeartbeats 4000000 in
set_option maxRecDepth 100000 in
theorem stored_any (w : World) : Calls Try.prog 16 #[] w fun e w' => e = .returned (.bool true) ∧ Below w.heap.size w w' := by
  go_enter Try.func16, Try.ntmps16
  go_wp2_with fail
  refine (storeNew_ok 3 w (by omega)).mono ?_
  rintro e w1 ⟨⟨g, c, rfl, hg, hgl, hS⟩, b1⟩
  replace hS := store_of hgl hS
  have hq := b1.size
  have b2 := (below_alloc w1 (.cells #[.slice (some ⟨g, 0, none⟩) 3 c] 24)).alloc (by simp) (.cells #[.int .u8 1, .int .u8 2, .int .u8 3, .int .u8 4] 5)
  have kq : CellsAt _ w1.heap.size #[.slice (some ⟨g, 0, none⟩) 3 c] 24 := (cellsAt_alloc w1 _ _).below (below_alloc _ (.cells #[.int .u8 1, .int .u8 2, .int .u8 3, .int .u8 4] 5))
  have hN := lit_nums (w1.alloc (.cells #[.slice (some ⟨g, 0, none⟩) 3 c] 24)) [1, 2, 3, 4] 5 .u8 (by decide)
  simp only [List.map_cons, List.map_nil, World.size_alloc, List.length_cons, List.length_nil] at hN
  replace hN := hid hN
  replace kq := hid kq
  replace hS := hid (hS.below b2)
  go_wp2_with fail
  generalize (w1.alloc (.cells #[.slice (some ⟨g, 0, none⟩) 3 c] 24)).alloc (.cells #[.int .u8 1, .int .u8 2, .int .u8 3, .int .u8 4] 5) = w2 at *
  have hq2 := kq.out.lt
  refine (storeMake_any (some ⟨g, 0, none⟩) 3 c (fun _ => Blk.zero) leafK none 0 0 (some ⟨w1.heap.size + 1, 0, none⟩) 4 4 _ w2 hS.out (numsAt_nil _ _ _ _) hN.out (by decide) (by omega)).mono ?_
  rintro e w3 ⟨⟨e', _, _, hno⟩ | ⟨i, hi, _, _, hmin, g1, c1, rfl, hg1, hgl1, hB1⟩, b3⟩
  · exact absurd make1 hno
  obtain rfl : i = 0 := by have := first_free (B := fun _ => Blk.zero) (j := 0) rfl hmin; omega
  clear hmin
  replace kq := kq.out.below b3
  have m0 := kq.cell 0
  have m1 := kq.frozen 0
  simp at m0
  replace b3 := Below.tr (Below.tr b1 b2) b3
  replace hB1 := hid hB1
  replace kq := hid kq
  clear hN hS b1 b2
  go_wp2_with fail
  clear m0 m1
  obtain ⟨kq4, hS4⟩ := cur_set (v := .slice (some ⟨g1, 0, none⟩) 3 c1) kq.out hq2 hg1 hgl1 hB1.out
  have b4 := b3.setCell (p := ⟨w1.heap.size, 0, none⟩) hq (.slice (some ⟨g1, 0, none⟩) 3 c1)
  have hsz4 : (w3.setCell ⟨w1.heap.size, 0, none⟩ (.slice (some ⟨g1, 0, none⟩) 3 c1)).heap.size = w3.heap.size := by simp
  replace hsz4 := hid hsz4
  clear kq hB1 b3
  generalize w3.setCell ⟨w1.heap.size, 0, none⟩ (.slice (some ⟨g1, 0, none⟩) 3 c1) = w4 at *
  have b5 := below_alloc w4 (.cells #[.int .i64 0, .int .i64 1, .int .i64 0, .int .i64 1] 3)
  have hN := lit_nums w4 [0, 1, 0, 1] 3 .i64 (by decide)
  rw [hsz4.out] at hN
  simp only [List.map_cons, List.map_nil, List.length_cons, List.length_nil] at hN
  replace kq4 := kq4.below b5
  replace hS4 := hS4.below b5
  replace b5 := Below.tr b4 b5
  clear b4 hsz4
  generalize w4.alloc (.cells #[.int .i64 0, .int .i64 1, .int .i64 0, .int .i64 1] 3) = w5 at *
  have hq5 := kq4.lt
  refine (storeMake_any (some ⟨g1, 0, none⟩) 3 c1 B1 nodeK (some ⟨w3.heap.size, 0, none⟩) 4 4 none 0 0 _ w5 hS4 hN (numsAt_nil _ _ _ _) (by decide) (by omega)).mono ?_
  rintro e w6 ⟨⟨e', _, _, hno⟩ | ⟨i, hi, _, hi0, hmin, g2, c2, rfl, hg2, hgl2, hB2⟩, b6⟩
  · exact absurd make2 hno
  obtain rfl : i = 1 := by
    have h1 := first_free (B := B1) (j := 1) rfl hmin
    have h2 : i ≠ 0 := fun e => by rw [e] at hi0; exact absurd hi0 (by decide)
    omega
  clear hmin hi0
  replace kq4 := kq4.below b6
  replace b6 := Below.tr b5 b6
  have m0 := kq4.cell 0
  have m1 := kq4.frozen 0
  simp at m0
  replace hB2 := hid hB2
  replace kq4 := hid kq4
  clear hN hS4 b5
  go_wp2_with fail
  clear m0 m1
  obtain ⟨kq7, hS7⟩ := cur_set (v := .slice (some ⟨g2, 0, none⟩) 3 c2) kq4.out hq5 hg2 hgl2 hB2.out
  have b7 := b6.setCell (p := ⟨w1.heap.size, 0, none⟩) hq (.slice (some ⟨g2, 0, none⟩) 3 c2)
  clear kq4 hB2 b6
  generalize w6.setCell ⟨w1.heap.size, 0, none⟩ (.slice (some ⟨g2, 0, none⟩) 3 c2) = w7 at *
  have hq7 := kq7.lt
  refine (storeOutside_any (some ⟨g2, 0, none⟩) 3 c2 B2 w7 hS7).mono ?_
  rintro e w8 ⟨b8, ⟨e', _, _, hno⟩ | ⟨_, g3, rfl, hrow⟩⟩
  · exact absurd right2 hno
  replace kq7 := kq7.below b8
  replace hS7 := hS7.below b8
  replace b8 := Below.tr b7 b8
  have hO := hrow.nums (fun k hk => by rw [outs2 k hk]; split <;> omega)
  have eO : (List.range 3).map (outs 3 B2) = [1, 1, 0] := by
    have h0 := outs2 0 (by omega)
    have h1 := outs2 1 (by omega)
    have h2 := outs2 2 (by omega)
    simp [List.range, List.range.loop, h0, h1, h2]
  rw [eO] at hO
  have m0 := kq7.cell 0
  simp at m0
  replace hO := hid hO
  replace kq7 := hid kq7
  clear hrow eO b7
  go_wp2_with fail
  have hq8 := kq7.out.lt
  refine (storeDrop_any (some ⟨g2, 0, none⟩) 3 c2 B2 1 w8 hS7).mono ?_
  rintro e w9 ⟨⟨e', _, _, hno⟩ | ⟨_, C, ⟨g4, c4, rfl, hg4, hgl4, hB4⟩, hRC, hFC⟩, b9⟩
  · exact absurd (droppable_of right2 (i := 0) (by omega) (by rw [outs2 0 (by omega)]; decide)) hno
  replace kq7 := kq7.out.below b9
  replace hO := hid (hO.out.below b9)
  replace b9 := Below.tr b8 b9
  have n0 := kq7.cell 0
  have n1 := kq7.frozen 0
  simp at n0
  replace hB4 := hid hB4
  replace kq7 := hid kq7
  replace hRC := hid hRC
  replace hFC := hid hFC
  clear hS7 b8 m0
  go_wp2_with fail
  clear n0 n1
  obtain ⟨kqA, hSA⟩ := cur_set (v := .slice (some ⟨g4, 0, none⟩) 3 c4) kq7.out hq8 hg4 hgl4 hB4.out
  have bA := b9.setCell (p := ⟨w1.heap.size, 0, none⟩) hq (.slice (some ⟨g4, 0, none⟩) 3 c4)
  have hOA := hO.out.kept (fun b h => by omega) (Kept.setCell (g := w1.heap.size) (Kept.refl _ w9) (p := ⟨w1.heap.size, 0, none⟩) rfl (.slice (some ⟨g4, 0, none⟩) 3 c4))
  clear kq7 hB4 b9 hO
  generalize w9.setCell ⟨w1.heap.size, 0, none⟩ (.slice (some ⟨g4, 0, none⟩) 3 c4) = wA at *
  have hqA := kqA.lt
  refine (storeDrop_any (some ⟨g4, 0, none⟩) 3 c4 C 2 wA hSA).mono ?_
  rintro e wB ⟨⟨e', _, _, hno⟩ | ⟨_, D, ⟨g5, c5, rfl, hg5, hgl5, hB5⟩, hRD, hFD⟩, bB⟩
  · exact absurd (droppable_of hRC.out (i := 1) (by omega) (by rw [hFC.out.outs 1 (by omega), outs2 1 (by omega)]; decide)) hno
  have hused : usedTo D 3 = 0 := used_none (none_there hRD (fun k hk => by
    have h1 := hFD.outs k hk
    have h2 := hFC.out.outs k hk
    have h3 := outs2 k hk
    show outs 3 D k ≤ 0
    rw [h1, h2, h3]
    match k, hk with
    | 0, _ => decide
    | 1, _ => decide
    | 2, _ => decide))
  replace kqA := kqA.below bB
  replace hOA := hid (hOA.below bB)
  replace bB := Below.tr bA bB
  have n0 := kqA.cell 0
  have n1 := kqA.frozen 0
  simp at n0
  replace hB5 := hid hB5
  replace kqA := hid kqA
  replace hRD := hid hRD
  replace hused := hid hused
  clear hSA bA hRC hFC hFD
  go_wp2_with fail
  clear n0 n1
  obtain ⟨kqC, hSC⟩ := cur_set (v := .slice (some ⟨g5, 0, none⟩) 3 c5) kqA.out hqA hg5 hgl5 hB5.out
  have bC := bB.setCell (p := ⟨w1.heap.size, 0, none⟩) hq (.slice (some ⟨g5, 0, none⟩) 3 c5)
  have hOC := hOA.out.kept (fun b h => by omega) (Kept.setCell (g := w1.heap.size) (Kept.refl _ wB) (p := ⟨w1.heap.size, 0, none⟩) rfl (.slice (some ⟨g5, 0, none⟩) 3 c5))
  clear kqA hB5 bB hOA kqC
  generalize wB.setCell ⟨w1.heap.size, 0, none⟩ (.slice (some ⟨g5, 0, none⟩) 3 c5) = wC at *
  refine (storeUsed_any (some ⟨g5, 0, none⟩) 3 c5 D wC hSC).mono ?_
  rintro e wD ⟨bD, ⟨e', _, _, hno⟩ | ⟨_, rfl⟩⟩
  · exact absurd hRD.out hno
  rw [hused.out]
  replace hOC := hOC.below bD
  replace bD := Below.tr bC bD
  replace hOC := hid hOC
  clear hSC bC
  go_wp2_with fail
  have bE := below_alloc wD (.cells #[.int .i64 1, .int .i64 1, .int .i64 0] 3)
  have hN := lit_nums wD [1, 1, 0] 3 .i64 (by decide)
  simp only [List.map_cons, List.map_nil, List.length_cons, List.length_nil] at hN
  refine (equalInts_same _ _ 3 _ _ _ _ [1, 1, 0] _ (by omega) (hOC.out.below bE) hN).mono ?_
  rintro e wE ⟨rfl, q, rfl⟩
  replace bE := (Below.tr bD bE).trans (below_drewN _ _ q)
  clear hN hOC
  generalize (wD.alloc (.cells #[.int .i64 1, .int .i64 1, .int .i64 0] 3)).drewN q = wE at *
  go_wp2_with fail
  go_ret
  exact ⟨rfl, bE⟩

end Go.Proofs.Ytaagnojdpedilab
