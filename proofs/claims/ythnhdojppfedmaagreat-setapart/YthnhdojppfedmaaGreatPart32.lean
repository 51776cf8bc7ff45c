/-
  GathW in one text. Nothing here is trusted.
-/
import Derived.Test.YthnhdojppfedmaaGreatPart29
import Derived.Test.YthnhdojppfedmaaGreatPart30
import Derived.Test.YthnhdojppfedmaaGreatPart31
set_option linter.unusedVariables false
namespace Go.Proofs.YthnhdojppfedmaaGreat
open Go.RowKit

/-- a store and a set in two boxes -/
structure GB (W wr : World) (b1 b3 g c : Nat) (B : Nat → Blk) (v : SetV) (y : SetE) : Prop where
  bel : Below W.heap.size W wr
  s : CellsAt wr b1 #[.slice (some ⟨g, 0, none⟩) 40 c] 24
  x : CellsAt wr b3 #[.string v.name, .slice v.fa v.fn v.fc, .slice v.sa v.sn v.sc] 28
  new : W.heap.size ≤ b1 ∧ W.heap.size ≤ b3 ∧ b1 ≠ b3
  store : StoreAt wr (some ⟨g, 0, none⟩) 40 B
  set : SetAt (fun _ => True) wr v y
theorem GB.below {W wr w' : World} {b1 b3 g c : Nat} {B : Nat → Blk} {v : SetV} {y : SetE} (h : GB W wr b1 b3 g c B v y) (b : Below wr.heap.size wr w') : GB W w' b1 b3 g c B v y := ⟨Below.tr h.bel b, h.s.below b, h.x.below b, h.new, h.store.below b, h.set.below b⟩
theorem GB.step {W wr w' : World} {b1 b3 g c g' : Nat} {B D : Nat → Blk} {v v' : SetV} {y y' : SetE} (h : GB W wr b1 b3 g c B v y) (b : Below wr.heap.size wr w') (hg : wr.heap.size ≤ g') (hO : Own w' g' 40 D) (hS : SetAt (fun b => wr.heap.size ≤ b) w' v' y') :
    GB W ((((w'.setCell ⟨b1, 0, none⟩ (.slice (some ⟨g', 0, none⟩) 40 40)).setCell ⟨b3, 0, none⟩ (.string v'.name)).setCell ⟨b3, 1, none⟩ (.slice v'.fa v'.fn v'.fc)).setCell ⟨b3, 2, none⟩ (.slice v'.sa v'.sn v'.sc)) b1 b3 g' 40 D v' y' ∧
    Only (fun k => k = b1 ∨ k = b3) w' ((((w'.setCell ⟨b1, 0, none⟩ (.slice (some ⟨g', 0, none⟩) 40 40)).setCell ⟨b3, 0, none⟩ (.string v'.name)).setCell ⟨b3, 1, none⟩ (.slice v'.fa v'.fn v'.fc)).setCell ⟨b3, 2, none⟩ (.slice v'.sa v'.sn v'.sc)) := by
  have l1 := h.s.lt
  have l3 := h.x.lt
  have k1 := kept_putS w' b1 (.slice (some ⟨g', 0, none⟩) 40 40)
  have k2 := kept_putX (w'.setCell ⟨b1, 0, none⟩ (.slice (some ⟨g', 0, none⟩) 40 40)) b3 v'
  have o1 := Only.of_kept (M := fun k => k = b1 ∨ k = b3) k1 (.inl rfl)
  have o2 := Only.of_kept (M := fun k => k = b1 ∨ k = b3) k2 (.inr rfl)
  have hne := h.new.2.2
  refine ⟨⟨(Below.tr h.bel b).trans ((k1.below h.new.1).trans (k2.below h.new.2.1)), (Only.of_kept (M := fun k => k = b3) k2 rfl).cells (cells_putS (h.s.below b)) hne, cells_putX ((Only.of_kept (M := fun k => k = b1) k1 rfl).cells (h.x.below b) hne.symm), h.new, (own_only hO (o1.trans o2) (fun k _ m => by omega)).store, ?_⟩, o1.trans o2⟩
  have := (hS.kept (fun k q => by omega) k1).kept (fun k q => by omega) k2
  exact this.weaken (fun _ _ _ => trivial)

theorem below_lit (w : World) (o : Obj) : Below w.heap.size w (w.alloc o) := below_alloc w o
theorem str_one : strOfNums one3 = ByteArray.mk #[111, 110, 101] := by kernel_rfl
theorem str_two : strOfNums two3 = ByteArray.mk #[116, 119, 111] := by kernel_rfl

set_option maxHeartbeats 8000000 in
set_option maxRecDepth 100000 in
theorem gathered_any (w : World) : Calls Tryz.prog 8 #[] w fun e w' => e = .returned (.bool true) ∧ Below w.heap.size w w' := by
  go_enter Tryz.func8, Tryz.ntmps8
  go_wp2_with fail
  refine (storeNew_ok 40 w (by omega)).mono ?_
  rintro e w1 ⟨⟨g, c, rfl, hg, hgl, hS⟩, b1⟩
  replace hS := store_of hgl hS
  have hq := b1.size
  have b2 := below_two w1 (.cells #[.slice (some ⟨g, 0, none⟩) 40 c] 24) (.cells #[.string (ByteArray.mk #[97]), .slice none 0 0, .slice none 0 0] 28)
  have G0 : GB w ((w1.alloc (.cells #[.slice (some ⟨g, 0, none⟩) 40 c] 24)).alloc (.cells #[.string (ByteArray.mk #[97]), .slice none 0 0, .slice none 0 0] 28)) w1.heap.size (w1.heap.size + 1) g c zeroB ⟨nA, none, 0, 0, none, 0, 0⟩ x0 :=
    ⟨Below.tr b1 b2, (cellsAt_alloc w1 _ _).below (below_alloc _ _), cellsAt_alloc2 w1 (.cells #[.slice (some ⟨g, 0, none⟩) 40 c] 24) _ _, ⟨by omega, by omega, by omega⟩, hS.below b2, ⟨rfl, by decide, entsAt_nil _ _ _, snapsAt_nil _ _ _, by simp⟩⟩
  have kc := Joins.run_convert_bytes_const_at (P := Tryz.prog) ((w1.alloc (.cells #[.slice (some ⟨g, 0, none⟩) 40 c] 24)).alloc (.cells #[.string (ByteArray.mk #[97]), .slice none 0 0, .slice none 0 0] 28)) 34 5 #[.int .u8 111, .int .u8 110, .int .u8 101] 3 3 (w1.heap.size + 1 + 1) (by simp) Tryz.underlying34 Tryz.underlying5
  have hN := lit_mark ((w1.alloc (.cells #[.slice (some ⟨g, 0, none⟩) 40 c] 24)).alloc (.cells #[.string (ByteArray.mk #[97]), .slice none 0 0, .slice none 0 0] 28)) [111, 110, 101] 5 (3, 4) (by decide)
  have bL := below_lit ((w1.alloc (.cells #[.slice (some ⟨g, 0, none⟩) 40 c] 24)).alloc (.cells #[.string (ByteArray.mk #[97]), .slice none 0 0, .slice none 0 0] 28)) (.cells #[.int .u8 111, .int .u8 110, .int .u8 101] 5 (3, 4))
  simp only [List.map_cons, List.map_nil, World.size_alloc, List.length_cons, List.length_nil] at hN
  replace hN := hid hN
  replace G0 := hid (G0.below bL)
  clear b2 hS hg hgl b1 bL
  go_wp2_with fail
  clear kc
  generalize ((w1.alloc (.cells #[.slice (some ⟨g, 0, none⟩) 40 c] 24)).alloc (.cells #[.string (ByteArray.mk #[97]), .slice none 0 0, .slice none 0 0] 28)).alloc (.cells #[.int .u8 111, .int .u8 110, .int .u8 101] 5 (3, 4)) = w2 at *
  refine (do_any (fun _ => True) (some ⟨g, 0, none⟩) 40 c zeroB 1 ⟨nA, none, 0, 0, none, 0, 0⟩ x0 ask1 (some ⟨w1.heap.size + 1 + 1, 0, none⟩) 3 3 64 w2 G0.out.store G0.out.set hN.out ok1 (by omega) few_x0 (by simp [moreOf, ask1])).mono ?_
  rintro e w3 ⟨b3, ⟨e', rfl, he, hno⟩ | ⟨g1', D1, v1, y1, rfl, hx1, hh1, hd1, ⟨hg1, hO1⟩, hS1⟩⟩
  · exact absurd (hno setOk_x0 heldR_x0) g_no1
  obtain ⟨m, rfl, hf1, hu1⟩ := g1 hd1
  have hA1 := hid (hd1.after setOk_x0 heldR_x0 bytes_one few_x0 (by simp [moreOf, ask1]))
  have hw1 : Hid (∀ k, k < 40 → (D1 k).refs ≤ 112) := hid (fun k hk => by have := hA1.out.2 k hk; simp [leftOf, ask1] at this; omega)
  obtain ⟨G1, on1⟩ := G0.out.step b3 hg1 hO1 hS1
  have s0 := (G0.out.s.below b3).cell 0
  have t0 := (G0.out.s.below b3).frozen 0
  have x0' := (G0.out.x.below b3).cell 0
  have x1' := (G0.out.x.below b3).cell 1
  have x2' := (G0.out.x.below b3).cell 2
  have u0 := (G0.out.x.below b3).frozen 0
  have u1 := (G0.out.x.below b3).frozen 1
  have u2 := (G0.out.x.below b3).frozen 2
  simp at s0 x0' x1' x2'
  replace G1 := hid G1
  replace hf1 := hid hf1
  replace hu1 := hid hu1
  clear on1 hx1 hh1 hd1 hg1 hO1 hS1 hN
  go_wp2_with fail
  clear s0 t0 x0' x1' x2' u0 u1 u2
  clear G0 b3
  generalize (((w3.setCell ⟨w1.heap.size, 0, none⟩ (.slice (some ⟨g1', 0, none⟩) 40 40)).setCell ⟨w1.heap.size + 1, 0, none⟩ (.string v1.name)).setCell ⟨w1.heap.size + 1, 1, none⟩ (.slice v1.fa v1.fn v1.fc)).setCell ⟨w1.heap.size + 1, 2, none⟩ (.slice v1.sa v1.sn v1.sc) = w4 at *
  refine (do_any (fun _ => True) (some ⟨g1', 0, none⟩) 40 40 D1 1 v1 ⟨nA, [⟨nF, m, 3⟩], []⟩ ask2 none 0 0 112 w4 G1.out.store G1.out.set (nums_nil _) ok2 (by omega) hw1.out (by simp [moreOf, ask2])).mono ?_
  rintro e w5 ⟨b5, ⟨e', rfl, he, hno⟩ | ⟨g2', D2, v2, y2, rfl, hx2, hh2, hd2, ⟨hg2, hO2⟩, hS2⟩⟩
  · exact absurd (hno hA1.out.1.ok hA1.out.1.held) g_no2
  obtain rfl := g2 hd2
  have hA2 := hid (hd2.after hA1.out.1.ok hA1.out.1.held bytes_nil hw1.out (by simp [moreOf, ask2]))
  have hw2 : Hid (∀ k, k < 40 → (D2 k).refs ≤ 118) := hid (fun k hk => by have := hA2.out.2 k hk; simp [leftOf, ask2] at this; omega)
  have hf2 := hid ((hA2.out.1.same ⟨nF, m, 3⟩ (by simp [entsX]) (by simp [entsX])).trans hf1.out)
  have hu2 := hid (Nat.le_trans (plain_used hA1.out.1.ok hd2 (by decide) (by decide)) hu1.out)
  obtain ⟨G2, on2⟩ := G1.out.step b5 hg2 hO2 hS2
  have s0 := (G1.out.s.below b5).cell 0
  have t0 := (G1.out.s.below b5).frozen 0
  have x0' := (G1.out.x.below b5).cell 0
  have x1' := (G1.out.x.below b5).cell 1
  have x2' := (G1.out.x.below b5).cell 2
  have u0 := (G1.out.x.below b5).frozen 0
  have u1 := (G1.out.x.below b5).frozen 1
  have u2 := (G1.out.x.below b5).frozen 2
  simp at s0 x0' x1' x2'
  replace G2 := hid G2
  clear on2 hx2 hh2 hd2 hg2 hO2 hS2
  go_upto_region 5 with fail
  clear s0 t0 x0' x1' x2' u0 u1 u2
  clear G1 b5 hf1 hu1
  generalize (((w5.setCell ⟨w1.heap.size, 0, none⟩ (.slice (some ⟨g2', 0, none⟩) 40 40)).setCell ⟨w1.heap.size + 1, 0, none⟩ (.string v2.name)).setCell ⟨w1.heap.size + 1, 1, none⟩ (.slice v2.fa v2.fn v2.fc)).setCell ⟨w1.heap.size + 1, 2, none⟩ (.slice v2.sa v2.sn v2.sc) = w6 at *
  have kc := Joins.run_convert_bytes_const_at (P := Tryz.prog) w6 34 5 #[.int .u8 116, .int .u8 119, .int .u8 111] 3 3 w6.heap.size rfl Tryz.underlying34 Tryz.underlying5
  have bL := below_lit w6 (.cells #[.int .u8 116, .int .u8 119, .int .u8 111] 5 (3, 4))
  have hN := lit_mark w6 [116, 119, 111] 5 (3, 4) (by decide)
  simp only [List.map_cons, List.map_nil, List.length_cons, List.length_nil] at hN
  replace hN := hid hN
  have s0 := (G2.out.s.below (Below.refl _ _)).cell 0
  have t0 := (G2.out.s.below (Below.refl _ _)).frozen 0
  have x0' := (G2.out.x.below (Below.refl _ _)).cell 0
  have x1' := (G2.out.x.below (Below.refl _ _)).cell 1
  have x2' := (G2.out.x.below (Below.refl _ _)).cell 2
  have u0 := (G2.out.x.below (Below.refl _ _)).frozen 0
  have u1 := (G2.out.x.below (Below.refl _ _)).frozen 1
  have u2 := (G2.out.x.below (Below.refl _ _)).frozen 2
  simp at s0 x0' x1' x2'
  have l1 := G2.out.s.lt
  have l3 := G2.out.x.lt
  replace G2 := hid (G2.out.below bL)
  clear bL
  go_wp2_with fail
  clear s0 t0 x0' x1' x2' u0 u1 u2
  clear kc l1 l3
  generalize hW7 : w6.alloc (.cells #[.int .u8 116, .int .u8 119, .int .u8 111] 5 (3, 4)) = w7 at *
  replace hW7 := hid hW7
  refine (do_any (fun _ => True) (some ⟨g2', 0, none⟩) 40 40 D2 1 v2 ⟨nA, [⟨nF, m, 3⟩], [⟨nS, [⟨nF, m, 3⟩]⟩]⟩ ask3 (some ⟨w6.heap.size, 0, none⟩) 3 3 118 w7 G2.out.store G2.out.set hN.out ok3 (by omega) hw2.out (by simp [moreOf, ask3])).mono ?_
  rintro e w8 ⟨b8, ⟨e', rfl, he, hno⟩ | ⟨g3', D3, v3, y3, rfl, hx3, hh3, hd3, ⟨hg3, hO3⟩, hS3⟩⟩
  · exact absurd (hno hA2.out.1.ok hA2.out.1.held) (g_no3 hf2.out hu2.out)
  obtain ⟨m3, rfl, hf3⟩ := g3 hA2.out.1.ok hA2.out.1.held hw2.out (by omega) hf2.out hd3
  have hA3 := hid (hd3.after hA2.out.1.ok hA2.out.1.held bytes_two hw2.out (by simp [moreOf, ask3]))
  have hw3 : Hid (∀ k, k < 40 → (D3 k).refs ≤ 166) := hid (fun k hk => by have := hA3.out.2 k hk; simp [leftOf, ask3] at this; omega)
  have hf4 := hid ((hA3.out.1.same ⟨nF, m, 3⟩ (by simp [entsX]) (by simp [entsX])).trans hf2.out)
  obtain ⟨G3, on3⟩ := G2.out.step b8 hg3 hO3 hS3
  have s0 := (G2.out.s.below b8).cell 0
  have t0 := (G2.out.s.below b8).frozen 0
  have x0' := (G2.out.x.below b8).cell 0
  have x1' := (G2.out.x.below b8).cell 1
  have x2' := (G2.out.x.below b8).cell 2
  have u0 := (G2.out.x.below b8).frozen 0
  have u1 := (G2.out.x.below b8).frozen 1
  have u2 := (G2.out.x.below b8).frozen 2
  simp at s0 x0' x1' x2'
  replace G3 := hid G3
  replace hf3 := hid hf3
  clear on3 hx3 hh3 hd3 hg3 hO3 hS3 hN hW7
  go_wp2_with fail
  clear s0 t0 x0' x1' x2' u0 u1 u2
  clear G2 b8 hA1 hA2 hw1 hw2 hf2 hu2
  generalize (((w8.setCell ⟨w1.heap.size, 0, none⟩ (.slice (some ⟨g3', 0, none⟩) 40 40)).setCell ⟨w1.heap.size + 1, 0, none⟩ (.string v3.name)).setCell ⟨w1.heap.size + 1, 1, none⟩ (.slice v3.fa v3.fn v3.fc)).setCell ⟨w1.heap.size + 1, 2, none⟩ (.slice v3.sa v3.sn v3.sc) = w9 at *
  have lk := look_read (fun _ => True) (some ⟨g3', 0, none⟩) 40 40 D3 1 v3 ⟨nA, [⟨nF, m3, 3⟩], [⟨nS, [⟨nF, m, 3⟩]⟩]⟩ askL none 0 0 ⟨nF, m3, 3⟩ w9 G3.out.store G3.out.set hA3.out.1.ok rfl (by simp) rfl (by simp [askL])
  have e9 : readL (fileL 1 (leafAt D3 3 (Ent.mk nF m3 3).root)) (Ent.mk nF m3 3).size.toNat askL.pos.toNat askL.num.toNat = two3 := by
    show readL (fileL 1 (leafAt D3 3 m3)) (3 : Int).toNat (0 : Int).toNat (9 : Int).toNat = two3
    rw [hf3.out, gread2]
  rw [e9] at lk
  refine lk.mono ?_
  clear lk e9
  rintro e w10 ⟨⟨ya, yn, yc, rfl, hyc, hY⟩, b10⟩
  have bA := below_alloc w10 (.cells #[.int .i64 0, .int .i64 3, .slice none 0 0, .slice ya yn yc] 57)
  have kA := hid (cellsAt_alloc w10 #[.int .i64 0, .int .i64 3, .slice none 0 0, .slice ya yn yc] 57)
  have hq9 := G3.out.bel.size
  have hY' : Hid (NumsAt (fun b => w9.heap.size ≤ b) .u8 _ ya yn two3) := hid (hY.below bA)
  have hs10 := b10.size
  have l9 : w1.heap.size + 1 < w9.heap.size := G3.out.x.lt
  have l1 : w1.heap.size < w10.heap.size := Nat.lt_of_lt_of_le G3.out.s.lt hs10
  have l3 : w1.heap.size + 1 < w10.heap.size := Nat.lt_of_lt_of_le G3.out.x.lt hs10
  have s0 := (G3.out.s.below b10).cell 0
  have t0 := (G3.out.s.below b10).frozen 0
  have x0' := (G3.out.x.below b10).cell 0
  have x1' := (G3.out.x.below b10).cell 1
  have x2' := (G3.out.x.below b10).cell 2
  have u0 := (G3.out.x.below b10).frozen 0
  have u1 := (G3.out.x.below b10).frozen 1
  have u2 := (G3.out.x.below b10).frozen 2
  simp at s0 x0' x1' x2'
  have n1 : w1.heap.size ≠ w10.heap.size := by omega
  have n3 : w1.heap.size + 1 ≠ w10.heap.size := by omega
  have n1' := n1.symm
  have n3' := n3.symm
  replace G3 := hid (G3.out.below (Below.tr b10 bA))
  clear hY bA b10
  go_wp2_with fail
  clear s0 t0 x0' x1' x2' u0 u1 u2
  clear n1' n3'
  generalize hW11 : w10.alloc (.cells #[.int .i64 0, .int .i64 3, .slice none 0 0, .slice ya yn yc] 57) = w11 at *
  replace hW11 := hid hW11
  refine (do_any (fun _ => True) (some ⟨g3', 0, none⟩) 40 40 D3 1 v3 ⟨nA, [⟨nF, m3, 3⟩], [⟨nS, [⟨nF, m, 3⟩]⟩]⟩ ask5 none 0 0 166 w11 G3.out.store G3.out.set (nums_nil _) ok5 (by omega) hw3.out (by simp [moreOf, ask5])).mono ?_
  rintro e w12 ⟨b12, ⟨e', rfl, he, hno⟩ | ⟨g5', D5, v5, y5, rfl, hx5, hh5, hd5, ⟨hg5, hO5⟩, hS5⟩⟩
  · exact absurd (hno hA3.out.1.ok hA3.out.1.held) g_no5
  obtain rfl := g5 hd5
  have hA5 := hid (hd5.after hA3.out.1.ok hA3.out.1.held bytes_nil hw3.out (by simp [moreOf, ask5]))
  have hf5 := hid ((hA5.out.1.same ⟨nF, m, 3⟩ (by simp [entsX]) (by simp [entsX])).trans hf4.out)
  obtain ⟨G5, on5⟩ := G3.out.step b12 hg5 hO5 hS5
  have kA5 := hid (on5.cells (kA.out.below b12) (by omega))
  have hY5 := hid (on5.nums (hY'.out.below b12) (fun b q e => by omega))
  have s0 := (G3.out.s.below b12).cell 0
  have t0 := (G3.out.s.below b12).frozen 0
  have x0' := (G3.out.x.below b12).cell 0
  have x1' := (G3.out.x.below b12).cell 1
  have x2' := (G3.out.x.below b12).cell 2
  have u0 := (G3.out.x.below b12).frozen 0
  have u1 := (G3.out.x.below b12).frozen 1
  have u2 := (G3.out.x.below b12).frozen 2
  simp at s0 x0' x1' x2'
  replace G5 := hid G5
  clear on5 hx5 hh5 hd5 hg5 hO5 hS5 kA hY'
  go_wp2_with fail
  clear s0 t0 x0' x1' x2' u0 u1 u2
  clear G3 b12
  generalize (((w12.setCell ⟨w1.heap.size, 0, none⟩ (.slice (some ⟨g5', 0, none⟩) 40 40)).setCell ⟨w1.heap.size + 1, 0, none⟩ (.string v5.name)).setCell ⟨w1.heap.size + 1, 1, none⟩ (.slice v5.fa v5.fn v5.fc)).setCell ⟨w1.heap.size + 1, 2, none⟩ (.slice v5.sa v5.sn v5.sc) = w13 at *
  have lk := look_read (fun _ => True) (some ⟨g5', 0, none⟩) 40 40 D5 1 v5 ⟨nA, [⟨nF, m, 3⟩], [⟨nS, [⟨nF, m, 3⟩]⟩]⟩ askL none 0 0 ⟨nF, m, 3⟩ w13 G5.out.store G5.out.set hA5.out.1.ok rfl (by simp) rfl (by simp [askL])
  have e9 : readL (fileL 1 (leafAt D5 3 (Ent.mk nF m 3).root)) (Ent.mk nF m 3).size.toNat askL.pos.toNat askL.num.toNat = one3 := by
    show readL (fileL 1 (leafAt D5 3 m)) (3 : Int).toNat (0 : Int).toNat (9 : Int).toNat = one3
    rw [hf5.out, gread1]
  rw [e9] at lk
  refine lk.mono ?_
  clear lk e9
  rintro e w14 ⟨⟨za, zn, zc, rfl, hzc, hZ⟩, b14⟩
  have bA := below_alloc w14 (.cells #[.int .i64 0, .int .i64 3, .slice none 0 0, .slice za zn zc] 57)
  have k1 := run_string_of _ yc ((hY5.out.below b14).below bA)
  have k2 := run_string_of _ zc (hZ.below bA)
  rw [str_two] at k1
  rw [str_one] at k2
  have kk := (kA5.out.below b14).cell 3
  have lk := (kA5.out.below b14).lt
  have nk := Nat.ne_of_lt lk
  have nk' := nk.symm
  simp at kk
  have bF := hid (Below.tr G5.out.bel (Below.tr b14 bA))
  clear hY5 hZ kA5 b14 bA G5 hA5 hf5
  go_wp2_with fail
  go_ret
  exact ⟨rfl, bF.out⟩
end Go.Proofs.YthnhdojppfedmaaGreat
