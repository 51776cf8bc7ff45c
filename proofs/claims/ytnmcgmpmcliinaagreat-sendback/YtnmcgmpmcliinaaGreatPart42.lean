/-
  SndU, SendNothingWalk, SndR in one text. Nothing here is trusted.
-/
import Derived.Test.YtnmcgmpmcliinaaGreatPart37
import Derived.Test.YtnmcgmpmcliinaaGreatPart38
import Derived.Test.YtnmcgmpmcliinaaGreatPart41
import Derived.Test.YtnmcgmpmcliinaaGreatPart22
import Derived.Deep.CutRange
import Derived.Test.YtnmcgmpmcliinaaGreatPart35
import Derived.Test.YtnmcgmpmcliinaaGreatPart39
set_option linter.unusedVariables false
namespace Go.Proofs.YtnmcgmpmcliinaaGreat
open Go.RowKit

theorem Only.snapsU {M : Nat → Prop} {a b : World} (h : Only M a b) {Q : Nat → Prop} {x : Option Addr} {n : Nat} {l : List SnapE} (he : SnapsAt Q a x n l) (hm : ∀ k, Q k → ¬ M k) : SnapsAt Q b x n l := by
  refine ⟨he.1, fun hn => ?_⟩
  obtain ⟨c, off, rfl, hlt, hq, hc⟩ := he.2 hn
  refine ⟨c, off, rfl, Nat.lt_of_lt_of_le hlt h.size, hq, fun i hi => ?_⟩
  obtain ⟨fa, fn, fc, hs⟩ := hc i hi
  exact ⟨fa, fn, fc, (h.cell (p := ⟨c, off + i * 2, none⟩) hlt (hm c hq)).trans hs.c0, (h.cell (p := ⟨c, off + i * 2 + 1, none⟩) hlt (hm c hq)).trans hs.c1, h.ents hs.files hm, hs.small, hs.caps⟩
theorem Only.setU {M : Nat → Prop} {a b : World} (h : Only M a b) {Q : Nat → Prop} {v : SetV} {x : SetE} (he : SetAt Q a v x) (hm : ∀ k, Q k → ¬ M k) : SetAt Q b v x := ⟨he.name, he.small, h.ents he.files hm, h.snapsU he.snaps hm, he.caps⟩

/-- another set in a box of its own beside -/
theorem GB.fork {W w6 w7 : World} {b1 b3 g c g' : Nat} {B D : Nat → Blk} {v v' : SetV} {y y' : SetE} (h : GB W w6 b1 b3 g c B v y) (b : Below w6.heap.size w6 w7) (hg : w6.heap.size ≤ g') (hO : Own w7 g' 40 D) (hS : SetAt (fun b => w6.heap.size ≤ b) w7 v' y') :
    GB W (((((w7.alloc obj0X).setCell ⟨b1, 0, none⟩ (.slice (some ⟨g', 0, none⟩) 40 40)).setCell ⟨w7.heap.size, 0, none⟩ (.string v'.name)).setCell ⟨w7.heap.size, 1, none⟩ (.slice v'.fa v'.fn v'.fc)).setCell ⟨w7.heap.size, 2, none⟩ (.slice v'.sa v'.sn v'.sc)) b1 w7.heap.size g' 40 D v' y' ∧
    Only (fun k => k = b1) w7 (((((w7.alloc obj0X).setCell ⟨b1, 0, none⟩ (.slice (some ⟨g', 0, none⟩) 40 40)).setCell ⟨w7.heap.size, 0, none⟩ (.string v'.name)).setCell ⟨w7.heap.size, 1, none⟩ (.slice v'.fa v'.fn v'.fc)).setCell ⟨w7.heap.size, 2, none⟩ (.slice v'.sa v'.sn v'.sc)) := by
  have l1 := h.s.lt
  have l7 := b.size
  have bz := below_alloc w7 obj0X
  have kz := cellsAt_alloc w7 #[.string (ByteArray.mk #[]), .slice none 0 0, .slice none 0 0] 47
  have k1 := kept_putS (w7.alloc obj0X) b1 (.slice (some ⟨g', 0, none⟩) 40 40)
  have k2 := kept_putX ((w7.alloc obj0X).setCell ⟨b1, 0, none⟩ (.slice (some ⟨g', 0, none⟩) 40 40)) w7.heap.size v'
  have o1 := Only.of_kept (M := fun k => k = b1 ∨ k = w7.heap.size) k1 (.inl rfl)
  have o2 := Only.of_kept (M := fun k => k = b1 ∨ k = w7.heap.size) k2 (.inr rfl)
  have oz : Only (fun k => k = b1 ∨ k = w7.heap.size) w7 (w7.alloc obj0X) := Only.of_below bz
  have oo := oz.trans (o1.trans o2)
  have on : Only (fun k => k = b1) w7 _ := oo.mono (fun k hk m => by
    rcases m with m | m
    · exact m
    · omega)
  refine ⟨⟨((Below.tr h.bel b).trans (bz.mono (Nat.le_trans h.bel.size b.size))).trans ((k1.below h.new.1).trans (k2.below (Nat.le_trans h.bel.size b.size))), (Only.of_kept (M := fun k => k = w7.heap.size) k2 rfl).cells (cells_putS ((h.s.below b).below bz)) (by omega), cells_putX ((Only.of_kept (M := fun k => k = b1) k1 rfl).cells kz (by omega)), ⟨h.new.1, Nat.le_trans h.bel.size b.size, by omega⟩, (own_only hO on (fun k _ m => by omega)).store, ?_⟩, on⟩
  exact (on.setU hS (fun k q m => by omega)).weaken (fun _ _ _ => trivial)

/-- the list that is asked for -/
theorem lit_difs {w : World} {A C : Nat} (hA : NumsAt (fun _ => True) .u8 w (some ⟨A, 0, none⟩) 1 [101]) (hC : CellsAt w C #[.int .i64 2, .string (ByteArray.mk #[102]), .int .i64 5, .slice none 0 0, .int .i64 3, .string (ByteArray.mk #[102]), .int .i64 4, .slice (some ⟨A, 0, none⟩) 1 1] 104) :
    DifsAt w (some ⟨C, 0, none⟩) 2 [⟨⟨2, nF, 5, []⟩, none, 0, 0⟩, ⟨⟨3, nF, 4, [101]⟩, some ⟨A, 0, none⟩, 1, 1⟩] := by
  refine ⟨rfl, fun m hm => ?_, fun _ => ⟨C, 0, rfl, hC.lt, fun i m hm => ?_⟩⟩
  · simp only [List.mem_cons, List.not_mem_nil, or_false] at hm
    rcases hm with rfl | rfl
    · exact dif_at0 _ _ 2 nF 5 (by decide) (by unfold I64; omega) (by unfold I64; omega)
    · exact ⟨hA, Nat.le_refl _, (by show nF.size ≤ maxLen; decide), by unfold I64; simp, by unfold I64; simp⟩
  · match i, hm with
    | 0, hm =>
      simp at hm
      subst hm
      exact ⟨hC.cell 0, hC.cell 1, hC.cell 2, hC.cell 3⟩
    | 1, hm =>
      simp at hm
      subst hm
      exact ⟨hC.cell 4, hC.cell 5, hC.cell 6, hC.cell 7⟩
    | k + 2, hm => simp at hm

set_option maxHeartbeats 8000000 in
set_option maxRecDepth 100000 in
theorem sent_any (w : World) : Calls Tryz.prog 16 #[] w fun e w' => e = .returned (.bool true) ∧ Below w.heap.size w w' := by
  go_enter Tryz.func16, Tryz.ntmps16
  go_wp2_with fail
  refine (storeNew_ok 40 w (by omega)).mono ?_
  rintro e w1 ⟨⟨g, c, rfl, hg, hgl, hS⟩, b1⟩
  replace hS := store_of hgl hS
  have hq := b1.size
  have b2 := below_two w1 (.cells #[.slice (some ⟨g, 0, none⟩) 40 c] 24) (.cells #[.string (ByteArray.mk #[97]), .slice none 0 0, .slice none 0 0] 47)
  have G0 : GB w ((w1.alloc (.cells #[.slice (some ⟨g, 0, none⟩) 40 c] 24)).alloc (.cells #[.string (ByteArray.mk #[97]), .slice none 0 0, .slice none 0 0] 47)) w1.heap.size (w1.heap.size + 1) g c zeroB ⟨nA, none, 0, 0, none, 0, 0⟩ x0 :=
    ⟨Below.tr b1 b2, (cellsAt_alloc w1 _ _).below (below_alloc _ _), cellsAt_alloc2 w1 (.cells #[.slice (some ⟨g, 0, none⟩) 40 c] 24) _ _, ⟨by omega, by omega, by omega⟩, hS.below b2, ⟨rfl, by decide, entsAt_nil _ _ _, snapsAt_nil _ _ _, by simp⟩⟩
  have kc := Joins.run_convert_bytes_const_at (P := Tryz.prog) ((w1.alloc (.cells #[.slice (some ⟨g, 0, none⟩) 40 c] 24)).alloc (.cells #[.string (ByteArray.mk #[97]), .slice none 0 0, .slice none 0 0] 47)) 28 5 #[.int .u8 97, .int .u8 98, .int .u8 99, .int .u8 100] 4 4 (w1.heap.size + 1 + 1) (by simp) Tryz.underlying28 Tryz.underlying5
  have hN := lit_mark ((w1.alloc (.cells #[.slice (some ⟨g, 0, none⟩) 40 c] 24)).alloc (.cells #[.string (ByteArray.mk #[97]), .slice none 0 0, .slice none 0 0] 47)) [97, 98, 99, 100] 5 (4, 5) (by decide)
  have bL := below_lit ((w1.alloc (.cells #[.slice (some ⟨g, 0, none⟩) 40 c] 24)).alloc (.cells #[.string (ByteArray.mk #[97]), .slice none 0 0, .slice none 0 0] 47)) (.cells #[.int .u8 97, .int .u8 98, .int .u8 99, .int .u8 100] 5 (4, 5))
  simp only [List.map_cons, List.map_nil, World.size_alloc, List.length_cons, List.length_nil] at hN
  replace hN := hid hN
  replace G0 := hid (G0.below bL)
  clear b2 hS hg hgl b1 bL
  go_wp2_with fail
  clear kc
  generalize ((w1.alloc (.cells #[.slice (some ⟨g, 0, none⟩) 40 c] 24)).alloc (.cells #[.string (ByteArray.mk #[97]), .slice none 0 0, .slice none 0 0] 47)).alloc (.cells #[.int .u8 97, .int .u8 98, .int .u8 99, .int .u8 100] 5 (4, 5)) = w2 at *
  refine (do_any (fun _ => True) (some ⟨g, 0, none⟩) 40 c zeroB 1 ⟨nA, none, 0, 0, none, 0, 0⟩ x0 askA (some ⟨w1.heap.size + 1 + 1, 0, none⟩) 4 4 64 w2 G0.out.store G0.out.set hN.out okA (by omega) few_x0 (by simp [moreOf, askA])).mono ?_
  rintro e w3 ⟨b3, ⟨e', rfl, he, hno, _⟩ | ⟨g1', D1, v1, y1, rfl, hx1, hh1, hd1, ⟨hg1, hO1⟩, hS1⟩⟩
  · exact absurd (hno setOk_x0 heldR_x0) q_no1
  obtain ⟨m, rfl, hf1, hu1⟩ := q1 hd1
  have hA1 := hid (hd1.after setOk_x0 heldR_x0 bytes_w4 few_x0 (by simp [moreOf, askA]))
  have hw1 : Hid (∀ k, k < 40 → (D1 k).refs ≤ 112) := hid (fun k hk => by have := hA1.out.2 k hk; simp [leftOf, askA] at this; omega)
  obtain ⟨G1, on1⟩ := G0.out.step b3 hg1 hO1 hS1
  have s0 := (G0.out.s.below b3).cell 0
  have t0 := (G0.out.s.below b3).frozen 0
  have x0' := (G0.out.x.below b3).cell 0
  have x1' := (G0.out.x.below b3).cell 1
  have x2' := (G0.out.x.below b3).cell 2
  have u0 := (G0.out.x.below b3).frozen 0
  have u1 := (G0.out.x.below b3).frozen 1
  have u2 := (G0.out.x.below b3).frozen 2
  simp at s0 x0' x1' x2'
  replace G1 := hid G1
  replace hf1 := hid hf1
  replace hu1 := hid hu1
  clear on1 hx1 hh1 hd1 hg1 hO1 hS1 hN
  go_wp2_with fail
  clear s0 t0 x0' x1' x2' u0 u1 u2
  clear G0 b3
  generalize (((w3.setCell ⟨w1.heap.size, 0, none⟩ (.slice (some ⟨g1', 0, none⟩) 40 40)).setCell ⟨w1.heap.size + 1, 0, none⟩ (.string v1.name)).setCell ⟨w1.heap.size + 1, 1, none⟩ (.slice v1.fa v1.fn v1.fc)).setCell ⟨w1.heap.size + 1, 2, none⟩ (.slice v1.sa v1.sn v1.sc) = w4' at *
  refine (do_any (fun _ => True) (some ⟨g1', 0, none⟩) 40 40 D1 1 v1 ⟨nA, [⟨nF, m, 4⟩], []⟩ ask2 none 0 0 112 w4' G1.out.store G1.out.set (nums_nil _) ok2 (by omega) hw1.out (by simp [moreOf, ask2])).mono ?_
  rintro e w5' ⟨b5, ⟨e', rfl, he, hno, _⟩ | ⟨g2', D2, v2, y2, rfl, hx2, hh2, hd2, ⟨hg2, hO2⟩, hS2⟩⟩
  · exact absurd (hno hA1.out.1.ok hA1.out.1.held) q_no2
  obtain rfl := q2 hd2
  have hA2 := hid (hd2.after hA1.out.1.ok hA1.out.1.held bytes_nil hw1.out (by simp [moreOf, ask2]))
  have hw2 : Hid (∀ k, k < 40 → (D2 k).refs ≤ 118) := hid (fun k hk => by have := hA2.out.2 k hk; simp [leftOf, ask2] at this; omega)
  have hf2 := hid ((hA2.out.1.same ⟨nF, m, 4⟩ (by simp [entsX]) (by simp [entsX, xA])).trans hf1.out)
  have hu2 := hid (Nat.le_trans (plain_used hA1.out.1.ok hd2 (by decide) (by decide)) hu1.out)
  obtain ⟨G2, on2⟩ := G1.out.step b5 hg2 hO2 hS2
  have l1 := G1.out.s.lt
  have l3 := G1.out.x.lt
  have hSa := hid ((on2.setU hS2 (fun k q f => by omega)).weaken (R := fun b => b ≠ w1.heap.size ∧ b ≠ w1.heap.size + 1) (fun b _ q => ⟨by omega, by omega⟩))
  have s0 := (G1.out.s.below b5).cell 0
  have t0 := (G1.out.s.below b5).frozen 0
  have x0' := (G1.out.x.below b5).cell 0
  have x1' := (G1.out.x.below b5).cell 1
  have x2' := (G1.out.x.below b5).cell 2
  have u0 := (G1.out.x.below b5).frozen 0
  have u1 := (G1.out.x.below b5).frozen 1
  have u2 := (G1.out.x.below b5).frozen 2
  simp at s0 x0' x1' x2'
  replace G2 := hid G2
  clear on2 hx2 hh2 hd2 hg2 hO2 hS2
  go_upto_region 5 with fail
  clear s0 t0 x0' x1' x2' u0 u1 u2
  clear G1 b5 hf1 hu1 l1 l3
  generalize (((w5'.setCell ⟨w1.heap.size, 0, none⟩ (.slice (some ⟨g2', 0, none⟩) 40 40)).setCell ⟨w1.heap.size + 1, 0, none⟩ (.string v2.name)).setCell ⟨w1.heap.size + 1, 1, none⟩ (.slice v2.fa v2.fn v2.fc)).setCell ⟨w1.heap.size + 1, 2, none⟩ (.slice v2.sa v2.sn v2.sc) = w6 at *
  have s0 := G2.out.s.cell 0
  have x0' := G2.out.x.cell 0
  have x1' := G2.out.x.cell 1
  have x2' := G2.out.x.cell 2
  simp at s0 x0' x1' x2'
  go_wp2_with fail
  refine (clone_full (some ⟨g2', 0, none⟩) 40 40 D2 1 v2 (xA m) nS nB 118 w6 G2.out.store G2.out.set (by decide) (by decide) hw2.out (by omega)).mono ?_
  rintro e w7 ⟨⟨b7, ⟨e', rfl, he⟩ | ⟨g3', D3, v3, y3, K, rfl, hx3, hh3, hgr, hcnt, hok3, hheld3, hcl, hfew3, ⟨hg3, hO3⟩, hS3⟩⟩, hwhy⟩
  · exact absurd (q_snap m) (hwhy ⟨_, _, _, rfl, he⟩ hA2.out.1.ok hA2.out.1.held isName_B)
  clear hwhy
  obtain ⟨nm3, fs3, ss3⟩ := y3
  obtain ⟨hfl3, hsn3⟩ := q3 hcl
  simp only at hfl3 hsn3
  have hu3' := q3_used hx3 hcl
  subst hfl3 hsn3
  have hu3 := hid (Nat.le_trans hu3' hu2.out)
  clear hu3'
  have hf3 := hid (((hx3.ents ⟨nF, m, 4⟩ (by simp [entsX, xA])).ext hgr.ext hgr.right).2.trans hf2.out)
  obtain ⟨G3, on3⟩ := G2.out.fork b7 hg3 hO3 hS3
  have kxa := hid (on3.cells (G2.out.x.below b7) (by omega))
  have hSa3 := hid (on3.setU ((hSa.out.below b7).weaken (R := fun b => b ≠ w1.heap.size ∧ b < w7.heap.size) (fun b hb q => ⟨q.1, hb⟩)) (fun k q m => q.1 m))
  have lb := G2.out.s.lt
  have lb7 := b7.size
  have la3 : w1.heap.size + 1 < w7.heap.size := by have := G2.out.x.lt; omega
  have bz := below_alloc w7 obj0X
  have t0 := ((G2.out.s.below b7).below bz).cell 0
  have t1 := ((G2.out.s.below b7).below bz).frozen 0
  simp at t0
  have ne1 : w1.heap.size ≠ w7.heap.size := by omega
  have ne2 := ne1.symm
  replace G3 := hid G3
  replace hok3 := hid hok3
  replace hheld3 := hid hheld3
  replace hgr := hid hgr
  replace hcnt := hid hcnt
  replace hfew3 := hid hfew3
  replace hx3 := hid hx3
  replace hh3 := hid hh3
  replace hg3 := hid hg3
  replace bz := hid bz
  clear s0 x0' x1' x2' hO3 hS3 on3 hcl
  go_upto_region 6 with fail
  generalize (((((w7.alloc obj0X).setCell ⟨w1.heap.size, 0, none⟩ (.slice (some ⟨g3', 0, none⟩) 40 40)).setCell ⟨w7.heap.size, 0, none⟩ (.string v3.name)).setCell ⟨w7.heap.size, 1, none⟩ (.slice v3.fa v3.fn v3.fc)).setCell ⟨w7.heap.size, 2, none⟩ (.slice v3.sa v3.sn v3.sc)) = w8 at *
  have kc := Joins.run_convert_bytes_const_at (P := Tryz.prog) w8 28 5 #[.int .u8 101] 1 1 w8.heap.size rfl Tryz.underlying28 Tryz.underlying5
  have bL := below_lit w8 (.cells #[.int .u8 101] 5 (1, 2))
  have hN := lit_mark w8 [101] 5 (1, 2) (by decide)
  simp only [List.map_cons, List.map_nil, List.length_cons, List.length_nil] at hN
  have s0 := G3.out.s.cell 0
  have x0' := G3.out.x.cell 0
  have x1' := G3.out.x.cell 1
  have x2' := G3.out.x.cell 2
  simp at s0 x0' x1' x2'
  have G3' := hid (G3.out.below bL)
  replace kxa := hid (kxa.out.below bL)
  replace hSa3 := hid (hSa3.out.below bL)
  replace hN := hid hN
  clear t0 t1 bz
  go_wp2_with fail
  clear kc s0 x0' x1' x2' G3
  generalize hw9 : w8.alloc (.cells #[.int .u8 101] 5 (1, 2)) = w9 at *
  replace hw9 := hid hw9
  refine (do_any (fun _ => True) (some ⟨g3', 0, none⟩) 40 40 D3 1 v3 ⟨nm3, [⟨nF, m, 4⟩], []⟩ askE (some ⟨w8.heap.size, 0, none⟩) 1 1 124 w9 G3'.out.store G3'.out.set hN.out okE (by omega) (fun k hk => by have := hfew3.out k hk; omega) (by simp [moreOf, askE])).mono ?_
  rintro e w10 ⟨b10, ⟨e', rfl, he, hno, _⟩ | ⟨g4', D4, v4, y4, rfl, hx4, hh4, hd4, ⟨hg4, hO4⟩, hS4⟩⟩
  · exact absurd (hno hok3.out hheld3.out) (q_no4 hf3.out hu3.out)
  obtain ⟨m4, rfl, hf4⟩ := q4 hok3.out hheld3.out (fun k hk => by have := hfew3.out k hk; omega) (by omega) hf3.out hd4
  have hA4 := hd4.after hok3.out hheld3.out bytes_e (fun k hk => by have := hfew3.out k hk; omega) (by simp [moreOf, askE])
  have hAp := apart_reads (c := 124 + leftOf askE) hx3.out hh3.out hgr.out hcnt.out ⟨hA4.1.ok, hA4.1.held, hA4.1.moved, hA4.2⟩
  have hokA := hid hAp.1
  have hfA := hid ((hAp.2 ⟨nF, m, 4⟩ (by simp [entsX, xA])).trans hf2.out)
  have hokB := hid hA4.1.ok
  obtain ⟨G4, on4⟩ := G3'.out.step b10 hg4 hO4 hS4
  have l9 := G3'.out.s.lt
  have kxa4 := hid (on4.cells (kxa.out.below b10) (by omega))
  have hSa4 := hid ((on4.setU (hSa3.out.below b10) (fun k q mm => by omega)).weaken (R := fun _ => True) (fun _ _ _ => trivial))
  have s0 := (G3'.out.s.below b10).cell 0
  have t0 := (G3'.out.s.below b10).frozen 0
  have x0' := (G3'.out.x.below b10).cell 0
  have x1' := (G3'.out.x.below b10).cell 1
  have x2' := (G3'.out.x.below b10).cell 2
  have u0 := (G3'.out.x.below b10).frozen 0
  have u1 := (G3'.out.x.below b10).frozen 1
  have u2 := (G3'.out.x.below b10).frozen 2
  simp at s0 x0' x1' x2'
  have hby := hid (sto_bytes hO4.store)
  replace G4 := hid G4
  replace hf4 := hid hf4
  clear on4 hx4 hh4 hd4 hg4 hO4 hS4 hN hA4 hAp hgr hcnt hok3 hheld3 hfew3 hx3 hh3 hf3 hu3 hA1 hA2 hw1 hw2 hf2 hu2 hSa G2
  go_upto_region 7 with fail
  clear s0 t0 x0' x1' x2' u0 u1 u2
  clear G3' b10 kxa hSa3
  generalize (((w10.setCell ⟨w1.heap.size, 0, none⟩ (.slice (some ⟨g4', 0, none⟩) 40 40)).setCell ⟨w7.heap.size, 0, none⟩ (.string v4.name)).setCell ⟨w7.heap.size, 1, none⟩ (.slice v4.fa v4.fn v4.fc)).setCell ⟨w7.heap.size, 2, none⟩ (.slice v4.sa v4.sn v4.sc) = w11 at *
  have s0 := G4.out.s.cell 0
  have x0' := G4.out.x.cell 0
  have x1' := G4.out.x.cell 1
  have x2' := G4.out.x.cell 2
  have z0 := kxa4.out.cell 0
  have z1 := kxa4.out.cell 1
  have z2 := kxa4.out.cell 2
  simp at s0 x0' x1' x2' z0 z1 z2
  go_wp2_with fail
  refine (diff_any (fun _ => True) (some ⟨g4', 0, none⟩) 40 40 D4 1 v2 (xA m) v4 ⟨nm3, [⟨nF, m4, 5⟩], []⟩ w11 G4.out.store hSa4.out G4.out.set).mono ?_
  rintro e w12 ⟨hR, b12⟩
  have hq5 := q5 (hokA.out.ents ⟨nF, m, 4⟩ (by simp [entsX, xA])) (hokB.out.ents ⟨nF, m4, 5⟩ (by simp [entsX])) hby.out hfA.out hf4.out
  rcases hR with ⟨e', rfl, he, hno⟩ | ⟨lv, ls, rfl, hD, hle, _, _, _⟩
  · have := hno hokA.out hokB.out
    rw [show (xA m).files = [⟨nF, m, 4⟩] from rfl, hq5] at this
    exact absurd this (by simp)
  rw [show (xA m).files = [⟨nF, m, 4⟩] from rfl, hq5] at hle
  obtain ⟨la, lc, hlv, _, _⟩ := hD.val
  subst hlv
  have hll : ls.length = 2 := by have := congrArg List.length hle; simpa using this
  rw [hll] at hD ⊢
  have hDa := hD.at
  have kc := Joins.run_convert_bytes_const_at (P := Tryz.prog) w12 28 5 #[.int .u8 101] 1 1 w12.heap.size rfl Tryz.underlying28 Tryz.underlying5
  have bL := below_lit w12 (.cells #[.int .u8 101] 5 (1, 2))
  have hN := lit_mark w12 [101] 5 (1, 2) (by decide)
  simp only [List.map_cons, List.map_nil, List.length_cons, List.length_nil] at hN
  have bM := below_alloc (w12.alloc (.cells #[.int .u8 101] 5 (1, 2))) (.cells #[.int .i64 2, .string (ByteArray.mk #[102]), .int .i64 5, .slice none 0 0, .int .i64 3, .string (ByteArray.mk #[102]), .int .i64 4, .slice (some ⟨w12.heap.size, 0, none⟩) 1 1] 104)
  have kM := cellsAt_alloc2 w12 (.cells #[.int .u8 101] 5 (1, 2)) #[.int .i64 2, .string (ByteArray.mk #[102]), .int .i64 5, .slice none 0 0, .int .i64 3, .string (ByteArray.mk #[102]), .int .i64 4, .slice (some ⟨w12.heap.size, 0, none⟩) 1 1] 104
  have hLd := hid (lit_difs (hN.below bM) kM)
  have hDb := hid ((hDa.below bL).below bM)
  have bf := hid (Below.tr G4.out.bel (Below.tr b12 (Below.tr bL bM)))
  replace hle := hid hle
  clear s0 x0' x1' x2' z0 z1 z2 hD hDa hN bM kM b12 bL
  go_wp2_with fail
  refine (sameDifs_true la 2 lc ls (some ⟨w12.heap.size + 1, 0, none⟩) 2 2 _ _ (by omega) hDb.out hLd.out (by rw [hle.out]; rfl)).mono ?_
  rintro e w13 ⟨rfl, b13⟩
  go_wp2_with fail
  go_ret
  exact ⟨rfl, Below.tr bf.out b13⟩
end Go.Proofs.YtnmcgmpmcliinaaGreat

namespace Go.Proofs.YtnmcgmpmcliinaaGreat
open Go.RowKit

theorem read_all {n : Nat} {B : Nat → Blk} {key : Int} {e : Ent} (h : FileOk n B key e.root e.size) : readL (fileL key (leafAt B 3 e.root)) e.size.toNat (0 : Int).toNat (256 : Int).toNat = fileW key B e := by
  unfold readL fileW
  rw [show (0 : Int).toNat = 0 from rfl, List.drop_zero]
  exact List.take_of_length_le (by rw [List.length_take, fileL_length]; have := h.sb; show _ ≤ 256; omega)
/-- what stands while the files are held against each other -/
def SoFar (key : Int) (B : Nat → Blk) (a b : List Ent) (k : Nat) : Prop := a.length = b.length ∧ ∀ (j : Nat) (f g : Ent), j < k → a[j]? = some f → b[j]? = some g → f.name = g.name ∧ fileW key B f = fileW key B g

set_option maxHeartbeats 8000000 in
set_option maxRecDepth 100000 in
theorem sendNothing_walk (sa : Option Addr) (n sc : Nat) (B : Nat → Blk) (key : Int) (v : SetV) (x : SetE) (u : SetV) (y : SetE) (w : World) (hs : StoreAt w sa n B) (hX : SetAt (fun _ => True) w v x) (hY : SetAt (fun _ => True) w u y) :
    Calls Tryz.prog 6 #[.agg #[.slice sa n sc], .int .i64 key, v.val, u.val] w fun e w' => e = .returned (.bool true) ∧ Below w.heap.size w w' := by
  have b0 := below_three w (.cells #[.slice sa n sc] 24) (.cells #[.string v.name, .slice v.fa v.fn v.fc, .slice v.sa v.sn v.sc] 47) (.cells #[.string u.name, .slice u.fa u.fn u.fc, .slice u.sa u.sn u.sc] 47)
  have k0 : CellsAt _ w.heap.size #[.slice sa n sc] 24 := ((cellsAt_alloc w _ _).below (below_alloc _ (.cells #[.string v.name, .slice v.fa v.fn v.fc, .slice v.sa v.sn v.sc] 47))).below (below_alloc _ (.cells #[.string u.name, .slice u.fa u.fn u.fc, .slice u.sa u.sn u.sc] 47))
  have k1 := (cellsAt_alloc2 w (.cells #[.slice sa n sc] 24) #[.string v.name, .slice v.fa v.fn v.fc, .slice v.sa v.sn v.sc] 47).below (below_alloc _ (.cells #[.string u.name, .slice u.fa u.fn u.fc, .slice u.sa u.sn u.sc] 47))
  have k2 := cellsAt_alloc ((w.alloc (.cells #[.slice sa n sc] 24)).alloc (.cells #[.string v.name, .slice v.fa v.fn v.fc, .slice v.sa v.sn v.sc] 47)) #[.string u.name, .slice u.fa u.fn u.fc, .slice u.sa u.sn u.sc] 47
  simp only [sz_alloc'] at k2
  have hby := hid (sto_bytes hs)
  replace hs := hid (hs.below b0)
  replace hX := hid (hX.below b0)
  replace hY := hid (hY.below b0)
  have p0 := k0.cell 0
  have p1 := k1.cell 0
  have p2 := k1.cell 1
  have p3 := k1.cell 2
  have p4 := k2.cell 0
  have p5 := k2.cell 1
  have p6 := k2.cell 2
  simp at p0 p1 p2 p3 p4 p5 p6
  replace b0 := hid b0
  replace k0 := hid k0
  replace k1 := hid k1
  replace k2 := hid k2
  unfold SetV.val
  go_enter Tryz.func6, Tryz.ntmps6
  go_wp2_with fail
  generalize ((w.alloc (.cells #[.slice sa n sc] 24)).alloc (.cells #[.string v.name, .slice v.fa v.fn v.fc, .slice v.sa v.sn v.sc] 47)).alloc (.cells #[.string u.name, .slice u.fa u.fn u.fc, .slice u.sa u.sn u.sc] 47) = w0 at *
  clear p0 p1 p2 p3 p4 p5 p6
  refine (diff_any (fun _ => True) sa n sc B key v x u y w0 hs.out hX.out hY.out).mono ?_
  rintro e w1 ⟨hR, b1⟩
  rcases hR with ⟨e', rfl, he, hno⟩ | ⟨lv, ls, rfl, hD, hle, hokx, hoky, hl40⟩
  · have h0' : (e' == 0) = false := by simp [he]
    clear hno
    go_wp2_with fail
    refine (sent_any w1).mono ?_
    rintro e w2 ⟨rfl, b2⟩
    go_wp2_with fail
    refine (sent_any w2).mono ?_
    rintro e w3 ⟨rfl, b3⟩
    go_wp2_with fail
    go_ret
    exact ⟨rfl, Below.tr b0.out (Below.tr b1 (Below.tr b2 b3))⟩
  · obtain ⟨la, lc, hlv, _, _⟩ := hD.val
    subst hlv
    have hiff := diff_nil hokx hoky hby.out
    rw [← hle] at hiff
    have hnil : Hid (ls.length = 0 ↔ SameF key B x.files y.files) := hid (by rw [← hiff]; simp)
    clear hiff
    replace hokx := hid hokx
    replace hoky := hid hoky
    replace hle := hid hle
    clear hD
    go_wp2_with fail
    refine (sent_any w1).mono ?_
    rintro e w2 ⟨rfl, b2⟩
    have b12 := Below.tr b1 b2
    have p2 := (k1.out.below b12).cell 1
    have p5 := (k2.out.below b12).cell 1
    simp at p2 p5
    have hxl := hX.out.files.1
    have hyl := hY.out.files.1
    have hfn6 : v.fn ≤ 6 := by have := hokx.out.shape.few; omega
    clear b1 b2
    go_wp2_with fail
    clear p2 p5
    go_loopw [11, 12] (fun t s wr => ∃ (k : Nat) (sm : Bool), k ≤ v.fn ∧ s = .int .i64 k ∧ t = .bool sm ∧ Below w0.heap.size w0 wr ∧ (sm = true → SoFar key B x.files y.files k) ∧ (sm = false → ¬ SameF key B x.files y.files)) (fun _ s _ => v.fn - (Go.RowKit.intOf s).toNat)
    case atStart =>
      refine ⟨0, _, Nat.zero_le _, rfl, rfl, b12, fun h => ⟨?_, fun j f g hj => absurd hj (by omega)⟩, fun h f => ?_⟩
      · have : (v.fn : Int) = (u.fn : Int) := by simpa using h
        omega
      · have h1 := f.1
        have : (v.fn : Int) = (u.fn : Int) := by omega
        simp [this] at h
    case round =>
      obtain ⟨k, sm, hk, rfl, rfl, bw, hyes, hno⟩ := hrel
      clear b12
      have p1 := (k1.out.below bw).cell 1
      have p2 := (k2.out.below bw).cell 1
      simp at p1 p2
      cases sm
      · have hn0 : ¬ ls.length = 0 := fun f => hno rfl (hnil.out.1 f)
        have hc : ((ls.length : Int) == 0) = false := by
          have : ¬ (ls.length : Int) = 0 := by omega
          exact beq_eq_false_iff_ne.2 this
        clear hyes hno
        go_wp2_with fail
        go_ret
        exact ⟨rfl, Below.tr b0.out bw⟩
      · replace hyes := hid (hyes rfl)
        clear hno
        by_cases hlt : k < v.fn
        · have hlu : k < u.fn := by have := hyes.out.1; omega
          have hkx : k < x.files.length := by omega
          have hky : k < y.files.length := by omega
          have hEx := (hX.out.below bw).files
          have hEy := (hY.out.below bw).files
          obtain ⟨b, off, hfa, hb, _, hc⟩ := hEx.2.2 (by omega)
          obtain ⟨b', off', hfa', hb', _, hc'⟩ := hEy.2.2 (by omega)
          have hzx := hc k hlt
          have hzy := hc' k hlu
          have hxe : x.files[k]? = some (x.files.getD k Ent.zero) := by simp [List.getD, hkx]
          have hye : y.files[k]? = some (y.files.getD k Ent.zero) := by simp [List.getD, hky]
          have hfx := hid (hokx.out.ents _ (List.mem_append_left _ (hEx.getD hlt)))
          have hfy := hid (hoky.out.ents _ (List.mem_append_left _ (hEy.getD hlu)))
          rw [hfa] at p1
          rw [hfa'] at p2
          replace hfa := hid hfa
          replace hfa' := hid hfa'
          have c0 := hzx.c0
          have c1 := hzx.c1
          have c2 := hzx.c2
          have d0 := hzy.c0
          have d1 := hzy.c1
          have d2 := hzy.c2
          clear hEx hEy hc hc' hzx hzy
          generalize x.files.getD k Ent.zero = f at *
          generalize y.files.getD k Ent.zero = g at *
          replace hxe := hid hxe
          replace hye := hid hye
          have hlt' : (k : Int) < (v.fn : Int) := by omega
          have hlu' : (k : Int) < (u.fn : Int) := by omega
          have hk0 : (0 : Int) ≤ (k : Int) := by omega
          have lz1 := (k1.out.below bw).lt
          have lz2 := (k2.out.below bw).lt
          have nz1 : ¬ w.heap.size + 1 = wr.heap.size := by omega
          have nz2 : ¬ w.heap.size + 1 + 1 = wr.heap.size := by omega
          have nz3 : ¬ w.heap.size + 1 = wr.heap.size + 1 := by omega
          have nz4 : ¬ w.heap.size + 1 + 1 = wr.heap.size + 1 := by omega
          have nz5 : ¬ w.heap.size = wr.heap.size := by omega
          have nb1 : ¬ b = wr.heap.size := by omega
          have nb2 : ¬ b' = wr.heap.size := by omega
          have nb3 : ¬ b = wr.heap.size + 1 := by omega
          have nb4 : ¬ b' = wr.heap.size + 1 := by omega
          go_upto_region 8 with fail
          go_cut [13, 14] from 41 to 94 (fun v13 v14 wc => ∃ c13 c14 : Nat, v13 = .pointer (some ⟨c13, 0, none⟩) ∧ v14 = .pointer (some ⟨c14, 0, none⟩) ∧ CellsAt wc c13 #[.string f.name, .int .i64 f.root, .int .i64 f.size] 62 ∧ CellsAt wc c14 #[.string g.name, .int .i64 g.root, .int .i64 g.size] 62 ∧ Below wr.heap.size wr wc)
          case first =>
            go_region_held3 (fun w' => w'.cell? ⟨w.heap.size + 1, 1, none⟩ = some (.slice (some ⟨b, off, none⟩) v.fn v.fc) ∧ w'.cell? ⟨w.heap.size + 1 + 1, 1, none⟩ = some (.slice (some ⟨b', off', none⟩) u.fn u.fc) ∧ w'.cell? ⟨b, off + k * 3, none⟩ = some (.string f.name) ∧ w'.cell? ⟨b, off + k * 3 + 1, none⟩ = some (.int .i64 f.root) ∧ w'.cell? ⟨b, off + k * 3 + 2, none⟩ = some (.int .i64 f.size) ∧ w'.cell? ⟨b', off' + k * 3, none⟩ = some (.string g.name) ∧ w'.cell? ⟨b', off' + k * 3 + 1, none⟩ = some (.int .i64 g.root) ∧ w'.cell? ⟨b', off' + k * 3 + 2, none⟩ = some (.int .i64 g.size)) (first | go_keep | assumption) (first | fail)
            all_goals (
              go_wp2_with fail
              go_meet
              first
                | exact ⟨_, _, rfl, rfl, (((cellsAt_alloc wr _ _).below (below_alloc _ _)).below (below_drew _ _)), (cellsAt_alloc2 wr _ _ _).below (below_drew _ _), (below_two wr _ _).trans (below_drew _ _)⟩
                | exact ⟨_, _, rfl, rfl, (cellsAt_alloc2 wr _ _ _).below (below_drew _ _), (((cellsAt_alloc wr _ _).below (below_alloc _ _)).below (below_drew _ _)), (below_two wr _ _).trans (below_drew _ _)⟩)
          case rest =>
            obtain ⟨c13, c14, rfl, rfl, kf, kg, bc⟩ := hcut
            have bwc := Below.tr bw bc
            clear c0 c1 c2 d0 d1 d2 p1 p2 bc
            have s0 := (k0.out.below bwc).cell 0
            have f1 := kf.cell 1
            have f2 := kf.cell 2
            simp at s0 f1 f2
            replace kf := hid kf
            replace kg := hid kg
            have hS1 := hid (hs.out.below bwc)
            go_wp2_with fail
            refine (fileRead_any sa n sc B key f.root f.size 0 256 wc hS1.out).mono ?_
            rintro e w5 ⟨hrd, b5⟩
            rcases hrd with ⟨e', rfl, he, hno⟩ | ⟨xa, ln, lc', rfl, _, _, hNx⟩
            · exact absurd ⟨hfx.out, by omega, by omega⟩ hno
            rw [read_all hfx.out] at hNx
            have bw5 := Below.tr bwc b5
            have s1 := (k0.out.below bw5).cell 0
            have g1 := (kg.out.below b5).cell 1
            have g2 := (kg.out.below b5).cell 2
            simp at s1 g1 g2
            have hS2 := hid (hs.out.below bw5)
            replace kf := hid (kf.out.below b5)
            replace kg := hid (kg.out.below b5)
            replace hNx := hid hNx
            clear s0 f1 f2 hS1 b5
            go_wp2_with fail
            refine (fileRead_any sa n sc B key g.root g.size 0 256 w5 hS2.out).mono ?_
            rintro e w6 ⟨hrd, b6⟩
            rcases hrd with ⟨e', rfl, he, hno⟩ | ⟨ya, yn, yc, rfl, _, _, hNy⟩
            · exact absurd ⟨hfy.out, by omega, by omega⟩ hno
            rw [read_all hfy.out] at hNy
            have bw6 := Below.tr bw5 b6
            have n1 := (kf.out.below b6).cell 0
            have n2 := (kg.out.below b6).cell 0
            simp at n1 n2
            replace hNx := hid (hNx.out.below b6)
            replace hNy := hid hNy
            clear s1 g1 g2 hS2 b6
            have hnext : Hid (f.name = g.name → fileW key B f = fileW key B g → SoFar key B x.files y.files (k + 1)) := hid (fun h1 h2 => ⟨hyes.out.1, fun j f' g' hj hf' hg' => by
              rcases Nat.lt_or_ge j k with h3 | h3
              · exact hyes.out.2 j f' g' h3 hf' hg'
              · obtain rfl : j = k := by omega
                rw [hxe.out] at hf'
                rw [hye.out] at hg'
                cases hf'
                cases hg'
                exact ⟨h1, h2⟩⟩)
            have hstop : Hid (¬ (f.name = g.name ∧ fileW key B f = fileW key B g) → ¬ SameF key B x.files y.files) := hid (fun h1 h2 => h1 (h2.2 k f g hxe.out hye.out))
            by_cases hnm : f.name = g.name
            · have hb1 : (f.name.toList == g.name.toList) = true := by rw [hnm]; simp
              replace hnm := hid hnm
              by_cases hW : fileW key B f = fileW key B g
              · rw [← hW] at hNy
                have hW' := hid hW
                clear hW
                go_wp2_with fail
                refine (bytesEqual_same xa ya ln lc' yn yc _ _ (fileW key B f) w6 hNx.out hNy.out).mono ?_
                rintro e w7 ⟨rfl, rfl⟩
                go_wp2_with fail
                go_roundw
                case rel =>
                  exact ⟨k + 1, true, by omega, by go_num, rfl, bw6, fun _ => hnext.out hnm.out hW'.out, fun h => by cases h⟩
                case measure => simp [Go.RowKit.intOf]; omega
              · have hWn := hid hW
                clear hW
                go_wp2_with fail
                refine (bytesEqual_no xa ya ln lc' yn yc _ _ (fileW key B f) (fileW key B g) w6 hWn.out hNx.out hNy.out).mono ?_
                rintro e w7 ⟨rfl, rfl⟩
                go_wp2_with fail
                go_roundw
                case rel =>
                  exact ⟨k + 1, false, by omega, by go_num, rfl, bw6, (fun h => by cases h), fun _ => hstop.out (fun h => hWn.out h.2)⟩
                case measure => simp [Go.RowKit.intOf]; omega
            · have hb1 : (f.name.toList == g.name.toList) = false := by
                rw [ByteArray.toList_eq, ByteArray.toList_eq]
                exact beq_eq_false_iff_ne.2 (fun h => hnm (bytes_eq h))
              replace hnm := hid hnm
              go_wp2_with fail
              go_roundw
              case rel =>
                exact ⟨k + 1, false, by omega, by go_num, rfl, bw6, (fun h => by cases h), fun _ => hstop.out (fun h => hnm.out h.1)⟩
              case measure => simp [Go.RowKit.intOf]; omega
        · obtain rfl : k = v.fn := by omega
          have hsf : SameF key B x.files y.files := ⟨hyes.out.1, fun j f g hf hg => hyes.out.2 j f g (by obtain ⟨h1, _⟩ := List.getElem?_eq_some_iff.1 hf; omega) hf hg⟩
          have hn0 : ls.length = 0 := hnil.out.2 hsf
          replace hsf := hid hsf
          have hc : ((ls.length : Int) == 0) = true := by simp [hn0]
          replace hn0 := hid hn0
          go_wp2_with fail
          go_ret
          exact ⟨rfl, Below.tr b0.out bw⟩
end Go.Proofs.YtnmcgmpmcliinaaGreat

namespace Go.Proofs.YtnmcgmpmcliinaaGreat
open Go.RowKit

/-- a row of Dos, one after the other -/
inductive Steps (n : Nat) (key cc : Int) (B : Nat → Blk) (x : SetE) : List AskE → (Nat → Blk) → SetE → Prop
  | nil : Steps n key cc B x [] B x
  | snoc {l : List AskE} {D : Nat → Blk} {y : SetE} {a : AskE} {D' : Nat → Blk} {y' : SetE} : Steps n key cc B x l D y → Did n D key y a cc D' y' → Steps n key cc B x (l ++ [a]) D' y'
def nE : ByteArray := ByteArray.mk #[]
/-- what a change asks for -/
def asksOf (d : DifE) : List AskE :=
  if d.kind = 1 then [⟨5, nE, d.name, nE, 0, 0, []⟩] else if d.kind = 2 then [⟨3, nE, d.name, nE, 0, 0, []⟩, ⟨4, nE, d.name, nE, 0, d.num, []⟩] else if d.kind = 3 then [⟨3, nE, d.name, nE, d.num, 0, d.bytes⟩] else []
def Is345 (a : AskE) : Prop := (a.kind = 3 ∨ a.kind = 4 ∨ a.kind = 5) ∧ Bytes a.bytes
theorem asks_is {d : DifE} (hb : Bytes d.bytes) : ∀ a ∈ asksOf d, Is345 a := by
  intro a ha
  unfold asksOf at ha
  split at ha
  · simp at ha; subst ha; exact ⟨.inr (.inr rfl), fun x hx => by simp at hx⟩
  · split at ha
    · simp at ha
      rcases ha with rfl | rfl
      · exact ⟨.inl rfl, fun x hx => by simp at hx⟩
      · exact ⟨.inr (.inl rfl), fun x hx => by simp at hx⟩
    · split at ha
      · simp at ha; subst ha; exact ⟨.inl rfl, hb⟩
      · simp at ha
theorem more345 (a : AskE) : moreOf a ≤ 48 := by unfold moreOf; split <;> omega
/-- what stands: the store is B's still, but for the set's own files -/
structure Std (n : Nat) (key : Int) (B : Nat → Blk) (x : SetE) (D : Nat → Blk) (y : SetE) : Prop where
  nxt : Nxt n key B D x y
  base : ∀ k, k < n → (B k).refs ≤ 999000
theorem Std.few {n : Nat} {key : Int} {B D : Nat → Blk} {x y : SetE} (h : Std n key B x D y) : ∀ k, k < n → (D k).refs ≤ 999510 := fun k hk => by
  have h1 := h.nxt.few k hk
  have h2 := h.base k hk
  omega
theorem Std.step {n : Nat} {key : Int} {B D D' : Nat → Blk} {x y y' : SetE} {a : AskE} (h : Std n key B x D y) (ha : Is345 a) (hd : Did n D key y a 999510 D' y') : Std n key B x D' y' := by
  have hm := more345 a
  have h1 : Nxt n key D D' y y' := by
    rcases ha.1 with hk | hk | hk
    · exact (did_write h.nxt.ok h.nxt.held ha.2 h.few (by omega) hd hk).1
    · exact (did_cut h.nxt.ok h.nxt.held ha.2 h.few (by omega) hd hk).1
    · exact (did_remove h.nxt.ok h.nxt.held ha.2 h.few (by omega) hd hk).1
  exact ⟨h.nxt.trans h1, h.base⟩

/-- Apply's own store, the key, its own set, each in a box -/
structure AP (L : Nat) (w : World) (ob kb yb : Nat) (key : Int) (g n : Nat) (D : Nat → Blk) (v : SetV) (y : SetE) : Prop where
  o : CellsAt w ob #[.slice (some ⟨g, 0, none⟩) n n] 24
  k : CellsAt w kb #[.int .i64 key] 3
  x : CellsAt w yb #[.string v.name, .slice v.fa v.fn v.fc, .slice v.sa v.sn v.sc] 47
  own : Own w g n D
  se : SetAt (fun b => L ≤ b) w v y
  ne : ob ≠ yb ∧ ob ≠ kb ∧ yb ≠ kb
  lo : L ≤ g ∧ L ≤ w.heap.size
theorem AP.below {L : Nat} {w w' : World} {ob kb yb : Nat} {key : Int} {g n : Nat} {D : Nat → Blk} {v : SetV} {y : SetE} (h : AP L w ob kb yb key g n D v y) (b : Below w.heap.size w w') : AP L w' ob kb yb key g n D v y := ⟨h.o.below b, h.k.below b, h.x.below b, h.own.below b, h.se.below b, h.ne, h.lo.1, Nat.le_trans h.lo.2 b.size⟩
/-- both boxes have what Do answered: in either order -/
theorem AP.put {L : Nat} {w w1 : World} {ob kb yb : Nat} {key : Int} {n : Nat} {D D' : Nat → Blk} {v v' : SetV} {y y' : SetE} {g0 g : Nat} (h : AP L w ob kb yb key g0 n D v y) (b : Below w.heap.size w w1) (hg : w.heap.size ≤ g) (hO : Own w1 g n D') (hS : SetAt (fun b => w.heap.size ≤ b) w1 v' y') :
    (AP L (putX (w1.setCell ⟨ob, 0, none⟩ (.slice (some ⟨g, 0, none⟩) n n)) yb v') ob kb yb key g n D' v' y' ∧ Only (fun b => b = ob ∨ b = yb) w (putX (w1.setCell ⟨ob, 0, none⟩ (.slice (some ⟨g, 0, none⟩) n n)) yb v')) ∧
    (AP L ((putX w1 yb v').setCell ⟨ob, 0, none⟩ (.slice (some ⟨g, 0, none⟩) n n)) ob kb yb key g n D' v' y' ∧ Only (fun b => b = ob ∨ b = yb) w ((putX w1 yb v').setCell ⟨ob, 0, none⟩ (.slice (some ⟨g, 0, none⟩) n n))) := by
  have lo := h.o.lt
  have ly := h.x.lt
  have ow : Only (fun b => b = ob ∨ b = yb) w w1 := Only.of_below b
  have mk : ∀ w2, Only (fun b => b = ob ∨ b = yb) w1 w2 → CellsAt w2 ob #[.slice (some ⟨g, 0, none⟩) n n] 24 → CellsAt w2 yb #[.string v'.name, .slice v'.fa v'.fn v'.fc, .slice v'.sa v'.sn v'.sc] 47 → AP L w2 ob kb yb key g n D' v' y' ∧ Only (fun b => b = ob ∨ b = yb) w w2 := fun w2 on c1 c2 => by
    refine ⟨⟨c1, on.cells (h.k.below b) (fun f => by have := h.ne; omega), c2, own_only hO on (fun b _ m => by omega), ?_, h.ne, Nat.le_trans h.lo.2 hg, Nat.le_trans h.lo.2 (Nat.le_trans b.size on.size)⟩, ow.trans on⟩
    refine ⟨hS.name, hS.small, (on.ents hS.files (fun k q m => by omega)).weaken (fun b _ q => Nat.le_trans h.lo.2 q), ?_, hS.caps⟩
    have h2 := hS.snaps
    refine ⟨h2.1, fun hn => ?_⟩
    obtain ⟨c, off, e, hlt, hq, hc⟩ := h2.2 hn
    refine ⟨c, off, e, Nat.lt_of_lt_of_le hlt on.size, Nat.le_trans h.lo.2 hq, fun i hi => ?_⟩
    obtain ⟨fa, fn, fc, hs⟩ := hc i hi
    exact ⟨fa, fn, fc, (on.cell (p := ⟨c, off + i * 2, none⟩) hlt (fun m => by simp only at m; omega)).trans hs.c0, (on.cell (p := ⟨c, off + i * 2 + 1, none⟩) hlt (fun m => by simp only at m; omega)).trans hs.c1, (on.ents hs.files (fun k q m => by omega)).weaken (fun b _ q => Nat.le_trans h.lo.2 q), hs.small, hs.caps⟩
  constructor
  · have k1 := kept_putS w1 ob (.slice (some ⟨g, 0, none⟩) n n)
    have k2 := kept_putX (w1.setCell ⟨ob, 0, none⟩ (.slice (some ⟨g, 0, none⟩) n n)) yb v'
    exact mk _ ((Only.of_kept k1 (.inl rfl)).trans (Only.of_kept k2 (.inr rfl))) ((Only.of_kept (M := fun k => k = yb) k2 rfl).cells (cells_putS (h.o.below b)) h.ne.1) (cells_putX ((Only.of_kept (M := fun k => k = ob) k1 rfl).cells (h.x.below b) h.ne.1.symm))
  · have k1 := kept_putX w1 yb v'
    have k2 := kept_putS (putX w1 yb v') ob (.slice (some ⟨g, 0, none⟩) n n)
    exact mk _ ((Only.of_kept k1 (.inr rfl)).trans (Only.of_kept k2 (.inl rfl))) (cells_putS ((Only.of_kept (M := fun k => k = yb) k1 rfl).cells (h.o.below b) h.ne.1)) ((Only.of_kept (M := fun k => k = ob) k2 rfl).cells (cells_putX (h.x.below b)) h.ne.1.symm)
/-- what Apply's closure answers -/
def RetS1 (L : Nat) (w : World) (ob kb yb : Nat) (key : Int) (n : Nat) (D : Nat → Blk) (y : SetE) (a : AskE) (e : Ending) (w' : World) : Prop :=
  Only (fun b => b = ob ∨ b = yb) w w' ∧ ((∃ e' : Int, e = .returned (.int .i64 e') ∧ e' ≠ 0 ∧ (SetOk n D key y → HeldR n D (rootsX y) → ErrIs e' y a)) ∨
    (e = .returned (.int .i64 0) ∧ ∃ (g : Nat) (D' : Nat → Blk) (v' : SetV) (y' : SetE), Did n D key y a 999510 D' y' ∧ AP L w' ob kb yb key g n D' v' y'))

set_option maxHeartbeats 4000000 in
set_option maxRecDepth 100000 in
theorem applyDo_any (L ob kb yb : Nat) (key : Int) (g0 n : Nat) (D : Nat → Blk) (v : SetV) (y : SetE) (a : AskE) (ba : Option Addr) (bn bc : Nat) (w : World) (hP : AP L w ob kb yb key g0 n D v y) (hB : NumsAt (fun _ => True) .u8 w ba bn a.bytes) (hao : a.ok) (hc : ∀ k, k < n → (D k).refs ≤ 999510) (ha : Is345 a) :
    Calls Tryz.prog 47 #[a.val ba bn bc, .pointer (some ⟨ob, 0, none⟩), .pointer (some ⟨kb, 0, none⟩), .pointer (some ⟨yb, 0, none⟩)] w fun e w' => RetS1 L w ob kb yb key n D y a e w' := by
  have b0 := below_alloc w (.cells #[.int .i64 a.kind, .string a.set, .string a.file, .string a.to, .int .i64 a.pos, .int .i64 a.num, .slice ba bn bc] 30)
  have hm := more345 a
  replace hP := hid hP
  have hP0 := hP.out.below b0
  have o0 := hP0.o.cell 0
  have y0 := hP0.k.cell 0
  have x0 := hP0.x.cell 0
  have x1 := hP0.x.cell 1
  have x2 := hP0.x.cell 2
  simp at o0 y0 x0 x1 x2
  replace hP0 := hid hP0
  replace hB := hid (hB.below b0)
  replace hc := hid hc
  replace hao := hid hao
  unfold AskE.val
  replace b0 := hid b0
  go_enter Tryz.func47, Tryz.ntmps47
  go_wp2_with fail
  generalize w.alloc (.cells #[.int .i64 a.kind, .string a.set, .string a.file, .string a.to, .int .i64 a.pos, .int .i64 a.num, .slice ba bn bc] 30) = w0 at *
  clear o0 y0 x0 x1 x2
  refine (do_any (fun b => L ≤ b) (some ⟨g0, 0, none⟩) n n D key v y a ba bn bc 999510 w0 hP0.out.own.store hP0.out.se hB.out hao.out (by omega) hc.out (by omega)).mono ?_
  rintro e w1 ⟨b1, ⟨e', rfl, he, _, hno⟩ | ⟨g, D', v', y', rfl, _, _, hd, ⟨hg, hO⟩, hS⟩⟩
  · have h0' : (e' == 0) = false := by simp [he]
    have bF := hid (Below.tr (Below.tr b0.out b1) (below_two w1 (.cells #[.slice none 0 0] 24) (.cells #[.string (ByteArray.mk #[]), .slice none 0 0, .slice none 0 0] 47)))
    replace hno := hid hno
    go_wp2_with fail
    go_ret
    exact ⟨Only.of_below bF.out, .inl ⟨e', rfl, he, hno.out⟩⟩
  · have bT := below_two w1 (.cells #[.slice (some ⟨g, 0, none⟩) n n] 24) (.cells #[.string v'.name, .slice v'.fa v'.fn v'.fc, .slice v'.sa v'.sn v'.sc] 47)
    have kS : CellsAt _ w1.heap.size #[.slice (some ⟨g, 0, none⟩) n n] 24 := (cellsAt_alloc w1 _ _).below (below_alloc _ (.cells #[.string v'.name, .slice v'.fa v'.fn v'.fc, .slice v'.sa v'.sn v'.sc] 47))
    have kX := cellsAt_alloc2 w1 (.cells #[.slice (some ⟨g, 0, none⟩) n n] 24) #[.string v'.name, .slice v'.fa v'.fn v'.fc, .slice v'.sa v'.sn v'.sc] 47
    have hput := hP0.out.put (Below.tr b1 bT) hg (hO.below bT) (hS.below bT)
    have hq := (hP0.out.below b1).below bT
    have lo := hP0.out.o.lt
    have ly := hP0.out.x.lt
    have lw := b1.size
    have n1 : ¬ ob = yb := hP0.out.ne.1
    have n1' : ¬ yb = ob := fun f => n1 f.symm
    have n2 : ¬ w1.heap.size = ob := by omega
    have n3 : ¬ w1.heap.size = yb := by omega
    have n4 : ¬ w1.heap.size + 1 = ob := by omega
    have n5 : ¬ w1.heap.size + 1 = yb := by omega
    have J1 := hid (hput.1.2.trans (Only.refl _ _))
    replace hput := hid hput
    replace hd := hid hd
    replace hq := hid hq
    replace kS := hid kS
    replace kX := hid kX
    replace bT := hid bT
    replace hO := hid hO
    replace hS := hid hS
    clear J1
    go_upto_region 3 with fail
    generalize (w1.alloc (.cells #[.slice (some ⟨g, 0, none⟩) n n] 24)).alloc (.cells #[.string v'.name, .slice v'.fa v'.fn v'.fc, .slice v'.sa v'.sn v'.sc] 47) = w2 at *
    have s0 := kS.out.cell 0
    have t0 := kX.out.cell 0
    have t1 := kX.out.cell 1
    have t2 := kX.out.cell 2
    have o0 := hq.out.o.cell 0
    have of := hq.out.o.frozen 0
    have x0 := hq.out.x.cell 0
    have x1 := hq.out.x.cell 1
    have x2 := hq.out.x.cell 2
    have xf0 := hq.out.x.frozen 0
    have xf1 := hq.out.x.frozen 1
    have xf2 := hq.out.x.frozen 2
    simp at s0 t0 t1 t2 o0 x0 x1 x2
    go_region
    all_goals (
      go_wp2_with fail
      go_ret
      have J := hput.out.1
      have ow : Only (fun b => b = ob ∨ b = yb) w w0 := Only.of_below b0.out
      first
        | exact ⟨ow.trans J.2, .inr ⟨rfl, g, D', v', y', hd.out, J.1⟩⟩
        | exact ⟨(ow.trans J.2).trans (Only.of_below (below_drew _ _)), .inr ⟨rfl, g, D', v', y', hd.out, J.1.below (below_drew _ _)⟩⟩)
end Go.Proofs.YtnmcgmpmcliinaaGreat
