/-
  PoolN, ImgH in one text. Nothing here is trusted.
-/
import Derived.Test.YtihkljfcplfldaaGreatPart21
import Derived.Test.YtihkljfcplfldaaGreatPart31
import Derived.Test.YtihkljfcplfldaaGreatPart32
set_option linter.unusedVariables false
namespace Go.Proofs.YtihkljfcplfldaaGreat
open Go.RowKit

theorem kept_drew (g : Nat) (w : World) : Kept g w w.drew := ⟨rfl, rfl, rfl, rfl, fun _ _ => rfl⟩
/-- what New answers -/
def RetNw (base : Nat) (e : Ending) (w : World) (n : Nat) (l : List TenE) : Prop :=
  ∃ (a : Option Addr) (c : Nat) (ta : Option Addr) (tn tc : Nat), e = .returned (.tuple #[.agg #[.slice a n c, .slice ta tn tc], .int .i64 0]) ∧ PoolAt (fun _ => True) w a n (fun _ => Blk.zero) ta tn l ∧ tn ≤ tc

theorem make_1 (w : World) : (Instr.makeSlice 25 (.int .i64 1) (.int .i64 1)).run Tryz.prog w = .ok (.slice (some ⟨w.heap.size, 0, none⟩) 1 1) (w.alloc (.cells #[.int .i64 0, .int .i64 0, .slice none 0 0] 42)) := by
  obtain ⟨i0, hi, hz0, hz1, hz2⟩ := info_parts Tryz.infoT
  rw [run_makeSlice (P := Tryz.prog) w 25 42 i0 _ Tryz.underlying25 hi hz0 .i64 .i64 1 1 (by omega) (by omega) (by rw [hz1]; decide) (by rw [hz2]; decide) (by decide), hz1]
  have e : madeCells (Value.agg #[.int .i64 0, .int .i64 0, .slice none 0 0]).cells (Int.toNat 1 * 3) = #[.int .i64 0, .int .i64 0, .slice none 0 0] := by
    first
    | rfl
    | simp [madeCells, Value.cells, Array.range_succ, Array.range_zero']
    | kernel_rfl
  rw [e]
  rfl

set_option maxHeartbeats 4000000 in
set_option maxRecDepth 100000 in
theorem new1_any (n : Nat) (k0 q0 : Int) (kb qb : Nat) (w : World) (hn : n ≤ 400) (hk : CellsAt w kb #[.int .i64 k0] 3) (hq : CellsAt w qb #[.int .i64 q0] 3) (hb : (-9223372036854775808 ≤ k0 ∧ k0 ≤ 9223372036854775807) ∧ (-9223372036854775808 ≤ q0 ∧ q0 ≤ 9223372036854775807)) (hok : PoolOk n (fun _ => Blk.zero) [⟨k0, q0, []⟩]) :
    Calls Tryz.prog 37 #[.int .i64 n, .slice (some ⟨kb, 0, none⟩) 1 1, .slice (some ⟨qb, 0, none⟩) 1 1] w fun e w' => RetNw w.heap.size e w' n [⟨k0, q0, []⟩] ∧ Below w.heap.size w w' := by
  have hmk := make_1
  have b0 := hid (below_alloc w (.cells #[.slice none 0 0, .slice none 0 0] 27))
  have kB : Hid (CellsAt _ w.heap.size #[.slice none 0 0, .slice none 0 0] 27) := hid (cellsAt_alloc w _ _)
  have hkl := hk.lt
  have hql := hq.lt
  replace hk := hid (hk.below b0.out)
  replace hq := hid (hq.below b0.out)
  replace hok := hid hok
  have hszw : Hid ((w.alloc (.cells #[.slice none 0 0, .slice none 0 0] 27)).heap.size = w.heap.size + 1) := hid (by simp)
  go_enter Tryz.func37, Tryz.ntmps37
  go_upto_region 1 with fail
  generalize w.alloc (.cells #[.slice none 0 0, .slice none 0 0] 27) = w0 at *
  go_wp2_with fail
  refine (storeNew_ok n w0 hn).mono ?_
  rintro e w1 ⟨⟨g, c, rfl, hg, hgl, hBl⟩, b1⟩
  replace hk := hid (hk.out.below b1)
  replace hq := hid (hq.out.below b1)
  replace kB := hid (kB.out.below b1)
  replace b0 := hid (Below.tr b0.out b1)
  clear b1
  have bS := hid (below_alloc w1 (.cells #[.slice (some ⟨g, 0, none⟩) n c] 24))
  have kS : Hid (CellsAt _ w1.heap.size #[.slice (some ⟨g, 0, none⟩) n c] 24) := hid (cellsAt_alloc w1 _ _)
  replace hBl := hid hBl
  go_wp2_with fail
  go_cut [10] from 28 (fun v10 wc => ∃ pb tb, v10 = .pointer (some ⟨pb, 0, none⟩) ∧ CellsAt wc pb #[.slice (some ⟨g, 0, none⟩) n c, .slice (some ⟨tb, 0, none⟩) 1 1] 27 ∧ CellsAt wc tb #[.int .i64 0, .int .i64 0, .slice none 0 0] 42 ∧ Below w1.heap.size w1 wc ∧ pb ≠ tb ∧ w1.heap.size ≤ pb ∧ w1.heap.size ≤ tb)
  case first =>
    go_region
    all_goals (go_wp2_with fail; go_meet)
    · exact ⟨w1.heap.size + 1 + 1, w1.heap.size + 1, rfl, (cellsAt_alloc3 w1 _ _ _ _).below (below_drew _ _), ((cellsAt_alloc2 w1 _ _ _).below (below_alloc _ _)).below (below_drew _ _), (((below_alloc w1 _).alloc (by simp) _).alloc (by simp; omega) _).drew, by omega, by omega, by omega⟩
    · exact ⟨w1.heap.size + 1, w1.heap.size + 1 + 1, rfl, ((cellsAt_alloc2 w1 _ _ _).below (below_alloc _ _)).below (below_drew _ _), (cellsAt_alloc3 w1 _ _ _ _).below (below_drew _ _), (((below_alloc w1 _).alloc (by simp) _).alloc (by simp; omega) _).drew, by omega, by omega, by omega⟩
  case rest =>
    obtain ⟨pb, tb, rfl, hp, ht, bc, hne, hpb, htb⟩ := hcut
    clear kS bS
    have hs0 := b0.out.size
    have hkd : kb ≠ tb := by omega
    have hqd : qb ≠ tb := by omega
    have hpl := hp.lt
    have d0 := hp.cell 0
    have d1 := hp.cell 1
    simp at d0 d1
    replace hp := hid hp
    replace ht := hid ht
    go_wp2_with fail
    clear d0 d1
    go_loopw [36] (fun v wr => ∃ j : Nat, v = .int .i64 j ∧ Kept tb wc wr ∧ ((j = 0 ∧ CellsAt wr tb #[.int .i64 0, .int .i64 0, .slice none 0 0] 42) ∨ (j = 1 ∧ CellsAt wr tb #[.int .i64 k0, .int .i64 q0, .slice none 0 0] 42))) (fun v _ => 1 - (Go.RowKit.intOf v).toNat)
    case atStart => exact ⟨0, rfl, Kept.refl _ _, .inl ⟨rfl, ht.out⟩⟩
    case round =>
      clear ht
      obtain ⟨j, rfl, hkp, hst⟩ := hrel
      have hpw := (Only.of_kept (M := fun k => k = tb) hkp rfl).cells hp.out hne
      have p0 := hpw.cell 0
      have p1 := hpw.cell 1
      simp at p0 p1
      have hkw := (Only.of_kept (M := fun k => k = tb) hkp rfl).cells (hk.out.below bc) hkd
      have hqw := (Only.of_kept (M := fun k => k = tb) hkp rfl).cells (hq.out.below bc) hqd
      replace hpw := hid hpw
      rcases hst with ⟨rfl, ht⟩ | ⟨rfl, ht⟩
      · have y0 := ht.cell 0
        have y1 := ht.cell 1
        have y2 := ht.cell 2
        have z0 := ht.frozen 0
        have z1 := ht.frozen 1
        have z2 := ht.frozen 2
        have x0 := hkw.cell 0
        have x1 := hqw.cell 0
        simp at y0 y1 y2 x0 x1
        have ht2 := ((ht.set 0 (.int .i64 k0)).set 1 (.int .i64 q0)).set 2 (.slice none 0 0)
        simp only [List.setIfInBounds_toArray, List.set_cons_succ, List.set_cons_zero] at ht2
        replace ht2 := hid ht2
        have hk2 := hid (hkp.trans (Kept.setCell (g := tb) (Kept.setCell (g := tb) (Kept.setCell (g := tb) (Kept.refl _ wr) (p := ⟨tb, 0, none⟩) rfl (.int .i64 k0)) (p := ⟨tb, 1, none⟩) rfl (.int .i64 q0)) (p := ⟨tb, 2, none⟩) rfl (.slice none 0 0)))
        clear ht
        go_wp2_with fail
        go_region
        all_goals (go_wp2_with fail; go_roundw)
        all_goals first
          | exact ⟨1, by go_num, hk2.out.trans (kept_drew _ _), .inr (⟨rfl, ht2.out.below (below_drew _ _)⟩)⟩
          | (simp [Go.RowKit.intOf])
      · replace hkw := hid hkw
        replace hqw := hid hqw
        have hgt : g ≠ tb := by omega
        have hw0 : Hid (w.heap.size < w0.heap.size) := hid (by have := hszw.out; omega)
        have hBw := Blocks.kept (g := tb) ((Blocks.weaken hBl.out (R := fun b => w0.heap.size ≤ b ∧ b < w1.heap.size) (fun b hb q => ⟨q, hb⟩)).below bc) hgt (fun b hb e => by omega) hkp
        have hSt : StoreAt wr (some ⟨g, 0, none⟩) n (fun _ => Blk.zero) := fun _ => ⟨g, 0, rfl, by rw [hkp.size]; have := bc.size; omega, Blocks.weaken hBw (fun _ _ _ => trivial)⟩
        have hTn : TensAt (fun b => w1.heap.size ≤ b) wr (some ⟨tb, 0, none⟩) 1 [⟨k0, q0, []⟩] := ⟨rfl, fun _ => ⟨tb, 0, rfl, ht.lt, htb, fun i hi => by
          obtain rfl : i = 0 := by omega
          exact ⟨none, 0, 0, ht.cell 0, ht.cell 1, ht.cell 2, setsAt_nil _ _ _, hb.1, hb.2, Nat.le_refl _⟩⟩⟩
        have bT := hid (b0.out.trans ((bc.trans (hkp.below htb)).mono hs0))
        have hP : Hid (PoolAt (fun _ => True) wr (some ⟨g, 0, none⟩) n (fun _ => Blk.zero) (some ⟨tb, 0, none⟩) 1 [⟨k0, q0, []⟩]) := hid ⟨hSt, hTn.weaken (fun _ _ _ => trivial)⟩
        have hBw' := hid hBw
        have hTn' := hid hTn
        clear ht hSt hTn hBw
        go_wp2_with fail
        refine (poolCheck_any (fun _ => True) (some ⟨g, 0, none⟩) n c (fun _ => Blk.zero) (some ⟨tb, 0, none⟩) 1 1 [⟨k0, q0, []⟩] wr hP.out).mono ?_
        rintro e w4 ⟨⟨e4, rfl, he4⟩, b4⟩
        obtain rfl : e4 = 0 := he4.2 hok.out
        have hp4 := hpw.out.below b4
        have kB4 := ((Only.of_kept (M := fun k => k = tb) hkp rfl).cells (kB.out.below bc) (by have := kB.out.lt; omega)).below b4
        have r0 := hp4.cell 0
        have r1 := hp4.cell 1
        have s0 := kB4.cell 0
        have s1 := kB4.cell 1
        have s2 := kB4.frozen 0
        have s3 := kB4.frozen 1
        simp at r0 r1 s0 s1
        have kf := kept_put2v w4 w.heap.size (.slice (some ⟨g, 0, none⟩) n c) (.slice (some ⟨tb, 0, none⟩) 1 1)
        have bF := hid ((Below.tr bT.out b4).trans (kf.below (Nat.le_refl _)))
        have hBf := hid (Blocks.kept (g := w.heap.size) (hBw'.out.below b4) (by have := hw0.out; omega) (fun b hb e => by have := hw0.out; omega) kf)
        have hTf := hid ((Only.of_kept (M := fun k => k = w.heap.size) kf rfl).tens (hTn'.out.below b4) (fun b hb e => by have := hw0.out; omega))
        have hgF : Hid (g < (put2v w4 w.heap.size (.slice (some ⟨g, 0, none⟩) n c) (.slice (some ⟨tb, 0, none⟩) 1 1)).heap.size) := hid (by rw [kf.size]; have := b4.size; have := bc.size; rw [hkp.size] at *; omega)
        have cF := hid (cells_put2v (.slice (some ⟨g, 0, none⟩) n c) (.slice (some ⟨tb, 0, none⟩) 1 1) kB4)
        clear he4 hp4 kB4 kf b4 p0 p1
        unfold put2v at bF hBf hTf hgF cF
        go_wp2_with fail
        have c0 := cF.out.cell 0
        have c1 := cF.out.cell 1
        simp only [List.getElem?_toArray, List.getElem?_cons_zero, List.getElem?_cons_succ] at c0 c1
        refine bodyPost_ret (v := .tuple #[.agg #[.slice (some ⟨g, 0, none⟩) n c, .slice (some ⟨tb, 0, none⟩) 1 1], .int .i64 0]) (by rw [results_cell_tmp rfl]; go_simp) rfl ⟨⟨_, c, _, 1, 1, rfl, ⟨fun _ => ⟨g, 0, rfl, hgF.out, Blocks.weaken hBf.out (fun _ _ _ => trivial)⟩, hTf.out.weaken (fun _ _ _ => trivial)⟩, Nat.le_refl _⟩, bF.out⟩

theorem make_2 (w : World) : (Instr.makeSlice 25 (.int .i64 2) (.int .i64 2)).run Tryz.prog w = .ok (.slice (some ⟨w.heap.size, 0, none⟩) 2 2) (w.alloc (.cells #[.int .i64 0, .int .i64 0, .slice none 0 0, .int .i64 0, .int .i64 0, .slice none 0 0] 42)) := by
  obtain ⟨i0, hi, hz0, hz1, hz2⟩ := info_parts Tryz.infoT
  rw [run_makeSlice (P := Tryz.prog) w 25 42 i0 _ Tryz.underlying25 hi hz0 .i64 .i64 2 2 (by omega) (by omega) (by rw [hz1]; decide) (by rw [hz2]; decide) (by decide), hz1]
  have e : madeCells (Value.agg #[.int .i64 0, .int .i64 0, .slice none 0 0]).cells (Int.toNat 2 * 3) = #[.int .i64 0, .int .i64 0, .slice none 0 0, .int .i64 0, .int .i64 0, .slice none 0 0] := by
    first
    | rfl
    | simp [madeCells, Value.cells, Array.range_succ, Array.range_zero']
    | kernel_rfl
  rw [e]
  rfl

set_option maxHeartbeats 4000000 in
set_option maxRecDepth 100000 in
theorem new2_any (n : Nat) (k0 k1 q0 q1 : Int) (kb qb : Nat) (w : World) (hn : n ≤ 400) (hk : CellsAt w kb #[.int .i64 k0, .int .i64 k1] 3) (hq : CellsAt w qb #[.int .i64 q0, .int .i64 q1] 3) (hb : (-9223372036854775808 ≤ k0 ∧ k0 ≤ 9223372036854775807) ∧ (-9223372036854775808 ≤ k1 ∧ k1 ≤ 9223372036854775807) ∧ (-9223372036854775808 ≤ q0 ∧ q0 ≤ 9223372036854775807) ∧ (-9223372036854775808 ≤ q1 ∧ q1 ≤ 9223372036854775807)) (hok : PoolOk n (fun _ => Blk.zero) [⟨k0, q0, []⟩, ⟨k1, q1, []⟩]) :
    Calls Tryz.prog 37 #[.int .i64 n, .slice (some ⟨kb, 0, none⟩) 2 2, .slice (some ⟨qb, 0, none⟩) 2 2] w fun e w' => RetNw w.heap.size e w' n [⟨k0, q0, []⟩, ⟨k1, q1, []⟩] ∧ Below w.heap.size w w' := by
  have hmk := make_2
  have b0 := hid (below_alloc w (.cells #[.slice none 0 0, .slice none 0 0] 27))
  have kB : Hid (CellsAt _ w.heap.size #[.slice none 0 0, .slice none 0 0] 27) := hid (cellsAt_alloc w _ _)
  have hkl := hk.lt
  have hql := hq.lt
  replace hk := hid (hk.below b0.out)
  replace hq := hid (hq.below b0.out)
  replace hok := hid hok
  have hszw : Hid ((w.alloc (.cells #[.slice none 0 0, .slice none 0 0] 27)).heap.size = w.heap.size + 1) := hid (by simp)
  go_enter Tryz.func37, Tryz.ntmps37
  go_upto_region 1 with fail
  generalize w.alloc (.cells #[.slice none 0 0, .slice none 0 0] 27) = w0 at *
  go_wp2_with fail
  refine (storeNew_ok n w0 hn).mono ?_
  rintro e w1 ⟨⟨g, c, rfl, hg, hgl, hBl⟩, b1⟩
  replace hk := hid (hk.out.below b1)
  replace hq := hid (hq.out.below b1)
  replace kB := hid (kB.out.below b1)
  replace b0 := hid (Below.tr b0.out b1)
  clear b1
  have bS := hid (below_alloc w1 (.cells #[.slice (some ⟨g, 0, none⟩) n c] 24))
  have kS : Hid (CellsAt _ w1.heap.size #[.slice (some ⟨g, 0, none⟩) n c] 24) := hid (cellsAt_alloc w1 _ _)
  replace hBl := hid hBl
  go_wp2_with fail
  go_cut [10] from 28 (fun v10 wc => ∃ pb tb, v10 = .pointer (some ⟨pb, 0, none⟩) ∧ CellsAt wc pb #[.slice (some ⟨g, 0, none⟩) n c, .slice (some ⟨tb, 0, none⟩) 2 2] 27 ∧ CellsAt wc tb #[.int .i64 0, .int .i64 0, .slice none 0 0, .int .i64 0, .int .i64 0, .slice none 0 0] 42 ∧ Below w1.heap.size w1 wc ∧ pb ≠ tb ∧ w1.heap.size ≤ pb ∧ w1.heap.size ≤ tb)
  case first =>
    go_region
    all_goals (go_wp2_with fail; go_meet)
    · exact ⟨w1.heap.size + 1 + 1, w1.heap.size + 1, rfl, (cellsAt_alloc3 w1 _ _ _ _).below (below_drew _ _), ((cellsAt_alloc2 w1 _ _ _).below (below_alloc _ _)).below (below_drew _ _), (((below_alloc w1 _).alloc (by simp) _).alloc (by simp; omega) _).drew, by omega, by omega, by omega⟩
    · exact ⟨w1.heap.size + 1, w1.heap.size + 1 + 1, rfl, ((cellsAt_alloc2 w1 _ _ _).below (below_alloc _ _)).below (below_drew _ _), (cellsAt_alloc3 w1 _ _ _ _).below (below_drew _ _), (((below_alloc w1 _).alloc (by simp) _).alloc (by simp; omega) _).drew, by omega, by omega, by omega⟩
  case rest =>
    obtain ⟨pb, tb, rfl, hp, ht, bc, hne, hpb, htb⟩ := hcut
    clear kS bS
    have hs0 := b0.out.size
    have hkd : kb ≠ tb := by omega
    have hqd : qb ≠ tb := by omega
    have hpl := hp.lt
    have d0 := hp.cell 0
    have d1 := hp.cell 1
    simp at d0 d1
    replace hp := hid hp
    replace ht := hid ht
    go_wp2_with fail
    clear d0 d1
    go_loopw [36] (fun v wr => ∃ j : Nat, v = .int .i64 j ∧ Kept tb wc wr ∧ ((j = 0 ∧ CellsAt wr tb #[.int .i64 0, .int .i64 0, .slice none 0 0, .int .i64 0, .int .i64 0, .slice none 0 0] 42) ∨ (j = 1 ∧ CellsAt wr tb #[.int .i64 k0, .int .i64 q0, .slice none 0 0, .int .i64 0, .int .i64 0, .slice none 0 0] 42) ∨ (j = 2 ∧ CellsAt wr tb #[.int .i64 k0, .int .i64 q0, .slice none 0 0, .int .i64 k1, .int .i64 q1, .slice none 0 0] 42))) (fun v _ => 2 - (Go.RowKit.intOf v).toNat)
    case atStart => exact ⟨0, rfl, Kept.refl _ _, .inl ⟨rfl, ht.out⟩⟩
    case round =>
      clear ht
      obtain ⟨j, rfl, hkp, hst⟩ := hrel
      have hpw := (Only.of_kept (M := fun k => k = tb) hkp rfl).cells hp.out hne
      have p0 := hpw.cell 0
      have p1 := hpw.cell 1
      simp at p0 p1
      have hkw := (Only.of_kept (M := fun k => k = tb) hkp rfl).cells (hk.out.below bc) hkd
      have hqw := (Only.of_kept (M := fun k => k = tb) hkp rfl).cells (hq.out.below bc) hqd
      replace hpw := hid hpw
      rcases hst with ⟨rfl, ht⟩ | ⟨rfl, ht⟩ | ⟨rfl, ht⟩
      · have y0 := ht.cell 0
        have y1 := ht.cell 1
        have y2 := ht.cell 2
        have z0 := ht.frozen 0
        have z1 := ht.frozen 1
        have z2 := ht.frozen 2
        have x0 := hkw.cell 0
        have x1 := hqw.cell 0
        simp at y0 y1 y2 x0 x1
        have ht2 := ((ht.set 0 (.int .i64 k0)).set 1 (.int .i64 q0)).set 2 (.slice none 0 0)
        simp only [List.setIfInBounds_toArray, List.set_cons_succ, List.set_cons_zero] at ht2
        replace ht2 := hid ht2
        have hk2 := hid (hkp.trans (Kept.setCell (g := tb) (Kept.setCell (g := tb) (Kept.setCell (g := tb) (Kept.refl _ wr) (p := ⟨tb, 0, none⟩) rfl (.int .i64 k0)) (p := ⟨tb, 1, none⟩) rfl (.int .i64 q0)) (p := ⟨tb, 2, none⟩) rfl (.slice none 0 0)))
        clear ht
        go_wp2_with fail
        go_region
        all_goals (go_wp2_with fail; go_roundw)
        all_goals first
          | exact ⟨1, by go_num, hk2.out.trans (kept_drew _ _), .inr (.inl ⟨rfl, ht2.out.below (below_drew _ _)⟩)⟩
          | (simp [Go.RowKit.intOf])
      · have y0 := ht.cell 3
        have y1 := ht.cell 4
        have y2 := ht.cell 5
        have z0 := ht.frozen 3
        have z1 := ht.frozen 4
        have z2 := ht.frozen 5
        have x0 := hkw.cell 1
        have x1 := hqw.cell 1
        simp at y0 y1 y2 x0 x1
        have ht2 := ((ht.set 3 (.int .i64 k1)).set 4 (.int .i64 q1)).set 5 (.slice none 0 0)
        simp only [List.setIfInBounds_toArray, List.set_cons_succ, List.set_cons_zero] at ht2
        replace ht2 := hid ht2
        have hk2 := hid (hkp.trans (Kept.setCell (g := tb) (Kept.setCell (g := tb) (Kept.setCell (g := tb) (Kept.refl _ wr) (p := ⟨tb, 3, none⟩) rfl (.int .i64 k1)) (p := ⟨tb, 4, none⟩) rfl (.int .i64 q1)) (p := ⟨tb, 5, none⟩) rfl (.slice none 0 0)))
        clear ht
        go_wp2_with fail
        go_region
        all_goals (go_wp2_with fail; go_roundw)
        all_goals first
          | exact ⟨2, by go_num, hk2.out.trans (kept_drew _ _), .inr (.inr (⟨rfl, ht2.out.below (below_drew _ _)⟩))⟩
          | (simp [Go.RowKit.intOf])
      · replace hkw := hid hkw
        replace hqw := hid hqw
        have hgt : g ≠ tb := by omega
        have hw0 : Hid (w.heap.size < w0.heap.size) := hid (by have := hszw.out; omega)
        have hBw := Blocks.kept (g := tb) ((Blocks.weaken hBl.out (R := fun b => w0.heap.size ≤ b ∧ b < w1.heap.size) (fun b hb q => ⟨q, hb⟩)).below bc) hgt (fun b hb e => by omega) hkp
        have hSt : StoreAt wr (some ⟨g, 0, none⟩) n (fun _ => Blk.zero) := fun _ => ⟨g, 0, rfl, by rw [hkp.size]; have := bc.size; omega, Blocks.weaken hBw (fun _ _ _ => trivial)⟩
        have hTn : TensAt (fun b => w1.heap.size ≤ b) wr (some ⟨tb, 0, none⟩) 2 [⟨k0, q0, []⟩, ⟨k1, q1, []⟩] := ⟨rfl, fun _ => ⟨tb, 0, rfl, ht.lt, htb, fun i hi => by
          rcases (by omega : i = 0 ∨ i = 1) with rfl | rfl
          · exact ⟨none, 0, 0, ht.cell 0, ht.cell 1, ht.cell 2, setsAt_nil _ _ _, hb.1, hb.2.2.1, Nat.le_refl _⟩
          · exact ⟨none, 0, 0, ht.cell 3, ht.cell 4, ht.cell 5, setsAt_nil _ _ _, hb.2.1, hb.2.2.2, Nat.le_refl _⟩⟩⟩
        have bT := hid (b0.out.trans ((bc.trans (hkp.below htb)).mono hs0))
        have hP : Hid (PoolAt (fun _ => True) wr (some ⟨g, 0, none⟩) n (fun _ => Blk.zero) (some ⟨tb, 0, none⟩) 2 [⟨k0, q0, []⟩, ⟨k1, q1, []⟩]) := hid ⟨hSt, hTn.weaken (fun _ _ _ => trivial)⟩
        have hBw' := hid hBw
        have hTn' := hid hTn
        clear ht hSt hTn hBw
        go_wp2_with fail
        refine (poolCheck_any (fun _ => True) (some ⟨g, 0, none⟩) n c (fun _ => Blk.zero) (some ⟨tb, 0, none⟩) 2 2 [⟨k0, q0, []⟩, ⟨k1, q1, []⟩] wr hP.out).mono ?_
        rintro e w4 ⟨⟨e4, rfl, he4⟩, b4⟩
        obtain rfl : e4 = 0 := he4.2 hok.out
        have hp4 := hpw.out.below b4
        have kB4 := ((Only.of_kept (M := fun k => k = tb) hkp rfl).cells (kB.out.below bc) (by have := kB.out.lt; omega)).below b4
        have r0 := hp4.cell 0
        have r1 := hp4.cell 1
        have s0 := kB4.cell 0
        have s1 := kB4.cell 1
        have s2 := kB4.frozen 0
        have s3 := kB4.frozen 1
        simp at r0 r1 s0 s1
        have kf := kept_put2v w4 w.heap.size (.slice (some ⟨g, 0, none⟩) n c) (.slice (some ⟨tb, 0, none⟩) 2 2)
        have bF := hid ((Below.tr bT.out b4).trans (kf.below (Nat.le_refl _)))
        have hBf := hid (Blocks.kept (g := w.heap.size) (hBw'.out.below b4) (by have := hw0.out; omega) (fun b hb e => by have := hw0.out; omega) kf)
        have hTf := hid ((Only.of_kept (M := fun k => k = w.heap.size) kf rfl).tens (hTn'.out.below b4) (fun b hb e => by have := hw0.out; omega))
        have hgF : Hid (g < (put2v w4 w.heap.size (.slice (some ⟨g, 0, none⟩) n c) (.slice (some ⟨tb, 0, none⟩) 2 2)).heap.size) := hid (by rw [kf.size]; have := b4.size; have := bc.size; rw [hkp.size] at *; omega)
        have cF := hid (cells_put2v (.slice (some ⟨g, 0, none⟩) n c) (.slice (some ⟨tb, 0, none⟩) 2 2) kB4)
        clear he4 hp4 kB4 kf b4 p0 p1
        unfold put2v at bF hBf hTf hgF cF
        go_wp2_with fail
        have c0 := cF.out.cell 0
        have c1 := cF.out.cell 1
        simp only [List.getElem?_toArray, List.getElem?_cons_zero, List.getElem?_cons_succ] at c0 c1
        refine bodyPost_ret (v := .tuple #[.agg #[.slice (some ⟨g, 0, none⟩) n c, .slice (some ⟨tb, 0, none⟩) 2 2], .int .i64 0]) (by rw [results_cell_tmp rfl]; go_simp) rfl ⟨⟨_, c, _, 2, 2, rfl, ⟨fun _ => ⟨g, 0, rfl, hgF.out, Blocks.weaken hBf.out (fun _ _ _ => trivial)⟩, hTf.out.weaken (fun _ _ _ => trivial)⟩, Nat.le_refl _⟩, bF.out⟩
end Go.Proofs.YtihkljfcplfldaaGreat

namespace Go.Proofs.YtihkljfcplfldaaGreat
open Go.RowKit

/-- a right pool, its blocks as a list -/
def OkL (bs : List Blk) (ts : List TenE) : Prop := PoolOk bs.length (blksOf bs) ts
/-- what PoolV is, for who asks no more -/
theorem PoolV.at {base : Nat} {bs : List Blk} {ts : List TenE} {v : Value} {w : World} (h : PoolV base (bs, ts) v w) : ∃ a n c ta tn tc, v = .agg #[.slice a n c, .slice ta tn tc] ∧ n = bs.length ∧ PoolAt (fun _ => True) w a n (blksOf bs) ta tn ts := by
  obtain ⟨a, n, c, ta, tn, tc, bm, tm, rfl, hbm, htm, hVB, hVT⟩ := h
  obtain ⟨h1, h2, _⟩ := blks_of hVB
  obtain ⟨h3, h4, _⟩ := tens_of hVT
  rw [hbm] at h2
  rw [htm] at h4
  exact ⟨a, n, c, ta, tn, tc, rfl, by rw [← h1, ← List.length_map, hbm], h2, h4.weaken (fun _ _ _ => trivial)⟩

theorem PoolV.only {base : Nat} {x : List Blk × List TenE} {v : Value} {w w' : World} {K : Nat → Prop} (h : PoolV base x v w) (o : Only K w w') (hK : ∀ b, base ≤ b → ¬ K b) : PoolV base x v w' := by
  obtain ⟨a, n, c, ta, tn, tc, bm, tm, rfl, hbm, htm, hVB, hVT⟩ := h
  exact ⟨a, n, c, ta, tn, tc, bm, tm, rfl, hbm, htm, hVB.only blkAt_ok o hK, hVT.only tenAt_ok o hK⟩
/-- what Read answers -/
def RetR7 (e : Ending) (w : World) (b : List Int) : Prop :=
  (∃ e' : Int, e = .returned (.tuple #[.agg #[.slice none 0 0, .slice none 0 0], .int .i64 e']) ∧ e' ≠ 0 ∧ (∀ bs ts, b.length ≤ 20000 → poolP b = some ((bs, ts), []) → ¬ OkL bs ts) ∧ (b.length ≤ 20000 → (∀ x, poolP b ≠ some (x, [])) → e' = 9)) ∨
  (∃ bs ts a n c ta tn tc, e = .returned (.tuple #[.agg #[.slice a n c, .slice ta tn tc], .int .i64 0]) ∧ poolP b = some ((bs, ts), []) ∧ OkL bs ts ∧ n = bs.length ∧ PoolAt (fun _ => True) w a n (blksOf bs) ta tn ts)
/-- what Read answers, and that it is new -/
def RetR8 (base : Nat) (e : Ending) (w : World) (b : List Int) : Prop :=
  (∃ e' : Int, e = .returned (.tuple #[.agg #[.slice none 0 0, .slice none 0 0], .int .i64 e']) ∧ e' ≠ 0 ∧ (∀ bs ts, b.length ≤ 20000 → poolP b = some ((bs, ts), []) → ¬ OkL bs ts) ∧ (b.length ≤ 20000 → (∀ x, poolP b ≠ some (x, [])) → e' = 9)) ∨
  (∃ bs ts a n c ta tn tc, e = .returned (.tuple #[.agg #[.slice a n c, .slice ta tn tc], .int .i64 0]) ∧ poolP b = some ((bs, ts), []) ∧ OkL bs ts ∧ n = bs.length ∧ ∃ lo, base ≤ lo ∧ PoolV lo (bs, ts) (.agg #[.slice a n c, .slice ta tn tc]) w)
theorem PoolV.is {base : Nat} {bs : List Blk} {ts : List TenE} {a : Option Addr} {n c : Nat} {ta : Option Addr} {tn tc : Nat} {w : World} (h : PoolV base (bs, ts) (.agg #[.slice a n c, .slice ta tn tc]) w) : PoolAt (fun _ => True) w a n (blksOf bs) ta tn ts := by
  obtain ⟨a', n', c', ta', tn', tc', hv, hn', hP'⟩ := h.at
  simp only [Value.agg.injEq, Array.mk.injEq, List.cons.injEq, Value.slice.injEq, and_true] at hv
  obtain ⟨⟨rfl, rfl, rfl⟩, rfl, rfl, rfl⟩ := hv
  exact hP'
theorem RetR8.old {base : Nat} {e : Ending} {w : World} {b : List Int} (h : RetR8 base e w b) : RetR7 e w b := by
  rcases h with h | ⟨bs, ts, a, n, c, ta, tn, tc, h1, h2, h3, h4, lo, _, h5⟩
  · exact .inl h
  · exact .inr ⟨bs, ts, a, n, c, ta, tn, tc, h1, h2, h3, h4, h5.is⟩

set_option maxHeartbeats 2000000 in
set_option maxRecDepth 100000 in
theorem read_new (Q : Nat → Prop) (ba : Option Addr) (bn bc : Nat) (b : List Int) (w : World) (hN : NumsAt Q .u8 w ba bn b) (hcap : bn ≤ bc) (hbig : bc ≤ maxLen) (hnil : ba = none → bc = 0) :
    Calls Tryz.prog 90 #[.slice ba bn bc] w fun e w' => RetR8 w.heap.size e w' b ∧ Below w.heap.size w w' := by
  have hlb := hid hN.1
  have b0 := hid (below_alloc w (.cells #[.slice none 0 0, .slice none 0 0] 27))
  have k0 : Hid (CellsAt _ w.heap.size #[.slice none 0 0, .slice none 0 0] 27) := hid (cellsAt_alloc w _ _)
  replace hN := hid (hN.below b0.out)
  have hszw : Hid ((w.alloc (.cells #[.slice none 0 0, .slice none 0 0] 27)).heap.size = w.heap.size + 1) := hid (by simp)
  have hbn : (bn : Int) ≤ 9223372036854775807 := by unfold maxLen at hbig; omega
  replace hbig := hid hbig
  go_enter Tryz.func90, Tryz.ntmps90
  go_upto_region 1 with fail
  generalize w.alloc (.cells #[.slice none 0 0, .slice none 0 0] 27) = w0 at *
  by_cases hmany : (20000 : Int) < (bn : Int)
  · have r0 := k0.out.cell 0
    have r1 := k0.out.cell 1
    have r2 := k0.out.frozen 0
    have r3 := k0.out.frozen 1
    simp at r0 r1
    have cF := hid (cells_put2v (.slice none 0 0) (.slice none 0 0) k0.out)
    have bF := hid (b0.out.trans ((kept_put2v w0 w.heap.size (.slice none 0 0) (.slice none 0 0)).below (Nat.le_refl _)))
    unfold put2v at cF bF
    go_wp2_with fail
    have c0 := cF.out.cell 0
    have c1 := cF.out.cell 1
    simp only [List.getElem?_toArray, List.getElem?_cons_zero, List.getElem?_cons_succ] at c0 c1
    refine bodyPost_ret (v := .tuple #[.agg #[.slice none 0 0, .slice none 0 0], .int .i64 2]) (by rw [results_cell_tmp rfl]; go_simp) rfl ⟨.inl ⟨2, rfl, by omega, fun bs ts h => ?_, fun h => ?_⟩, bF.out⟩
    · rw [hlb.out] at h; omega
    · rw [hlb.out] at h; omega
  · go_wp2_with fail
    refine (parse_any Q ba bn bc b w0 hN.out hcap hbig.out hnil).mono ?_
    rintro e w1 ⟨⟨⟨bs, ts⟩, v, hp, rfl, hV⟩ | ⟨hno, rfl⟩, b1⟩
    · obtain ⟨a, n, c, ta, tn, tc, rfl, hn, hP⟩ := hV.at
      have bA := hid (below_alloc w1 (.cells #[.slice a n c, .slice ta tn tc] 27))
      have kA : Hid (CellsAt _ w1.heap.size #[.slice a n c, .slice ta tn tc] 27) := hid (cellsAt_alloc w1 _ _)
      replace hV := hid hV
      replace hP := hid (hP.below bA.out)
      replace hp := hid hp
      replace hn := hid hn
      replace k0 := hid ((k0.out.below b1).below bA.out)
      replace b0 := hid (Below.tr (Below.tr b0.out b1) bA.out)
      have hs1 := hid b1.size
      clear b1
      go_upto_region 6 with fail
      generalize w1.alloc (.cells #[.slice a n c, .slice ta tn tc] 27) = w2 at *
      have p0 := kA.out.cell 0
      have p1 := kA.out.cell 1
      simp at p0 p1
      go_wp2_with fail
      refine (poolCheck_any (fun _ => True) a n c (blksOf bs) ta tn tc ts w2 hP.out).mono ?_
      rintro e w3 ⟨⟨e3, rfl, he3⟩, b3⟩
      replace he3 := hid he3
      have k3 := k0.out.below b3
      have kA3 := kA.out.below b3
      have r0 := k3.cell 0
      have r1 := k3.cell 1
      have r2 := k3.frozen 0
      have r3 := k3.frozen 1
      have q0 := kA3.cell 0
      have q1 := kA3.cell 1
      simp at r0 r1 q0 q1
      by_cases h3 : e3 = 0
      · have h3' : (e3 == 0) = true := by simp [h3]
        have hok : Hid (OkL bs ts) := hid (by unfold OkL; rw [← hn.out]; exact he3.out.1 h3)
        have kf := kept_put2v w3 w.heap.size (.slice a n c) (.slice ta tn tc)
        have cF := hid (cells_put2v (.slice a n c) (.slice ta tn tc) k3)
        have bF := hid ((Below.tr b0.out b3).trans (kf.below (Nat.le_refl _)))
        have hPF : Hid (∃ lo, w.heap.size ≤ lo ∧ PoolV lo (bs, ts) (.agg #[.slice a n c, .slice ta tn tc]) (put2v w3 w.heap.size (.slice a n c) (.slice ta tn tc))) := hid (by
          have h1 := hV.out.only (Only.of_below (M := fun _ => False) bA.out) (fun _ _ m => m)
          have h2 := h1.only (Only.of_below (M := fun _ => False) b3) (fun _ _ m => m)
          have h4 := h2.only (Only.of_kept (M := fun k => k = w.heap.size) kf rfl) (fun b hb e => by have := hszw.out; omega)
          exact ⟨_, by have := hszw.out; omega, h4⟩)
        unfold put2v at cF bF hPF
        clear k3 kA3 kf b3 p0 p1
        go_wp2_with fail
        have c0 := cF.out.cell 0
        have c1 := cF.out.cell 1
        simp only [List.getElem?_toArray, List.getElem?_cons_zero, List.getElem?_cons_succ] at c0 c1
        refine bodyPost_ret (v := .tuple #[.agg #[.slice a n c, .slice ta tn tc], .int .i64 0]) (by rw [results_cell_tmp rfl]; go_simp) rfl ⟨.inr ⟨bs, ts, a, n, c, ta, tn, tc, rfl, hp.out, hok.out, hn.out, hPF.out⟩, bF.out⟩
      · have h3' : (e3 == 0) = false := by simp [h3]
        have hnok : Hid (¬ OkL bs ts) := hid (fun f => h3 (he3.out.2 (by rw [hn.out]; exact f)))
        have cF := hid (cells_put2v (.slice none 0 0) (.slice none 0 0) k3)
        have bF := hid ((Below.tr b0.out b3).trans ((kept_put2v w3 w.heap.size (.slice none 0 0) (.slice none 0 0)).below (Nat.le_refl _)))
        unfold put2v at cF bF
        clear k3 kA3 b3 p0 p1
        go_wp2_with fail
        have c0 := cF.out.cell 0
        have c1 := cF.out.cell 1
        simp only [List.getElem?_toArray, List.getElem?_cons_zero, List.getElem?_cons_succ] at c0 c1
        refine bodyPost_ret (v := .tuple #[.agg #[.slice none 0 0, .slice none 0 0], .int .i64 e3]) (by rw [results_cell_tmp rfl]; go_simp) rfl ⟨.inl ⟨e3, rfl, h3, fun bs' ts' _ h f => ?_, fun _ h => absurd hp.out (h _)⟩, bF.out⟩
        rw [hp.out] at h
        simp only [Option.some.injEq, Prod.mk.injEq, and_true] at h
        obtain ⟨rfl, rfl⟩ := h
        exact hnok.out f
    · replace hno := hid hno
      have bA := hid (below_alloc w1 (.cells #[.slice none 0 0, .slice none 0 0] 27))
      replace k0 := (k0.out.below b1).below bA.out
      replace b0 := hid (Below.tr (Below.tr b0.out b1) bA.out)
      clear b1
      go_upto_region 4 with fail
      generalize w1.alloc (.cells #[.slice none 0 0, .slice none 0 0] 27) = w2 at *
      have r0 := k0.cell 0
      have r1 := k0.cell 1
      have r2 := k0.frozen 0
      have r3 := k0.frozen 1
      simp at r0 r1
      have cF := hid (cells_put2v (.slice none 0 0) (.slice none 0 0) k0)
      have bF := hid (b0.out.trans ((kept_put2v w2 w.heap.size (.slice none 0 0) (.slice none 0 0)).below (Nat.le_refl _)))
      unfold put2v at cF bF
      clear k0
      go_wp2_with fail
      have c0 := cF.out.cell 0
      have c1 := cF.out.cell 1
      simp only [List.getElem?_toArray, List.getElem?_cons_zero, List.getElem?_cons_succ] at c0 c1
      refine bodyPost_ret (v := .tuple #[.agg #[.slice none 0 0, .slice none 0 0], .int .i64 9]) (by rw [results_cell_tmp rfl]; go_simp) rfl ⟨.inl ⟨9, rfl, by omega, fun bs ts _ h => absurd h (hno.out _), fun _ _ => rfl⟩, bF.out⟩
theorem read_any (Q : Nat → Prop) (ba : Option Addr) (bn bc : Nat) (b : List Int) (w : World) (hN : NumsAt Q .u8 w ba bn b) (hcap : bn ≤ bc) (hbig : bc ≤ maxLen) (hnil : ba = none → bc = 0) :
    Calls Tryz.prog 90 #[.slice ba bn bc] w fun e w' => RetR7 e w' b ∧ Below w.heap.size w w' :=
  (read_new Q ba bn bc b w hN hcap hbig hnil).mono fun e w' h => ⟨h.1.old, h.2⟩
end Go.Proofs.YtihkljfcplfldaaGreat
