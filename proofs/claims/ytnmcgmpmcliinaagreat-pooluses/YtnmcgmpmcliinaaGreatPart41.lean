/-
  PldN, PldC, PldW in one text. Nothing here is trusted.
-/
import Derived.Test.YtnmcgmpmcliinaaGreatPart40
import Derived.Test.YtnmcgmpmcliinaaGreatPart39
import Derived.Test.YtnmcgmpmcliinaaGreatPart38
set_option linter.unusedVariables false
namespace Go.Proofs.YtnmcgmpmcliinaaGreat
open Go.RowKit
theorem Tryz.infoTn : (Tryz.prog.info? 42).map (fun i => (i.zero, i.size, i.bytes)) = some (some (.agg #[.int .i64 0, .int .i64 0, .slice none 0 0]), 3, 40) := by kernel_rfl
theorem Only.snaps {M : Nat → Prop} {a b : World} (h : Only M a b) {Q : Nat → Prop} {x : Option Addr} {n : Nat} {l : List SnapE} (he : SnapsAt Q a x n l) (hm : ∀ k, Q k → ¬ M k) : SnapsAt Q b x n l := by
  refine ⟨he.1, fun hn => ?_⟩
  obtain ⟨g, off, rfl, hlt, hq, hc⟩ := he.2 hn
  refine ⟨g, off, rfl, Nat.lt_of_lt_of_le hlt h.size, hq, fun i hi => ?_⟩
  obtain ⟨fa, fn, fc, hs⟩ := hc i hi
  exact ⟨fa, fn, fc, (h.cell (p := ⟨g, off + i * 2, none⟩) hlt (hm g hq)).trans hs.c0, (h.cell (p := ⟨g, off + i * 2 + 1, none⟩) hlt (hm g hq)).trans hs.c1, h.ents hs.files hm, hs.small, hs.caps⟩
theorem Only.set {M : Nat → Prop} {a b : World} (h : Only M a b) {Q : Nat → Prop} {v : SetV} {x : SetE} (he : SetAt Q a v x) (hm : ∀ k, Q k → ¬ M k) : SetAt Q b v x := ⟨he.name, he.small, h.ents he.files hm, h.snaps he.snaps hm, he.caps⟩
theorem Only.sets {M : Nat → Prop} {a b : World} (h : Only M a b) {Q : Nat → Prop} {x : Option Addr} {n : Nat} {l : List SetE} (he : SetsAt Q a x n l) (hm : ∀ k, Q k → ¬ M k) : SetsAt Q b x n l := by
  refine ⟨he.1, fun hn => ?_⟩
  obtain ⟨g, off, rfl, hlt, hq, hc⟩ := he.2 hn
  refine ⟨g, off, rfl, Nat.lt_of_lt_of_le hlt h.size, hq, fun i hi => ?_⟩
  obtain ⟨v, hs⟩ := hc i hi
  exact ⟨v, (h.cell (p := ⟨g, off + i * 3, none⟩) hlt (hm g hq)).trans hs.c0, (h.cell (p := ⟨g, off + i * 3 + 1, none⟩) hlt (hm g hq)).trans hs.c1, (h.cell (p := ⟨g, off + i * 3 + 2, none⟩) hlt (hm g hq)).trans hs.c2, h.set hs.ok hm⟩
theorem Only.tens {M : Nat → Prop} {a b : World} (h : Only M a b) {Q : Nat → Prop} {x : Option Addr} {n : Nat} {l : List TenE} (he : TensAt Q a x n l) (hm : ∀ k, Q k → ¬ M k) : TensAt Q b x n l := by
  refine ⟨he.1, fun hn => ?_⟩
  obtain ⟨g, off, rfl, hlt, hq, hc⟩ := he.2 hn
  refine ⟨g, off, rfl, Nat.lt_of_lt_of_le hlt h.size, hq, fun i hi => ?_⟩
  obtain ⟨sa, sn, sc, hs⟩ := hc i hi
  exact ⟨sa, sn, sc, (h.cell (p := ⟨g, off + i * 3, none⟩) hlt (hm g hq)).trans hs.c0, (h.cell (p := ⟨g, off + i * 3 + 1, none⟩) hlt (hm g hq)).trans hs.c1, (h.cell (p := ⟨g, off + i * 3 + 2, none⟩) hlt (hm g hq)).trans hs.c2, h.sets hs.ok.sets hm, hs.ok.kb, hs.ok.qb, hs.ok.caps⟩
theorem kept_drew (g : Nat) (w : World) : Kept g w w.drew := ⟨rfl, rfl, rfl, rfl, fun _ _ => rfl⟩
def RetNw (base : Nat) (e : Ending) (w : World) (n : Nat) (l : List TenE) : Prop :=
  ∃ (g c : Nat) (ta : Option Addr) (tn tc : Nat), e = .returned (.tuple #[.agg #[.slice (some ⟨g, 0, none⟩) n c, .slice ta tn tc], .int .i64 0]) ∧ base ≤ g ∧ g < w.heap.size ∧ Blocks (fun b => base ≤ b) w g 0 n (fun _ => Blk.zero) ∧ TensAt (fun b => base ≤ b) w ta tn l ∧ tn ≤ tc
theorem make_2 (w : World) : (Instr.makeSlice 25 (.int .i64 2) (.int .i64 2)).run Tryz.prog w = .ok (.slice (some ⟨w.heap.size, 0, none⟩) 2 2) (w.alloc (.cells #[.int .i64 0, .int .i64 0, .slice none 0 0, .int .i64 0, .int .i64 0, .slice none 0 0] 42)) := by
  obtain ⟨i0, hi, hz0, hz1, hz2⟩ := info_parts Tryz.infoTn
  rw [run_makeSlice (P := Tryz.prog) w 25 42 i0 _ Tryz.underlying25 hi hz0 .i64 .i64 2 2 (by omega) (by omega) (by rw [hz1]; decide) (by rw [hz2]; decide) (by decide), hz1]
  have e : madeCells (Value.agg #[.int .i64 0, .int .i64 0, .slice none 0 0]).cells (Int.toNat 2 * 3) = #[.int .i64 0, .int .i64 0, .slice none 0 0, .int .i64 0, .int .i64 0, .slice none 0 0] := by
    first
    | rfl
    | simp [madeCells, Value.cells, Array.range_succ, Array.range_zero']
    | kernel_rfl
  rw [e]
  rfl
set_option maxHeartbeats 4000000 in
set_option maxRecDepth 100000 in
theorem new2_any (n : Nat) (k0 k1 q0 q1 : Int) (kb qb : Nat) (w : World) (hn : n ≤ 400) (hk : CellsAt w kb #[.int .i64 k0, .int .i64 k1] 3) (hq : CellsAt w qb #[.int .i64 q0, .int .i64 q1] 3) (hb : (-9223372036854775808 ≤ k0 ∧ k0 ≤ 9223372036854775807) ∧ (-9223372036854775808 ≤ k1 ∧ k1 ≤ 9223372036854775807) ∧ (-9223372036854775808 ≤ q0 ∧ q0 ≤ 9223372036854775807) ∧ (-9223372036854775808 ≤ q1 ∧ q1 ≤ 9223372036854775807)) (hok : PoolOk n (fun _ => Blk.zero) [⟨k0, q0, []⟩, ⟨k1, q1, []⟩]) :
    Calls Tryz.prog 64 #[.int .i64 n, .slice (some ⟨kb, 0, none⟩) 2 2, .slice (some ⟨qb, 0, none⟩) 2 2] w fun e w' => RetNw w.heap.size e w' n [⟨k0, q0, []⟩, ⟨k1, q1, []⟩] ∧ Below w.heap.size w w' := by
  have hmk := make_2
  have b0 := hid (below_alloc w (.cells #[.slice none 0 0, .slice none 0 0] 27))
  have kB : Hid (CellsAt _ w.heap.size #[.slice none 0 0, .slice none 0 0] 27) := hid (cellsAt_alloc w _ _)
  have hkl := hk.lt
  have hql := hq.lt
  replace hk := hid (hk.below b0.out)
  replace hq := hid (hq.below b0.out)
  replace hok := hid hok
  have hszw : Hid ((w.alloc (.cells #[.slice none 0 0, .slice none 0 0] 27)).heap.size = w.heap.size + 1) := hid (by simp)
  go_enter Tryz.func64, Tryz.ntmps64
  go_upto_region 1 with fail
  generalize w.alloc (.cells #[.slice none 0 0, .slice none 0 0] 27) = w0 at *
  go_wp2_with fail
  refine (storeNew_ok n w0 hn).mono ?_
  rintro e w1 ⟨⟨g, c, rfl, hg, hgl, hBl⟩, b1⟩
  replace hk := hid (hk.out.below b1)
  replace hq := hid (hq.out.below b1)
  replace kB := hid (kB.out.below b1)
  replace b0 := hid (Below.tr b0.out b1)
  clear b1
  have bS := hid (below_alloc w1 (.cells #[.slice (some ⟨g, 0, none⟩) n c] 24))
  have kS : Hid (CellsAt _ w1.heap.size #[.slice (some ⟨g, 0, none⟩) n c] 24) := hid (cellsAt_alloc w1 _ _)
  replace hBl := hid hBl
  go_wp2_with fail
  go_cut [10] from 28 (fun v10 wc => ∃ pb tb, v10 = .pointer (some ⟨pb, 0, none⟩) ∧ CellsAt wc pb #[.slice (some ⟨g, 0, none⟩) n c, .slice (some ⟨tb, 0, none⟩) 2 2] 27 ∧ CellsAt wc tb #[.int .i64 0, .int .i64 0, .slice none 0 0, .int .i64 0, .int .i64 0, .slice none 0 0] 42 ∧ Below w1.heap.size w1 wc ∧ pb ≠ tb ∧ w1.heap.size ≤ pb ∧ w1.heap.size ≤ tb)
  case first =>
    go_region
    all_goals (go_wp2_with fail; go_meet)
    · exact ⟨w1.heap.size + 1 + 1, w1.heap.size + 1, rfl, (cellsAt_alloc3 w1 _ _ _ _).below (below_drew _ _), ((cellsAt_alloc2 w1 _ _ _).below (below_alloc _ _)).below (below_drew _ _), (((below_alloc w1 _).alloc (by simp) _).alloc (by simp; omega) _).drew, by omega, by omega, by omega⟩
    · exact ⟨w1.heap.size + 1, w1.heap.size + 1 + 1, rfl, ((cellsAt_alloc2 w1 _ _ _).below (below_alloc _ _)).below (below_drew _ _), (cellsAt_alloc3 w1 _ _ _ _).below (below_drew _ _), (((below_alloc w1 _).alloc (by simp) _).alloc (by simp; omega) _).drew, by omega, by omega, by omega⟩
  case rest =>
    obtain ⟨pb, tb, rfl, hp, ht, bc, hne, hpb, htb⟩ := hcut
    clear kS bS
    have hs0 := b0.out.size
    have hkd : kb ≠ tb := by omega
    have hqd : qb ≠ tb := by omega
    have hpl := hp.lt
    have d0 := hp.cell 0
    have d1 := hp.cell 1
    simp at d0 d1
    replace hp := hid hp
    replace ht := hid ht
    go_wp2_with fail
    clear d0 d1
    go_loopw [36] (fun v wr => ∃ j : Nat, v = .int .i64 j ∧ Kept tb wc wr ∧ ((j = 0 ∧ CellsAt wr tb #[.int .i64 0, .int .i64 0, .slice none 0 0, .int .i64 0, .int .i64 0, .slice none 0 0] 42) ∨ (j = 1 ∧ CellsAt wr tb #[.int .i64 k0, .int .i64 q0, .slice none 0 0, .int .i64 0, .int .i64 0, .slice none 0 0] 42) ∨ (j = 2 ∧ CellsAt wr tb #[.int .i64 k0, .int .i64 q0, .slice none 0 0, .int .i64 k1, .int .i64 q1, .slice none 0 0] 42))) (fun v _ => 2 - (Go.RowKit.intOf v).toNat)
    case atStart => exact ⟨0, rfl, Kept.refl _ _, .inl ⟨rfl, ht.out⟩⟩
    case round =>
      clear ht
      obtain ⟨j, rfl, hkp, hst⟩ := hrel
      have hpw := (Only.of_kept (M := fun k => k = tb) hkp rfl).cells hp.out hne
      have p0 := hpw.cell 0
      have p1 := hpw.cell 1
      simp at p0 p1
      have hkw := (Only.of_kept (M := fun k => k = tb) hkp rfl).cells (hk.out.below bc) hkd
      have hqw := (Only.of_kept (M := fun k => k = tb) hkp rfl).cells (hq.out.below bc) hqd
      replace hpw := hid hpw
      rcases hst with ⟨rfl, ht⟩ | ⟨rfl, ht⟩ | ⟨rfl, ht⟩
      · have y0 := ht.cell 0
        have y1 := ht.cell 1
        have y2 := ht.cell 2
        have z0 := ht.frozen 0
        have z1 := ht.frozen 1
        have z2 := ht.frozen 2
        have x0 := hkw.cell 0
        have x1 := hqw.cell 0
        simp at y0 y1 y2 x0 x1
        have ht2 := ((ht.set 0 (.int .i64 k0)).set 1 (.int .i64 q0)).set 2 (.slice none 0 0)
        simp only [List.setIfInBounds_toArray, List.set_cons_succ, List.set_cons_zero] at ht2
        replace ht2 := hid ht2
        have hk2 := hid (hkp.trans (Kept.setCell (g := tb) (Kept.setCell (g := tb) (Kept.setCell (g := tb) (Kept.refl _ wr) (p := ⟨tb, 0, none⟩) rfl (.int .i64 k0)) (p := ⟨tb, 1, none⟩) rfl (.int .i64 q0)) (p := ⟨tb, 2, none⟩) rfl (.slice none 0 0)))
        clear ht
        go_wp2_with fail
        go_region
        all_goals (go_wp2_with fail; go_roundw)
        all_goals first
          | exact ⟨1, by go_num, hk2.out.trans (kept_drew _ _), .inr (.inl ⟨rfl, ht2.out.below (below_drew _ _)⟩)⟩
          | (simp [Go.RowKit.intOf])
      · have y0 := ht.cell 3
        have y1 := ht.cell 4
        have y2 := ht.cell 5
        have z0 := ht.frozen 3
        have z1 := ht.frozen 4
        have z2 := ht.frozen 5
        have x0 := hkw.cell 1
        have x1 := hqw.cell 1
        simp at y0 y1 y2 x0 x1
        have ht2 := ((ht.set 3 (.int .i64 k1)).set 4 (.int .i64 q1)).set 5 (.slice none 0 0)
        simp only [List.setIfInBounds_toArray, List.set_cons_succ, List.set_cons_zero] at ht2
        replace ht2 := hid ht2
        have hk2 := hid (hkp.trans (Kept.setCell (g := tb) (Kept.setCell (g := tb) (Kept.setCell (g := tb) (Kept.refl _ wr) (p := ⟨tb, 3, none⟩) rfl (.int .i64 k1)) (p := ⟨tb, 4, none⟩) rfl (.int .i64 q1)) (p := ⟨tb, 5, none⟩) rfl (.slice none 0 0)))
        clear ht
        go_wp2_with fail
        go_region
        all_goals (go_wp2_with fail; go_roundw)
        all_goals first
          | exact ⟨2, by go_num, hk2.out.trans (kept_drew _ _), .inr (.inr (⟨rfl, ht2.out.below (below_drew _ _)⟩))⟩
          | (simp [Go.RowKit.intOf])
      · replace hkw := hid hkw
        replace hqw := hid hqw
        have hgt : g ≠ tb := by omega
        have hw0 : Hid (w.heap.size < w0.heap.size) := hid (by have := hszw.out; omega)
        have hBw := Blocks.kept (g := tb) ((Blocks.weaken hBl.out (R := fun b => w0.heap.size ≤ b ∧ b < w1.heap.size) (fun b hb q => ⟨q, hb⟩)).below bc) hgt (fun b hb e => by omega) hkp
        have hSt : StoreAt wr (some ⟨g, 0, none⟩) n (fun _ => Blk.zero) := fun _ => ⟨g, 0, rfl, by rw [hkp.size]; have := bc.size; omega, Blocks.weaken hBw (fun _ _ _ => trivial)⟩
        have hTn : TensAt (fun b => w1.heap.size ≤ b) wr (some ⟨tb, 0, none⟩) 2 [⟨k0, q0, []⟩, ⟨k1, q1, []⟩] := ⟨rfl, fun _ => ⟨tb, 0, rfl, ht.lt, htb, fun i hi => by
          rcases (by omega : i = 0 ∨ i = 1) with rfl | rfl
          · exact ⟨none, 0, 0, ht.cell 0, ht.cell 1, ht.cell 2, setsAt_nil _ _ _, hb.1, hb.2.2.1, Nat.le_refl _⟩
          · exact ⟨none, 0, 0, ht.cell 3, ht.cell 4, ht.cell 5, setsAt_nil _ _ _, hb.2.1, hb.2.2.2, Nat.le_refl _⟩⟩⟩
        have bT := hid (b0.out.trans ((bc.trans (hkp.below htb)).mono hs0))
        have hP : Hid (PoolAt (fun _ => True) wr (some ⟨g, 0, none⟩) n (fun _ => Blk.zero) (some ⟨tb, 0, none⟩) 2 [⟨k0, q0, []⟩, ⟨k1, q1, []⟩]) := hid ⟨hSt, hTn.weaken (fun _ _ _ => trivial)⟩
        have hBw' := hid hBw
        have hTn' := hid hTn
        clear ht hSt hTn hBw
        go_wp2_with fail
        refine (poolCheck_any (fun _ => True) (some ⟨g, 0, none⟩) n c (fun _ => Blk.zero) (some ⟨tb, 0, none⟩) 2 2 [⟨k0, q0, []⟩, ⟨k1, q1, []⟩] wr hP.out).mono ?_
        rintro e w4 ⟨⟨e4, rfl, he4⟩, b4⟩
        obtain rfl : e4 = 0 := he4.2 hok.out
        have hp4 := hpw.out.below b4
        have kB4 := ((Only.of_kept (M := fun k => k = tb) hkp rfl).cells (kB.out.below bc) (by have := kB.out.lt; omega)).below b4
        have r0 := hp4.cell 0
        have r1 := hp4.cell 1
        have s0 := kB4.cell 0
        have s1 := kB4.cell 1
        have s2 := kB4.frozen 0
        have s3 := kB4.frozen 1
        simp at r0 r1 s0 s1
        have kf := kept_put2p w4 w.heap.size (.slice (some ⟨g, 0, none⟩) n c) (.slice (some ⟨tb, 0, none⟩) 2 2)
        have bF := hid ((Below.tr bT.out b4).trans (kf.below (Nat.le_refl _)))
        have hBf := hid (Blocks.kept (g := w.heap.size) (hBw'.out.below b4) (by have := hw0.out; omega) (fun b hb e => by have := hw0.out; omega) kf)
        have hTf := hid ((Only.of_kept (M := fun k => k = w.heap.size) kf rfl).tens (hTn'.out.below b4) (fun b hb e => by have := hw0.out; omega))
        have hgF : Hid (g < (put2p w4 w.heap.size (.slice (some ⟨g, 0, none⟩) n c) (.slice (some ⟨tb, 0, none⟩) 2 2)).heap.size) := hid (by rw [kf.size]; have := b4.size; have := bc.size; rw [hkp.size] at *; omega)
        have cF := hid (cells_put2p (.slice (some ⟨g, 0, none⟩) n c) (.slice (some ⟨tb, 0, none⟩) 2 2) kB4)
        clear he4 hp4 kB4 kf b4 p0 p1
        unfold put2p at bF hBf hTf hgF cF
        go_wp2_with fail
        have c0 := cF.out.cell 0
        have c1 := cF.out.cell 1
        simp only [List.getElem?_toArray, List.getElem?_cons_zero, List.getElem?_cons_succ] at c0 c1
        refine bodyPost_ret (v := .tuple #[.agg #[.slice (some ⟨g, 0, none⟩) n c, .slice (some ⟨tb, 0, none⟩) 2 2], .int .i64 0]) (by rw [results_cell_tmp rfl]; go_simp) rfl ⟨⟨g, c, _, 2, 2, rfl, by have := hw0.out; omega, hgF.out, Blocks.weaken hBf.out (fun b _ hb => by have := hw0.out; omega), hTf.out.weaken (fun b _ hb => by have := hw0.out; omega), Nat.le_refl _⟩, bF.out⟩
end Go.Proofs.YtnmcgmpmcliinaaGreat

namespace Go.Proofs.YtnmcgmpmcliinaaGreat
open Go.RowKit
theorem poolOk_new {n : Nat} {l : List TenE} (hn : n ≤ 400) (hl : l.length ≤ 3) (ht : ∀ t ∈ l, (0 ≤ t.key ∧ t.key ≤ 1000) ∧ (0 ≤ t.quota ∧ t.quota ≤ 400) ∧ t.sets = []) (hq : sumQ l + 90 ≤ n) : PoolOk n (fun _ => Blk.zero) l := by
  have hr : ∀ t ∈ l, rootsT t = [] := fun t h => by unfold rootsT rootsL; rw [(ht t h).2.2]; rfl
  have hR : rootsP l = [] := by
    unfold rootsP
    rw [List.flatMap_eq_nil_iff]
    exact hr
  refine ⟨right_zero n hn, hl, fun t h => ⟨(ht t h).1, (ht t h).2.1, by rw [(ht t h).2.2]; simp, by rw [(ht t h).2.2]; simp, by rw [(ht t h).2.2]; simp⟩, fun _ => hq, fun t h => ⟨0, ⟨[], List.Pairwise.nil, fun x => ⟨fun hx => by simp at hx, fun hx => by rw [hr t h] at hx; exact (Clo.nil hx).elim⟩, rfl⟩, (ht t h).2.1.1⟩, ?_, fun k hk => by rw [outs_zero, hR]; rfl⟩
  refine List.pairwise_of_forall_mem_list (fun t h u _ x hx => ?_)
  rw [hr t h] at hx
  exact (Clo.nil hx).elim
theorem ok_l0 : PoolOk 110 B0 l0 := poolOk_new (by omega) (by simp) (fun t ht => by simp only [List.mem_cons, List.not_mem_nil, or_false] at ht; rcases ht with rfl | rfl <;> simp) (by simp [sumQ])
def RetTwo (e : Ending) (w : World) : Prop := ∃ (a : Option Addr) (c : Nat) (ta : Option Addr) (tc : Nat), e = .returned (.tuple #[.agg #[.slice a 110 c, .slice ta 2 tc], .bool true]) ∧ PoolAt (fun _ => True) w a 110 B0 ta 2 l0
set_option maxHeartbeats 4000000 in
set_option maxRecDepth 100000 in
theorem twoOf_any (w : World) : Calls Tryz.prog 24 #[.int .i64 4] w fun e w' => RetTwo e w' ∧ Below w.heap.size w w' := by
  have h0 := cellsAt_alloc w #[.slice none 0 0, .slice none 0 0] 27
  have h1 := cellsAt_alloc (w.alloc (.cells #[.slice none 0 0, .slice none 0 0] 27)) #[.int .i64 1, .int .i64 2] 3
  have h2 := cellsAt_alloc ((w.alloc (.cells #[.slice none 0 0, .slice none 0 0] 27)).alloc (.cells #[.int .i64 1, .int .i64 2] 3)) #[.int .i64 4, .int .i64 10] 3
  simp only [szB] at h1 h2
  have b0 := hid (Below.tr (Below.tr (below_alloc w (.cells #[.slice none 0 0, .slice none 0 0] 27)) (below_alloc _ (.cells #[.int .i64 1, .int .i64 2] 3))) (below_alloc _ (.cells #[.int .i64 4, .int .i64 10] 3)))
  replace h0 := hid ((h0.below (below_alloc _ (.cells #[.int .i64 1, .int .i64 2] 3))).below (below_alloc _ (.cells #[.int .i64 4, .int .i64 10] 3)))
  replace h1 := hid (h1.below (below_alloc _ (.cells #[.int .i64 4, .int .i64 10] 3)))
  replace h2 := hid h2
  go_enter Tryz.func24, Tryz.ntmps24
  go_wp2_with fail
  generalize ((w.alloc (.cells #[.slice none 0 0, .slice none 0 0] 27)).alloc (.cells #[.int .i64 1, .int .i64 2] 3)).alloc (.cells #[.int .i64 4, .int .i64 10] 3) = w0 at *
  refine (new2_any 110 1 2 4 10 (w.heap.size + 1) (w.heap.size + 1 + 1) w0 (by omega) h1.out h2.out (by omega) ok_l0).mono ?_
  rintro e w1 ⟨⟨g, c, ta, tn, tc, rfl, hg, hgl, hBk, hTs, htc⟩, b1⟩
  obtain rfl : tn = 2 := hTs.1.symm
  have bA := hid (below_alloc w1 (.cells #[.slice (some ⟨g, 0, none⟩) 110 c, .slice ta 2 tc] 27))
  have kA : Hid (CellsAt _ w1.heap.size #[.slice (some ⟨g, 0, none⟩) 110 c, .slice ta 2 tc] 27) := hid (cellsAt_alloc w1 _ _)
  have hlt0 := h0.out.lt
  have hg1 := hid (Nat.lt_of_lt_of_le hgl bA.out.size)
  replace hBk := hid (hBk.below bA.out)
  replace hTs := hid (hTs.below bA.out)
  have hsz1 := b1.size
  have hgw : Hid (w0.heap.size ≤ g) := hid hg
  replace b0 := hid (Below.tr (Below.tr b0.out b1) bA.out)
  replace h0 := hid ((h0.out.below b1).below bA.out)
  clear h1 h2
  have hne : w.heap.size ≠ w1.heap.size := by omega
  have hn0 := hid hlt0
  clear b1 hsz1 hlt0 hg hgl
  go_upto_region 2 with fail
  generalize w1.alloc (.cells #[.slice (some ⟨g, 0, none⟩) 110 c, .slice ta 2 tc] 27) = w2 at *
  have p0 := kA.out.cell 0
  have p1 := kA.out.cell 1
  have r0 := h0.out.cell 0
  have r1 := h0.out.cell 1
  have z0 := h0.out.frozen 0
  have z1 := h0.out.frozen 1
  simp only [List.getElem?_toArray, List.getElem?_cons_zero, List.getElem?_cons_succ] at p0 p1 r0 r1
  have hne' := hne.symm
  have hfin : Hid (RetTwo (.returned (.tuple #[.agg #[.slice (some ⟨g, 0, none⟩) 110 c, .slice ta 2 tc], .bool true])) (put2p w2 w.heap.size (.slice (some ⟨g, 0, none⟩) 110 c) (.slice ta 2 tc)).drew ∧ Below w.heap.size w (put2p w2 w.heap.size (.slice (some ⟨g, 0, none⟩) 110 c) (.slice ta 2 tc)).drew) := by
    refine hid ⟨⟨_, c, ta, tc, rfl, ?_⟩, ?_⟩
    · have kk := kept_put2p w2 w.heap.size (.slice (some ⟨g, 0, none⟩) 110 c) (.slice ta 2 tc)
      have on := Only.of_kept (M := fun b => b = w.heap.size) kk rfl
      have hn0' := hn0.out
      have hgw' := hgw.out
      refine PoolAt.below (w := put2p w2 w.heap.size (.slice (some ⟨g, 0, none⟩) 110 c) (.slice ta 2 tc)) ⟨fun _ => ⟨g, 0, rfl, Nat.lt_of_lt_of_le hg1.out on.size, (on.blocks hBk.out (fun e => by omega) hg1.out (fun b hb e => by omega)).weaken (fun _ _ _ => trivial)⟩, (on.tens hTs.out (fun b hb e => by omega)).weaken (fun _ _ _ => trivial)⟩ (below_drew _ _)
    · exact (b0.out.trans ((kept_put2p _ _ _ _).below (Nat.le_refl _))).trans (below_drew _ _)
  go_region
  go_wp2_with fail
  refine bodyPost_ret (v := .tuple #[.agg #[.slice (some ⟨g, 0, none⟩) 110 c, .slice ta 2 tc], .bool true]) (by rw [results_cell_tmp rfl]; go_simp) rfl ?_
  exact hfin.out
theorem okA (k p u : Int) (f : ByteArray) {bs : List Int} (h1 : f.size ≤ 1) (h2 : 0 ≤ k ∧ k ≤ 100) (h3 : 0 ≤ p ∧ p ≤ 100) (h4 : 0 ≤ u ∧ u ≤ 100) (h5 : nA.size ≤ 1) : AskE.ok ⟨k, nA, f, ⟨#[]⟩, p, u, bs⟩ := by
  have hm : (1 : Nat) ≤ maxLen := by unfold maxLen; omega
  exact ⟨⟨Nat.le_trans h5 hm, Nat.le_trans h1 hm, Nat.zero_le _⟩, by show _ ≤ k ∧ k ≤ _; omega, by show _ ≤ p ∧ p ≤ _; omega, by show _ ≤ u ∧ u ≤ _; omega⟩
abbrev fiveC (h : Nat) : Array Value := #[.int .i64 1, .string ⟨#[97]⟩, .string ⟨#[]⟩, .string ⟨#[]⟩, .int .i64 0, .int .i64 0, .slice none 0 0, .int .i64 3, .string ⟨#[97]⟩, .string ⟨#[102]⟩, .string ⟨#[]⟩, .int .i64 0, .int .i64 0, .slice (some ⟨h + 1, 0, none⟩) 3 3, .int .i64 3, .string ⟨#[97]⟩, .string ⟨#[102]⟩, .string ⟨#[]⟩, .int .i64 9, .int .i64 0, .slice (some ⟨h + 1 + 1, 0, none⟩) 1 1, .int .i64 11, .string ⟨#[97]⟩, .string ⟨#[102]⟩, .string ⟨#[]⟩, .int .i64 0, .int .i64 9, .slice none 0 0, .int .i64 11, .string ⟨#[97]⟩, .string ⟨#[102]⟩, .string ⟨#[]⟩, .int .i64 0, .int .i64 9, .slice none 0 0]
abbrev five (w : World) : World := (((w.alloc (.cells #[.int .i64 0, .int .i64 0, .int .i64 0, .int .i64 1, .int .i64 0] 3)).alloc (.cells #[.int .u8 104, .int .u8 101, .int .u8 121] 5 (3, 4))).alloc (.cells #[.int .u8 120] 5 (1, 2))).alloc (.cells (fiveC w.heap.size) 30)
theorem asks5 (w : World) : NumsAt (fun _ => True) .i64 (five w) (some ⟨w.heap.size, 0, none⟩) 5 [0, 0, 0, 1, 0] ∧ AsksAt (five w) (some ⟨w.heap.size + 1 + 1 + 1, 0, none⟩) 5 [ask1, ask2, ask3, ask4, ask4] ∧ Below w.heap.size w (five w) := by
  have ba := below_alloc w (.cells #[.int .i64 0, .int .i64 0, .int .i64 0, .int .i64 1, .int .i64 0] 3)
  have bb := below_alloc (w.alloc (.cells #[.int .i64 0, .int .i64 0, .int .i64 0, .int .i64 1, .int .i64 0] 3)) (.cells #[.int .u8 104, .int .u8 101, .int .u8 121] 5 (3, 4))
  have bc := below_alloc ((w.alloc (.cells #[.int .i64 0, .int .i64 0, .int .i64 0, .int .i64 1, .int .i64 0] 3)).alloc (.cells #[.int .u8 104, .int .u8 101, .int .u8 121] 5 (3, 4))) (.cells #[.int .u8 120] 5 (1, 2))
  have bd := below_alloc (((w.alloc (.cells #[.int .i64 0, .int .i64 0, .int .i64 0, .int .i64 1, .int .i64 0] 3)).alloc (.cells #[.int .u8 104, .int .u8 101, .int .u8 121] 5 (3, 4))).alloc (.cells #[.int .u8 120] 5 (1, 2))) (.cells (fiveC w.heap.size) 30)
  have k0 := (((cellsAt_alloc w #[.int .i64 0, .int .i64 0, .int .i64 0, .int .i64 1, .int .i64 0] 3).below bb).below bc).below bd
  have n1 := ((lit_mark (w.alloc (.cells #[.int .i64 0, .int .i64 0, .int .i64 0, .int .i64 1, .int .i64 0] 3)) [104, 101, 121] 5 (3, 4) (by decide)).below bc).below bd
  have n2 := (lit_mark ((w.alloc (.cells #[.int .i64 0, .int .i64 0, .int .i64 0, .int .i64 1, .int .i64 0] 3)).alloc (.cells #[.int .u8 104, .int .u8 101, .int .u8 121] 5 (3, 4))) [120] 5 (1, 2) (by decide)).below bd
  have k3 := cellsAt_alloc (((w.alloc (.cells #[.int .i64 0, .int .i64 0, .int .i64 0, .int .i64 1, .int .i64 0] 3)).alloc (.cells #[.int .u8 104, .int .u8 101, .int .u8 121] 5 (3, 4))).alloc (.cells #[.int .u8 120] 5 (1, 2))) (fiveC w.heap.size) 30
  simp only [szB, List.length_cons, List.length_nil] at n1 n2 k3
  have nz : NumsAt (fun _ => True) .u8 (five w) none 0 [] := ⟨rfl, fun x hx => (by cases hx), fun h => absurd h (by omega)⟩
  refine ⟨⟨rfl, fun x hx => ?_, fun _ => ⟨w.heap.size, 0, rfl, k0.lt, trivial, fun i hi => ?_⟩⟩, ⟨rfl, fun _ => ⟨w.heap.size + 1 + 1 + 1, 0, rfl, k3.lt, fun i hi => ?_⟩⟩, Below.tr (Below.tr (Below.tr ba bb) bc) bd⟩
  · simp only [List.mem_cons, List.not_mem_nil, or_false] at hx
    rcases hx with rfl | rfl | rfl | rfl | rfl <;> decide
  · match i, hi with
    | 0, _ => exact k0.cell 0
    | 1, _ => exact k0.cell 1
    | 2, _ => exact k0.cell 2
    | 3, _ => exact k0.cell 3
    | 4, _ => exact k0.cell 4
  · match i, hi with
    | 0, _ => exact ⟨none, 0, 0, k3.cell 0, k3.cell 1, k3.cell 2, k3.cell 3, k3.cell 4, k3.cell 5, k3.cell 6, nz, okA _ _ _ _ (by decide) (by decide) (by decide) (by decide) (by decide), Nat.le_refl _⟩
    | 1, _ => exact ⟨_, 3, 3, k3.cell 7, k3.cell 8, k3.cell 9, k3.cell 10, k3.cell 11, k3.cell 12, k3.cell 13, n1, okA _ _ _ _ (by decide) (by decide) (by decide) (by decide) (by decide), Nat.le_refl _⟩
    | 2, _ => exact ⟨_, 1, 1, k3.cell 14, k3.cell 15, k3.cell 16, k3.cell 17, k3.cell 18, k3.cell 19, k3.cell 20, n2, okA _ _ _ _ (by decide) (by decide) (by decide) (by decide) (by decide), Nat.le_refl _⟩
    | 3, _ => exact ⟨none, 0, 0, k3.cell 21, k3.cell 22, k3.cell 23, k3.cell 24, k3.cell 25, k3.cell 26, k3.cell 27, nz, okA _ _ _ _ (by decide) (by decide) (by decide) (by decide) (by decide), Nat.le_refl _⟩
    | 4, _ => exact ⟨none, 0, 0, k3.cell 28, k3.cell 29, k3.cell 30, k3.cell 31, k3.cell 32, k3.cell 33, k3.cell 34, nz, okA _ _ _ _ (by decide) (by decide) (by decide) (by decide) (by decide), Nat.le_refl _⟩
set_option maxHeartbeats 8000000 in
set_option maxRecDepth 100000 in
theorem pooled_any : PooledIs := by
  intro w
  go_enter Tryz.func8, Tryz.ntmps8
  go_wp2_with fail
  refine (twoOf_any w).mono ?_
  rintro e w1 ⟨⟨a, c, ta, tc, rfl, hP⟩, b1⟩
  have bA := hid (below_alloc w1 (.cells #[.slice a 110 c, .slice ta 2 tc] 27))
  have kA : Hid (CellsAt _ w1.heap.size #[.slice a 110 c, .slice ta 2 tc] 27) := hid (cellsAt_alloc w1 _ _)
  replace hP := hid (hP.below bA.out)
  replace b1 := hid (Below.tr b1 bA.out)
  go_upto_region 4 with fail
  generalize w1.alloc (.cells #[.slice a 110 c, .slice ta 2 tc] 27) = w2 at *
  have p0 := kA.out.cell 0
  have p1 := kA.out.cell 1
  simp only [List.getElem?_toArray, List.getElem?_cons_zero, List.getElem?_cons_succ] at p0 p1
  have kc := Joins.run_convert_bytes_const_at (P := Tryz.prog) (w2.alloc (.cells #[.int .i64 0, .int .i64 0, .int .i64 0, .int .i64 1, .int .i64 0] 3)) 28 5 #[.int .u8 104, .int .u8 101, .int .u8 121] 3 3 (w2.heap.size + 1) (by simp) Tryz.underlying28 Tryz.underlying5
  have kd := Joins.run_convert_bytes_const_at (P := Tryz.prog) ((w2.alloc (.cells #[.int .i64 0, .int .i64 0, .int .i64 0, .int .i64 1, .int .i64 0] 3)).alloc (.cells #[.int .u8 104, .int .u8 101, .int .u8 121] 5 (3, 4))) 28 5 #[.int .u8 120] 1 1 (w2.heap.size + 1 + 1) (by simp) Tryz.underlying28 Tryz.underlying5
  go_wp2_with fail
  obtain ⟨hW, hA, b5⟩ := asks5 w2
  refine (prun_any (fun _ => True) a 110 c B0 ta 2 tc l0 _ 5 [0, 0, 0, 1, 0] _ 5 5 [ask1, ask2, ask3, ask4, ask4] (five w2) (hP.out.below b5) ok_l0 hW hA (by omega)).mono ?_
  rintro e w6 ⟨hret, b6⟩
  unfold RetRun at hret
  obtain ⟨g, ta', tc', rb, D, l', v, rfl, hPR, hAns, hokR, hruns, hlast⟩ := hret
  obtain ⟨r, N1, N2, N3, N4, e5, N5, hys, rfl, hfile⟩ := pooled_run ok_l0 hruns
  have hv : (v 1).e = 0 ∧ (v 2).e = 8 ∧ (v 3).e = 5 := by
    have e : ansL v 5 = [((v 0).e, (v 0).N), ((v 1).e, (v 1).N), ((v 2).e, (v 2).N), ((v 3).e, (v 3).N), ((v 4).e, (v 4).N)] := rfl
    rw [e] at hys
    simp only [List.cons.injEq, Prod.mk.injEq] at hys
    exact ⟨hys.2.1.1, hys.2.2.1.1, hys.2.2.2.1.1⟩
  have hrd := hlast 4 0 ask4 ⟨1, 4, [x1 r]⟩ (x1 r) rfl rfl rfl (by simp) rfl (.inl rfl) ⟨nF, r, 3⟩ (by simp) rfl rfl ⟨⟨by decide, by decide⟩, ⟨by decide, by decide⟩⟩
  obtain ⟨_, hln, hNy⟩ := hrd
  have eR : readL (fileL 1 (leafAt D 3 r)) 3 0 9 = hey := by rw [hfile]; decide +kernel
  have hNy' : NumsAt (fun b => 0 ≤ b) .u8 w6 (v 4).y (v 4).ln hey := by rw [← eR]; exact hNy
  have bB := hid (below_alloc w6 (.cells #[.slice (some ⟨g, 0, none⟩) 110 110, .slice ta' 2 tc'] 27))
  have kB : Hid (CellsAt _ w6.heap.size #[.slice (some ⟨g, 0, none⟩) 110 110, .slice ta' 2 tc'] 27) := hid (cellsAt_alloc w6 _ _)
  replace hPR := hid (hPR.below bB.out)
  replace hAns := hAns.below bB.out
  replace hNy' := hNy'.below bB.out
  have hbel : Hid (Below w.heap.size w _) := hid (Below.tr (Below.tr (Below.tr b1.out b5) b6) bB.out)
  replace hokR := hid hokR
  clear hruns hlast hys hNy hW hA b5 b6 kc kd hfile eR p0 p1 hP kA bA b1
  go_upto_region 5 with fail
  generalize w6.alloc (.cells #[.slice (some ⟨g, 0, none⟩) 110 110, .slice ta' 2 tc'] 27) = w7 at *
  have c1 := (hAns.cells (i := 1) (by omega)).1
  have c2 := (hAns.cells (i := 2) (by omega)).1
  have c3 := (hAns.cells (i := 3) (by omega)).1
  have c4 := (hAns.cells (i := 4) (by omega)).2.2.2
  rw [hv.1] at c1
  rw [hv.2.1] at c2
  rw [hv.2.2] at c3
  simp only [Nat.reduceMul, Nat.reduceAdd] at c1 c2 c3 c4
  have hcv := run_string_of w7 (v 4).lc hNy'
  have hst : strOfNums hey = ⟨#[104, 101, 121]⟩ := by decide +kernel
  rw [hst] at hcv
  have q0 := kB.out.cell 0
  have q1 := kB.out.cell 1
  simp only [List.getElem?_toArray, List.getElem?_cons_zero, List.getElem?_cons_succ] at q0 q1
  generalize (v 4).y = ya at *
  generalize (v 4).ln = yn at *
  generalize (v 4).lc = yc at *
  replace hAns := hid hAns
  replace hNy' := hid hNy'
  replace hv := hid hv
  go_wp2_with fail
  refine (poolCheck_any (fun _ => True) (some ⟨g, 0, none⟩) 110 110 D ta' 2 tc' (l2 r) w7 hPR.out).mono ?_
  rintro e w8 ⟨⟨e8, rfl, he8⟩, b8⟩
  obtain rfl : e8 = 0 := he8.2 hokR.out
  clear he8 hcv c1 c2 c3 c4 q0 q1
  go_wp2_with fail
  go_ret
  exact ⟨rfl, Below.tr hbel.out b8⟩
end Go.Proofs.YtnmcgmpmcliinaaGreat

namespace Go.Proofs.YtnmcgmpmcliinaaGreat
open Go.ChangeShapes Go.WideShapes Go.RowKit Go.Deep
theorem poolUses_walk (pa : Option Addr) (n c : Nat) (B : Nat → Blk) (ta : Option Addr) (tn tc : Nat) (l : List TenE) (i : Int) (a : AskE) (ba : Option Addr) (bn bc : Nat) (kk : Int) (w : World) (hP : PoolAt (fun _ => True) w pa n B ta tn l) (hao : a.ok) (hB : NumsAt (fun _ => True) .u8 w ba bn a.bytes) :
    Calls Tryz.prog 4 #[.agg #[.slice pa n c, .slice ta tn tc], .int .i64 i, .agg #[.int .i64 a.kind, .string a.set, .string a.file, .string a.to, .int .i64 a.pos, .int .i64 a.num, .slice ba bn bc], .int .i64 kk] w fun e w' => e = .returned (.bool true) ∧ Below w.heap.size w w' :=
  poolUses_of pooled_any (fun _ => True) pa n c B ta tn tc l i kk a ba bn bc w hP hao hB
section
variable {H : Type} {enc : TypeId × Value → H} {W : World}
set_option maxRecDepth 100000 in
theorem ask_one {r : Reach} {b0 : Nat} {v : Value} {d : DataW H} {p : List MemPlace} (hv : Value.okWide Tryz.prog W r b0 30 v) (h : DataW.Trod enc Tryz.prog W 0 (fun _ => true) true 30 v d p) :
    ∃ (x : AskE) (ba : Option Addr) (bn bc : Nat), v = .agg #[.int .i64 x.kind, .string x.set, .string x.file, .string x.to, .int .i64 x.pos, .int .i64 x.num, .slice ba bn bc] ∧ x.ok ∧ NumsAt (fun _ => True) .u8 W ba bn x.bytes := by
  obtain ⟨cs, rfl, hsz⟩ := okWide_struct Tryz.underlying30 hv
  obtain ⟨fuel, hf⟩ := h
  have hsz7 : cs.size = 7 := hsz.trans (by kernel_rfl)
  obtain ⟨l⟩ := cs
  simp only [Value.cells] at hf
  obtain ⟨x, ba, bn, bc, e, hok, _, hN⟩ := ask_open hf
  refine ⟨x, ba, bn, bc, ?_, hok, hN⟩
  congr 1
  match l, hsz7 with
  | [c0, c1, c2, c3, c4, c5, c6], _ =>
    simp at e
    obtain ⟨rfl, rfl, rfl, rfl, rfl, rfl, rfl⟩ := e
    rfl
end
end Go.Proofs.YtnmcgmpmcliinaaGreat
