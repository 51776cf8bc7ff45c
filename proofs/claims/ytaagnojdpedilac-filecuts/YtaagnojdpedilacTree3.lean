/-
  Contract of tree.kidsOf. Nothing here is trusted.
-/
import Derived.Test.YtaagnojdpedilacTree2
set_option linter.unusedVariables false
namespace Go.Proofs.Ytaagnojdpedilac
open Go.RowKit

theorem Try.infoInt1 : (Try.prog.info? 3).map (·.size) = some 1 := by kernel_rfl

theorem copy4 (w : World) (g kb ko kc : Nat) (k0 k1 k2 k3 : Int) (t : TypeId) (hg : CellsAt w g #[.int .i64 0, .int .i64 0, .int .i64 0, .int .i64 0] t)
    (c0 : w.cell? ⟨kb, ko, none⟩ = some (.int .i64 k0)) (c1 : w.cell? ⟨kb, ko + 1, none⟩ = some (.int .i64 k1)) (c2 : w.cell? ⟨kb, ko + 2, none⟩ = some (.int .i64 k2)) (c3 : w.cell? ⟨kb, ko + 3, none⟩ = some (.int .i64 k3)) :
    ∃ w', (∀ ty, (Builtin.copy_ #[37, 37] ty #[.slice (some ⟨g, 0, none⟩) 4 4, .slice (some ⟨kb, ko, none⟩) 4 kc]).run Try.prog w = .ok (goInt 4) w') ∧ CellsAt w' g #[.int .i64 k0, .int .i64 k1, .int .i64 k2, .int .i64 k3] t ∧ Kept g w w' := by
  refine ⟨w.setRow g #[.int .i64 k0, .int .i64 k1, .int .i64 k2, .int .i64 k3], fun ty => ?_, ?_, ⟨rfl, rfl, rfl, by simp [World.setRow], fun k hk => setRow_other w g k _ hk⟩⟩
  · have := run_copy_row (P := Try.prog) w 37 37 ty 3 g 0 4 4 ⟨kb, ko, none⟩ 4 kc _ t [.int .i64 k0, .int .i64 k1, .int .i64 k2, .int .i64 k3] Try.underlying37 Try.infoInt1 hg rfl (by
      intro j v hj
      match j, hj with
      | 0, hj => simp at hj; subst hj; exact c0
      | 1, hj => simp at hj; subst hj; exact c1
      | 2, hj => simp at hj; subst hj; exact c2
      | 3, hj => simp at hj; subst hj; exact c3
      | j + 4, hj => simp at hj) (by simp) (by intro v hv; simp at hv; rcases hv with rfl | rfl | rfl | rfl <;> rfl)
    simpa using this
  · exact setRow_heap w g _ _ t _ hg

theorem Try.info4 : (Try.prog.info? 82).map (fun i => (i.zero, i.size, i.bytes)) = some (some (.agg #[.int .i64 0, .int .i64 0, .int .i64 0, .int .i64 0]), 4, 32) := by kernel_rfl

set_option maxHeartbeats 2000000 in
theorem kidsOf_any (p : Addr) (a : Option Addr) (n c : Nat) (B : Nat → Blk) (x : Int) (k0 k1 k2 k3 : Int) (w : World) (hn : n ≤ 400) (h : PtrAt w p a n c B) (hx : x = 0 ∨ There n B x) (hk : kidsL B x = [k0, k1, k2, k3]) :
    Calls Try.prog 47 #[.pointer (some p), .int .i64 x] w fun e w' => e = .returned (.agg #[.int .i64 k0, .int .i64 k1, .int .i64 k2, .int .i64 k3]) ∧ Below w.heap.size w w' := by
  have b0 := (below_alloc w (.cells #[.int .i64 0, .int .i64 0, .int .i64 0, .int .i64 0] 82)).alloc (by simp) (.cells #[.int .i64 0, .int .i64 0, .int .i64 0, .int .i64 0] 82)
  have r1 : CellsAt _ w.heap.size #[.int .i64 0, .int .i64 0, .int .i64 0, .int .i64 0] 82 := (cellsAt_alloc w _ _).below (below_alloc _ (.cells #[.int .i64 0, .int .i64 0, .int .i64 0, .int .i64 0] 82))
  have r2 := cellsAt_alloc2 w (.cells #[.int .i64 0, .int .i64 0, .int .i64 0, .int .i64 0] 82) #[.int .i64 0, .int .i64 0, .int .i64 0, .int .i64 0] 82
  replace h := hid h
  replace r1 := hid r1
  replace r2 := hid r2
  by_cases h0 : x = 0
  · subst h0
    obtain ⟨rfl, rfl, rfl, rfl⟩ : k0 = 0 ∧ k1 = 0 ∧ k2 = 0 ∧ k3 = 0 := by rw [kidsL_zero] at hk; simp at hk; omega
    go_enter Try.func47, Try.ntmps47
    go_wp2_with fail
    refine bodyPost_ret (v := .agg #[.int .i64 0, .int .i64 0, .int .i64 0, .int .i64 0]) ?_ rfl ⟨rfl, b0⟩
    exact results_cell_row rfl _ _ w.heap.size _ _ _ _ rfl r1.out Try.underlying82 rfl (by kernel_rfl)
  · rcases hx with hx | hx
    · exact absurd hx h0
    have hx0' : (x == 0) = false := by simp [h0]
    obtain ⟨i, rfl⟩ : ∃ i : Nat, x = (i : Int) + 1 := ⟨(x - 1).toNat, by have := hx.1; omega⟩
    have hi : i < n := by have := hx.2.1; omega
    have hP := h.out.below b0
    have s1 := hP.cell
    obtain ⟨b, off, rfl, hlt, hB⟩ := hP.store (by omega)
    obtain ⟨ka, kn, kc, ba, bn, bc, hb⟩ := hB i hi
    have c2 := hb.c2
    have e1 : kidsL B ((i : Int) + 1) = (B i).kids := by unfold kidsL; rw [if_neg h0, show ((i : Int) + 1 - 1).toNat = i by omega]
    rw [e1] at hk
    have hkk := hb.kids
    rw [hk] at hkk
    obtain rfl : kn = 4 := hkk.1.symm
    obtain ⟨kb, ko, rfl, hkb, _, hc⟩ := hkk.2.2 (by omega)
    have q0 : World.cell? _ ⟨kb, ko, none⟩ = some (.int .i64 k0) := hc 0 (by omega)
    have q1 : World.cell? _ ⟨kb, ko + 1, none⟩ = some (.int .i64 k1) := hc 1 (by omega)
    have q2 : World.cell? _ ⟨kb, ko + 2, none⟩ = some (.int .i64 k2) := hc 2 (by omega)
    have q3 : World.cell? _ ⟨kb, ko + 3, none⟩ = some (.int .i64 k3) := hc 3 (by omega)
    clear hc hkk hk e1 hb hB hP hx
    go_enter Try.func47, Try.ntmps47
    go_upto_region 3 with fail
    have bd := b0.drew
    obtain ⟨w5, hcp, k5, kp5⟩ := copy4 _ (w.heap.size + 1) kb ko kc k0 k1 k2 k3 82 (r2.out.below (below_drew _ _)) q0 q1 q2 q3
    clear q0 q1 q2 q3
    replace k5 := hid k5
    replace kp5 := hid kp5
    go_cut [] from 8 (fun wc => CellsAt wc w.heap.size #[.int .i64 0, .int .i64 0, .int .i64 0, .int .i64 0] 82 ∧ CellsAt wc (w.heap.size + 1) #[.int .i64 k0, .int .i64 k1, .int .i64 k2, .int .i64 k3] 82 ∧ Below w.heap.size w wc)
    case first =>
      go_region_with (go_at_call 72; refine (at_ptr p b off n c i _ hn ?_ hi).mono ?_; exact s1; rintro e w1 ⟨rfl, rfl⟩)
      all_goals (go_wp2_with fail; go_meet; exact ⟨(by unfold CellsAt; rw [kp5.out.block w.heap.size (by omega)]; exact r1.out.below (below_drew _ _)), k5.out, bd.trans (kp5.out.below (by omega))⟩)
    case rest =>
      obtain ⟨m1, m2, bm⟩ := hcut
      clear hcp k5 kp5 bd r1 r2 b0 s1 hlt hkb c2 h
      have d0 := m1.cell 0
      have d1 := m1.cell 1
      have d2 := m1.cell 2
      have d3 := m1.cell 3
      have e0 := m1.frozen 0
      have e1 := m1.frozen 1
      have e2 := m1.frozen 2
      have e3 := m1.frozen 3
      have l0 := m2.cell 0
      have l1 := m2.cell 1
      have l2 := m2.cell 2
      have l3 := m2.cell 3
      simp at d0 d1 d2 d3 l0 l1 l2 l3
      replace m1 := hid m1
      replace m2 := hid m2
      go_wp2_with fail
      clear d0 d1 d2 d3 e0 e1 e2 e3 l0 l1 l2 l3
      rename_i wc
      have kk2 := kept_put4 wc w.heap.size 0 (.int .i64 k0) (.int .i64 k1) (.int .i64 k2) (.int .i64 k3)
      have kz := (((m1.out.set 0 (.int .i64 k0)).set 1 (.int .i64 k1)).set 2 (.int .i64 k2)).set 3 (.int .i64 k3)
      simp only [List.setIfInBounds_toArray, List.set_cons_succ, List.set_cons_zero] at kz
      refine bodyPost_ret (v := .agg #[.int .i64 k0, .int .i64 k1, .int .i64 k2, .int .i64 k3]) ?_ rfl ⟨rfl, bm.trans (kk2.below (Nat.le_refl _))⟩
      exact results_cell_row rfl _ _ w.heap.size _ _ _ _ rfl kz Try.underlying82 rfl (by kernel_rfl)
end Go.Proofs.Ytaagnojdpedilac
