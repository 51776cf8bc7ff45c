/-
  RdE, RdF, RdG in one text. Nothing here is trusted.
-/
import Derived.Test.YtihkljfcplfldaaGreatPart30
import Derived.Defers
import Derived.Recover
set_option linter.unusedVariables false
namespace Go.Proofs.YtihkljfcplfldaaGreat
open Go.RowKit

theorem Only.tens {M : Nat → Prop} {a b : World} (h : Only M a b) {Q : Nat → Prop} {x : Option Addr} {n : Nat} {l : List TenE} (he : TensAt Q a x n l) (hm : ∀ k, Q k → ¬ M k) : TensAt Q b x n l := by
  refine ⟨he.1, fun hn => ?_⟩
  obtain ⟨g, off, rfl, hlt, hq, hc⟩ := he.2 hn
  refine ⟨g, off, rfl, Nat.lt_of_lt_of_le hlt h.size, hq, fun i hi => ?_⟩
  obtain ⟨sa, sn, sc, hs⟩ := hc i hi
  exact ⟨sa, sn, sc, (h.cell (p := ⟨g, off + i * 3, none⟩) hlt (hm g hq)).trans hs.c0, (h.cell (p := ⟨g, off + i * 3 + 1, none⟩) hlt (hm g hq)).trans hs.c1, (h.cell (p := ⟨g, off + i * 3 + 2, none⟩) hlt (hm g hq)).trans hs.c2, h.sets hs.ok.sets hm, hs.ok.kb, hs.ok.qb, hs.ok.caps⟩

set_option maxHeartbeats 2000000 in
set_option maxRecDepth 100000 in
theorem rtenant_any (H rb : Nat) (l : List Int) (w : World) (hR : RdL H w rb l) :
    Calls Tryz.prog 164 #[.pointer (some ⟨rb, 0, none⟩)] w fun e w' => RetRx H w rb (tenP l) (fun x v w' => ∃ m : TenM, TenM.t m = x ∧ v = .agg #[.int .i64 m.t.key, .int .i64 m.t.quota, .slice m.sa m.sn m.sc] ∧ TenM.At (fun b => w.heap.size ≤ b) w' m) e w' := by
  have hmf : ∀ (fn : Fn) (first cap : Array Value) (w : World), (Instr.makeFunc fn first cap).run Tryz.prog w = .ok (.func fn first cap) w := fun _ _ _ _ => rfl
  have hlt := hid hR.lt
  have b0 := hid (below_alloc w (.cells #[.int .i64 0, .int .i64 0, .slice none 0 0] 42))
  have k0 : Hid (CellsAt _ w.heap.size #[.int .i64 0, .int .i64 0, .slice none 0 0] 42) := hid (cellsAt_alloc w _ _)
  replace hR := hid (hR.below b0.out)
  have hO := hid (Out.of_below (g := rb) b0.out)
  have hne : Hid (w.heap.size ≠ rb) := hid (by have := hlt.out; omega)
  have hsz : Hid ((w.alloc (.cells #[.int .i64 0, .int .i64 0, .slice none 0 0] 42)).heap.size = w.heap.size + 1) := hid (by simp)
  clear b0
  go_enter Tryz.func164, Tryz.ntmps164
  go_upto_region 1 with fail
  generalize w.alloc (.cells #[.int .i64 0, .int .i64 0, .slice none 0 0] 42) = w0 at *
  go_wp2_with fail
  refine (number_any H rb l w0 hR.out hR.out.byt).mono ?_
  rintro e w1 (⟨ky, l1, v, hp1, rfl, ⟨rfl, hk0, hk1⟩, hR1, hO1⟩ | ⟨hp1, rfl, hO1⟩)
  · replace hp1 := hid hp1
    replace hR1 := hid hR1
    replace k0 := hid (Out.cells hO1 k0.out hne.out)
    have hs1 : Hid (w.heap.size + 1 ≤ w1.heap.size) := hid (by have := hO1.size; have := hsz.out; omega)
    replace hO := hid (hO.out.trans hO1)
    clear hR hO1
    go_wp2_with fail
    refine (number_any H rb l1 w1 hR1.out hR1.out.byt).mono ?_
    rintro e w2 (⟨q, l2, v, hp2, rfl, ⟨rfl, hq0, hq1⟩, hR2, hO2⟩ | ⟨hp2, rfl, hO2⟩)
    · replace hp2 := hid hp2
      replace hR2 := hid hR2
      replace k0 := hid (Out.cells hO2 k0.out hne.out)
      have hs2 : Hid (w.heap.size + 1 ≤ w2.heap.size) := hid (Nat.le_trans hs1.out hO2.size)
      replace hO := hid (hO.out.trans hO2)
      clear hR1 hO2
      go_wp2_with fail
      refine (number_any H rb l2 w2 hR2.out hR2.out.byt).mono ?_
      rintro e w3 (⟨n, l3, v, hp3, rfl, ⟨rfl, hn0, hn1⟩, hR3, hO3⟩ | ⟨hp3, rfl, hO3⟩)
      · obtain ⟨m, rfl⟩ : ∃ m : Nat, n = (m : Int) := ⟨n.toNat, by omega⟩
        replace hp3 := hid hp3
        replace hR3 := hid hR3
        replace k0 := hid (Out.cells hO3 k0.out hne.out)
        have hs3 : Hid (w.heap.size + 1 ≤ w3.heap.size) := hid (Nat.le_trans hs2.out hO3.size)
        replace hO := hid (hO.out.trans hO3)
        clear hR2 hO3
        go_wp2_with fail
        refine (rlistX_any H rb m l3 w3 hR3.out (by omega)).mono ?_
        rintro e w4 (⟨ss, l4, v, hp4, rfl, ⟨ns, hns, hVS⟩, hR4, hO4⟩ | ⟨hp4, rfl, hO4⟩)
        · obtain ⟨ya, yc, hv⟩ := hVS.val
          subst hv
          obtain ⟨_, hSn, hcapS⟩ := sets_of hVS
          subst hns
          have hP : Hid (tenP l = some (⟨ky, q, ns.map SetM.x⟩, l4)) := hid (by unfold tenP setsP; rw [hp1.out]; simp only; rw [hp2.out]; simp only; rw [hp3.out]; simp only [Int.toNat_natCast]; rw [hp4])
          replace hR4 := hid hR4
          replace k0 := Out.cells hO4 k0.out hne.out
          replace hO := hid (hO.out.trans hO4)
          have d0 := k0.cell 0
          have d1 := k0.cell 1
          have d2 := k0.cell 2
          have e0 := k0.frozen 0
          have e1 := k0.frozen 1
          have e2 := k0.frozen 2
          simp at d0 d1 d2
          replace k0 := hid k0
          have on : Only (fun k => k = w.heap.size) w4 (put3v w4 w.heap.size (.int .i64 ky) (.int .i64 q) (.slice ya ns.length yc)) := Only.of_kept (kept_put3v w4 w.heap.size (.int .i64 ky) (.int .i64 q) (.slice ya ns.length yc)) rfl
          have hSn' := hid (on.sets (hSn.weaken (R := fun b => w.heap.size + 1 ≤ b) (fun b _ q => Nat.le_trans hs3.out q)) (fun b q e => by omega))
          replace hcapS := hid hcapS
          clear hR3 hO4 hp4 hVS hSn on
          generalize ns.length = sn at *
          go_wp2_with fail
          refine bodyPost_ret (v := .agg #[.int .i64 ky, .int .i64 q, .slice ya sn yc]) ?_ rfl (fin_rd hP.out hR4.out hO.out (kept_put3v w4 w.heap.size _ _ _) (Nat.le_refl _) hlt.out ⟨⟨⟨ky, q, ns.map SetM.x⟩, ya, sn, yc⟩, rfl, rfl, hSn'.out.weaken (fun b _ q => by omega), ⟨hk0, hk1⟩, ⟨hq0, hq1⟩, hcapS.out⟩)
          exact results_cell_row rfl _ _ w.heap.size _ _ _ _ rfl (cells_put3v (.int .i64 ky) (.int .i64 q) (.slice ya sn yc) k0.out) Tryz.underlying42 rfl (by kernel_rfl)
        · have hP : Hid (tenP l = none) := hid (by unfold tenP setsP; rw [hp1.out]; simp only; rw [hp2.out]; simp only; rw [hp3.out]; simp only [Int.toNat_natCast]; rw [hp4])
          replace hO := hid (hO.out.trans hO4)
          clear hp4 hO4
          go_wp2_with fail
          exact ⟨rfl, .inr ⟨hP.out, rfl, hO.out⟩⟩
      · have hP : Hid (tenP l = none) := hid (by unfold tenP setsP; rw [hp1.out]; simp only; rw [hp2.out]; simp only; rw [hp3])
        replace hO := hid (hO.out.trans hO3)
        clear hp3 hO3
        go_wp2_with fail
        exact ⟨rfl, .inr ⟨hP.out, rfl, hO.out⟩⟩
    · have hP : Hid (tenP l = none) := hid (by unfold tenP; rw [hp1.out]; simp only; rw [hp2])
      replace hO := hid (hO.out.trans hO2)
      clear hp2 hO2
      go_wp2_with fail
      exact ⟨rfl, .inr ⟨hP.out, rfl, hO.out⟩⟩
  · have hP : Hid (tenP l = none) := hid (by unfold tenP; rw [hp1])
    replace hO := hid (hO.out.trans hO1)
    clear hp1 hO1
    go_wp2_with fail
    exact ⟨rfl, .inr ⟨hP.out, rfl, hO.out⟩⟩

set_option maxHeartbeats 2000000 in
set_option maxRecDepth 100000 in
theorem rlistT_any (H rb n : Nat) (l : List Int) (w : World) (hR : RdL H w rb l) (hn : n < 65536) :
    Calls Tryz.prog 163 #[.int .i64 n, .func (.func 164) #[.pointer (some ⟨rb, 0, none⟩)] #[]] w fun e w' => RetRx H w rb (listP tenP n l) (fun xs v w' => ∃ ms : List TenM, ms.map TenM.t = xs ∧ ListV TenM.cells TenM.At w.heap.size 42 3 ms v w') e w' := by
  obtain ⟨i0, hi, hz0, hz1, hz2⟩ := info_parts Tryz.infoT
  have hlt := hid hR.lt
  replace hR := hid hR
  go_enter Tryz.func163, Tryz.ntmps163
  go_wp2_with fail
  go_loopw [5, 7] (fun u v wr => ∃ (j : Nat) (ms : List TenM) (r : List Int), j ≤ n ∧ v = .int .i64 j ∧ LI TenM.cells TenM.At H w wr rb 42 3 u ms r ∧ listP tenP j l = some (ms.map TenM.t, r)) (fun _ v _ => n - (Go.RowKit.intOf v).toNat)
  case atStart => exact ⟨0, [], l, Nat.zero_le _, rfl, LI.start hR.out, rfl⟩
  case round =>
    clear hR
    obtain ⟨j, ms, r, hj, rfl, hL, hP⟩ := hrel
    have hml := hid (show ms.length = j by have := listP_len hP; simpa using this)
    obtain ⟨ua, uc, hu⟩ := hL.val
    rw [hml.out] at hu
    subst hu
    replace hP := hid hP
    replace hL := hid hL
    by_cases hjn : j < n
    · go_wp2_with fail
      refine (rtenant_any H rb r wr hL.out.rd).mono ?_
      rintro e w5 (⟨x, r', v, hp, rfl, ⟨m, hmx, rfl, hAt⟩, hR5, hO5⟩ | ⟨hp, rfl, hO5⟩)
      · have hmid := LI.mid (m := m) tenAt_ok hL.out hlt.out.2 hO5 hR5 42
        have hbox : CellsAt (w5.alloc (.cells #[.int .i64 m.t.key, .int .i64 m.t.quota, .slice m.sa m.sn m.sc] 42)) w5.heap.size (TenM.cells m).toArray 42 := cellsAt_alloc w5 _ _
        obtain ⟨v7, w7, hrun, hrow, hg, hat⟩ := run_append_one 25 25 42 42 i0 _ 3 40 Tryz.underlying25 hi hz0 hz1 hz2 rfl (by decide) (by decide) w.heap.size (w5.alloc (.cells #[.int .i64 m.t.key, .int .i64 m.t.quota, .slice m.sa m.sn m.sc] 42)) (.slice ua j uc) ms.length _ hmid.1 (TenM.cells m) rfl (TenM.cells_one m) w5.heap.size hbox (by rw [hml.out]; omega) hmid.2
        have hL7 : LI TenM.cells TenM.At H w w7 rb 42 3 v7 (ms ++ [m]) r' := LI.step tenAt_ok hL.out hlt.out.2 (Nat.le_trans hlt.out.1 (Nat.le_of_lt hlt.out.2)) hO5 hR5 hAt hrow hg hat
        have hP7 : Hid (listP tenP (j + 1) l = some ((ms ++ [m]).map TenM.t, r')) := hid (by rw [List.map_append, List.map_singleton, hmx]; exact listP_next hP.out hp)
        obtain ⟨a7, c7, hv7⟩ := hL7.val
        rw [List.length_append, hml.out, List.length_singleton] at hv7
        subst hv7
        replace hL7 := hid hL7
        clear hmid hbox hrow hg hat hAt hR5 hO5 hp hmx
        go_wp2_with (at_builtin; refine Lib.wpList_append_run _ rfl _ _ _ _ rfl _ _ rfl rfl _ _ hrun ?_)
        go_roundw
        case rel => exact ⟨j + 1, ms ++ [m], r', by omega, by go_num, hL7.out, hP7.out⟩
        case measure => simp [Go.RowKit.intOf]; omega
      · have hP7 := hid (listP_stop hP.out hp hjn)
        have hO7 := hid (hL.out.out.trans hO5)
        clear hp hO5
        go_wp2_with fail
        exact ⟨rfl, .inr ⟨hP7.out, rfl, hO7.out⟩⟩
    · obtain rfl : j = n := by omega
      go_wp2_with fail
      go_ret
      exact .inl ⟨_, r, .slice ua j uc, hP.out, rfl, ⟨ms, rfl, ⟨ua, uc, by rw [hml.out]⟩, hL.out.row, hL.out.els⟩, hL.out.rd, hL.out.out⟩

set_option maxHeartbeats 2000000 in
set_option maxRecDepth 100000 in
theorem rblock_any (H rb : Nat) (l : List Int) (w : World) (hR : RdL H w rb l) :
    Calls Tryz.prog 162 #[.pointer (some ⟨rb, 0, none⟩)] w fun e w' => RetRx H w rb (blkP l) (fun x v w' => ∃ m : BlkM, BlkM.b m = x ∧ v = .agg #[.int .i64 m.b.refs, .int .i64 m.b.level, .slice m.ka m.kn m.kc, .slice m.ba m.bn m.bc] ∧ BlkM.At (fun b => w.heap.size ≤ b) w' m) e w' := by
  have hmf : ∀ (fn : Fn) (first cap : Array Value) (w : World), (Instr.makeFunc fn first cap).run Tryz.prog w = .ok (.func fn first cap) w := fun _ _ _ _ => rfl
  have hlt := hid hR.lt
  have b0 := hid (below_alloc w (.cells #[.int .i64 0, .int .i64 0, .slice none 0 0, .slice none 0 0] 124))
  have k0 : Hid (CellsAt _ w.heap.size #[.int .i64 0, .int .i64 0, .slice none 0 0, .slice none 0 0] 124) := hid (cellsAt_alloc w _ _)
  replace hR := hid (hR.below b0.out)
  have hO := hid (Out.of_below (g := rb) b0.out)
  have hne : Hid (w.heap.size ≠ rb) := hid (by have := hlt.out; omega)
  have hsz : Hid ((w.alloc (.cells #[.int .i64 0, .int .i64 0, .slice none 0 0, .slice none 0 0] 124)).heap.size = w.heap.size + 1) := hid (by simp)
  clear b0
  go_enter Tryz.func162, Tryz.ntmps162
  go_upto_region 1 with fail
  generalize w.alloc (.cells #[.int .i64 0, .int .i64 0, .slice none 0 0, .slice none 0 0] 124) = w0 at *
  go_wp2_with fail
  refine (number_any H rb l w0 hR.out hR.out.byt).mono ?_
  rintro e w1 (⟨ky, l1, v, hp1, rfl, ⟨rfl, hk0, hk1⟩, hR1, hO1⟩ | ⟨hp1, rfl, hO1⟩)
  · replace hp1 := hid hp1
    replace hR1 := hid hR1
    replace k0 := hid (Out.cells hO1 k0.out hne.out)
    have hs1 : Hid (w.heap.size + 1 ≤ w1.heap.size) := hid (by have := hO1.size; have := hsz.out; omega)
    replace hO := hid (hO.out.trans hO1)
    clear hR hO1
    go_wp2_with fail
    refine (number_any H rb l1 w1 hR1.out hR1.out.byt).mono ?_
    rintro e w2 (⟨q, l2, v, hp2, rfl, ⟨rfl, hq0, hq1⟩, hR2, hO2⟩ | ⟨hp2, rfl, hO2⟩)
    · replace hp2 := hid hp2
      replace hR2 := hid hR2
      replace k0 := hid (Out.cells hO2 k0.out hne.out)
      have hs2 : Hid (w.heap.size + 1 ≤ w2.heap.size) := hid (Nat.le_trans hs1.out hO2.size)
      replace hO := hid (hO.out.trans hO2)
      clear hR1 hO2
      go_wp2_with fail
      refine (number_any H rb l2 w2 hR2.out hR2.out.byt).mono ?_
      rintro e w3 (⟨n, l3, v, hp3, rfl, ⟨rfl, hn0, hn1⟩, hR3, hO3⟩ | ⟨hp3, rfl, hO3⟩)
      · obtain ⟨m, rfl⟩ : ∃ m : Nat, n = (m : Int) := ⟨n.toNat, by omega⟩
        replace hp3 := hid hp3
        replace hR3 := hid hR3
        replace k0 := hid (Out.cells hO3 k0.out hne.out)
        have hs3 : Hid (w.heap.size + 1 ≤ w3.heap.size) := hid (Nat.le_trans hs2.out hO3.size)
        replace hO := hid (hO.out.trans hO3)
        clear hR2 hO3
        go_wp2_with fail
        refine (rlistI_any H rb m l3 w3 hR3.out (by omega)).mono ?_
        rintro e w4 (⟨ss, l4, v, hp4, rfl, ⟨ns, hns, hVS⟩, hR4, hO4⟩ | ⟨hp4, rfl, hO4⟩)
        · obtain ⟨ya, yc, hv⟩ := hVS.val
          subst hv
          obtain ⟨_, hK, hcapK⟩ := nums_of hVS
          rw [List.map_id] at hns
          subst hns
          replace hp4 := hid hp4
          replace hR4 := hid hR4
          replace k0 := hid (Out.cells hO4 k0.out hne.out)
          have hs4 : Hid (w.heap.size + 1 ≤ w4.heap.size) := hid (Nat.le_trans hs3.out hO4.size)
          replace hO := hid (hO.out.trans hO4)
          replace hK := hid (hK.weaken (R := fun b => w.heap.size + 1 ≤ b) (fun b _ q => Nat.le_trans hs3.out q))
          replace hcapK := hid hcapK
          clear hR3 hO4 hVS
          generalize hkn : ns.length = kn at *
          replace hkn := hid hkn
          go_wp2_with fail
          refine (rbytes_any H rb l4 w4 hR4.out).mono ?_
          rintro e w5 (⟨bs, l5, v, hp5, rfl, ⟨hb6, ba, bc, rfl, hcapB, hB⟩, hR5, hO5⟩ | ⟨hp5, rfl, hO5⟩)
          · have hP : Hid (blkP l = some (⟨ky, q, ns, bs⟩, l5)) := hid (by unfold blkP kidsP; rw [hp1.out]; simp only; rw [hp2.out]; simp only; rw [hp3.out]; simp only [Int.toNat_natCast]; rw [hp4.out]; simp only; rw [hp5])
            replace hR5 := hid hR5
            replace k0 := Out.cells hO5 k0.out hne.out
            replace hO := hid (hO.out.trans hO5)
            replace hK := (Only.of_out (M := fun k => k = rb) hO5 rfl).nums hK.out (fun b q e => by have := hlt.out; omega)
            have d0 := k0.cell 0
            have d1 := k0.cell 1
            have d2 := k0.cell 2
            have d3 := k0.cell 3
            have e0 := k0.frozen 0
            have e1 := k0.frozen 1
            have e2 := k0.frozen 2
            have e3 := k0.frozen 3
            simp at d0 d1 d2 d3
            replace k0 := hid k0
            have kp := kept_put4 w5 w.heap.size 0 (.int .i64 ky) (.int .i64 q) (.slice ya kn yc) (.slice ba bs.length bc)
            have hK' := hid (hK.kept (fun b q => by omega) kp)
            have hB' := hid ((hB.weaken (R := fun b => w.heap.size + 1 ≤ b) (fun b _ q => Nat.le_trans hs4.out q)).kept (fun b q => by omega) kp)
            replace hcapB := hid hcapB
            clear hR4 hO5 hp5 hK hB kp
            generalize hbn : bs.length = bn at *
            replace hbn := hid hbn
            go_wp2_with fail
            refine bodyPost_ret (v := .agg #[.int .i64 ky, .int .i64 q, .slice ya kn yc, .slice ba bn bc]) ?_ rfl (fin_rd hP.out hR5.out hO.out (kept_put4 w5 w.heap.size 0 _ _ _ _) (Nat.le_refl _) hlt.out ⟨⟨⟨ky, q, ns, bs⟩, ya, kn, yc, ba, bn, bc⟩, rfl, rfl, hK'.out.weaken (fun b _ q => by omega), hB'.out.weaken (fun b _ q => by omega), ⟨hk0, hk1⟩, ⟨hq0, hq1⟩, hcapK.out, hcapB.out⟩)
            exact results_cell_row rfl _ _ w.heap.size _ _ _ _ rfl (cells_put4v (.int .i64 ky) (.int .i64 q) (.slice ya kn yc) (.slice ba bn bc) k0.out) Tryz.underlying124 rfl (by kernel_rfl)
          · have hP : Hid (blkP l = none) := hid (by unfold blkP kidsP; rw [hp1.out]; simp only; rw [hp2.out]; simp only; rw [hp3.out]; simp only [Int.toNat_natCast]; rw [hp4.out]; simp only; rw [hp5])
            replace hO := hid (hO.out.trans hO5)
            clear hp5 hO5
            go_wp2_with fail
            exact ⟨rfl, .inr ⟨hP.out, rfl, hO.out⟩⟩
        · have hP : Hid (blkP l = none) := hid (by unfold blkP kidsP; rw [hp1.out]; simp only; rw [hp2.out]; simp only; rw [hp3.out]; simp only [Int.toNat_natCast]; rw [hp4])
          replace hO := hid (hO.out.trans hO4)
          clear hp4 hO4
          go_wp2_with fail
          exact ⟨rfl, .inr ⟨hP.out, rfl, hO.out⟩⟩
      · have hP : Hid (blkP l = none) := hid (by unfold blkP kidsP; rw [hp1.out]; simp only; rw [hp2.out]; simp only; rw [hp3])
        replace hO := hid (hO.out.trans hO3)
        clear hp3 hO3
        go_wp2_with fail
        exact ⟨rfl, .inr ⟨hP.out, rfl, hO.out⟩⟩
    · have hP : Hid (blkP l = none) := hid (by unfold blkP; rw [hp1.out]; simp only; rw [hp2])
      replace hO := hid (hO.out.trans hO2)
      clear hp2 hO2
      go_wp2_with fail
      exact ⟨rfl, .inr ⟨hP.out, rfl, hO.out⟩⟩
  · have hP : Hid (blkP l = none) := hid (by unfold blkP; rw [hp1])
    replace hO := hid (hO.out.trans hO1)
    clear hp1 hO1
    go_wp2_with fail
    exact ⟨rfl, .inr ⟨hP.out, rfl, hO.out⟩⟩

set_option maxHeartbeats 2000000 in
set_option maxRecDepth 100000 in
theorem rlistB_any (H rb n : Nat) (l : List Int) (w : World) (hR : RdL H w rb l) (hn : n < 65536) :
    Calls Tryz.prog 160 #[.int .i64 n, .func (.func 162) #[.pointer (some ⟨rb, 0, none⟩)] #[]] w fun e w' => RetRx H w rb (listP blkP n l) (fun xs v w' => ∃ ms : List BlkM, ms.map BlkM.b = xs ∧ ListV BlkM.cells BlkM.At w.heap.size 124 4 ms v w') e w' := by
  obtain ⟨i0, hi, hz0, hz1, hz2⟩ := info_parts Tryz.infoBlk
  have hlt := hid hR.lt
  replace hR := hid hR
  go_enter Tryz.func160, Tryz.ntmps160
  go_wp2_with fail
  go_loopw [5, 7] (fun u v wr => ∃ (j : Nat) (ms : List BlkM) (r : List Int), j ≤ n ∧ v = .int .i64 j ∧ LI BlkM.cells BlkM.At H w wr rb 124 4 u ms r ∧ listP blkP j l = some (ms.map BlkM.b, r)) (fun _ v _ => n - (Go.RowKit.intOf v).toNat)
  case atStart => exact ⟨0, [], l, Nat.zero_le _, rfl, LI.start hR.out, rfl⟩
  case round =>
    clear hR
    obtain ⟨j, ms, r, hj, rfl, hL, hP⟩ := hrel
    have hml := hid (show ms.length = j by have := listP_len hP; simpa using this)
    obtain ⟨ua, uc, hu⟩ := hL.val
    rw [hml.out] at hu
    subst hu
    replace hP := hid hP
    replace hL := hid hL
    by_cases hjn : j < n
    · go_wp2_with fail
      refine (rblock_any H rb r wr hL.out.rd).mono ?_
      rintro e w5 (⟨x, r', v, hp, rfl, ⟨m, hmx, rfl, hAt⟩, hR5, hO5⟩ | ⟨hp, rfl, hO5⟩)
      · have hmid := LI.mid (m := m) blkAt_ok hL.out hlt.out.2 hO5 hR5 124
        have hbox : CellsAt (w5.alloc (.cells #[.int .i64 m.b.refs, .int .i64 m.b.level, .slice m.ka m.kn m.kc, .slice m.ba m.bn m.bc] 124)) w5.heap.size (BlkM.cells m).toArray 124 := cellsAt_alloc w5 _ _
        obtain ⟨v7, w7, hrun, hrow, hg, hat⟩ := run_append_one 22 22 124 124 i0 _ 4 64 Tryz.underlying22 hi hz0 hz1 hz2 rfl (by decide) (by decide) w.heap.size (w5.alloc (.cells #[.int .i64 m.b.refs, .int .i64 m.b.level, .slice m.ka m.kn m.kc, .slice m.ba m.bn m.bc] 124)) (.slice ua j uc) ms.length _ hmid.1 (BlkM.cells m) rfl (BlkM.cells_one m) w5.heap.size hbox (by rw [hml.out]; omega) hmid.2
        have hL7 : LI BlkM.cells BlkM.At H w w7 rb 124 4 v7 (ms ++ [m]) r' := LI.step blkAt_ok hL.out hlt.out.2 (Nat.le_trans hlt.out.1 (Nat.le_of_lt hlt.out.2)) hO5 hR5 hAt hrow hg hat
        have hP7 : Hid (listP blkP (j + 1) l = some ((ms ++ [m]).map BlkM.b, r')) := hid (by rw [List.map_append, List.map_singleton, hmx]; exact listP_next hP.out hp)
        obtain ⟨a7, c7, hv7⟩ := hL7.val
        rw [List.length_append, hml.out, List.length_singleton] at hv7
        subst hv7
        replace hL7 := hid hL7
        clear hmid hbox hrow hg hat hAt hR5 hO5 hp hmx
        go_wp2_with (at_builtin; refine Lib.wpList_append_run _ rfl _ _ _ _ rfl _ _ rfl rfl _ _ hrun ?_)
        go_roundw
        case rel => exact ⟨j + 1, ms ++ [m], r', by omega, by go_num, hL7.out, hP7.out⟩
        case measure => simp [Go.RowKit.intOf]; omega
      · have hP7 := hid (listP_stop hP.out hp hjn)
        have hO7 := hid (hL.out.out.trans hO5)
        clear hp hO5
        go_wp2_with fail
        exact ⟨rfl, .inr ⟨hP7.out, rfl, hO7.out⟩⟩
    · obtain rfl : j = n := by omega
      go_wp2_with fail
      go_ret
      exact .inl ⟨_, r, .slice ua j uc, hP.out, rfl, ⟨ms, rfl, ⟨ua, uc, by rw [hml.out]⟩, hL.out.row, hL.out.els⟩, hL.out.rd, hL.out.out⟩
end Go.Proofs.YtihkljfcplfldaaGreat

namespace Go.Proofs.YtihkljfcplfldaaGreat
open Go.RowKit

def blksP (l : List Int) : Option (List Blk × List Int) :=
  match numP l with
  | none => none
  | some (n, l1) => listP blkP n.toNat l1
def tensP (l : List Int) : Option (List TenE × List Int) :=
  match numP l with
  | none => none
  | some (n, l1) => listP tenP n.toNat l1
def poolP (l : List Int) : Option ((List Blk × List TenE) × List Int) :=
  match blksP l with
  | none => none
  | some (bs, l1) =>
    match tensP l1 with
    | none => none
    | some (ts, l2) => some ((bs, ts), l2)

theorem ListV.only {M : Type} {cells : M → List Value} {At : (Nat → Prop) → World → M → Prop} (hA : AtOk At) {base : Nat} {e : TypeId} {k : Nat} {ms : List M} {v : Value} {w w' : World} {K : Nat → Prop} (h : ListV cells At base e k ms v w) (o : Only K w w') (hK : ∀ b, base ≤ b → ¬ K b) : ListV cells At base e k ms v w' :=
  ⟨h.val, o.row h.row (fun b hb => hK b (h.row.lt b hb).1), fun m hm => hA.only (h.els m hm) o (fun b q => hK b q.1)⟩
theorem ListV.base {M : Type} {cells : M → List Value} {At : (Nat → Prop) → World → M → Prop} (hA : AtOk At) {base base' : Nat} {e : TypeId} {k : Nat} {ms : List M} {v : Value} {w : World} (h : ListV cells At base e k ms v w) (hb : base' ≤ base) : ListV cells At base' e k ms v w :=
  ⟨h.val, ownsRow_base hb h.row, fun m hm => hA.weaken (h.els m hm) (fun b _ q => ⟨Nat.le_trans hb q.1, q.2⟩)⟩

/-- a pool that was read -/
def PoolV (base : Nat) (x : List Blk × List TenE) (v : Value) (w : World) : Prop :=
  ∃ (a : Option Addr) (n c : Nat) (ta : Option Addr) (tn tc : Nat) (bm : List BlkM) (tm : List TenM), v = .agg #[.slice a n c, .slice ta tn tc] ∧ bm.map BlkM.b = x.1 ∧ tm.map TenM.t = x.2 ∧
    ListV BlkM.cells BlkM.At base 124 4 bm (.slice a n c) w ∧ ListV TenM.cells TenM.At base 42 3 tm (.slice ta tn tc) w

set_option maxHeartbeats 2000000 in
set_option maxRecDepth 100000 in
theorem rpool_any (H rb : Nat) (l : List Int) (w : World) (hR : RdL H w rb l) :
    Calls Tryz.prog 138 #[.pointer (some ⟨rb, 0, none⟩)] w fun e w' => RetRx H w rb (poolP l) (PoolV w.heap.size) e w' := by
  have hmf : ∀ (fn : Fn) (first cap : Array Value) (w : World), (Instr.makeFunc fn first cap).run Tryz.prog w = .ok (.func fn first cap) w := fun _ _ _ _ => rfl
  have hlt := hid hR.lt
  have b0 := hid (below_alloc w (.cells #[.slice none 0 0, .slice none 0 0] 27))
  have k0 : Hid (CellsAt _ w.heap.size #[.slice none 0 0, .slice none 0 0] 27) := hid (cellsAt_alloc w _ _)
  replace hR := hid (hR.below b0.out)
  have hO := hid (Out.of_below (g := rb) b0.out)
  have hne : Hid (w.heap.size ≠ rb) := hid (by have := hlt.out; omega)
  have hsz : Hid ((w.alloc (.cells #[.slice none 0 0, .slice none 0 0] 27)).heap.size = w.heap.size + 1) := hid (by simp)
  clear b0
  go_enter Tryz.func138, Tryz.ntmps138
  go_upto_region 1 with fail
  generalize w.alloc (.cells #[.slice none 0 0, .slice none 0 0] 27) = w0 at *
  go_wp2_with fail
  refine (number_any H rb l w0 hR.out hR.out.byt).mono ?_
  rintro e w1 (⟨n, l1, v, hp1, rfl, ⟨rfl, hn0, hn1⟩, hR1, hO1⟩ | ⟨hp1, rfl, hO1⟩)
  · obtain ⟨m, rfl⟩ : ∃ m : Nat, n = (m : Int) := ⟨n.toNat, by omega⟩
    replace hp1 := hid hp1
    replace hR1 := hid hR1
    replace k0 := hid (Out.cells hO1 k0.out hne.out)
    have hs1 : Hid (w.heap.size + 1 ≤ w1.heap.size) := hid (by have := hO1.size; have := hsz.out; omega)
    replace hO := hid (hO.out.trans hO1)
    clear hR hO1
    go_wp2_with fail
    refine (rlistB_any H rb m l1 w1 hR1.out (by omega)).mono ?_
    rintro e w2 (⟨xs, l2, v, hp2, rfl, ⟨bm, hbm, hVB⟩, hR2, hO2⟩ | ⟨hp2, rfl, hO2⟩)
    · obtain ⟨ya, yc, hv⟩ := hVB.val
      subst hv
      replace hbm := hid hbm
      replace hp2 := hid hp2
      replace hR2 := hid hR2
      replace k0 := hid (Out.cells hO2 k0.out hne.out)
      have hs2 : Hid (w.heap.size + 1 ≤ w2.heap.size) := hid (Nat.le_trans hs1.out hO2.size)
      replace hO := hid (hO.out.trans hO2)
      replace hVB := hid (hVB.base blkAt_ok hs1.out)
      clear hR1 hO2
      generalize bm.length = bn at *
      go_wp2_with fail
      refine (number_any H rb l2 w2 hR2.out hR2.out.byt).mono ?_
      rintro e w3 (⟨n, l3, v, hp3, rfl, ⟨rfl, hn0', hn1'⟩, hR3, hO3⟩ | ⟨hp3, rfl, hO3⟩)
      · obtain ⟨m', rfl⟩ : ∃ m : Nat, n = (m : Int) := ⟨n.toNat, by omega⟩
        replace hp3 := hid hp3
        replace hR3 := hid hR3
        replace k0 := hid (Out.cells hO3 k0.out hne.out)
        have hs3 : Hid (w.heap.size + 1 ≤ w3.heap.size) := hid (Nat.le_trans hs2.out hO3.size)
        replace hO := hid (hO.out.trans hO3)
        replace hVB := hid (hVB.out.only blkAt_ok (Only.of_out (M := fun k => k = rb) hO3 rfl) (fun b hb e => by have := hlt.out; omega))
        clear hR2 hO3
        go_wp2_with fail
        refine (rlistT_any H rb m' l3 w3 hR3.out (by omega)).mono ?_
        rintro e w4 (⟨ts, l4, v, hp4, rfl, ⟨tm, htm, hVT⟩, hR4, hO4⟩ | ⟨hp4, rfl, hO4⟩)
        · obtain ⟨za, zc, hv⟩ := hVT.val
          subst hv
          have hP : Hid (poolP l = some ((xs, ts), l4)) := hid (by unfold poolP blksP tensP; rw [hp1.out]; simp only [Int.toNat_natCast]; rw [hp2.out]; simp only; rw [hp3.out]; simp only [Int.toNat_natCast]; rw [hp4])
          replace htm := hid htm
          replace hR4 := hid hR4
          replace k0 := Out.cells hO4 k0.out hne.out
          replace hO := hid (hO.out.trans hO4)
          have d0 := k0.cell 0
          have d1 := k0.cell 1
          have e0 := k0.frozen 0
          have e1 := k0.frozen 1
          simp at d0 d1
          replace k0 := hid k0
          replace hVB := hVB.out.only blkAt_ok (Only.of_out (M := fun k => k = rb) hO4 rfl) (fun b hb e => by have := hlt.out; omega)
          replace hVT := hVT.base tenAt_ok hs3.out
          generalize htl : tm.length = tl at *
          replace htl := hid htl
          have on : Only (fun k => k = w.heap.size) w4 (put2v w4 w.heap.size (.slice ya bn yc) (.slice za tl zc)) := Only.of_kept (kept_put2v w4 w.heap.size (.slice ya bn yc) (.slice za tl zc)) rfl
          have hVB' := hid ((hVB.only blkAt_ok on (fun b hb e => by omega)).base blkAt_ok (Nat.le_succ w.heap.size))
          have hVT' := hid ((hVT.only tenAt_ok on (fun b hb e => by omega)).base tenAt_ok (Nat.le_succ w.heap.size))
          clear hR3 hO4 hp4 hVT hVB on
          go_wp2_with fail
          refine bodyPost_ret (v := .agg #[.slice ya bn yc, .slice za tl zc]) ?_ rfl (fin_rd hP.out hR4.out hO.out (kept_put2v w4 w.heap.size _ _) (Nat.le_refl _) hlt.out ⟨ya, bn, yc, za, tl, zc, bm, tm, rfl, hbm.out, htm.out, hVB'.out, hVT'.out⟩)
          exact results_cell_row rfl _ _ w.heap.size _ _ _ _ rfl (cells_put2v (.slice ya bn yc) (.slice za tl zc) k0.out) Tryz.underlying27 rfl (by kernel_rfl)
        · have hP : Hid (poolP l = none) := hid (by unfold poolP blksP tensP; rw [hp1.out]; simp only [Int.toNat_natCast]; rw [hp2.out]; simp only; rw [hp3.out]; simp only [Int.toNat_natCast]; rw [hp4])
          replace hO := hid (hO.out.trans hO4)
          clear hp4 hO4
          go_wp2_with fail
          exact ⟨rfl, .inr ⟨hP.out, rfl, hO.out⟩⟩
      · have hP : Hid (poolP l = none) := hid (by unfold poolP blksP tensP; rw [hp1.out]; simp only [Int.toNat_natCast]; rw [hp2.out]; simp only; rw [hp3])
        replace hO := hid (hO.out.trans hO3)
        clear hp3 hO3
        go_wp2_with fail
        exact ⟨rfl, .inr ⟨hP.out, rfl, hO.out⟩⟩
    · have hP : Hid (poolP l = none) := hid (by unfold poolP blksP; rw [hp1.out]; simp only [Int.toNat_natCast]; rw [hp2])
      replace hO := hid (hO.out.trans hO2)
      clear hp2 hO2
      go_wp2_with fail
      exact ⟨rfl, .inr ⟨hP.out, rfl, hO.out⟩⟩
  · have hP : Hid (poolP l = none) := hid (by unfold poolP blksP; rw [hp1])
    replace hO := hid (hO.out.trans hO1)
    clear hp1 hO1
    go_wp2_with fail
    exact ⟨rfl, .inr ⟨hP.out, rfl, hO.out⟩⟩

theorem rend_any (H rb : Nat) (l : List Int) (w : World) (hR : RdL H w rb l) :
    Calls Tryz.prog 139 #[.pointer (some ⟨rb, 0, none⟩)] w fun e w' => ((l = [] ∧ e = .returned (.tuple #[])) ∨ (l ≠ [] ∧ e = .panicked tornC)) ∧ w' = w := by
  obtain ⟨a, n, c, hR⟩ := hR
  have q0 := hR.box.cell 0
  simp at q0
  have hm := hid hR.src.1
  have hcap := hR.cap
  have hbig := hR.big
  unfold maxLen at hbig
  replace hR := hid hR
  by_cases hn : 0 < n
  · go_enter Tryz.func139, Tryz.ntmps139
    go_wp2_with fail
    exact ⟨rfl, .inr ⟨fun e => by have := hm.out; rw [e] at this; simp at this; omega, rfl⟩, rfl⟩
  · obtain rfl : n = 0 := by omega
    go_enter Tryz.func139, Tryz.ntmps139
    go_wp2_with fail
    go_end0
    exact ⟨.inl ⟨List.eq_nil_of_length_eq_zero hm.out, rfl⟩, rfl⟩
end Go.Proofs.YtihkljfcplfldaaGreat

namespace Go.Proofs.YtihkljfcplfldaaGreat
open Go.RowKit

set_option maxHeartbeats 2000000 in
set_option maxRecDepth 100000 in
/-- the door of a frame that returns -/
theorem door_idle (pb eb : Nat) (w : World) :
    CallsD Tryz.prog 137 #[.pointer (some ⟨pb, 0, none⟩), .pointer (some ⟨eb, 0, none⟩)] .returning w fun e u' w' => e = .returned (.tuple #[]) ∧ u' = .returning ∧ w' = w := by
  refine callsD_of_wpS Tryz.func137 rfl fun c₀ cs hu => ?_
  apply wpS_seq
  apply wpS_region
  simp [wpOpsS, go_sem, recoverD, hu, Tryz.ntmps137, Exit.thenS]
  refine wpS_of_wp ?_
  go_wp2_with fail
  refine ⟨rfl, .returning, ?_, .tuple #[], ?_, rfl, rfl, rfl⟩
  · cases c₀
    simp_all
  · simp [results, Tryz.results137]

/-- what the door leaves behind a panic -/
structure Caught (w w' : World) (pb eb : Nat) : Prop where
  p : CellsAt w' pb #[.slice none 0 0, .slice none 0 0] 27
  e : CellsAt w' eb #[.int .i64 9] 31
  only : Only (fun k => k = pb ∨ k = eb) w w'

/-- the assertion holds -/
theorem run_torn (w : World) : (Instr.typeAssert (.iface 201 (.agg #[])) 20 201 true).run Tryz.prog w = .ok (.tuple #[.agg #[], .bool true]) w := by
  first
  | kernel_rfl
  | simp [Instr.typeAssert, run_underlying Tryz.underlying201]

set_option maxHeartbeats 4000000 in
set_option maxRecDepth 100000 in
/-- the door of a frame that panics -/
theorem door_panics (pb eb : Nat) (v0 v1 v2 : Value) (w : World) (hp : CellsAt w pb #[v0, v1] 27) (he : CellsAt w eb #[v2] 31) (hne : pb ≠ eb) :
    CallsD Tryz.prog 137 #[.pointer (some ⟨pb, 0, none⟩), .pointer (some ⟨eb, 0, none⟩)] (.panicking tornC) w fun e u' w' => e = .returned (.tuple #[]) ∧ u' = .panicking [{ v := .iface 201 (.agg #[]), recovered := true }] ∧ Caught w w' pb eb := by
  have p0 := hp.cell 0
  have p1 := hp.cell 1
  have q0 := hp.frozen 0
  have q1 := hp.frozen 1
  have e0 := he.cell 0
  have f0 := he.frozen 0
  simp at p0 p1 e0
  have hpl := hp.lt
  have hel := he.lt
  refine callsD_of_wpS Tryz.func137 rfl fun c₀ cs hu => ?_
  unfold tornC at hu
  apply wpS_seq
  apply wpS_region
  simp [wpOpsS, go_sem, recoverD, hu, Tryz.ntmps137, Exit.thenS]
  refine wpS_of_wp ?_
  replace hp := hid hp
  replace he := hid he
  have hta := run_torn
  go_wp2_with fail
  refine ⟨rfl, _, rfl, .tuple #[], by simp [results, Tryz.results137], rfl, rfl, ?_⟩
  have kp := kept_put2v w pb (.slice none 0 0) (.slice none 0 0)
  have ke := Kept.setCell (g := eb) (Kept.refl _ (put2v w pb (.slice none 0 0) (.slice none 0 0))) (p := ⟨eb, 0, none⟩) rfl (.int .i64 9)
  have op : Only (fun k => k = pb ∨ k = eb) w (put2v w pb (.slice none 0 0) (.slice none 0 0)) := Only.of_kept kp (.inl rfl)
  have oe : Only (fun k => k = pb ∨ k = eb) (put2v w pb (.slice none 0 0) (.slice none 0 0)) ((put2v w pb (.slice none 0 0) (.slice none 0 0)).setCell ⟨eb, 0, none⟩ (.int .i64 9)) := Only.of_kept ke (.inr rfl)
  have cp := cells_put2v (.slice none 0 0) (.slice none 0 0) hp.out
  have ce : CellsAt (put2v w pb (.slice none 0 0) (.slice none 0 0)) eb #[v2] 31 := (Only.of_kept (M := fun k => k = pb) kp rfl).cells he.out (fun e => hne e.symm)
  have ce2 := ce.set 0 (.int .i64 9)
  simp only [List.setIfInBounds_toArray, List.set_cons_zero] at ce2
  exact ⟨((Only.of_kept (M := fun k => k = eb) ke rfl).cells cp hne).below (below_alloc _ _), ce2.below (below_alloc _ _), (op.trans oe).trans (Only.of_below (below_alloc _ _))⟩

end Go.Proofs.YtihkljfcplfldaaGreat
