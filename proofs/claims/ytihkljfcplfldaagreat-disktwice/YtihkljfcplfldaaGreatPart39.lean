/-
  DskJ, DiskTornWalk in one text. Nothing here is trusted.
-/
import Derived.Test.YtihkljfcplfldaaGreatPart38
import Derived.Deep.RegionHeld3
set_option linter.unusedVariables false
namespace Go.Proofs.YtihkljfcplfldaaGreat
open Go.RowKit

theorem at_big (k n : Int) (w : World) (h0 : 1 ≤ n) (h1 : n ≤ 1000000) :
    Calls Tryz.prog 13 #[.int .i64 k, .int .i64 n] w fun e w' => (∃ r : Nat, e = .returned (.int .i64 r) ∧ (r : Int) < n) ∧ w' = w := by
  have t1 := Int.tmod_lt_of_pos k (show 0 < n by omega)
  have t2 : -n < k.tmod n := by have := Int.tmod_lt_of_pos (-k) (show 0 < n by omega); rw [Int.neg_tmod] at this; omega
  have hnz : (n == 0) = false := by simp; omega
  generalize ht : k.tmod n = t at t1 t2
  by_cases hneg : t < 0
  · go_enter Tryz.func13, Tryz.ntmps13
    go_wp2
    go_ret
    exact ⟨⟨(t + n).toNat, congrArg (fun z => Ending.returned (.int .i64 z)) (show t + n = ((t + n).toNat : Int) by omega), by omega⟩, rfl⟩
  · go_enter Tryz.func13, Tryz.ntmps13
    go_wp2
    go_ret
    exact ⟨⟨t.toNat, congrArg (fun z => Ending.returned (.int .i64 z)) (show t = (t.toNat : Int) by omega), by omega⟩, rfl⟩

/-- what Torn has answered -/
def TI (base : Nat) (w : World) (A B : List Int) (bs : List Blk) (ts : List TenE) (a : Option Addr) (n c : Nat) (b : Option Addr) (m d : Nat) (e' : Int) : Prop :=
  (e' ≠ 0 → e' = 3 ∨ WhyD A B bs ts) ∧ (e' = 0 → ∃ wh k S', NextIs A B bs ts wh k ∧ (∃ j : Nat, j ≤ (nextS bs ts k).length ∧ S' = (nextS bs ts k).take j) ∧ RowN base w a n c (nextA A wh S') ∧ RowN base w b m d (nextB B wh S'))
theorem TI.map {base base' : Nat} {w w' : World} {A B : List Int} {bs : List Blk} {ts : List TenE} {a : Option Addr} {n c : Nat} {b : Option Addr} {m d : Nat} {e' : Int} (h : TI base w A B bs ts a n c b m d e') (hr : ∀ a n c l, RowN base w a n c l → RowN base' w' a n c l) : TI base' w' A B bs ts a n c b m d e' :=
  ⟨h.1, fun f => by
    obtain ⟨wh, k, S', h1, h2, h3, h4⟩ := h.2 f
    exact ⟨wh, k, S', h1, h2, hr _ _ _ _ h3, hr _ _ _ _ h4⟩⟩
theorem ti_of {base : Nat} {e : Ending} {w : World} {A B : List Int} {bs : List Blk} {ts : List TenE} {num : Int} (h : RetCm base e w A B bs ts (fun e' => e' = 3 ∧ (num < 0 ∨ ((9 + (imgB bs ts).length : Nat) : Int) < num)) (fun k S => ∃ j : Nat, num = (j : Int) ∧ j ≤ (nextS bs ts k).length ∧ S = (nextS bs ts k).take j)) : ∃ a n c b m d e', e = .returned (.tuple #[.agg #[.slice a n c, .slice b m d], .int .i64 e']) ∧ TI base w A B bs ts a n c b m d e' := by
  obtain ⟨a, n, c, b, m, d, e', rfl, h1, h2⟩ := h.uni
  refine ⟨a, n, c, b, m, d, e', rfl, fun f => (h1 f).imp (fun g => g.1) id, fun f => ?_⟩
  obtain ⟨wh, k, S', g1, ⟨j, _, g2, g3⟩, g4, g5⟩ := h2 f
  exact ⟨wh, k, S', g1, ⟨j, g2, g3⟩, g4, g5⟩
def GotT (W wc : World) (A B : List Int) (bs : List Blk) (ts : List TenE) (v10 v14 : Value) : Prop := ∃ (g : Nat) (a : Option Addr) (n c : Nat) (b : Option Addr) (m d : Nat) (e' : Int), v14 = .pointer (some ⟨g, 0, none⟩) ∧ v10 = .int .i64 e' ∧ CellsAt wc g #[.slice a n c, .slice b m d] 53 ∧ Below W.heap.size W wc ∧ W.heap.size ≤ g ∧ TI W.heap.size wc A B bs ts a n c b m d e'
theorem gotT_ca {W w6 : World} {A B : List Int} {bs : List Blk} {ts : List TenE} {a : Option Addr} {n c : Nat} {b : Option Addr} {m d : Nat} {e' : Int} {base : Nat} (bb : Below W.heap.size W w6) (h : TI base w6 A B bs ts a n c b m d e') (hb : W.heap.size ≤ base) : GotT W (w6.alloc (.cells #[.slice a n c, .slice b m d] 53)) A B bs ts (.int .i64 e') (.pointer (some ⟨w6.heap.size, 0, none⟩)) :=
  ⟨_, a, n, c, b, m, d, e', rfl, rfl, cellsAt_alloc w6 _ _, Below.tr bb (below_alloc _ _), bb.size, h.map fun _ _ _ _ r => (r.below (below_alloc _ _)).mono hb⟩
theorem gotT_ac {W w6 : World} {A B : List Int} {bs : List Blk} {ts : List TenE} {a : Option Addr} {n c : Nat} {b : Option Addr} {m d : Nat} {e' : Int} {base g : Nat} (ka : CellsAt w6 g #[.slice none 0 0, .slice none 0 0] 53) (hg : W.heap.size ≤ g) (hgb : g < base) (bb : Below W.heap.size W w6) (h : TI base w6 A B bs ts a n c b m d e') : GotT W (put2v w6 g (.slice a n c) (.slice b m d)) A B bs ts (.int .i64 e') (.pointer (some ⟨g, 0, none⟩)) :=
  ⟨g, a, n, c, b, m, d, e', rfl, rfl, cells_put2v _ _ ka, bb.trans ((kept_put2v _ _ _ _).below hg), hg, h.map fun _ _ _ _ r => (r.keptN (kept_put2v _ _ _ _) hgb).mono (by omega)⟩
end Go.Proofs.YtihkljfcplfldaaGreat

namespace Go.Proofs.YtihkljfcplfldaaGreat
open Go.RowKit

set_option maxHeartbeats 16000000 in
set_option maxRecDepth 100000 in
theorem diskTorn_walk (pa : Option Addr) (pn pc : Nat) (ps : List Blk) (pta : Option Addr) (ptn ptc : Nat) (pt : List TenE) (qa : Option Addr) (qn qc : Nat) (qs : List Blk) (qta : Option Addr) (qtn qtc : Nat) (qt : List TenE) (ra : Option Addr) (rn rc : Nat) (rs : List Blk) (rta : Option Addr) (rtn rtc : Nat) (rt : List TenE) (num : Int) (w : World) (hP : PoolAt (fun _ => True) w pa pn (blksOf ps) pta ptn pt) (hpn : pn = ps.length) (hQ : PoolAt (fun _ => True) w qa qn (blksOf qs) qta qtn qt) (hqn : qn = qs.length) (hR : PoolAt (fun _ => True) w ra rn (blksOf rs) rta rtn rt) (hrn : rn = rs.length) (hnum : -9223372036854775808 ≤ num ∧ num ≤ 9223372036854775807) :
    Calls Tryz.prog 5 #[.agg #[.slice pa pn pc, .slice pta ptn ptc], .agg #[.slice qa qn qc, .slice qta qtn qtc], .agg #[.slice ra rn rc, .slice rta rtn rtc], .int .i64 num] w fun e w' => e = .returned (.bool true) ∧ Below w.heap.size w w' := by
  have b0 := hid (Below.tr (below_two w (.cells #[.slice pa pn pc, .slice pta ptn ptc] 27) (.cells #[.slice qa qn qc, .slice qta qtn qtc] 27)) (below_alloc _ (.cells #[.slice ra rn rc, .slice rta rtn rtc] 27)))
  have kp : Hid (CellsAt _ w.heap.size #[.slice pa pn pc, .slice pta ptn ptc] 27) := hid (((cellsAt_alloc w _ _).below (below_alloc _ (.cells #[.slice qa qn qc, .slice qta qtn qtc] 27))).below (below_alloc _ (.cells #[.slice ra rn rc, .slice rta rtn rtc] 27)))
  have kq : Hid (CellsAt _ (w.heap.size + 1) #[.slice qa qn qc, .slice qta qtn qtc] 27) := hid ((cellsAt_alloc2 w (.cells #[.slice pa pn pc, .slice pta ptn ptc] 27) _ _).below (below_alloc _ (.cells #[.slice ra rn rc, .slice rta rtn rtc] 27)))
  have kr : Hid (CellsAt (((w.alloc (.cells #[.slice pa pn pc, .slice pta ptn ptc] 27)).alloc (.cells #[.slice qa qn qc, .slice qta qtn qtc] 27)).alloc (.cells #[.slice ra rn rc, .slice rta rtn rtc] 27)) (w.heap.size + 1 + 1) #[.slice ra rn rc, .slice rta rtn rtc] 27) := hid (by
    have h := cellsAt_alloc ((w.alloc (.cells #[.slice pa pn pc, .slice pta ptn ptc] 27)).alloc (.cells #[.slice qa qn qc, .slice qta qtn qtc] 27)) #[.slice ra rn rc, .slice rta rtn rtc] 27
    simp only [szA] at h
    exact h)
  replace hP := hid hP
  replace hQ := hid hQ
  replace hR := hid hR
  replace hpn := hid hpn
  replace hqn := hid hqn
  replace hrn := hid hrn
  go_enter Tryz.func5, Tryz.ntmps5
  go_upto_region 1 with fail
  generalize (((w.alloc (.cells #[.slice pa pn pc, .slice pta ptn ptc] 27)).alloc (.cells #[.slice qa qn qc, .slice qta qtn qtc] 27)).alloc (.cells #[.slice ra rn rc, .slice rta rtn rtc] 27)) = w0 at *
  have x0 := kp.out.cell 0
  have x1 := kp.out.cell 1
  simp only [List.getElem?_toArray, List.getElem?_cons_zero, List.getElem?_cons_succ] at x0 x1
  go_wp2_with fail
  refine (commit_any none 0 0 [] none 0 0 [] (fun _ => True) pa pn pc ps pta ptn ptc pt w0 (rowB_nil _) (rowB_nil _) (hP.out.below b0.out) hpn.out).mono ?_
  rintro e w1 ⟨hr, b1⟩
  obtain ⟨da, dn, dc, db, dm, dd, f0, rfl, _, hyes⟩ := hr.uni
  have bA := hid (below_alloc w1 (.cells #[.slice da dn dc, .slice db dm dd] 53))
  have kD : Hid (CellsAt _ w1.heap.size #[.slice da dn dc, .slice db dm dd] 53) := hid (cellsAt_alloc w1 _ _)
  have hlD : Hid (w.heap.size + 1 + 1 < w1.heap.size) := hid (Nat.lt_of_lt_of_le kr.out.lt b1.size)
  have bA' := hid bA.out
  replace hyes := hid hyes
  replace kp := hid (((kp).out.below b1).below bA.out)
  replace kq := hid (((kq).out.below b1).below bA.out)
  replace kr := hid (((kr).out.below b1).below bA.out)
  replace b0 := hid (Below.tr (Below.tr b0.out b1) bA.out)
  clear b1 hr x0 x1 bA
  go_upto_region 2 with fail
  generalize w1.alloc (.cells #[.slice da dn dc, .slice db dm dd] 53) = w2 at *
  go_wp2_with fail
  refine (kept_any w2).mono ?_
  rintro e w3 ⟨rfl, b3⟩
  replace kp := hid ((kp).out.below b3)
  replace kq := hid ((kq).out.below b3)
  replace kr := hid ((kr).out.below b3)
  replace kD := hid ((kD).out.below b3)
  have b23 := hid b3
  replace b0 := hid (Below.tr b0.out b3)
  clear b3
  by_cases hf : f0 = 0
  rotate_left
  · have hf' : (f0 == 0) = false := by simp [hf]
    go_wp2_with fail
    refine (kept_any w3).mono ?_
    rintro e w6 ⟨rfl, b6⟩
    replace b0 := hid (Below.tr b0.out b6)
    clear b6
    go_wp2_with fail
    go_ret
    exact ⟨rfl, b0.out⟩
  subst hf
  obtain ⟨wh, k, S1, hNI, rfl, hC1, hC2⟩ := hyes.out rfl
  obtain ⟨e1, e2⟩ := nextIs_one hNI has_nil
  subst e1
  subst e2
  have hokP := hid hNI.ok
  have hH1 : Hid (∃ A1 B1, A1 = nextA [] 0 (nextS ps pt 0) ∧ B1 = nextB [] 0 (nextS ps pt 0) ∧ Has A1 B1 1 1 ps pt) := hid ⟨_, _, rfl, rfl, has_whole has_nil hNI⟩
  obtain ⟨A1, B1, hA1, hB1, hH1⟩ := hH1.out
  rw [← hA1] at hC1
  rw [← hB1] at hC2
  replace hC1 := hid ((hC1.row.below bA'.out).below b23.out)
  replace hC2 := hid ((hC2.row.below bA'.out).below b23.out)
  replace hH1 := hid hH1
  replace hNI := hid hNI
  clear hyes bA' b23 hA1 hB1
  have x0 := kD.out.cell 0
  have x1 := kD.out.cell 1
  simp only [List.getElem?_toArray, List.getElem?_cons_zero, List.getElem?_cons_succ] at x0 x1
  have y0 := kq.out.cell 0
  have y1 := kq.out.cell 1
  simp only [List.getElem?_toArray, List.getElem?_cons_zero, List.getElem?_cons_succ] at y0 y1
  go_wp2_with fail
  refine (commit_any da dn dc A1 db dm dd B1 (fun _ => True) qa qn qc qs qta qtn qtc qt w3 hC1.out hC2.out (hQ.out.below b0.out) hqn.out).mono ?_
  rintro e w4 ⟨hr, b4⟩
  obtain ⟨ea, en, ec, eb, em, ed, f1, rfl, _, hyes⟩ := hr.uni
  replace hyes := hid hyes
  have hlD3 : Hid (w1.heap.size < w3.heap.size) := hid kD.out.lt
  replace kp := hid ((kp).out.below b4)
  replace kq := hid ((kq).out.below b4)
  replace kr := hid ((kr).out.below b4)
  replace kD := hid ((kD).out.below b4)
  replace b0 := hid (Below.tr b0.out b4)
  clear b4 hr x0 x1 y0 y1 hC1 hC2
  have z0 := kD.out.frozen 0
  have z1 := kD.out.frozen 1
  have x0 := kD.out.cell 0
  have x1 := kD.out.cell 1
  simp only [List.getElem?_toArray, List.getElem?_cons_zero, List.getElem?_cons_succ] at x0 x1
  have kk := kept_put2v w4 w1.heap.size (.slice ea en ec) (.slice eb em ed)
  have on := Only.of_kept (M := fun k => k = w1.heap.size) kk rfl
  replace kp := hid (on.cells kp.out (by have := hlD.out; omega))
  replace kq := hid (on.cells kq.out (by have := hlD.out; omega))
  replace kr := hid (on.cells kr.out (by have := hlD.out; omega))
  replace kD := hid (cells_put2v (.slice ea en ec) (.slice eb em ed) kD.out)
  replace b0 := hid (b0.out.trans (kk.below (by have := hlD.out; omega)))
  replace hyes : Hid (f1 = 0 → ∃ S', NextIs A1 B1 qs qt 1 1 ∧ S' = nextS qs qt 1 ∧ RowB (put2v w4 w1.heap.size (.slice ea en ec) (.slice eb em ed)) ea en ec (nextA A1 1 S') ∧ RowB (put2v w4 w1.heap.size (.slice ea en ec) (.slice eb em ed)) eb em ed (nextB B1 1 S')) := hid (fun f => by
    obtain ⟨wh, k, S', h1, h2, h3, h4⟩ := hyes.out f
    obtain ⟨e1, e2⟩ := nextIs_one h1 hH1.out
    subst e1
    subst e2
    exact ⟨S', h1, h2, h3.kept kk hlD3.out, h4.kept kk hlD3.out⟩)
  clear on kk
  unfold put2v at kp kq kr kD b0 hyes
  go_upto_region 5 with fail
  generalize ((w4.setCell ⟨w1.heap.size, 0, none⟩ (.slice ea en ec)).setCell ⟨w1.heap.size, 1, none⟩ (.slice eb em ed)) = w5 at *
  clear x0 x1 z0 z1
  by_cases hf1 : f1 = 0
  rotate_left
  · have hf1' : (f1 == 0) = false := by simp [hf1]
    go_wp2_with fail
    go_ret
    exact ⟨rfl, b0.out⟩
  subst hf1
  obtain ⟨S2, hNI2, rfl, hE1, hE2⟩ := hyes.out rfl
  have hokQ := hid hNI2.ok
  have hH2 : Hid (∃ A2 B2, A2 = nextA A1 1 (nextS qs qt 1) ∧ B2 = nextB B1 1 (nextS qs qt 1) ∧ Has A2 B2 2 2 qs qt) := hid ⟨_, _, rfl, rfl, has_whole hH1.out hNI2⟩
  obtain ⟨A2, B2, hA2, hB2, hH2⟩ := hH2.out
  rw [← hA2] at hE1
  rw [← hB2] at hE2
  replace hE1 := hid hE1
  replace hE2 := hid hE2
  replace hH2 := hid hH2
  replace hNI2 := hid hNI2
  clear hyes hA2 hB2
  have x0 := kD.out.cell 0
  have x1 := kD.out.cell 1
  simp only [List.getElem?_toArray, List.getElem?_cons_zero, List.getElem?_cons_succ] at x0 x1
  go_wp2_with fail
  refine (recover_any ea en ec A2 eb em ed B2 w5 hE1.out hE2.out).mono ?_
  rintro e w6 ⟨hr, b6⟩
  obtain ⟨xa, xn, xc, xta, xtn, xtc, rfl, _, hxn, hX⟩ := hr.yes hH2.out (by decide)
  have bA := hid (below_alloc w6 (.cells #[.slice xa xn xc, .slice xta xtn xtc] 27))
  have kx : Hid (CellsAt _ w6.heap.size #[.slice xa xn xc, .slice xta xtn xtc] 27) := hid (cellsAt_alloc w6 _ _)
  replace hX := hid (hX.below bA.out)
  replace hxn := hid hxn
  replace kp := hid (((kp).out.below b6).below bA.out)
  replace kq := hid (((kq).out.below b6).below bA.out)
  replace kr := hid (((kr).out.below b6).below bA.out)
  replace kD := hid (((kD).out.below b6).below bA.out)
  replace hE1 := hid (((hE1).out.below b6).below bA.out)
  replace hE2 := hid (((hE2).out.below b6).below bA.out)
  replace b0 := hid (Below.tr (Below.tr b0.out b6) bA.out)
  clear b6 hr x0 x1 bA
  go_upto_region 8 with fail
  generalize w6.alloc (.cells #[.slice xa xn xc, .slice xta xtn xtc] 27) = w7 at *
  have x0 := kx.out.cell 0
  have x1 := kx.out.cell 1
  simp only [List.getElem?_toArray, List.getElem?_cons_zero, List.getElem?_cons_succ] at x0 x1
  have y0 := kq.out.cell 0
  have y1 := kq.out.cell 1
  simp only [List.getElem?_toArray, List.getElem?_cons_zero, List.getElem?_cons_succ] at y0 y1
  go_wp2_with fail
  refine (same_any (fun _ => True) (fun _ => True) xa xn xc (blksOf qs) xta xtn xtc qt qa qn qc (blksOf qs) qta qtn qtc qt w7 hX.out (hQ.out.below b0.out)).mono ?_
  rintro e w8 ⟨⟨t, rfl, ht⟩, b8⟩
  obtain rfl : t = true := ht.2 (same_true hokQ.out hxn.out hqn.out rfl rfl)
  replace kp := hid ((kp).out.below b8)
  replace kq := hid ((kq).out.below b8)
  replace kr := hid ((kr).out.below b8)
  replace kD := hid ((kD).out.below b8)
  replace hE1 := hid ((hE1).out.below b8)
  replace hE2 := hid ((hE2).out.below b8)
  replace b0 := hid (Below.tr b0.out b8)
  clear b8 ht x0 x1 y0 y1 kx hX hxn
  have x0 := kD.out.cell 0
  have x1 := kD.out.cell 1
  simp only [List.getElem?_toArray, List.getElem?_cons_zero, List.getElem?_cons_succ] at x0 x1
  have y0 := kr.out.cell 0
  have y1 := kr.out.cell 1
  simp only [List.getElem?_toArray, List.getElem?_cons_zero, List.getElem?_cons_succ] at y0 y1
  go_wp2_with fail
  refine (commit_any ea en ec A2 eb em ed B2 (fun _ => True) ra rn rc rs rta rtn rtc rt w8 hE1.out hE2.out (hR.out.below b0.out) hrn.out).mono ?_
  rintro e w9 ⟨hr, b9⟩
  obtain ⟨ga, gn, gc, gb, gm, gd, f2, rfl, _, hyes⟩ := hr.uni
  have bA := hid (below_alloc w9 (.cells #[.slice ga gn gc, .slice gb gm gd] 53))
  have kC : Hid (CellsAt _ w9.heap.size #[.slice ga gn gc, .slice gb gm gd] 53) := hid (cellsAt_alloc w9 _ _)
  replace hyes : Hid (f2 = 0 → NextIs A2 B2 rs rt 2 2 ∧ gn ≤ 20009 ∧ gm ≤ 20009) := hid (fun f => by
    obtain ⟨wh, k, S', h1, rfl, h3, h4⟩ := hyes f
    obtain ⟨e1, e2⟩ := nextIs_one h1 hH2.out
    subst e1
    subst e2
    have hh := (has_whole hH2.out h1).fits
    unfold Fits at hh
    have g1 := h3.row.nums.1
    have g2 := h4.row.nums.1
    exact ⟨h1, by omega, by omega⟩)
  replace kp := hid (((kp).out.below b9).below bA.out)
  replace kq := hid (((kq).out.below b9).below bA.out)
  replace kr := hid (((kr).out.below b9).below bA.out)
  replace kD := hid (((kD).out.below b9).below bA.out)
  replace hE1 := hid (((hE1).out.below b9).below bA.out)
  replace hE2 := hid (((hE2).out.below b9).below bA.out)
  replace b0 := hid (Below.tr (Below.tr b0.out b9) bA.out)
  clear b9 hr x0 x1 y0 y1 bA
  go_upto_region 11 with fail
  generalize w9.alloc (.cells #[.slice ga gn gc, .slice gb gm gd] 53) = w10 at *
  by_cases hf2 : f2 = 0
  rotate_left
  · have hf2' : (f2 == 0) = false := by simp [hf2]
    go_wp2_with fail
    go_ret
    exact ⟨rfl, b0.out⟩
  subst hf2
  obtain ⟨hNI3, hgn, hgm⟩ := hyes.out rfl
  have hokR := hid hNI3.ok
  replace hNI3 := hid hNI3
  have hmx : max (gn : Int) (gm : Int) ≤ 20009 := by omega
  have hmx0 : 0 ≤ max (gn : Int) (gm : Int) := by omega
  have hwr : IntKind.i64.wrap (max (gn : Int) (gm : Int) + 1) = max (gn : Int) (gm : Int) + 1 := Go.IntWalk.i64_in _ (by omega)
  replace hwr := hid hwr
  replace hgn := hid hgn
  replace hgm := hid hgm
  replace hmx := hid hmx
  replace hmx0 := hid hmx0
  clear hyes
  have l0 := kD.out.lt
  have l1 := kr.out.lt
  have l2 := kC.out.lt
  have x0 := kD.out.cell 0
  have x1 := kD.out.cell 1
  simp only [List.getElem?_toArray, List.getElem?_cons_zero, List.getElem?_cons_succ] at x0 x1
  have y0 := kr.out.cell 0
  have y1 := kr.out.cell 1
  simp only [List.getElem?_toArray, List.getElem?_cons_zero, List.getElem?_cons_succ] at y0 y1
  have u0 := kC.out.cell 0
  have u1 := kC.out.cell 1
  simp only [List.getElem?_toArray, List.getElem?_cons_zero, List.getElem?_cons_succ] at u0 u1
  go_upto_region 13 with fail
  have HB1 := hid (below_drew w10.heap.size w10)
  have HB2 : Hid (Below w10.heap.size w10 (w10.alloc (.cells #[.slice none 0 0, .slice none 0 0] 53)).drew) := hid ((below_alloc w10 (.cells #[.slice none 0 0, .slice none 0 0] 53)).trans (below_drew _ _))
  have HZ2 : Hid ((w10.alloc (.cells #[.slice none 0 0, .slice none 0 0] 53)).drew.heap.size = w10.heap.size + 1) := hid (by simp [World.drew])
  have ka2 := hid ((cellsAt_alloc w10 #[.slice none 0 0, .slice none 0 0] 53).below (below_drew _ _))
  have hE1' : Hid (∀ w', Below w10.heap.size w10 w' → RowB w' ea en ec A2) := hid (fun w' h => hE1.out.below h)
  have hE2' : Hid (∀ w', Below w10.heap.size w10 w' → RowB w' eb em ed B2) := hid (fun w' h => hE2.out.below h)
  have hR' : Hid (∀ w', Below w10.heap.size w10 w' → PoolAt (fun _ => True) w' ra rn (blksOf rs) rta rtn rt) := hid (fun w' h => hR.out.below (Below.tr b0.out h))
  have n0 : w1.heap.size ≠ w10.heap.size := by omega
  have n1 : w.heap.size + 1 + 1 ≠ w10.heap.size := by omega
  have n2 : w9.heap.size ≠ w10.heap.size := by omega
  have n0' := n0.symm
  have n1' := n1.symm
  have n2' := n2.symm
  go_cut [10, 14] from 82 (fun v10 v14 wc => GotT w10 wc A2 B2 rs rt v10 v14)
  case first =>
    go_region_held3 (fun w' => w'.cell? ⟨w1.heap.size, 0, none⟩ = some (.slice ea en ec) ∧ w'.cell? ⟨w1.heap.size, 1, none⟩ = some (.slice eb em ed) ∧ w'.cell? ⟨w.heap.size + 1 + 1, 0, none⟩ = some (.slice ra rn rc) ∧ w'.cell? ⟨w.heap.size + 1 + 1, 1, none⟩ = some (.slice rta rtn rtc) ∧ w'.cell? ⟨w9.heap.size, 0, none⟩ = some (.slice ga gn gc) ∧ w'.cell? ⟨w9.heap.size, 1, none⟩ = some (.slice gb gm gd)) (first | go_keep | assumption) (first | (go_at_call 13; (try rw [hwr.out]); refine Calls.mono (at_big num (max (gn : Int) (gm : Int) + 1) _ (by have := hmx0.out; omega) (by have := hmx.out; omega)) ?_; rintro e w5 ⟨⟨tr, rfl, _⟩, rfl⟩) | (go_at_call 18; refine Calls.mono (torn_any ea en ec A2 eb em ed B2 (fun _ => True) ra rn rc rs rta rtn rtc rt _ _ ?_ ?_ ?_ hrn.out) ?_; (first | with_reducible exact hE1'.out _ HB1.out | with_reducible exact hE1'.out _ HB2.out); (first | with_reducible exact hE2'.out _ HB1.out | with_reducible exact hE2'.out _ HB2.out); (first | with_reducible exact hR'.out _ HB1.out | with_reducible exact hR'.out _ HB2.out); rintro e w6 ⟨hret, b6⟩; have hr6 := ti_of hret; clear hret; obtain ⟨sa, sn, sc, sb, sm, sd, e6, rfl, hTI⟩ := hr6; (first | (with_reducible have bb := hid (Below.tr HB1.out b6)) | (with_reducible have bb := hid (Below.tr HB2.out b6); have ka := hid (ka2.out.below b6); rw [HZ2.out] at hTI; have cka0 := ka.out.cell 0; have cka1 := ka.out.cell 1; have fka0 := ka.out.frozen 0; have fka1 := ka.out.frozen 1; simp only [List.getElem?_toArray, List.getElem?_cons_zero, List.getElem?_cons_succ] at cka0 cka1)); have s0 := (bb.out.cell (p := ⟨w1.heap.size, 0, none⟩) l0).trans x0; have s1 := (bb.out.cell (p := ⟨w1.heap.size, 1, none⟩) l0).trans x1; have s2 := (bb.out.cell (p := ⟨w.heap.size + 1 + 1, 0, none⟩) l1).trans y0; have s3 := (bb.out.cell (p := ⟨w.heap.size + 1 + 1, 1, none⟩) l1).trans y1; have s4 := (bb.out.cell (p := ⟨w9.heap.size, 0, none⟩) l2).trans u0; have s5 := (bb.out.cell (p := ⟨w9.heap.size, 1, none⟩) l2).trans u1; have hs6 := bb.out.size; have m0 : w1.heap.size ≠ w6.heap.size := (by omega); have m1 : w.heap.size + 1 + 1 ≠ w6.heap.size := (by omega); have m2 : w9.heap.size ≠ w6.heap.size := (by omega); have m0' := m0.symm; have m1' := m1.symm; have m2' := m2.symm; replace hTI := hid hTI; replace b6 := hid b6))
    all_goals (go_wp2_with fail; go_meet; first
      | exact gotT_ca bb.out hTI.out (by first | exact Nat.le_refl _ | exact Nat.le_succ _)
      | exact gotT_ac (g := w10.heap.size) ka.out (Nat.le_refl _) (Nat.lt_succ_self _) bb.out hTI.out)
  case rest =>
    clear HB1 HB2 HZ2 ka2 hE1' hE2' hR' n0 n1 n2 n0' n1' n2' x0 x1 y0 y1 u0 u1 l0 l1 l2
    obtain ⟨tg, ta, tn, tc, tb, tm, td, e3, rfl, rfl, kT, bT, htg, hTI⟩ := hcut
    have hl10 : Hid (w.heap.size + 1 + 1 < w10.heap.size) := hid kr.out.lt
    replace kp := hid (kp.out.below bT)
    replace kq := hid (kq.out.below bT)
    replace kr := hid (kr.out.below bT)
    replace b0 := hid (Below.tr b0.out bT)
    replace kT := hid kT
    replace hTI := hid hTI
    replace htg := hid htg
    clear bT kD kC hE1 hE2
    by_cases he3 : e3 = 0
    rotate_left
    · have h33 : e3 = 3 := (hTI.out.1 he3).resolve_right (whyD_no hH2.out (by decide) hokR.out)
      subst h33
      go_wp2_with fail
      go_ret
      exact ⟨rfl, b0.out⟩
    subst he3
    obtain ⟨wh, k, S3, hNI4, ⟨j, hj, rfl⟩, hT1, hT2⟩ := hTI.out.2 rfl
    obtain ⟨e1, e2⟩ := nextIs_one hNI4 hH2.out
    subst e1
    subst e2
    have hcase : ∃ A3 B3 wh3, A3 = nextA A2 2 ((nextS rs rt 2).take j) ∧ B3 = nextB B2 2 ((nextS rs rt 2).take j) ∧ wh3 ≠ 0 ∧ (Has A3 B3 wh3 2 qs qt ∨ Has A3 B3 wh3 3 rs rt) := by
      by_cases hjl : j < (nextS rs rt 2).length
      · exact ⟨_, _, 2, rfl, rfl, by decide, .inl (has_torn hH2.out hNI4 hjl)⟩
      · have e : (nextS rs rt 2).take j = nextS rs rt 2 := List.take_of_length_le (by omega)
        rw [e]
        exact ⟨_, _, 1, rfl, rfl, by decide, .inr (has_whole hH2.out hNI4)⟩
    obtain ⟨A3, B3, wh3, hA3, hB3, hw3, hcase⟩ := hcase
    rw [← hA3] at hT1
    rw [← hB3] at hT2
    replace hT1 := hid hT1.row
    replace hT2 := hid hT2.row
    clear hA3 hB3 hj hTI hNI4
    have x0 := kT.out.cell 0
    have x1 := kT.out.cell 1
    simp only [List.getElem?_toArray, List.getElem?_cons_zero, List.getElem?_cons_succ] at x0 x1
    go_wp2_with fail
    refine (recover_any ta tn tc A3 tb tm td B3 wc hT1.out hT2.out).mono ?_
    rintro e w11 ⟨hr, b11⟩
    rcases hcase with hH3 | hH3
    · obtain ⟨ya, yn, yc, yta, ytn, ytc, rfl, _, hyn, hY⟩ := hr.yes hH3 hw3
      have bA := hid (below_alloc w11 (.cells #[.slice ya yn yc, .slice yta ytn ytc] 27))
      have ky : Hid (CellsAt _ w11.heap.size #[.slice ya yn yc, .slice yta ytn ytc] 27) := hid (cellsAt_alloc w11 _ _)
      replace hY := hid (hY.below bA.out)
      replace hyn := hid hyn
      replace hH3 := hid hH3
      replace kp := hid (((kp).out.below b11).below bA.out)
      replace kq := hid (((kq).out.below b11).below bA.out)
      replace kr := hid (((kr).out.below b11).below bA.out)
      replace kT := hid (((kT).out.below b11).below bA.out)
      replace hT1 := hid (((hT1).out.below b11).below bA.out)
      replace hT2 := hid (((hT2).out.below b11).below bA.out)
      replace b0 := hid (Below.tr (Below.tr b0.out b11) bA.out)
      clear b11 hr x0 x1 bA
      go_upto_region 17 with fail
      generalize w11.alloc (.cells #[.slice ya yn yc, .slice yta ytn ytc] 27) = w12 at *
      have x0 := ky.out.cell 0
      have x1 := ky.out.cell 1
      simp only [List.getElem?_toArray, List.getElem?_cons_zero, List.getElem?_cons_succ] at x0 x1
      have y0 := kq.out.cell 0
      have y1 := kq.out.cell 1
      simp only [List.getElem?_toArray, List.getElem?_cons_zero, List.getElem?_cons_succ] at y0 y1
      go_wp2_with fail
      refine (same_any (fun _ => True) (fun _ => True) ya yn yc (blksOf qs) yta ytn ytc qt qa qn qc (blksOf qs) qta qtn qtc qt w12 hY.out (hQ.out.below b0.out)).mono ?_
      rintro e w13 ⟨⟨t, rfl, ht⟩, b13⟩
      obtain rfl : t = true := ht.2 (same_true hokQ.out hyn.out hqn.out rfl rfl)
      replace kp := hid ((kp).out.below b13)
      replace kq := hid ((kq).out.below b13)
      replace kr := hid ((kr).out.below b13)
      replace kT := hid ((kT).out.below b13)
      replace hT1 := hid ((hT1).out.below b13)
      replace hT2 := hid ((hT2).out.below b13)
      replace b0 := hid (Below.tr b0.out b13)
      clear b13 ht x0 x1 y0 y1 ky hY hyn
      have x0 := kT.out.cell 0
      have x1 := kT.out.cell 1
      simp only [List.getElem?_toArray, List.getElem?_cons_zero, List.getElem?_cons_succ] at x0 x1
      have y0 := kp.out.cell 0
      have y1 := kp.out.cell 1
      simp only [List.getElem?_toArray, List.getElem?_cons_zero, List.getElem?_cons_succ] at y0 y1
      go_wp2_with fail
      refine (commit_any ta tn tc A3 tb tm td B3 (fun _ => True) pa pn pc ps pta ptn ptc pt w13 hT1.out hT2.out (hP.out.below b0.out) hpn.out).mono ?_
      rintro e w14 ⟨hr, b14⟩
      obtain ⟨va, vn, vc, vb, vm, vd, S5, rfl, hNI5, rfl, hV1, hV2⟩ := hr.yes hH3.out (by decide) hokP.out
      have hH5 := hid (has_whole hH3.out hNI5)
      have hlT : Hid (tg < w13.heap.size) := hid kT.out.lt
      replace kp := hid ((kp).out.below b14)
      replace kq := hid ((kq).out.below b14)
      replace kr := hid ((kr).out.below b14)
      replace kT := hid ((kT).out.below b14)
      replace b0 := hid (Below.tr b0.out b14)
      clear b14 hr x0 x1 y0 y1 hT1 hT2
      have z0 := kT.out.frozen 0
      have z1 := kT.out.frozen 1
      have x0 := kT.out.cell 0
      have x1 := kT.out.cell 1
      simp only [List.getElem?_toArray, List.getElem?_cons_zero, List.getElem?_cons_succ] at x0 x1
      have kk := kept_put2v w14 tg (.slice va vn vc) (.slice vb vm vd)
      have on := Only.of_kept (M := fun k => k = tg) kk rfl
      replace kp := hid (on.cells kp.out (by have := htg.out; have := hl10.out; omega))
      replace kT := hid (cells_put2v (.slice va vn vc) (.slice vb vm vd) kT.out)
      replace b0 := hid (b0.out.trans (kk.below (by have := htg.out; have := hl10.out; omega)))
      replace hV1 := hid (hV1.kept kk hlT.out)
      replace hV2 := hid (hV2.kept kk hlT.out)
      replace hNI5 := hid hNI5
      clear on kk kq kr
      unfold put2v at kp kT b0 hV1 hV2
      go_upto_region 20 with fail
      generalize ((w14.setCell ⟨tg, 0, none⟩ (.slice va vn vc)).setCell ⟨tg, 1, none⟩ (.slice vb vm vd)) = w15 at *
      clear x0 x1 z0 z1
      have x0 := kT.out.cell 0
      have x1 := kT.out.cell 1
      simp only [List.getElem?_toArray, List.getElem?_cons_zero, List.getElem?_cons_succ] at x0 x1
      go_wp2_with fail
      refine (recover_any va vn vc _ vb vm vd _ w15 hV1.out hV2.out).mono ?_
      rintro e w16 ⟨hr, b16⟩
      obtain ⟨za, zn, zc, zta, ztn, ztc, rfl, _, hzn, hZ⟩ := hr.yes hH5.out (by split <;> decide)
      have bA := hid (below_alloc w16 (.cells #[.slice za zn zc, .slice zta ztn ztc] 27))
      have kz : Hid (CellsAt _ w16.heap.size #[.slice za zn zc, .slice zta ztn ztc] 27) := hid (cellsAt_alloc w16 _ _)
      replace hZ := hid (hZ.below bA.out)
      replace hzn := hid hzn
      replace kp := hid ((kp.out.below b16).below bA.out)
      replace b0 := hid (Below.tr (Below.tr b0.out b16) bA.out)
      clear b16 hr x0 x1 bA kT hV1 hV2
      go_upto_region 21 with fail
      generalize w16.alloc (.cells #[.slice za zn zc, .slice zta ztn ztc] 27) = w17 at *
      have x0 := kz.out.cell 0
      have x1 := kz.out.cell 1
      simp only [List.getElem?_toArray, List.getElem?_cons_zero, List.getElem?_cons_succ] at x0 x1
      have y0 := kp.out.cell 0
      have y1 := kp.out.cell 1
      simp only [List.getElem?_toArray, List.getElem?_cons_zero, List.getElem?_cons_succ] at y0 y1
      go_wp2_with fail
      refine (same_any (fun _ => True) (fun _ => True) za zn zc (blksOf ps) zta ztn ztc pt pa pn pc (blksOf ps) pta ptn ptc pt w17 hZ.out (hP.out.below b0.out)).mono ?_
      rintro e w18 ⟨⟨t, rfl, ht⟩, b18⟩
      obtain rfl : t = true := ht.2 (same_true hokP.out hzn.out hpn.out rfl rfl)
      replace b0 := hid (Below.tr b0.out b18)
      clear b18 ht x0 x1 y0 y1
      go_wp2_with fail
      go_ret
      exact ⟨rfl, b0.out⟩
    · obtain ⟨ya, yn, yc, yta, ytn, ytc, rfl, _, hyn, hY⟩ := hr.yes hH3 hw3
      have bA := hid (below_alloc w11 (.cells #[.slice ya yn yc, .slice yta ytn ytc] 27))
      have ky : Hid (CellsAt _ w11.heap.size #[.slice ya yn yc, .slice yta ytn ytc] 27) := hid (cellsAt_alloc w11 _ _)
      replace hY := hid (hY.below bA.out)
      replace hyn := hid hyn
      replace hH3 := hid hH3
      replace kp := hid (((kp).out.below b11).below bA.out)
      replace kq := hid (((kq).out.below b11).below bA.out)
      replace kr := hid (((kr).out.below b11).below bA.out)
      replace kT := hid (((kT).out.below b11).below bA.out)
      replace hT1 := hid (((hT1).out.below b11).below bA.out)
      replace hT2 := hid (((hT2).out.below b11).below bA.out)
      replace b0 := hid (Below.tr (Below.tr b0.out b11) bA.out)
      clear b11 hr x0 x1 bA
      go_upto_region 17 with fail
      generalize w11.alloc (.cells #[.slice ya yn yc, .slice yta ytn ytc] 27) = w12 at *
      have x0 := ky.out.cell 0
      have x1 := ky.out.cell 1
      simp only [List.getElem?_toArray, List.getElem?_cons_zero, List.getElem?_cons_succ] at x0 x1
      have y0 := kr.out.cell 0
      have y1 := kr.out.cell 1
      simp only [List.getElem?_toArray, List.getElem?_cons_zero, List.getElem?_cons_succ] at y0 y1
      go_wp2_with fail
      refine (same_any (fun _ => True) (fun _ => True) ya yn yc (blksOf rs) yta ytn ytc rt ra rn rc (blksOf rs) rta rtn rtc rt w12 hY.out (hR.out.below b0.out)).mono ?_
      rintro e w13 ⟨⟨t, rfl, ht⟩, b13⟩
      obtain rfl : t = true := ht.2 (same_true hokR.out hyn.out hrn.out rfl rfl)
      replace kp := hid ((kp).out.below b13)
      replace kq := hid ((kq).out.below b13)
      replace kr := hid ((kr).out.below b13)
      replace kT := hid ((kT).out.below b13)
      replace hT1 := hid ((hT1).out.below b13)
      replace hT2 := hid ((hT2).out.below b13)
      replace b0 := hid (Below.tr b0.out b13)
      clear b13 ht x0 x1 y0 y1 ky hY hyn
      have x0 := kT.out.cell 0
      have x1 := kT.out.cell 1
      simp only [List.getElem?_toArray, List.getElem?_cons_zero, List.getElem?_cons_succ] at x0 x1
      have y0 := kp.out.cell 0
      have y1 := kp.out.cell 1
      simp only [List.getElem?_toArray, List.getElem?_cons_zero, List.getElem?_cons_succ] at y0 y1
      go_wp2_with fail
      refine (commit_any ta tn tc A3 tb tm td B3 (fun _ => True) pa pn pc ps pta ptn ptc pt w13 hT1.out hT2.out (hP.out.below b0.out) hpn.out).mono ?_
      rintro e w14 ⟨hr, b14⟩
      obtain ⟨va, vn, vc, vb, vm, vd, S5, rfl, hNI5, rfl, hV1, hV2⟩ := hr.yes hH3.out (by decide) hokP.out
      have hH5 := hid (has_whole hH3.out hNI5)
      have hlT : Hid (tg < w13.heap.size) := hid kT.out.lt
      replace kp := hid ((kp).out.below b14)
      replace kq := hid ((kq).out.below b14)
      replace kr := hid ((kr).out.below b14)
      replace kT := hid ((kT).out.below b14)
      replace b0 := hid (Below.tr b0.out b14)
      clear b14 hr x0 x1 y0 y1 hT1 hT2
      have z0 := kT.out.frozen 0
      have z1 := kT.out.frozen 1
      have x0 := kT.out.cell 0
      have x1 := kT.out.cell 1
      simp only [List.getElem?_toArray, List.getElem?_cons_zero, List.getElem?_cons_succ] at x0 x1
      have kk := kept_put2v w14 tg (.slice va vn vc) (.slice vb vm vd)
      have on := Only.of_kept (M := fun k => k = tg) kk rfl
      replace kp := hid (on.cells kp.out (by have := htg.out; have := hl10.out; omega))
      replace kT := hid (cells_put2v (.slice va vn vc) (.slice vb vm vd) kT.out)
      replace b0 := hid (b0.out.trans (kk.below (by have := htg.out; have := hl10.out; omega)))
      replace hV1 := hid (hV1.kept kk hlT.out)
      replace hV2 := hid (hV2.kept kk hlT.out)
      replace hNI5 := hid hNI5
      clear on kk kq kr
      unfold put2v at kp kT b0 hV1 hV2
      go_upto_region 20 with fail
      generalize ((w14.setCell ⟨tg, 0, none⟩ (.slice va vn vc)).setCell ⟨tg, 1, none⟩ (.slice vb vm vd)) = w15 at *
      clear x0 x1 z0 z1
      have x0 := kT.out.cell 0
      have x1 := kT.out.cell 1
      simp only [List.getElem?_toArray, List.getElem?_cons_zero, List.getElem?_cons_succ] at x0 x1
      go_wp2_with fail
      refine (recover_any va vn vc _ vb vm vd _ w15 hV1.out hV2.out).mono ?_
      rintro e w16 ⟨hr, b16⟩
      obtain ⟨za, zn, zc, zta, ztn, ztc, rfl, _, hzn, hZ⟩ := hr.yes hH5.out (by split <;> decide)
      have bA := hid (below_alloc w16 (.cells #[.slice za zn zc, .slice zta ztn ztc] 27))
      have kz : Hid (CellsAt _ w16.heap.size #[.slice za zn zc, .slice zta ztn ztc] 27) := hid (cellsAt_alloc w16 _ _)
      replace hZ := hid (hZ.below bA.out)
      replace hzn := hid hzn
      replace kp := hid ((kp.out.below b16).below bA.out)
      replace b0 := hid (Below.tr (Below.tr b0.out b16) bA.out)
      clear b16 hr x0 x1 bA kT hV1 hV2
      go_upto_region 21 with fail
      generalize w16.alloc (.cells #[.slice za zn zc, .slice zta ztn ztc] 27) = w17 at *
      have x0 := kz.out.cell 0
      have x1 := kz.out.cell 1
      simp only [List.getElem?_toArray, List.getElem?_cons_zero, List.getElem?_cons_succ] at x0 x1
      have y0 := kp.out.cell 0
      have y1 := kp.out.cell 1
      simp only [List.getElem?_toArray, List.getElem?_cons_zero, List.getElem?_cons_succ] at y0 y1
      go_wp2_with fail
      refine (same_any (fun _ => True) (fun _ => True) za zn zc (blksOf ps) zta ztn ztc pt pa pn pc (blksOf ps) pta ptn ptc pt w17 hZ.out (hP.out.below b0.out)).mono ?_
      rintro e w18 ⟨⟨t, rfl, ht⟩, b18⟩
      obtain rfl : t = true := ht.2 (same_true hokP.out hzn.out hpn.out rfl rfl)
      replace b0 := hid (Below.tr b0.out b18)
      clear b18 ht x0 x1 y0 y1
      go_wp2_with fail
      go_ret
      exact ⟨rfl, b0.out⟩
end Go.Proofs.YtihkljfcplfldaaGreat
