/-
  DiskTwiceWalk in one text. Nothing here is trusted.
-/
import Derived.Test.YtihkljfcplfldaaGreatPart37
import Derived.BigQuiet
set_option linter.unusedVariables false
namespace Go.Proofs.YtihkljfcplfldaaGreat
open Go.RowKit

/-- what Recover answers, in one form -/
theorem RetRc.uni {e : Ending} {w : World} {A B : List Int} (h : RetRc e w A B) : ∃ (a : Option Addr) (n c : Nat) (ta : Option Addr) (tn tc : Nat) (k e' : Int), e = .returned (.tuple #[.agg #[.slice a n c, .slice ta tn tc], .int .i64 k, .int .i64 e']) ∧ (0 ≤ k ∧ k < 4294967296) ∧ (e' = 0 → ∃ wh bs ts, Newest A B wh k bs ts ∧ wh ≠ 0) ∧ (e' ≠ 0 → Fits A B → ∃ bs ts, Newest A B 0 0 bs ts) := by
  rcases h with ⟨e', rfl, he, h⟩ | ⟨a, n, c, ta, tn, tc, wh, k, bs, ts, rfl, _, hN, hw, _, hk, _, _⟩
  · exact ⟨none, 0, 0, none, 0, 0, 0, e', rfl, by omega, fun f => absurd f he, fun _ => h⟩
  · exact ⟨a, n, c, ta, tn, tc, k, 0, rfl, hk, fun _ => ⟨wh, bs, ts, hN, hw⟩, fun f => absurd rfl f⟩
/-- what Commit answers, in one form -/
theorem RetCm.uni {base : Nat} {e : Ending} {w : World} {A B : List Int} {bs : List Blk} {ts : List TenE} {N : Int → Prop} {S : Int → List Int → Prop} (h : RetCm base e w A B bs ts N S) : ∃ a n c b m d e', e = .returned (.tuple #[.agg #[.slice a n c, .slice b m d], .int .i64 e']) ∧ (e' ≠ 0 → N e' ∨ WhyD A B bs ts) ∧ (e' = 0 → ∃ wh k S', NextIs A B bs ts wh k ∧ S k S' ∧ RowN base w a n c (nextA A wh S') ∧ RowN base w b m d (nextB B wh S')) := by
  rcases h with ⟨e', rfl, he, h⟩ | ⟨a, n, c, b, m, d, wh, k, S', rfl, h1, h2, h3, h4⟩
  · exact ⟨none, 0, 0, none, 0, 0, e', rfl, fun _ => h, fun f => absurd f he⟩
  · exact ⟨a, n, c, b, m, d, 0, rfl, fun f => absurd rfl f, fun _ => ⟨wh, k, S', h1, h2, h3, h4⟩⟩

set_option maxHeartbeats 8000000 in
set_option maxRecDepth 100000 in
theorem diskTwice_walk (a : Option Addr) (n c : Nat) (A : List Int) (b : Option Addr) (m d : Nat) (B : List Int) (pa : Option Addr) (pn pc : Nat) (ps : List Blk) (pta : Option Addr) (ptn ptc : Nat) (pt : List TenE) (qa : Option Addr) (qn qc : Nat) (qs : List Blk) (qta : Option Addr) (qtn qtc : Nat) (qt : List TenE) (w : World) (hA : RowB w a n c A) (hB : RowB w b m d B) (hP : PoolAt (fun _ => True) w pa pn (blksOf ps) pta ptn pt) (hpn : pn = ps.length) (hQ : PoolAt (fun _ => True) w qa qn (blksOf qs) qta qtn qt) (hqn : qn = qs.length) :
    Calls Tryz.prog 6 #[.agg #[.slice a n c, .slice b m d], .agg #[.slice pa pn pc, .slice pta ptn ptc], .agg #[.slice qa qn qc, .slice qta qtn qtc]] w fun e w' => e = .returned (.bool true) ∧ Below w.heap.size w w' := by
  have b0 := hid (Below.tr (below_two w (.cells #[.slice a n c, .slice b m d] 53) (.cells #[.slice pa pn pc, .slice pta ptn ptc] 27)) (below_alloc _ (.cells #[.slice qa qn qc, .slice qta qtn qtc] 27)))
  have kd : Hid (CellsAt _ w.heap.size #[.slice a n c, .slice b m d] 53) := hid (((cellsAt_alloc w _ _).below (below_alloc _ (.cells #[.slice pa pn pc, .slice pta ptn ptc] 27))).below (below_alloc _ (.cells #[.slice qa qn qc, .slice qta qtn qtc] 27)))
  have kp : Hid (CellsAt _ (w.heap.size + 1) #[.slice pa pn pc, .slice pta ptn ptc] 27) := hid ((cellsAt_alloc2 w (.cells #[.slice a n c, .slice b m d] 53) _ _).below (below_alloc _ (.cells #[.slice qa qn qc, .slice qta qtn qtc] 27)))
  have kq : Hid (CellsAt (((w.alloc (.cells #[.slice a n c, .slice b m d] 53)).alloc (.cells #[.slice pa pn pc, .slice pta ptn ptc] 27)).alloc (.cells #[.slice qa qn qc, .slice qta qtn qtc] 27)) (w.heap.size + 1 + 1) #[.slice qa qn qc, .slice qta qtn qtc] 27) := hid (by
    have h := cellsAt_alloc ((w.alloc (.cells #[.slice a n c, .slice b m d] 53)).alloc (.cells #[.slice pa pn pc, .slice pta ptn ptc] 27)) #[.slice qa qn qc, .slice qta qtn qtc] 27
    simp only [szA] at h
    exact h)
  replace hA := hid hA
  replace hB := hid hB
  replace hP := hid hP
  replace hQ := hid hQ
  replace hpn := hid hpn
  replace hqn := hid hqn
  go_enter Tryz.func6, Tryz.ntmps6
  go_upto_region 1 with fail
  generalize (((w.alloc (.cells #[.slice a n c, .slice b m d] 53)).alloc (.cells #[.slice pa pn pc, .slice pta ptn ptc] 27)).alloc (.cells #[.slice qa qn qc, .slice qta qtn qtc] 27)) = w0 at *
  have x0 := kd.out.cell 0
  have x1 := kd.out.cell 1
  simp only [List.getElem?_toArray, List.getElem?_cons_zero, List.getElem?_cons_succ] at x0 x1
  go_wp2_with fail
  refine (recover_any a n c A b m d B w0 (hA.out.below b0.out) (hB.out.below b0.out)).mono ?_
  rintro e w1 ⟨hr, b1⟩
  obtain ⟨ra, rn, rc, rta, rtn, rtc, n0, e0, rfl, hn0, hyes0, hno0⟩ := hr.uni
  have bA := hid (below_alloc w1 (.cells #[.slice ra rn rc, .slice rta rtn rtc] 27))
  replace hyes0 := hid hyes0
  replace hno0 := hid hno0
  replace kd := hid (((kd).out.below b1).below bA.out)
  replace kp := hid (((kp).out.below b1).below bA.out)
  replace kq := hid (((kq).out.below b1).below bA.out)
  replace b0 := hid (Below.tr (Below.tr b0.out b1) bA.out)
  obtain ⟨hn00, hn01⟩ := hn0
  clear b1 hr bA x0 x1
  go_upto_region 2 with fail
  generalize w1.alloc (.cells #[.slice ra rn rc, .slice rta rtn rtc] 27) = w2 at *
  have x0 := kd.out.cell 0
  have x1 := kd.out.cell 1
  simp only [List.getElem?_toArray, List.getElem?_cons_zero, List.getElem?_cons_succ] at x0 x1
  have y0 := kp.out.cell 0
  have y1 := kp.out.cell 1
  simp only [List.getElem?_toArray, List.getElem?_cons_zero, List.getElem?_cons_succ] at y0 y1
  go_wp2_with fail
  refine (commit_any a n c A b m d B (fun _ => True) pa pn pc ps pta ptn ptc pt w2 (hA.out.below b0.out) (hB.out.below b0.out) (hP.out.below b0.out) hpn.out).mono ?_
  rintro e w3 ⟨hr, b3⟩
  obtain ⟨ca, cn, cc, cb, cm, cd, f0, rfl, _, hyes⟩ := hr.uni
  have bA := hid (below_alloc w3 (.cells #[.slice ca cn cc, .slice cb cm cd] 53))
  have ka : Hid (CellsAt _ w3.heap.size #[.slice ca cn cc, .slice cb cm cd] 53) := hid (cellsAt_alloc w3 _ _)
  have bA' := hid bA.out
  replace hyes := hid hyes
  replace kd := hid (((kd).out.below b3).below bA.out)
  replace kp := hid (((kp).out.below b3).below bA.out)
  replace kq := hid (((kq).out.below b3).below bA.out)
  replace b0 := hid (Below.tr (Below.tr b0.out b3) bA.out)
  clear b3 hr x0 x1 y0 y1 bA
  go_upto_region 3 with fail
  generalize w3.alloc (.cells #[.slice ca cn cc, .slice cb cm cd] 53) = w4 at *
  go_wp2_with fail
  refine (kept_any w4).mono ?_
  rintro e w5 ⟨rfl, b5⟩
  replace kd := hid ((kd).out.below b5)
  replace kp := hid ((kp).out.below b5)
  replace kq := hid ((kq).out.below b5)
  replace ka := hid ((ka).out.below b5)
  have b45 := hid b5
  replace b0 := hid (Below.tr b0.out b5)
  clear b5
  by_cases hf : f0 = 0
  · subst hf
    obtain ⟨wh, k, S1, hNI, rfl, hC1, hC2⟩ := hyes.out rfl
    have hk0 := hNI.k0
    have hk1 := hNI.k1
    obtain ⟨bs0, ts0, hNw⟩ := hNI.is
    have hH0 : Has A B wh k bs0 ts0 := ⟨hNI.fits, hNw⟩
    have hokP := hid hNI.ok
    have hH1 := hid (has_whole hH0 hNI)
    have hC1' := hid ((hC1.row.below bA'.out).below b45.out)
    have hC2' := hid ((hC2.row.below bA'.out).below b45.out)
    have hm1 : Hid (e0 = 0 → n0 = k) := hid (fun f => by
      obtain ⟨wh', b', t', h', _⟩ := hyes0.out f
      exact (h'.one hNw).2.1)
    have hm2 : Hid (e0 ≠ 0 → k = 0) := hid (fun f => by
      obtain ⟨b', t', h'⟩ := hno0.out f hNI.fits
      exact (hNw.one h').2.1)
    replace hNI := hid hNI
    replace hNw := hid hNw
    replace hH0 := hid hH0
    clear hyes hyes0 hno0 bA' b45 hC1 hC2
    have x0 := ka.out.cell 0
    have x1 := ka.out.cell 1
    simp only [List.getElem?_toArray, List.getElem?_cons_zero, List.getElem?_cons_succ] at x0 x1
    go_wp2_with fail
    refine (recover_any ca cn cc _ cb cm cd _ w5 hC1'.out hC2'.out).mono ?_
    rintro e w6 ⟨hr, b6⟩
    obtain ⟨xa, xn, xc, xta, xtn, xtc, rfl, _, hxn, hX⟩ := hr.yes hH1.out (by split <;> decide)
    have bA := hid (below_alloc w6 (.cells #[.slice xa xn xc, .slice xta xtn xtc] 27))
    have kx : Hid (CellsAt _ w6.heap.size #[.slice xa xn xc, .slice xta xtn xtc] 27) := hid (cellsAt_alloc w6 _ _)
    replace hX := hid (hX.below bA.out)
    replace hxn := hid hxn
    replace kd := hid (((kd).out.below b6).below bA.out)
    replace kp := hid (((kp).out.below b6).below bA.out)
    replace kq := hid (((kq).out.below b6).below bA.out)
    replace ka := hid (((ka).out.below b6).below bA.out)
    replace hC1' := hid (((hC1').out.below b6).below bA.out)
    replace hC2' := hid (((hC2').out.below b6).below bA.out)
    replace b0 := hid (Below.tr (Below.tr b0.out b6) bA.out)
    clear b6 hr x0 x1 bA
    go_upto_region 6 with fail
    generalize w6.alloc (.cells #[.slice xa xn xc, .slice xta xtn xtc] 27) = w7 at *
    have x0 := kx.out.cell 0
    have x1 := kx.out.cell 1
    simp only [List.getElem?_toArray, List.getElem?_cons_zero, List.getElem?_cons_succ] at x0 x1
    have y0 := kp.out.cell 0
    have y1 := kp.out.cell 1
    simp only [List.getElem?_toArray, List.getElem?_cons_zero, List.getElem?_cons_succ] at y0 y1
    go_wp2_with fail
    refine (same_any (fun _ => True) (fun _ => True) xa xn xc (blksOf ps) xta xtn xtc pt pa pn pc (blksOf ps) pta ptn ptc pt w7 hX.out (hP.out.below b0.out)).mono ?_
    rintro e w8 ⟨⟨t, rfl, ht⟩, b8⟩
    obtain rfl : t = true := ht.2 (same_true hokP.out hxn.out hpn.out rfl rfl)
    replace kd := hid ((kd).out.below b8)
    replace kp := hid ((kp).out.below b8)
    replace kq := hid ((kq).out.below b8)
    replace ka := hid ((ka).out.below b8)
    replace hC1' := hid ((hC1').out.below b8)
    replace hC2' := hid ((hC2').out.below b8)
    replace b0 := hid (Below.tr b0.out b8)
    clear b8 ht x0 x1 y0 y1 kx hX hxn
    have hcase : (e0 = 0 ∧ k + 1 = n0 + 1) ∨ (e0 ≠ 0 ∧ k + 1 = 1) := by
      by_cases f : e0 = 0
      · exact .inl ⟨f, by rw [hm1.out f]⟩
      · exact .inr ⟨f, by rw [hm2.out f]; rfl⟩
    clear hm1 hm2
    have hkA : k + 1 < 9223372036854775807 := by omega
    have hsp : (wh = 1 ∧ nextA A wh (nextS ps pt k) = A ∧ nextB B wh (nextS ps pt k) = nextS ps pt k ∧ (if wh = 1 then (2 : Int) else 1) = 2) ∨ (wh ≠ 1 ∧ nextA A wh (nextS ps pt k) = nextS ps pt k ∧ nextB B wh (nextS ps pt k) = B ∧ (if wh = 1 then (2 : Int) else 1) = 1) := by
      unfold nextA nextB
      by_cases f : wh = 1
      · exact .inl ⟨f, if_pos f, if_pos f, if_pos f⟩
      · exact .inr ⟨f, if_neg f, if_neg f, if_neg f⟩
    replace hsp := hid hsp
    have hH1' : Hid (∃ A1 B1 w1', A1 = nextA A wh (nextS ps pt k) ∧ B1 = nextB B wh (nextS ps pt k) ∧ w1' = (if wh = 1 then (2 : Int) else 1) ∧ Has A1 B1 w1' (k + 1) ps pt) := hid ⟨_, _, _, rfl, rfl, rfl, hH1.out⟩
    obtain ⟨A1, B1, wh1, hA1, hB1, hw1, hH2⟩ := hH1'.out
    rw [← hA1] at hC1'
    rw [← hB1] at hC2'
    have hsp2 : Hid ((A1 = A ∧ wh1 = 2) ∨ (B1 = B ∧ wh1 = 1)) := hid (by
      rcases hsp.out with ⟨_, h1, _, h3⟩ | ⟨_, _, h2, h3⟩
      · exact .inl ⟨hA1.trans h1, hw1.trans h3⟩
      · exact .inr ⟨hB1.trans h2, hw1.trans h3⟩)
    replace hH2 := hid hH2
    clear hH1 hH1' hsp hA1 hB1 hw1 hNI hNw hH0
    have hmb : 1 ≤ k + 1 ∧ k + 1 < 2147483648 := by omega
    replace hk0 := hid hk0
    replace hk1 := hid hk1
    replace hkA := hid hkA
    generalize k + 1 = m1 at *
    obtain ⟨hmb1, hmb2⟩ := hmb
    have hAd := hid (hA.out.below b0.out)
    have hBd := hid (hB.out.below b0.out)
    have x0 := ka.out.cell 0
    have x1 := ka.out.cell 1
    simp only [List.getElem?_toArray, List.getElem?_cons_zero, List.getElem?_cons_succ] at x0 x1
    have y0 := kd.out.cell 0
    have y1 := kd.out.cell 1
    simp only [List.getElem?_toArray, List.getElem?_cons_zero, List.getElem?_cons_succ] at y0 y1
    have hk3 : ∃ e1 : Bool, e1 = decide (A1 = A) ∧ (e1 = true ↔ A1 = A) := ⟨_, rfl, by simp⟩
    have hk4 : ∃ e1 : Bool, e1 = decide (B1 = B) ∧ (e1 = true ↔ B1 = B) := ⟨_, rfl, by simp⟩
    obtain ⟨eA, heA, heA'⟩ := hk3
    obtain ⟨eB, heB, heB'⟩ := hk4
    replace heA := hid heA
    replace heA' := hid heA'
    replace heB := hid heB
    replace heB' := hid heB'
    rcases hcase with ⟨rfl, hk00⟩ | ⟨hne0, hk00⟩
    rotate_left
    · have hne1 : (e0 == 0) = false := by simp [hne0]
      have hk01 : (m1 != 1) = false := by simp [hk00]
      have hne2 : (e0 != 0) = true := by simp [hne0]
      replace hk00 := hid hk00
      replace hne0 := hid hne0
      go_upto_region 8 with fail
      go_quiet (first | (go_at_call_of 19 (Value.slice ca cn cc); refine Calls.quiet_of_same (bytesEq_any ca a cn cc n c (fun _ => True) (fun _ => True) A1 A _ (hC1'.out.nums.below (below_drewN _ _ _)) (hAd.out.nums.below (below_drewN _ _ _)))) | (go_at_call_of 19 (Value.slice cb cm cd); refine Calls.quiet_of_same (bytesEq_any cb b cm cd m d (fun _ => True) (fun _ => True) B1 B _ (hC2'.out.nums.below (below_drewN _ _ _)) (hBd.out.nums.below (below_drewN _ _ _)))))
      have bq := below_drewN w8.heap.size w8 nq
      replace kd := hid ((kd).out.below bq)
      replace kp := hid ((kp).out.below bq)
      replace kq := hid ((kq).out.below bq)
      replace ka := hid ((ka).out.below bq)
      replace hC1' := hid ((hC1').out.below bq)
      replace hC2' := hid ((hC2').out.below bq)
      replace hAd := hid (hAd.out.below bq)
      replace hBd := hid (hBd.out.below bq)
      replace b0 := hid (Below.tr b0.out bq)
      clear bq x0 x1 y0 y1
      generalize w8.drewN nq = w9 at *
      rw [← heA.out, ← heB.out]
      have hMain : Hid ((A1 = A ∧ B1 = B) ∨ (A1 = A ∧ B1 ≠ B ∧ wh1 = 2) ∨ (A1 ≠ A ∧ B1 = B ∧ wh1 = 1)) := hid (by
        by_cases g1 : A1 = A
        · by_cases g2 : B1 = B
          · exact .inl ⟨g1, g2⟩
          · rcases hsp2.out with ⟨_, h⟩ | ⟨h, _⟩
            · exact .inr (.inl ⟨g1, g2, h⟩)
            · exact absurd h g2
        · rcases hsp2.out with ⟨h, _⟩ | ⟨g2, h⟩
          · exact absurd h g1
          · exact .inr (.inr ⟨g1, g2, h⟩))
      rcases hMain.out with ⟨g1, g2⟩ | ⟨g1, g2, g3⟩ | ⟨g1, g2, g3⟩
      · obtain rfl : eA = true := heA'.out.2 g1
        obtain rfl : eB = true := heB'.out.2 g2
        replace g1 := hid g1
        replace g2 := hid g2
        have x0 := ka.out.cell 0
        have x1 := ka.out.cell 1
        simp only [List.getElem?_toArray, List.getElem?_cons_zero, List.getElem?_cons_succ] at x0 x1
        have y0 := kd.out.cell 0
        have y1 := kd.out.cell 1
        simp only [List.getElem?_toArray, List.getElem?_cons_zero, List.getElem?_cons_succ] at y0 y1
        go_wp2_with fail
        refine (bytesEq_any ca a cn cc n c (fun _ => True) (fun _ => True) A1 A w9 hC1'.out.nums hAd.out.nums).mono ?_
        rintro e w10 ⟨rfl, rfl⟩
        rw [← heA.out]
        go_wp2_with fail
        go_ret
        exact ⟨rfl, b0.out⟩
      · obtain rfl : eA = true := heA'.out.2 g1
        obtain rfl : eB = false := by cases eB; (· rfl); exact absurd (heB'.out.1 rfl) g2
        replace g1 := hid g1
        replace g2 := hid g2
        replace g3 := hid g3
        have x0 := ka.out.cell 0
        have x1 := ka.out.cell 1
        simp only [List.getElem?_toArray, List.getElem?_cons_zero, List.getElem?_cons_succ] at x0 x1
        have y0 := kq.out.cell 0
        have y1 := kq.out.cell 1
        simp only [List.getElem?_toArray, List.getElem?_cons_zero, List.getElem?_cons_succ] at y0 y1
        go_wp2_with fail
        refine (commit_any ca cn cc A1 cb cm cd B1 (fun _ => True) qa qn qc qs qta qtn qtc qt w9 hC1'.out hC2'.out (hQ.out.below b0.out) hqn.out).mono ?_
        rintro e w10 ⟨hr, b10⟩
        obtain ⟨ga, gn, gc, gb, gm, gd, f1, rfl, _, hyes⟩ := hr.uni
        have bA := hid (below_alloc w10 (.cells #[.slice ga gn gc, .slice gb gm gd] 53))
        have kb : Hid (CellsAt _ w10.heap.size #[.slice ga gn gc, .slice gb gm gd] 53) := hid (cellsAt_alloc w10 _ _)
        have bA' := hid bA.out
        replace hyes := hid hyes
        replace kd := hid (((kd).out.below b10).below bA.out)
        replace kp := hid (((kp).out.below b10).below bA.out)
        replace kq := hid (((kq).out.below b10).below bA.out)
        replace ka := hid (((ka).out.below b10).below bA.out)
        replace hC1' := hid (((hC1').out.below b10).below bA.out)
        replace hC2' := hid (((hC2').out.below b10).below bA.out)
        replace hAd := hid ((hAd.out.below b10).below bA.out)
        replace b0 := hid (Below.tr (Below.tr b0.out b10) bA.out)
        clear b10 hr x0 x1 y0 y1 bA
        go_upto_region 11 with fail
        generalize w10.alloc (.cells #[.slice ga gn gc, .slice gb gm gd] 53) = w11 at *
        by_cases hf1 : f1 = 0
        · subst hf1
          obtain ⟨wh2, k2, S2, hNI2, rfl, hG1, hG2⟩ := hyes.out rfl
          obtain ⟨e1, e2⟩ := nextIs_one hNI2 hH2.out
          subst e1
          subst e2
          have hokQ := hid hNI2.ok
          have hH3 := hid (has_whole hH2.out hNI2)
          have hG1' := hid (hG1.row.below bA'.out)
          have hG2' := hid (hG2.row.below bA'.out)
          replace hNI2 := hid hNI2
          clear hyes bA' hG1 hG2
          have x0 := kb.out.cell 0
          have x1 := kb.out.cell 1
          simp only [List.getElem?_toArray, List.getElem?_cons_zero, List.getElem?_cons_succ] at x0 x1
          go_wp2_with fail
          refine (recover_any ga gn gc _ gb gm gd _ w11 hG1'.out hG2'.out).mono ?_
          rintro e w12 ⟨hr, b12⟩
          obtain ⟨ya, yn, yc, yta, ytn, ytc, rfl, _, hyn, hY⟩ := hr.yes hH3.out (by split <;> decide)
          have bA := hid (below_alloc w12 (.cells #[.slice ya yn yc, .slice yta ytn ytc] 27))
          have ky : Hid (CellsAt _ w12.heap.size #[.slice ya yn yc, .slice yta ytn ytc] 27) := hid (cellsAt_alloc w12 _ _)
          replace hY := hid (hY.below bA.out)
          replace hyn := hid hyn
          replace kd := hid (((kd).out.below b12).below bA.out)
          replace kp := hid (((kp).out.below b12).below bA.out)
          replace kq := hid (((kq).out.below b12).below bA.out)
          replace ka := hid (((ka).out.below b12).below bA.out)
          replace hC1' := hid (((hC1').out.below b12).below bA.out)
          replace hC2' := hid (((hC2').out.below b12).below bA.out)
          replace hAd := hid ((hAd.out.below b12).below bA.out)
          replace hG1' := hid ((hG1'.out.below b12).below bA.out)
          replace hG2' := hid ((hG2'.out.below b12).below bA.out)
          replace kb := hid ((kb.out.below b12).below bA.out)
          replace b0 := hid (Below.tr (Below.tr b0.out b12) bA.out)
          clear b12 hr x0 x1 bA
          go_upto_region 14 with fail
          generalize w12.alloc (.cells #[.slice ya yn yc, .slice yta ytn ytc] 27) = w13 at *
          have x0 := ky.out.cell 0
          have x1 := ky.out.cell 1
          simp only [List.getElem?_toArray, List.getElem?_cons_zero, List.getElem?_cons_succ] at x0 x1
          have y0 := kq.out.cell 0
          have y1 := kq.out.cell 1
          simp only [List.getElem?_toArray, List.getElem?_cons_zero, List.getElem?_cons_succ] at y0 y1
          go_wp2_with fail
          refine (same_any (fun _ => True) (fun _ => True) ya yn yc (blksOf qs) yta ytn ytc qt qa qn qc (blksOf qs) qta qtn qtc qt w13 hY.out (hQ.out.below b0.out)).mono ?_
          rintro e w14 ⟨⟨t, rfl, ht⟩, b14⟩
          obtain rfl : t = true := ht.2 (same_true hokQ.out hyn.out hqn.out rfl rfl)
          replace kd := hid ((kd).out.below b14)
          replace kp := hid ((kp).out.below b14)
          replace kq := hid ((kq).out.below b14)
          replace ka := hid ((ka).out.below b14)
          replace hC1' := hid ((hC1').out.below b14)
          replace hC2' := hid ((hC2').out.below b14)
          replace hAd := hid (hAd.out.below b14)
          replace hG1' := hid (hG1'.out.below b14)
          replace hG2' := hid (hG2'.out.below b14)
          replace kb := hid (kb.out.below b14)
          replace b0 := hid (Below.tr b0.out b14)
          clear b14 ht x0 x1 y0 y1 ky hY hyn
          have x0 := ka.out.cell 0
          have x1 := ka.out.cell 1
          simp only [List.getElem?_toArray, List.getElem?_cons_zero, List.getElem?_cons_succ] at x0 x1
          have y0 := kd.out.cell 0
          have y1 := kd.out.cell 1
          simp only [List.getElem?_toArray, List.getElem?_cons_zero, List.getElem?_cons_succ] at y0 y1
          go_wp2_with fail
          refine (bytesEq_any ca a cn cc n c (fun _ => True) (fun _ => True) A1 A w14 hC1'.out.nums hAd.out.nums).mono ?_
          rintro e w15 ⟨rfl, rfl⟩
          rw [← heA.out]
          clear x0 x1 y0 y1
          have hlast : nextB B1 wh2 (nextS qs qt k2) = B1 := by unfold nextB; rw [if_neg (by have := g3.out; omega)]
          rw [hlast] at hG2'
          have x0 := kb.out.cell 0
          have x1 := kb.out.cell 1
          simp only [List.getElem?_toArray, List.getElem?_cons_zero, List.getElem?_cons_succ] at x0 x1
          have y0 := ka.out.cell 0
          have y1 := ka.out.cell 1
          simp only [List.getElem?_toArray, List.getElem?_cons_zero, List.getElem?_cons_succ] at y0 y1
          go_wp2_with fail
          refine (bytesEqual_same gb cb gm gd cm cd (fun _ => True) (fun _ => True) B1 w15 hG2'.out.nums hC2'.out.nums).mono ?_
          rintro e w16 ⟨rfl, rfl⟩
          go_wp2_with fail
          go_ret
          exact ⟨rfl, b0.out⟩
        · have hf1' : (f1 == 0) = false := by simp [hf1]
          go_wp2_with fail
          go_ret
          exact ⟨rfl, b0.out⟩
      · obtain rfl : eA = false := by cases eA; (· rfl); exact absurd (heA'.out.1 rfl) g1
        obtain rfl : eB = true := heB'.out.2 g2
        replace g1 := hid g1
        replace g2 := hid g2
        replace g3 := hid g3
        have x0 := ka.out.cell 0
        have x1 := ka.out.cell 1
        simp only [List.getElem?_toArray, List.getElem?_cons_zero, List.getElem?_cons_succ] at x0 x1
        have y0 := kq.out.cell 0
        have y1 := kq.out.cell 1
        simp only [List.getElem?_toArray, List.getElem?_cons_zero, List.getElem?_cons_succ] at y0 y1
        go_wp2_with fail
        refine (commit_any ca cn cc A1 cb cm cd B1 (fun _ => True) qa qn qc qs qta qtn qtc qt w9 hC1'.out hC2'.out (hQ.out.below b0.out) hqn.out).mono ?_
        rintro e w10 ⟨hr, b10⟩
        obtain ⟨ga, gn, gc, gb, gm, gd, f1, rfl, _, hyes⟩ := hr.uni
        have bA := hid (below_alloc w10 (.cells #[.slice ga gn gc, .slice gb gm gd] 53))
        have kb : Hid (CellsAt _ w10.heap.size #[.slice ga gn gc, .slice gb gm gd] 53) := hid (cellsAt_alloc w10 _ _)
        have bA' := hid bA.out
        replace hyes := hid hyes
        replace kd := hid (((kd).out.below b10).below bA.out)
        replace kp := hid (((kp).out.below b10).below bA.out)
        replace kq := hid (((kq).out.below b10).below bA.out)
        replace ka := hid (((ka).out.below b10).below bA.out)
        replace hC1' := hid (((hC1').out.below b10).below bA.out)
        replace hC2' := hid (((hC2').out.below b10).below bA.out)
        replace hAd := hid ((hAd.out.below b10).below bA.out)
        replace b0 := hid (Below.tr (Below.tr b0.out b10) bA.out)
        clear b10 hr x0 x1 y0 y1 bA
        go_upto_region 11 with fail
        generalize w10.alloc (.cells #[.slice ga gn gc, .slice gb gm gd] 53) = w11 at *
        by_cases hf1 : f1 = 0
        · subst hf1
          obtain ⟨wh2, k2, S2, hNI2, rfl, hG1, hG2⟩ := hyes.out rfl
          obtain ⟨e1, e2⟩ := nextIs_one hNI2 hH2.out
          subst e1
          subst e2
          have hokQ := hid hNI2.ok
          have hH3 := hid (has_whole hH2.out hNI2)
          have hG1' := hid (hG1.row.below bA'.out)
          have hG2' := hid (hG2.row.below bA'.out)
          replace hNI2 := hid hNI2
          clear hyes bA' hG1 hG2
          have x0 := kb.out.cell 0
          have x1 := kb.out.cell 1
          simp only [List.getElem?_toArray, List.getElem?_cons_zero, List.getElem?_cons_succ] at x0 x1
          go_wp2_with fail
          refine (recover_any ga gn gc _ gb gm gd _ w11 hG1'.out hG2'.out).mono ?_
          rintro e w12 ⟨hr, b12⟩
          obtain ⟨ya, yn, yc, yta, ytn, ytc, rfl, _, hyn, hY⟩ := hr.yes hH3.out (by split <;> decide)
          have bA := hid (below_alloc w12 (.cells #[.slice ya yn yc, .slice yta ytn ytc] 27))
          have ky : Hid (CellsAt _ w12.heap.size #[.slice ya yn yc, .slice yta ytn ytc] 27) := hid (cellsAt_alloc w12 _ _)
          replace hY := hid (hY.below bA.out)
          replace hyn := hid hyn
          replace kd := hid (((kd).out.below b12).below bA.out)
          replace kp := hid (((kp).out.below b12).below bA.out)
          replace kq := hid (((kq).out.below b12).below bA.out)
          replace ka := hid (((ka).out.below b12).below bA.out)
          replace hC1' := hid (((hC1').out.below b12).below bA.out)
          replace hC2' := hid (((hC2').out.below b12).below bA.out)
          replace hAd := hid ((hAd.out.below b12).below bA.out)
          replace hG1' := hid ((hG1'.out.below b12).below bA.out)
          replace hG2' := hid ((hG2'.out.below b12).below bA.out)
          replace kb := hid ((kb.out.below b12).below bA.out)
          replace b0 := hid (Below.tr (Below.tr b0.out b12) bA.out)
          clear b12 hr x0 x1 bA
          go_upto_region 14 with fail
          generalize w12.alloc (.cells #[.slice ya yn yc, .slice yta ytn ytc] 27) = w13 at *
          have x0 := ky.out.cell 0
          have x1 := ky.out.cell 1
          simp only [List.getElem?_toArray, List.getElem?_cons_zero, List.getElem?_cons_succ] at x0 x1
          have y0 := kq.out.cell 0
          have y1 := kq.out.cell 1
          simp only [List.getElem?_toArray, List.getElem?_cons_zero, List.getElem?_cons_succ] at y0 y1
          go_wp2_with fail
          refine (same_any (fun _ => True) (fun _ => True) ya yn yc (blksOf qs) yta ytn ytc qt qa qn qc (blksOf qs) qta qtn qtc qt w13 hY.out (hQ.out.below b0.out)).mono ?_
          rintro e w14 ⟨⟨t, rfl, ht⟩, b14⟩
          obtain rfl : t = true := ht.2 (same_true hokQ.out hyn.out hqn.out rfl rfl)
          replace kd := hid ((kd).out.below b14)
          replace kp := hid ((kp).out.below b14)
          replace kq := hid ((kq).out.below b14)
          replace ka := hid ((ka).out.below b14)
          replace hC1' := hid ((hC1').out.below b14)
          replace hC2' := hid ((hC2').out.below b14)
          replace hAd := hid (hAd.out.below b14)
          replace hG1' := hid (hG1'.out.below b14)
          replace hG2' := hid (hG2'.out.below b14)
          replace kb := hid (kb.out.below b14)
          replace b0 := hid (Below.tr b0.out b14)
          clear b14 ht x0 x1 y0 y1 ky hY hyn
          have x0 := ka.out.cell 0
          have x1 := ka.out.cell 1
          simp only [List.getElem?_toArray, List.getElem?_cons_zero, List.getElem?_cons_succ] at x0 x1
          have y0 := kd.out.cell 0
          have y1 := kd.out.cell 1
          simp only [List.getElem?_toArray, List.getElem?_cons_zero, List.getElem?_cons_succ] at y0 y1
          go_wp2_with fail
          refine (bytesEq_any ca a cn cc n c (fun _ => True) (fun _ => True) A1 A w14 hC1'.out.nums hAd.out.nums).mono ?_
          rintro e w15 ⟨rfl, rfl⟩
          rw [← heA.out]
          clear x0 x1 y0 y1
          have hlast : nextA A1 wh2 (nextS qs qt k2) = A1 := by unfold nextA; rw [if_pos g3.out]
          rw [hlast] at hG1'
          have x0 := kb.out.cell 0
          have x1 := kb.out.cell 1
          simp only [List.getElem?_toArray, List.getElem?_cons_zero, List.getElem?_cons_succ] at x0 x1
          have y0 := ka.out.cell 0
          have y1 := ka.out.cell 1
          simp only [List.getElem?_toArray, List.getElem?_cons_zero, List.getElem?_cons_succ] at y0 y1
          go_wp2_with fail
          refine (bytesEqual_same ga ca gn gc cn cc (fun _ => True) (fun _ => True) A1 w15 hG1'.out.nums hC1'.out.nums).mono ?_
          rintro e w16 ⟨rfl, rfl⟩
          go_wp2_with fail
          go_ret
          exact ⟨rfl, b0.out⟩
        · have hf1' : (f1 == 0) = false := by simp [hf1]
          go_wp2_with fail
          go_ret
          exact ⟨rfl, b0.out⟩
    · have hk01 : (m1 != n0 + 1) = false := by simp [hk00]
      replace hk00 := hid hk00
      go_upto_region 8 with fail
      go_quiet (first | (go_at_call_of 19 (Value.slice ca cn cc); refine Calls.quiet_of_same (bytesEq_any ca a cn cc n c (fun _ => True) (fun _ => True) A1 A _ (hC1'.out.nums.below (below_drewN _ _ _)) (hAd.out.nums.below (below_drewN _ _ _)))) | (go_at_call_of 19 (Value.slice cb cm cd); refine Calls.quiet_of_same (bytesEq_any cb b cm cd m d (fun _ => True) (fun _ => True) B1 B _ (hC2'.out.nums.below (below_drewN _ _ _)) (hBd.out.nums.below (below_drewN _ _ _)))))
      have bq := below_drewN w8.heap.size w8 nq
      replace kd := hid ((kd).out.below bq)
      replace kp := hid ((kp).out.below bq)
      replace kq := hid ((kq).out.below bq)
      replace ka := hid ((ka).out.below bq)
      replace hC1' := hid ((hC1').out.below bq)
      replace hC2' := hid ((hC2').out.below bq)
      replace hAd := hid (hAd.out.below bq)
      replace hBd := hid (hBd.out.below bq)
      replace b0 := hid (Below.tr b0.out bq)
      clear bq x0 x1 y0 y1
      generalize w8.drewN nq = w9 at *
      rw [← heA.out, ← heB.out]
      have hMain : Hid ((A1 = A ∧ B1 = B) ∨ (A1 = A ∧ B1 ≠ B ∧ wh1 = 2) ∨ (A1 ≠ A ∧ B1 = B ∧ wh1 = 1)) := hid (by
        by_cases g1 : A1 = A
        · by_cases g2 : B1 = B
          · exact .inl ⟨g1, g2⟩
          · rcases hsp2.out with ⟨_, h⟩ | ⟨h, _⟩
            · exact .inr (.inl ⟨g1, g2, h⟩)
            · exact absurd h g2
        · rcases hsp2.out with ⟨h, _⟩ | ⟨g2, h⟩
          · exact absurd h g1
          · exact .inr (.inr ⟨g1, g2, h⟩))
      rcases hMain.out with ⟨g1, g2⟩ | ⟨g1, g2, g3⟩ | ⟨g1, g2, g3⟩
      · obtain rfl : eA = true := heA'.out.2 g1
        obtain rfl : eB = true := heB'.out.2 g2
        replace g1 := hid g1
        replace g2 := hid g2
        have x0 := ka.out.cell 0
        have x1 := ka.out.cell 1
        simp only [List.getElem?_toArray, List.getElem?_cons_zero, List.getElem?_cons_succ] at x0 x1
        have y0 := kd.out.cell 0
        have y1 := kd.out.cell 1
        simp only [List.getElem?_toArray, List.getElem?_cons_zero, List.getElem?_cons_succ] at y0 y1
        go_wp2_with fail
        refine (bytesEq_any ca a cn cc n c (fun _ => True) (fun _ => True) A1 A w9 hC1'.out.nums hAd.out.nums).mono ?_
        rintro e w10 ⟨rfl, rfl⟩
        rw [← heA.out]
        go_wp2_with fail
        go_ret
        exact ⟨rfl, b0.out⟩
      · obtain rfl : eA = true := heA'.out.2 g1
        obtain rfl : eB = false := by cases eB; (· rfl); exact absurd (heB'.out.1 rfl) g2
        replace g1 := hid g1
        replace g2 := hid g2
        replace g3 := hid g3
        have x0 := ka.out.cell 0
        have x1 := ka.out.cell 1
        simp only [List.getElem?_toArray, List.getElem?_cons_zero, List.getElem?_cons_succ] at x0 x1
        have y0 := kq.out.cell 0
        have y1 := kq.out.cell 1
        simp only [List.getElem?_toArray, List.getElem?_cons_zero, List.getElem?_cons_succ] at y0 y1
        go_wp2_with fail
        refine (commit_any ca cn cc A1 cb cm cd B1 (fun _ => True) qa qn qc qs qta qtn qtc qt w9 hC1'.out hC2'.out (hQ.out.below b0.out) hqn.out).mono ?_
        rintro e w10 ⟨hr, b10⟩
        obtain ⟨ga, gn, gc, gb, gm, gd, f1, rfl, _, hyes⟩ := hr.uni
        have bA := hid (below_alloc w10 (.cells #[.slice ga gn gc, .slice gb gm gd] 53))
        have kb : Hid (CellsAt _ w10.heap.size #[.slice ga gn gc, .slice gb gm gd] 53) := hid (cellsAt_alloc w10 _ _)
        have bA' := hid bA.out
        replace hyes := hid hyes
        replace kd := hid (((kd).out.below b10).below bA.out)
        replace kp := hid (((kp).out.below b10).below bA.out)
        replace kq := hid (((kq).out.below b10).below bA.out)
        replace ka := hid (((ka).out.below b10).below bA.out)
        replace hC1' := hid (((hC1').out.below b10).below bA.out)
        replace hC2' := hid (((hC2').out.below b10).below bA.out)
        replace hAd := hid ((hAd.out.below b10).below bA.out)
        replace b0 := hid (Below.tr (Below.tr b0.out b10) bA.out)
        clear b10 hr x0 x1 y0 y1 bA
        go_upto_region 11 with fail
        generalize w10.alloc (.cells #[.slice ga gn gc, .slice gb gm gd] 53) = w11 at *
        by_cases hf1 : f1 = 0
        · subst hf1
          obtain ⟨wh2, k2, S2, hNI2, rfl, hG1, hG2⟩ := hyes.out rfl
          obtain ⟨e1, e2⟩ := nextIs_one hNI2 hH2.out
          subst e1
          subst e2
          have hokQ := hid hNI2.ok
          have hH3 := hid (has_whole hH2.out hNI2)
          have hG1' := hid (hG1.row.below bA'.out)
          have hG2' := hid (hG2.row.below bA'.out)
          replace hNI2 := hid hNI2
          clear hyes bA' hG1 hG2
          have x0 := kb.out.cell 0
          have x1 := kb.out.cell 1
          simp only [List.getElem?_toArray, List.getElem?_cons_zero, List.getElem?_cons_succ] at x0 x1
          go_wp2_with fail
          refine (recover_any ga gn gc _ gb gm gd _ w11 hG1'.out hG2'.out).mono ?_
          rintro e w12 ⟨hr, b12⟩
          obtain ⟨ya, yn, yc, yta, ytn, ytc, rfl, _, hyn, hY⟩ := hr.yes hH3.out (by split <;> decide)
          have bA := hid (below_alloc w12 (.cells #[.slice ya yn yc, .slice yta ytn ytc] 27))
          have ky : Hid (CellsAt _ w12.heap.size #[.slice ya yn yc, .slice yta ytn ytc] 27) := hid (cellsAt_alloc w12 _ _)
          replace hY := hid (hY.below bA.out)
          replace hyn := hid hyn
          replace kd := hid (((kd).out.below b12).below bA.out)
          replace kp := hid (((kp).out.below b12).below bA.out)
          replace kq := hid (((kq).out.below b12).below bA.out)
          replace ka := hid (((ka).out.below b12).below bA.out)
          replace hC1' := hid (((hC1').out.below b12).below bA.out)
          replace hC2' := hid (((hC2').out.below b12).below bA.out)
          replace hAd := hid ((hAd.out.below b12).below bA.out)
          replace hG1' := hid ((hG1'.out.below b12).below bA.out)
          replace hG2' := hid ((hG2'.out.below b12).below bA.out)
          replace kb := hid ((kb.out.below b12).below bA.out)
          replace b0 := hid (Below.tr (Below.tr b0.out b12) bA.out)
          clear b12 hr x0 x1 bA
          go_upto_region 14 with fail
          generalize w12.alloc (.cells #[.slice ya yn yc, .slice yta ytn ytc] 27) = w13 at *
          have x0 := ky.out.cell 0
          have x1 := ky.out.cell 1
          simp only [List.getElem?_toArray, List.getElem?_cons_zero, List.getElem?_cons_succ] at x0 x1
          have y0 := kq.out.cell 0
          have y1 := kq.out.cell 1
          simp only [List.getElem?_toArray, List.getElem?_cons_zero, List.getElem?_cons_succ] at y0 y1
          go_wp2_with fail
          refine (same_any (fun _ => True) (fun _ => True) ya yn yc (blksOf qs) yta ytn ytc qt qa qn qc (blksOf qs) qta qtn qtc qt w13 hY.out (hQ.out.below b0.out)).mono ?_
          rintro e w14 ⟨⟨t, rfl, ht⟩, b14⟩
          obtain rfl : t = true := ht.2 (same_true hokQ.out hyn.out hqn.out rfl rfl)
          replace kd := hid ((kd).out.below b14)
          replace kp := hid ((kp).out.below b14)
          replace kq := hid ((kq).out.below b14)
          replace ka := hid ((ka).out.below b14)
          replace hC1' := hid ((hC1').out.below b14)
          replace hC2' := hid ((hC2').out.below b14)
          replace hAd := hid (hAd.out.below b14)
          replace hG1' := hid (hG1'.out.below b14)
          replace hG2' := hid (hG2'.out.below b14)
          replace kb := hid (kb.out.below b14)
          replace b0 := hid (Below.tr b0.out b14)
          clear b14 ht x0 x1 y0 y1 ky hY hyn
          have x0 := ka.out.cell 0
          have x1 := ka.out.cell 1
          simp only [List.getElem?_toArray, List.getElem?_cons_zero, List.getElem?_cons_succ] at x0 x1
          have y0 := kd.out.cell 0
          have y1 := kd.out.cell 1
          simp only [List.getElem?_toArray, List.getElem?_cons_zero, List.getElem?_cons_succ] at y0 y1
          go_wp2_with fail
          refine (bytesEq_any ca a cn cc n c (fun _ => True) (fun _ => True) A1 A w14 hC1'.out.nums hAd.out.nums).mono ?_
          rintro e w15 ⟨rfl, rfl⟩
          rw [← heA.out]
          clear x0 x1 y0 y1
          have hlast : nextB B1 wh2 (nextS qs qt k2) = B1 := by unfold nextB; rw [if_neg (by have := g3.out; omega)]
          rw [hlast] at hG2'
          have x0 := kb.out.cell 0
          have x1 := kb.out.cell 1
          simp only [List.getElem?_toArray, List.getElem?_cons_zero, List.getElem?_cons_succ] at x0 x1
          have y0 := ka.out.cell 0
          have y1 := ka.out.cell 1
          simp only [List.getElem?_toArray, List.getElem?_cons_zero, List.getElem?_cons_succ] at y0 y1
          go_wp2_with fail
          refine (bytesEqual_same gb cb gm gd cm cd (fun _ => True) (fun _ => True) B1 w15 hG2'.out.nums hC2'.out.nums).mono ?_
          rintro e w16 ⟨rfl, rfl⟩
          go_wp2_with fail
          go_ret
          exact ⟨rfl, b0.out⟩
        · have hf1' : (f1 == 0) = false := by simp [hf1]
          go_wp2_with fail
          go_ret
          exact ⟨rfl, b0.out⟩
      · obtain rfl : eA = false := by cases eA; (· rfl); exact absurd (heA'.out.1 rfl) g1
        obtain rfl : eB = true := heB'.out.2 g2
        replace g1 := hid g1
        replace g2 := hid g2
        replace g3 := hid g3
        have x0 := ka.out.cell 0
        have x1 := ka.out.cell 1
        simp only [List.getElem?_toArray, List.getElem?_cons_zero, List.getElem?_cons_succ] at x0 x1
        have y0 := kq.out.cell 0
        have y1 := kq.out.cell 1
        simp only [List.getElem?_toArray, List.getElem?_cons_zero, List.getElem?_cons_succ] at y0 y1
        go_wp2_with fail
        refine (commit_any ca cn cc A1 cb cm cd B1 (fun _ => True) qa qn qc qs qta qtn qtc qt w9 hC1'.out hC2'.out (hQ.out.below b0.out) hqn.out).mono ?_
        rintro e w10 ⟨hr, b10⟩
        obtain ⟨ga, gn, gc, gb, gm, gd, f1, rfl, _, hyes⟩ := hr.uni
        have bA := hid (below_alloc w10 (.cells #[.slice ga gn gc, .slice gb gm gd] 53))
        have kb : Hid (CellsAt _ w10.heap.size #[.slice ga gn gc, .slice gb gm gd] 53) := hid (cellsAt_alloc w10 _ _)
        have bA' := hid bA.out
        replace hyes := hid hyes
        replace kd := hid (((kd).out.below b10).below bA.out)
        replace kp := hid (((kp).out.below b10).below bA.out)
        replace kq := hid (((kq).out.below b10).below bA.out)
        replace ka := hid (((ka).out.below b10).below bA.out)
        replace hC1' := hid (((hC1').out.below b10).below bA.out)
        replace hC2' := hid (((hC2').out.below b10).below bA.out)
        replace hAd := hid ((hAd.out.below b10).below bA.out)
        replace b0 := hid (Below.tr (Below.tr b0.out b10) bA.out)
        clear b10 hr x0 x1 y0 y1 bA
        go_upto_region 11 with fail
        generalize w10.alloc (.cells #[.slice ga gn gc, .slice gb gm gd] 53) = w11 at *
        by_cases hf1 : f1 = 0
        · subst hf1
          obtain ⟨wh2, k2, S2, hNI2, rfl, hG1, hG2⟩ := hyes.out rfl
          obtain ⟨e1, e2⟩ := nextIs_one hNI2 hH2.out
          subst e1
          subst e2
          have hokQ := hid hNI2.ok
          have hH3 := hid (has_whole hH2.out hNI2)
          have hG1' := hid (hG1.row.below bA'.out)
          have hG2' := hid (hG2.row.below bA'.out)
          replace hNI2 := hid hNI2
          clear hyes bA' hG1 hG2
          have x0 := kb.out.cell 0
          have x1 := kb.out.cell 1
          simp only [List.getElem?_toArray, List.getElem?_cons_zero, List.getElem?_cons_succ] at x0 x1
          go_wp2_with fail
          refine (recover_any ga gn gc _ gb gm gd _ w11 hG1'.out hG2'.out).mono ?_
          rintro e w12 ⟨hr, b12⟩
          obtain ⟨ya, yn, yc, yta, ytn, ytc, rfl, _, hyn, hY⟩ := hr.yes hH3.out (by split <;> decide)
          have bA := hid (below_alloc w12 (.cells #[.slice ya yn yc, .slice yta ytn ytc] 27))
          have ky : Hid (CellsAt _ w12.heap.size #[.slice ya yn yc, .slice yta ytn ytc] 27) := hid (cellsAt_alloc w12 _ _)
          replace hY := hid (hY.below bA.out)
          replace hyn := hid hyn
          replace kd := hid (((kd).out.below b12).below bA.out)
          replace kp := hid (((kp).out.below b12).below bA.out)
          replace kq := hid (((kq).out.below b12).below bA.out)
          replace ka := hid (((ka).out.below b12).below bA.out)
          replace hC1' := hid (((hC1').out.below b12).below bA.out)
          replace hC2' := hid (((hC2').out.below b12).below bA.out)
          replace hAd := hid ((hAd.out.below b12).below bA.out)
          replace hG1' := hid ((hG1'.out.below b12).below bA.out)
          replace hG2' := hid ((hG2'.out.below b12).below bA.out)
          replace kb := hid ((kb.out.below b12).below bA.out)
          replace b0 := hid (Below.tr (Below.tr b0.out b12) bA.out)
          clear b12 hr x0 x1 bA
          go_upto_region 14 with fail
          generalize w12.alloc (.cells #[.slice ya yn yc, .slice yta ytn ytc] 27) = w13 at *
          have x0 := ky.out.cell 0
          have x1 := ky.out.cell 1
          simp only [List.getElem?_toArray, List.getElem?_cons_zero, List.getElem?_cons_succ] at x0 x1
          have y0 := kq.out.cell 0
          have y1 := kq.out.cell 1
          simp only [List.getElem?_toArray, List.getElem?_cons_zero, List.getElem?_cons_succ] at y0 y1
          go_wp2_with fail
          refine (same_any (fun _ => True) (fun _ => True) ya yn yc (blksOf qs) yta ytn ytc qt qa qn qc (blksOf qs) qta qtn qtc qt w13 hY.out (hQ.out.below b0.out)).mono ?_
          rintro e w14 ⟨⟨t, rfl, ht⟩, b14⟩
          obtain rfl : t = true := ht.2 (same_true hokQ.out hyn.out hqn.out rfl rfl)
          replace kd := hid ((kd).out.below b14)
          replace kp := hid ((kp).out.below b14)
          replace kq := hid ((kq).out.below b14)
          replace ka := hid ((ka).out.below b14)
          replace hC1' := hid ((hC1').out.below b14)
          replace hC2' := hid ((hC2').out.below b14)
          replace hAd := hid (hAd.out.below b14)
          replace hG1' := hid (hG1'.out.below b14)
          replace hG2' := hid (hG2'.out.below b14)
          replace kb := hid (kb.out.below b14)
          replace b0 := hid (Below.tr b0.out b14)
          clear b14 ht x0 x1 y0 y1 ky hY hyn
          have x0 := ka.out.cell 0
          have x1 := ka.out.cell 1
          simp only [List.getElem?_toArray, List.getElem?_cons_zero, List.getElem?_cons_succ] at x0 x1
          have y0 := kd.out.cell 0
          have y1 := kd.out.cell 1
          simp only [List.getElem?_toArray, List.getElem?_cons_zero, List.getElem?_cons_succ] at y0 y1
          go_wp2_with fail
          refine (bytesEq_any ca a cn cc n c (fun _ => True) (fun _ => True) A1 A w14 hC1'.out.nums hAd.out.nums).mono ?_
          rintro e w15 ⟨rfl, rfl⟩
          rw [← heA.out]
          clear x0 x1 y0 y1
          have hlast : nextA A1 wh2 (nextS qs qt k2) = A1 := by unfold nextA; rw [if_pos g3.out]
          rw [hlast] at hG1'
          have x0 := kb.out.cell 0
          have x1 := kb.out.cell 1
          simp only [List.getElem?_toArray, List.getElem?_cons_zero, List.getElem?_cons_succ] at x0 x1
          have y0 := ka.out.cell 0
          have y1 := ka.out.cell 1
          simp only [List.getElem?_toArray, List.getElem?_cons_zero, List.getElem?_cons_succ] at y0 y1
          go_wp2_with fail
          refine (bytesEqual_same ga ca gn gc cn cc (fun _ => True) (fun _ => True) A1 w15 hG1'.out.nums hC1'.out.nums).mono ?_
          rintro e w16 ⟨rfl, rfl⟩
          go_wp2_with fail
          go_ret
          exact ⟨rfl, b0.out⟩
        · have hf1' : (f1 == 0) = false := by simp [hf1]
          go_wp2_with fail
          go_ret
          exact ⟨rfl, b0.out⟩
  · have hf' : (f0 == 0) = false := by simp [hf]
    go_wp2_with fail
    refine (kept_any w5).mono ?_
    rintro e w6 ⟨rfl, b6⟩
    replace b0 := hid (Below.tr b0.out b6)
    clear b6
    go_wp2_with fail
    go_ret
    exact ⟨rfl, b0.out⟩
end Go.Proofs.YtihkljfcplfldaaGreat
