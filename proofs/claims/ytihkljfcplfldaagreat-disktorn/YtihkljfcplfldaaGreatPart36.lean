/-
  DskE, DskF, DskG in one text. Nothing here is trusted.
-/
import Derived.Test.YtihkljfcplfldaaGreatPart35
set_option linter.unusedVariables false
namespace Go.Proofs.YtihkljfcplfldaaGreat
open Go.RowKit

/-- which slot is chosen, and what it has -/
def RetNewest (base : Nat) (e : Ending) (w : World) (A B : List Int) : Prop := ∃ (k : Int) (a : Option Addr) (n c : Nat) (ta : Option Addr) (tn tc : Nat) (wh : Int),
  e = .returned (.tuple #[.agg #[.int .u32 k, .slice a n c, .slice ta tn tc], .int .i64 wh]) ∧ (0 ≤ k ∧ k < 4294967296) ∧ (0 ≤ wh ∧ wh ≤ 2) ∧ ∃ bs ts, Newest A B wh k bs ts ∧ (wh ≠ 0 → OkL bs ts ∧ NewP base w a n c ta tn tc bs ts)

set_option maxHeartbeats 4000000 in
set_option maxRecDepth 100000 in
theorem newest_any (a : Option Addr) (n c : Nat) (A : List Int) (b : Option Addr) (m d : Nat) (B : List Int) (w : World) (hA : RowB w a n c A) (hB : RowB w b m d B) :
    Calls Tryz.prog 39 #[.agg #[.slice a n c, .slice b m d]] w fun e w' => RetNewest w.heap.size e w' A B ∧ Below w.heap.size w w' := by
  have b0 := hid (below_two w (.cells #[.slice a n c, .slice b m d] 53) (.cells #[.int .u32 0, .slice none 0 0, .slice none 0 0] 98))
  have k0 : CellsAt _ w.heap.size #[.slice a n c, .slice b m d] 53 := (cellsAt_alloc w _ _).below (below_alloc _ (.cells #[.int .u32 0, .slice none 0 0, .slice none 0 0] 98))
  have k1 : CellsAt _ (w.heap.size + 1) #[.int .u32 0, .slice none 0 0, .slice none 0 0] 98 := cellsAt_alloc2 w (.cells #[.slice a n c, .slice b m d] 53) _ _
  have hsz : ((w.alloc (.cells #[.slice a n c, .slice b m d] 53)).alloc (.cells #[.int .u32 0, .slice none 0 0, .slice none 0 0] 98)).heap.size = w.heap.size + 2 := by simp
  replace hA := hid (hA.below b0.out)
  replace hB := hid (hB.below b0.out)
  go_enter Tryz.func39, Tryz.ntmps39
  go_upto_region 1 with fail
  generalize (w.alloc (.cells #[.slice a n c, .slice b m d] 53)).alloc (.cells #[.int .u32 0, .slice none 0 0, .slice none 0 0] 98) = w0 at *
  have p0 := k0.cell 0
  have p1 := k0.cell 1
  simp at p0 p1
  replace k0 := hid k0
  replace k1 := hid k1
  replace hsz := hid hsz
  go_wp2_with fail
  refine (readSlot_any a n c A w0 hA.out).mono ?_
  rintro e w1 ⟨⟨x1, a1, n1, c1, ta1, tn1, tc1, ok1, rfl, hc1⟩, b1⟩
  have bA := hid (below_alloc w1 (.cells #[.int .u32 x1, .slice a1 n1 c1, .slice ta1 tn1 tc1] 98))
  have kA : Hid (CellsAt _ w1.heap.size #[.int .u32 x1, .slice a1 n1 c1, .slice ta1 tn1 tc1] 98) := hid (cellsAt_alloc w1 _ _)
  replace hB := hid ((hB.out.below b1).below bA.out)
  replace k0 := hid ((k0.out.below b1).below bA.out)
  replace k1 := hid ((k1.out.below b1).below bA.out)
  have hs1 := hid b1.size
  replace b0 := hid (Below.tr (Below.tr b0.out b1) bA.out)
  replace hc1 := hid hc1
  have hzw : Hid ((w1.alloc (.cells #[.int .u32 x1, .slice a1 n1 c1, .slice ta1 tn1 tc1] 98)).heap.size = w1.heap.size + 1) := hid (by simp)
  clear b1 p0 p1
  go_upto_region 2 with fail
  generalize w1.alloc (.cells #[.int .u32 x1, .slice a1 n1 c1, .slice ta1 tn1 tc1] 98) = w2 at *
  have p1 := k0.out.cell 1
  simp at p1
  go_wp2_with fail
  refine (readSlot_any b m d B w2 hB.out).mono ?_
  rintro e w3 ⟨⟨x2, a2, n2, c2, ta2, tn2, tc2, ok2, rfl, hc2⟩, b3⟩
  have bB := hid (below_alloc w3 (.cells #[.int .u32 x2, .slice a2 n2 c2, .slice ta2 tn2 tc2] 98))
  have kB : Hid (CellsAt _ w3.heap.size #[.int .u32 x2, .slice a2 n2 c2, .slice ta2 tn2 tc2] 98) := hid (cellsAt_alloc w3 _ _)
  replace kA := hid ((kA.out.below b3).below bB.out)
  replace k1 := hid ((k1.out.below b3).below bB.out)
  have b24 := hid (Below.tr b3 bB.out)
  have hs3 := hid b3.size
  replace b0 := hid (Below.tr b0.out b24.out)
  replace hc2 := hid hc2
  clear b3 p1 k0
  go_upto_region 3 with fail
  generalize w3.alloc (.cells #[.int .u32 x2, .slice a2 n2 c2, .slice ta2 tn2 tc2] 98) = w4 at *
  have q0 := kA.out.cell 0
  have q1 := kA.out.cell 1
  have q2 := kA.out.cell 2
  have r0 := kB.out.cell 0
  have r1 := kB.out.cell 1
  have r2 := kB.out.cell 2
  have p0 := k1.out.cell 0
  have p1 := k1.out.cell 1
  have p2 := k1.out.cell 2
  have z0 := k1.out.frozen 0
  have z1 := k1.out.frozen 1
  have z2 := k1.out.frozen 2
  simp only [List.getElem?_toArray, List.getElem?_cons_zero, List.getElem?_cons_succ] at q0 q1 q2 r0 r1 r2 p0 p1 p2
  have hzA : Hid (w.heap.size + 1 < w1.heap.size) := hid (by have := hsz.out; have := hs1.out; omega)
  have hzB : Hid (w.heap.size + 1 < w2.heap.size) := hid (by have := hzA.out; have := hzw.out; omega)
  -- what is chosen
  have fA : Hid (∀ bs ts, Whole A x1 bs ts → NewP w0.heap.size w1 a1 n1 c1 ta1 tn1 tc1 bs ts → NewP w.heap.size (put3v w4 (w.heap.size + 1) (.int .u32 x1) (.slice a1 n1 c1) (.slice ta1 tn1 tc1)) a1 n1 c1 ta1 tn1 tc1 bs ts) := hid (fun bs ts _ h => (((h.below bA.out).below b24.out).kept (kept_put3v w4 (w.heap.size + 1) (.int .u32 x1) (.slice a1 n1 c1) (.slice ta1 tn1 tc1)) (by have := hsz.out; omega)).mono (by have := hsz.out; omega))
  have fB : Hid (∀ bs ts, Whole B x2 bs ts → NewP w2.heap.size w3 a2 n2 c2 ta2 tn2 tc2 bs ts → NewP w.heap.size (put3v w4 (w.heap.size + 1) (.int .u32 x2) (.slice a2 n2 c2) (.slice ta2 tn2 tc2)) a2 n2 c2 ta2 tn2 tc2 bs ts) := hid (fun bs ts _ h => ((h.below bB.out).kept (kept_put3v w4 (w.heap.size + 1) (.int .u32 x2) (.slice a2 n2 c2) (.slice ta2 tn2 tc2)) hzB.out).mono (by have := hzB.out; omega))
  have kkA := hid (kept_put3v w4 (w.heap.size + 1) (.int .u32 x1) (.slice a1 n1 c1) (.slice ta1 tn1 tc1))
  have kkB := hid (kept_put3v w4 (w.heap.size + 1) (.int .u32 x2) (.slice a2 n2 c2) (.slice ta2 tn2 tc2))
  have kkN := hid (kept_put3v w4 (w.heap.size + 1) (.int .u32 0) (.slice none 0 0) (.slice none 0 0))
  rcases hc1.out with ⟨rfl, hx1, bs1, ts1, hW1, hP1⟩ | ⟨rfl, rfl, _, hno1⟩ <;> rcases hc2.out with ⟨rfl, hx2, bs2, ts2, hW2, hP2⟩ | ⟨rfl, rfl, _, hno2⟩
  · replace hW1 := hid hW1
    replace hW2 := hid hW2
    replace hP1 := hid hP1
    replace hP2 := hid hP2
    by_cases hge : x2 ≤ x1
    · go_wp2_with fail
      refine bodyPost_ret (v := .tuple #[.agg #[.int .u32 x1, .slice a1 n1 c1, .slice ta1 tn1 tc1], .int .i64 1]) (by rw [results_cell_tmp rfl]; go_simp) rfl ⟨⟨_, _, _, _, _, _, _, 1, rfl, hx1, by omega, bs1, ts1, .inl ⟨rfl, hW1.out, fun k' bs' ts' f => by have := (f.one hW2.out).1; omega⟩, fun _ => ⟨by obtain ⟨_, _, _, _, _, _, _, _, h⟩ := hW1.out; exact h, fA.out bs1 ts1 hW1.out hP1.out⟩⟩, b0.out.trans (kkA.out.below (by omega))⟩
    · go_wp2_with fail
      refine bodyPost_ret (v := .tuple #[.agg #[.int .u32 x2, .slice a2 n2 c2, .slice ta2 tn2 tc2], .int .i64 2]) (by rw [results_cell_tmp rfl]; go_simp) rfl ⟨⟨_, _, _, _, _, _, _, 2, rfl, hx2, by omega, bs2, ts2, .inr (.inl ⟨rfl, hW2.out, fun k' bs' ts' f => by have := (f.one hW1.out).1; omega⟩), fun _ => ⟨by obtain ⟨_, _, _, _, _, _, _, _, h⟩ := hW2.out; exact h, fB.out bs2 ts2 hW2.out hP2.out⟩⟩, b0.out.trans (kkB.out.below (by omega))⟩
  · replace hW1 := hid hW1
    replace hP1 := hid hP1
    replace hno2 := hid hno2
    go_wp2_with fail
    refine bodyPost_ret (v := .tuple #[.agg #[.int .u32 x1, .slice a1 n1 c1, .slice ta1 tn1 tc1], .int .i64 1]) (by rw [results_cell_tmp rfl]; go_simp) rfl ⟨⟨_, _, _, _, _, _, _, 1, rfl, hx1, by omega, bs1, ts1, .inl ⟨rfl, hW1.out, fun k' bs' ts' f => absurd f (hno2.out _ _ _)⟩, fun _ => ⟨by obtain ⟨_, _, _, _, _, _, _, _, h⟩ := hW1.out; exact h, fA.out bs1 ts1 hW1.out hP1.out⟩⟩, b0.out.trans (kkA.out.below (by omega))⟩
  · replace hW2 := hid hW2
    replace hP2 := hid hP2
    replace hno1 := hid hno1
    go_wp2_with fail
    refine bodyPost_ret (v := .tuple #[.agg #[.int .u32 x2, .slice a2 n2 c2, .slice ta2 tn2 tc2], .int .i64 2]) (by rw [results_cell_tmp rfl]; go_simp) rfl ⟨⟨_, _, _, _, _, _, _, 2, rfl, hx2, by omega, bs2, ts2, .inr (.inl ⟨rfl, hW2.out, fun k' bs' ts' f => absurd f (hno1.out _ _ _)⟩), fun _ => ⟨by obtain ⟨_, _, _, _, _, _, _, _, h⟩ := hW2.out; exact h, fB.out bs2 ts2 hW2.out hP2.out⟩⟩, b0.out.trans (kkB.out.below (by omega))⟩
  · replace hno1 := hid hno1
    replace hno2 := hid hno2
    go_wp2_with fail
    refine bodyPost_ret (v := .tuple #[.agg #[.int .u32 0, .slice none 0 0, .slice none 0 0], .int .i64 0]) (by rw [results_cell_tmp rfl]; go_simp) rfl ⟨⟨_, _, _, _, _, _, _, 0, rfl, by omega, by omega, [], [], .inr (.inr ⟨rfl, rfl, hno1.out, hno2.out⟩), fun f => absurd rfl f⟩, b0.out.trans (kkN.out.below (by omega))⟩
end Go.Proofs.YtihkljfcplfldaaGreat

namespace Go.Proofs.YtihkljfcplfldaaGreat
open Go.RowKit

/-- no slot has too many bytes -/
def Fits (A B : List Int) : Prop := max A.length B.length ≤ 20009
/-- why next says no -/
def WhyD (A B : List Int) (bs : List Blk) (ts : List TenE) : Prop := Fits A B → OkL bs ts → ∃ wh k bs' ts', Newest A B wh k bs' ts' ∧ 2147483647 ≤ k
/-- the slot that comes next -/
structure NextIs (A B : List Int) (bs : List Blk) (ts : List TenE) (wh k : Int) : Prop where
  fits : Fits A B
  ok : OkL bs ts
  is : ∃ bs' ts', Newest A B wh k bs' ts'
  k0 : 0 ≤ k
  k1 : k < 2147483647
  len : (imgB bs ts).length ≤ 20000
def nextS (bs : List Blk) (ts : List TenE) (k : Int) : List Int := slotB (k + 1) (imgB bs ts)
theorem nextS_len (bs : List Blk) (ts : List TenE) (k : Int) : (nextS bs ts k).length = 9 + (imgB bs ts).length := slotB_len _ _
def RetNx (base : Nat) (e : Ending) (w : World) (A B : List Int) (bs : List Blk) (ts : List TenE) : Prop :=
  (∃ e' : Int, e = .returned (.tuple #[.slice none 0 0, .int .i64 0, .int .i64 e']) ∧ e' ≠ 0 ∧ WhyD A B bs ts) ∨
  (∃ (g m d : Nat) (wh wn k : Int), e = .returned (.tuple #[.slice (some ⟨g, 0, none⟩) m d, .int .i64 wn, .int .i64 0]) ∧ (wn = if wh = 1 then 2 else 1) ∧ NextIs A B bs ts wh k ∧ m = 9 + (imgB bs ts).length ∧ RowB w (some ⟨g, 0, none⟩) m d (nextS bs ts k))

set_option maxHeartbeats 4000000 in
set_option maxRecDepth 100000 in
theorem dnext_any (a : Option Addr) (n c : Nat) (A : List Int) (b : Option Addr) (m d : Nat) (B : List Int) (Q : Nat → Prop) (pa : Option Addr) (pn pc : Nat) (bs : List Blk) (ta : Option Addr) (tn tc : Nat) (ts : List TenE) (w : World) (hA : RowB w a n c A) (hB : RowB w b m d B) (hP : PoolAt Q w pa pn (blksOf bs) ta tn ts) (hpn : pn = bs.length) :
    Calls Tryz.prog 35 #[.agg #[.slice a n c, .slice b m d], .agg #[.slice pa pn pc, .slice ta tn tc]] w fun e w' => RetNx w.heap.size e w' A B bs ts ∧ Below w.heap.size w w' := by
  have hnI : (n : Int) ≤ 9223372036854775807 := by have := hA.cap; have := hA.big; unfold maxLen at this; omega
  have hmI : (m : Int) ≤ 9223372036854775807 := by have := hB.cap; have := hB.big; unfold maxLen at this; omega
  have hla := hid hA.nums.1
  have hlb := hid hB.nums.1
  have b0 := hid (below_two w (.cells #[.slice a n c, .slice b m d] 53) (.cells #[.slice pa pn pc, .slice ta tn tc] 27))
  have k0 : CellsAt _ w.heap.size #[.slice a n c, .slice b m d] 53 := (cellsAt_alloc w _ _).below (below_alloc _ (.cells #[.slice pa pn pc, .slice ta tn tc] 27))
  have k1 : CellsAt _ (w.heap.size + 1) #[.slice pa pn pc, .slice ta tn tc] 27 := cellsAt_alloc2 w (.cells #[.slice a n c, .slice b m d] 53) _ _
  replace hA := hid (hA.below b0.out)
  replace hB := hid (hB.below b0.out)
  replace hP := hid (hP.below b0.out)
  replace hpn := hid hpn
  go_enter Tryz.func35, Tryz.ntmps35
  go_upto_region 1 with fail
  generalize (w.alloc (.cells #[.slice a n c, .slice b m d] 53)).alloc (.cells #[.slice pa pn pc, .slice ta tn tc] 27) = w0 at *
  have p0 := k0.cell 0
  have p1 := k0.cell 1
  simp at p0 p1
  replace k0 := hid k0
  replace k1 := hid k1
  go_wp2_with fail
  refine (tooLong_any a n c b m d w0 hnI hmI).mono ?_
  rintro e w1 ⟨rfl, b1⟩
  replace hA := hid (hA.out.below b1)
  replace hB := hid (hB.out.below b1)
  replace hP := hid (hP.out.below b1)
  replace k0 := hid (k0.out.below b1)
  replace k1 := hid (k1.out.below b1)
  replace b0 := hid (Below.tr b0.out b1)
  clear b1 p0 p1
  by_cases hlong : (20009 : Int) < max (n : Int) (m : Int)
  · rw [decide_eq_true hlong]
    replace hlong := hid hlong
    go_wp2_with fail
    go_ret3
    exact ⟨.inl ⟨2, rfl, by omega, fun f => by unfold Fits at f; have := hlong.out; rw [hla.out, hlb.out] at f; omega⟩, b0.out⟩
  rw [decide_eq_false hlong]
  have hfit : Hid (Fits A B) := hid (by unfold Fits; rw [hla.out, hlb.out]; omega)
  replace hlong := hid hlong
  have p0 := k1.out.cell 0
  have p1 := k1.out.cell 1
  simp at p0 p1
  go_wp2_with fail
  refine (write_any Q pa pn pc (blksOf bs) ta tn tc ts w1 hP.out).mono ?_
  rintro e w2 ⟨⟨e', rfl, he, hno⟩ | ⟨hok, xa, xm, xc, rfl, hxc, hxm, hNx⟩, b2⟩
  · have he' : (e' == 0) = false := by simp [he]
    replace b0 := hid (Below.tr b0.out b2)
    replace hno := hid hno
    clear b2 p0 p1
    go_wp2_with fail
    go_ret3
    exact ⟨.inl ⟨e', rfl, he, fun _ f => absurd (by rw [hpn.out]; exact f) hno.out⟩, b0.out⟩
  have hokL : Hid (OkL bs ts) := hid (by unfold OkL; rw [← hpn.out]; exact hok)
  have himg : poolB pn (blksOf bs) ts = imgB bs ts := by rw [hpn.out]; exact poolB_of bs ts
  rw [himg] at hNx
  replace hA := hid (hA.out.below b2)
  replace hB := hid (hB.out.below b2)
  replace k0 := hid (k0.out.below b2)
  replace b0 := hid (Below.tr b0.out b2)
  replace hNx := hid hNx
  replace hxc := hid hxc
  replace hxm := hid hxm
  clear b2 p0 p1 hok himg hP k1
  have p0 := k0.out.cell 0
  have p1 := k0.out.cell 1
  simp at p0 p1
  go_wp2_with fail
  refine (newest_any a n c A b m d B w2 hA.out hB.out).mono ?_
  rintro e w3 ⟨⟨k, na, nn, nc, nta, ntn, ntc, wh, rfl, hk, hwh, bs', ts', hNw, _⟩, b3⟩
  have bA := hid (below_alloc w3 (.cells #[.int .u32 k, .slice na nn nc, .slice nta ntn ntc] 98))
  have kA : Hid (CellsAt _ w3.heap.size #[.int .u32 k, .slice na nn nc, .slice nta ntn ntc] 98) := hid (cellsAt_alloc w3 _ _)
  replace hNx := hid ((hNx.out.below b3).below bA.out)
  replace b0 := hid (Below.tr (Below.tr b0.out b3) bA.out)
  replace hNw := hid hNw
  obtain ⟨hk0, hk1⟩ := hk
  clear b3 p0 p1 k0 hA hB
  go_upto_region 7 with fail
  generalize w3.alloc (.cells #[.int .u32 k, .slice na nn nc, .slice nta ntn ntc] 98) = w4 at *
  have q0 := kA.out.cell 0
  simp only [List.getElem?_toArray, List.getElem?_cons_zero] at q0
  by_cases hfull : (2147483647 : Int) ≤ k
  · go_wp2_with fail
    go_ret3
    exact ⟨.inl ⟨8, rfl, by omega, fun _ _ => ⟨wh, k, bs', ts', hNw.out, hfull⟩⟩, b0.out⟩
  have hkb : k + 1 < 4294967296 := by omega
  have hkc : 0 ≤ k + 1 := by omega
  go_wp2_with fail
  refine (writeSlot_any (k + 1) xa xm xc (imgB bs ts) w4 (hNx.out.weaken (fun _ _ _ => trivial)) (by omega) (by omega) (by have := hxm.out; omega)).mono ?_
  rintro e w5 ⟨⟨g, sm, sd, rfl, hg, hsm, hRow⟩, b5⟩
  have hxl : xm = (imgB bs ts).length := hNx.out.1.symm
  replace b0 := hid (Below.tr b0.out b5)
  replace hRow := hid hRow
  replace hsm : Hid (sm = 9 + (imgB bs ts).length) := hid (by rw [hsm, hxl])
  have hlen : Hid ((imgB bs ts).length ≤ 20000) := hid (by have := hxm.out; omega)
  have hNI : Hid (NextIs A B bs ts wh k) := hid ⟨hfit.out, hokL.out, ⟨bs', ts', hNw.out⟩, hk0, by omega, hlen.out⟩
  clear b5 q0 hxl
  by_cases hw1 : wh = 1
  · have hw1' : (wh == 1) = true := by simp [hw1]
    go_wp2_with fail
    go_ret3
    exact ⟨.inr ⟨g, sm, sd, wh, 2, k, rfl, by rw [if_pos hw1], hNI.out, hsm.out, hRow.out⟩, b0.out⟩
  · have hw1' : (wh == 1) = false := by simp [hw1]
    go_wp2_with fail
    go_ret3
    exact ⟨.inr ⟨g, sm, sd, wh, 1, k, rfl, by rw [if_neg hw1], hNI.out, hsm.out, hRow.out⟩, b0.out⟩
end Go.Proofs.YtihkljfcplfldaaGreat

namespace Go.Proofs.YtihkljfcplfldaaGreat
open Go.RowKit

/-- the disk with S in the slot that can be spared -/
def RetCm (base : Nat) (e : Ending) (w : World) (A B : List Int) (bs : List Blk) (ts : List TenE) (N : Int → Prop) (S : Int → List Int → Prop) : Prop :=
  (∃ e' : Int, e = .returned (.tuple #[.agg #[.slice none 0 0, .slice none 0 0], .int .i64 e']) ∧ e' ≠ 0 ∧ (N e' ∨ WhyD A B bs ts)) ∨
  (∃ a n c b m d wh k S', e = .returned (.tuple #[.agg #[.slice a n c, .slice b m d], .int .i64 0]) ∧ NextIs A B bs ts wh k ∧ S k S' ∧ RowN base w a n c (nextA A wh S') ∧ RowN base w b m d (nextB B wh S'))
theorem next_swap {A B S : List Int} {wh wn : Int} (h : wn = if wh = 1 then 2 else 1) : (if wn = 1 then S else A) = nextA A wh S ∧ (if wn = 1 then B else S) = nextB B wh S := by
  unfold nextA nextB
  by_cases hw : wh = 1
  · rw [if_pos hw] at h
    subst h
    rw [if_pos hw, if_pos hw, if_neg (by decide), if_neg (by decide)]
    exact ⟨rfl, rfl⟩
  · rw [if_neg hw] at h
    subst h
    rw [if_neg hw, if_neg hw, if_pos rfl, if_pos rfl]
    exact ⟨rfl, rfl⟩
abbrev objD (a : Option Addr) (n c : Nat) (b : Option Addr) (m d : Nat) : Obj := .cells #[.slice a n c, .slice b m d] 53
abbrev objP (a : Option Addr) (n c : Nat) (b : Option Addr) (m d : Nat) : Obj := .cells #[.slice a n c, .slice b m d] 27
/-- the boxes of Commit, Torn -/
structure DB (W w : World) (a : Option Addr) (n c : Nat) (b : Option Addr) (m d : Nat) (pa : Option Addr) (pn pc : Nat) (ta : Option Addr) (tn tc : Nat) : Prop where
  bel : Below W.heap.size W w
  sz : W.heap.size + 3 ≤ w.heap.size
  k0 : CellsAt w W.heap.size #[.slice a n c, .slice b m d] 53
  k1 : CellsAt w (W.heap.size + 1) #[.slice pa pn pc, .slice ta tn tc] 27
  k2 : CellsAt w (W.heap.size + 1 + 1) #[.slice none 0 0, .slice none 0 0] 53
theorem DB.below {W w w' : World} {a : Option Addr} {n c : Nat} {b : Option Addr} {m d : Nat} {pa : Option Addr} {pn pc : Nat} {ta : Option Addr} {tn tc : Nat} (h : DB W w a n c b m d pa pn pc ta tn tc) (k : Below w.heap.size w w') : DB W w' a n c b m d pa pn pc ta tn tc := ⟨Below.tr h.bel k, Nat.le_trans h.sz k.size, h.k0.below k, h.k1.below k, h.k2.below k⟩
theorem szA (w : World) (o : Obj) : (w.alloc o).heap.size = w.heap.size + 1 := by simp
theorem db_enter (w : World) (a : Option Addr) (n c : Nat) (b : Option Addr) (m d : Nat) (pa : Option Addr) (pn pc : Nat) (ta : Option Addr) (tn tc : Nat) : DB w (((w.alloc (objD a n c b m d)).alloc (objP pa pn pc ta tn tc)).alloc (objD none 0 0 none 0 0)) a n c b m d pa pn pc ta tn tc := by
  have h1 := cellsAt_alloc w #[.slice a n c, .slice b m d] 53
  have h2 := cellsAt_alloc (w.alloc (objD a n c b m d)) #[.slice pa pn pc, .slice ta tn tc] 27
  have h3 := cellsAt_alloc ((w.alloc (objD a n c b m d)).alloc (objP pa pn pc ta tn tc)) #[.slice none 0 0, .slice none 0 0] 53
  simp only [szA] at h2 h3
  exact ⟨Below.tr (Below.tr (below_alloc _ _) (below_alloc _ _)) (below_alloc _ _), by simp, (h1.below (below_alloc _ _)).below (below_alloc _ _), h2.below (below_alloc _ _), h3⟩

set_option maxHeartbeats 4000000 in
set_option maxRecDepth 100000 in
theorem commit_any (a : Option Addr) (n c : Nat) (A : List Int) (b : Option Addr) (m d : Nat) (B : List Int) (Q : Nat → Prop) (pa : Option Addr) (pn pc : Nat) (bs : List Blk) (ta : Option Addr) (tn tc : Nat) (ts : List TenE) (w : World) (hA : RowB w a n c A) (hB : RowB w b m d B) (hP : PoolAt Q w pa pn (blksOf bs) ta tn ts) (hpn : pn = bs.length) :
    Calls Tryz.prog 14 #[.agg #[.slice a n c, .slice b m d], .agg #[.slice pa pn pc, .slice ta tn tc]] w fun e w' => RetCm w.heap.size e w' A B bs ts (fun _ => False) (fun k S => S = nextS bs ts k) ∧ Below w.heap.size w w' := by
  have hdb := hid (db_enter w a n c b m d pa pn pc ta tn tc)
  have hla := hid hA.nums.1
  have hlb := hid hB.nums.1
  unfold objD objP at hdb
  replace hA := hid (hA.below hdb.out.bel)
  replace hB := hid (hB.below hdb.out.bel)
  replace hP := hid (hP.below hdb.out.bel)
  replace hpn := hid hpn
  go_enter Tryz.func14, Tryz.ntmps14
  go_upto_region 1 with fail
  generalize (((w.alloc (.cells #[.slice a n c, .slice b m d] 53)).alloc (.cells #[.slice pa pn pc, .slice ta tn tc] 27)).alloc (.cells #[.slice none 0 0, .slice none 0 0] 53)) = w0 at *
  have p0 := hdb.out.k0.cell 0
  have p1 := hdb.out.k0.cell 1
  have q0 := hdb.out.k1.cell 0
  have q1 := hdb.out.k1.cell 1
  simp only [List.getElem?_toArray, List.getElem?_cons_zero, List.getElem?_cons_succ] at p0 p1 q0 q1
  go_wp2_with fail
  refine (dnext_any a n c A b m d B Q pa pn pc bs ta tn tc ts w0 hA.out hB.out hP.out hpn.out).mono ?_
  rintro e w1 ⟨⟨e', rfl, he, hwhy⟩ | ⟨g, sm, sd, wh, wn, k, rfl, hwn, hNI, hsm, hRow⟩, b1⟩
  · have he' : (e' == 0) = false := by simp [he]
    have hdb1 := hdb.out.below b1
    replace hwhy := hid hwhy
    clear p0 p1 q0 q1
    have r0 := hdb1.k2.cell 0
    have r1 := hdb1.k2.cell 1
    have z0 := hdb1.k2.frozen 0
    have z1 := hdb1.k2.frozen 1
    simp only [List.getElem?_toArray, List.getElem?_cons_zero, List.getElem?_cons_succ] at r0 r1
    have kk := hid (kept_put2v w1 (w.heap.size + 1 + 1) (.slice none 0 0) (.slice none 0 0))
    replace hdb1 := hid hdb1
    replace b1 := hid b1
    go_wp2_with fail
    refine bodyPost_ret (v := .tuple #[.agg #[.slice none 0 0, .slice none 0 0], .int .i64 e']) (by rw [results_cell_tmp rfl]; go_simp) rfl ⟨.inl ⟨e', rfl, he, .inr hwhy.out⟩, hdb1.out.bel.trans (kk.out.below (by omega))⟩
  · have hdb1 := hid (hdb.out.below b1)
    replace hNI := hid hNI
    replace hRow := hid hRow
    replace hsm := hid hsm
    replace hwn := hid hwn
    have hA1 := hid (hA.out.below b1)
    have hB1 := hid (hB.out.below b1)
    clear p0 p1 q0 q1 b1 hdb hA hB
    have p0 := hdb1.out.k0.cell 0
    have p1 := hdb1.out.k0.cell 1
    simp only [List.getElem?_toArray, List.getElem?_cons_zero, List.getElem?_cons_succ] at p0 p1
    go_wp2_with fail
    refine (replaced_any a n c A b m d B wn _ sm sd _ w1 hA1.out hB1.out hRow.out (by have := hNI.out.fits; unfold Fits at this; have := hla.out; omega) (by have := hNI.out.fits; unfold Fits at this; have := hlb.out; omega) (by have := hNI.out.len; have := hsm.out; omega)).mono ?_
    rintro e w2 ⟨⟨ra, rn, rc, rb, rm, rd, rfl, hR1, hR2⟩, b2⟩
    obtain ⟨e1, e2⟩ := next_swap (A := A) (B := B) (S := nextS bs ts k) hwn.out
    rw [e1] at hR1
    rw [e2] at hR2
    have hdb2 := hdb1.out.below b2
    clear p0 p1 e1 e2
    have r0 := hdb2.k2.cell 0
    have r1 := hdb2.k2.cell 1
    have z0 := hdb2.k2.frozen 0
    have z1 := hdb2.k2.frozen 1
    simp only [List.getElem?_toArray, List.getElem?_cons_zero, List.getElem?_cons_succ] at r0 r1
    have kk := hid (kept_put2v w2 (w.heap.size + 1 + 1) (.slice ra rn rc) (.slice rb rm rd))
    replace hdb2 := hid hdb2
    replace b2 := hid b2
    replace hR1 := hid hR1
    replace hR2 := hid hR2
    go_wp2_with fail
    refine bodyPost_ret (v := .tuple #[.agg #[.slice ra rn rc, .slice rb rm rd], .int .i64 0]) (by rw [results_cell_tmp rfl]; go_simp) rfl ⟨.inr ⟨_, _, _, _, _, _, wh, k, _, rfl, hNI.out, rfl, ?_, ?_⟩, hdb2.out.bel.trans (kk.out.below (by omega))⟩
    · exact (hR1.out.keptN kk.out (by have := hdb1.out.sz; omega)).mono (by have := hdb1.out.sz; omega)
    · exact (hR2.out.keptN kk.out (by have := hdb1.out.sz; omega)).mono (by have := hdb1.out.sz; omega)
set_option maxHeartbeats 4000000 in
set_option maxRecDepth 100000 in
theorem torn_any (a : Option Addr) (n c : Nat) (A : List Int) (b : Option Addr) (m d : Nat) (B : List Int) (Q : Nat → Prop) (pa : Option Addr) (pn pc : Nat) (bs : List Blk) (ta : Option Addr) (tn tc : Nat) (ts : List TenE) (num : Int) (w : World) (hA : RowB w a n c A) (hB : RowB w b m d B) (hP : PoolAt Q w pa pn (blksOf bs) ta tn ts) (hpn : pn = bs.length) :
    Calls Tryz.prog 18 #[.agg #[.slice a n c, .slice b m d], .agg #[.slice pa pn pc, .slice ta tn tc], .int .i64 num] w fun e w' => RetCm w.heap.size e w' A B bs ts (fun e' => e' = 3 ∧ (num < 0 ∨ ((9 + (imgB bs ts).length : Nat) : Int) < num)) (fun k S => ∃ j : Nat, num = (j : Int) ∧ j ≤ (nextS bs ts k).length ∧ S = (nextS bs ts k).take j) ∧ Below w.heap.size w w' := by
  have hdb := hid (db_enter w a n c b m d pa pn pc ta tn tc)
  have hla := hid hA.nums.1
  have hlb := hid hB.nums.1
  unfold objD objP at hdb
  replace hA := hid (hA.below hdb.out.bel)
  replace hB := hid (hB.below hdb.out.bel)
  replace hP := hid (hP.below hdb.out.bel)
  replace hpn := hid hpn
  go_enter Tryz.func18, Tryz.ntmps18
  go_upto_region 1 with fail
  generalize (((w.alloc (.cells #[.slice a n c, .slice b m d] 53)).alloc (.cells #[.slice pa pn pc, .slice ta tn tc] 27)).alloc (.cells #[.slice none 0 0, .slice none 0 0] 53)) = w0 at *
  have p0 := hdb.out.k0.cell 0
  have p1 := hdb.out.k0.cell 1
  have q0 := hdb.out.k1.cell 0
  have q1 := hdb.out.k1.cell 1
  simp only [List.getElem?_toArray, List.getElem?_cons_zero, List.getElem?_cons_succ] at p0 p1 q0 q1
  go_wp2_with fail
  refine (dnext_any a n c A b m d B Q pa pn pc bs ta tn tc ts w0 hA.out hB.out hP.out hpn.out).mono ?_
  rintro e w1 ⟨⟨e', rfl, he, hwhy⟩ | ⟨g, sm, sd, wh, wn, k, rfl, hwn, hNI, hsm, hRow⟩, b1⟩
  · have he' : (e' == 0) = false := by simp [he]
    have hdb1 := hdb.out.below b1
    replace hwhy := hid hwhy
    clear p0 p1 q0 q1
    have r0 := hdb1.k2.cell 0
    have r1 := hdb1.k2.cell 1
    have z0 := hdb1.k2.frozen 0
    have z1 := hdb1.k2.frozen 1
    simp only [List.getElem?_toArray, List.getElem?_cons_zero, List.getElem?_cons_succ] at r0 r1
    have kk := hid (kept_put2v w1 (w.heap.size + 1 + 1) (.slice none 0 0) (.slice none 0 0))
    replace hdb1 := hid hdb1
    replace b1 := hid b1
    go_wp2_with fail
    refine bodyPost_ret (v := .tuple #[.agg #[.slice none 0 0, .slice none 0 0], .int .i64 e']) (by rw [results_cell_tmp rfl]; go_simp) rfl ⟨.inl ⟨e', rfl, he, .inr hwhy.out⟩, hdb1.out.bel.trans (kk.out.below (by omega))⟩
  · have hdb1 := hid (hdb.out.below b1)
    replace hNI := hid hNI
    replace hRow := hid hRow
    replace hsm := hid hsm
    replace hwn := hid hwn
    have hA1 := hid (hA.out.below b1)
    have hB1 := hid (hB.out.below b1)
    clear p0 p1 q0 q1 b1 hdb hA hB
    have hbd := hRow.out.big
    have hcp := hRow.out.cap
    have hsmI : (sm : Int) ≤ 9223372036854775807 := by unfold maxLen at hbd; omega
    have hsdI : (sd : Int) ≤ 9223372036854775807 := by unfold maxLen at hbd; omega
    replace hbd := hid hbd
    by_cases hr : num < 0 ∨ (sm : Int) < num
    · have r0 := hdb1.out.k2.cell 0
      have r1 := hdb1.out.k2.cell 1
      have z0 := hdb1.out.k2.frozen 0
      have z1 := hdb1.out.k2.frozen 1
      simp only [List.getElem?_toArray, List.getElem?_cons_zero, List.getElem?_cons_succ] at r0 r1
      have kk := hid (kept_put2v w1 (w.heap.size + 1 + 1) (.slice none 0 0) (.slice none 0 0))
      have hfin : Hid (∀ w', RetCm w.heap.size (.returned (.tuple #[.agg #[.slice none 0 0, .slice none 0 0], .int .i64 3])) w' A B bs ts (fun e' => e' = 3 ∧ (num < 0 ∨ ((9 + (imgB bs ts).length : Nat) : Int) < num)) (fun k S => ∃ j : Nat, num = (j : Int) ∧ j ≤ (nextS bs ts k).length ∧ S = (nextS bs ts k).take j)) := hid (fun w' => .inl ⟨3, rfl, by omega, .inl ⟨rfl, by have := hsm.out; omega⟩⟩)
      by_cases hneg : num < 0
      · go_wp2_with fail
        refine bodyPost_ret (v := .tuple #[.agg #[.slice none 0 0, .slice none 0 0], .int .i64 3]) (by rw [results_cell_tmp rfl]; go_simp) rfl ⟨hfin.out _, hdb1.out.bel.trans (kk.out.below (by omega))⟩
      · have hgt : (sm : Int) < num := hr.resolve_left hneg
        clear hr
        go_wp2_with fail
        refine bodyPost_ret (v := .tuple #[.agg #[.slice none 0 0, .slice none 0 0], .int .i64 3]) (by rw [results_cell_tmp rfl]; go_simp) rfl ⟨hfin.out _, hdb1.out.bel.trans (kk.out.below (by omega))⟩
    obtain ⟨j, rfl⟩ : ∃ j : Nat, num = (j : Int) := ⟨num.toNat, by omega⟩
    have hjm : j ≤ sm := by omega
    have hj0 : ¬ (j : Int) < 0 := by omega
    have hj1 : ¬ (sm : Int) < (j : Int) := by omega
    have hj2 : (j : Int) ≤ (sd : Int) := by omega
    have hSl : Hid (∀ w', Below w1.heap.size w1 w' → RowB w' (some ⟨g, 0, none⟩) j sd ((nextS bs ts k).take j)) := hid (fun w' h => ⟨nums_take (hRow.out.nums.below h) hjm, by omega, hRow.out.big, hRow.out.nil⟩)
    have hj3 : Hid (j ≤ (nextS bs ts k).length) := hid (by rw [hRow.out.nums.1]; exact hjm)
    have hA2 : Hid (∀ w', Below w1.heap.size w1 w' → RowB w' a n c A) := hid (fun w' h => hA1.out.below h)
    have hB2 : Hid (∀ w', Below w1.heap.size w1 w' → RowB w' b m d B) := hid (fun w' h => hB1.out.below h)
    have h6 : n ≤ 1000000 := by have := hNI.out.fits; unfold Fits at this; have := hla.out; omega
    have h7 : m ≤ 1000000 := by have := hNI.out.fits; unfold Fits at this; have := hlb.out; omega
    have h8 : j ≤ 1000000 := by have := hNI.out.len; have := hsm.out; omega
    replace h6 := hid h6
    replace h7 := hid h7
    replace h8 := hid h8
    replace hjm := hid hjm
    clear hr
    have p0 := hdb1.out.k0.cell 0
    have p1 := hdb1.out.k0.cell 1
    simp only [List.getElem?_toArray, List.getElem?_cons_zero, List.getElem?_cons_succ] at p0 p1
    have HB0 := hid (below_drew w1.heap.size w1)
    go_upto_region 6 with fail
    go_region_with (go_at_call 36; refine Calls.mono (replaced_any a n c A b m d B wn _ j sd _ _ (hA2.out _ HB0.out) (hB2.out _ HB0.out) (hSl.out _ HB0.out) h6.out h7.out h8.out) ?_; rintro e w2 ⟨⟨ra, rn, rc, rb, rm, rd, rfl, hR1, hR2⟩, b2⟩; have hdb2 := hdb1.out.below (Below.tr HB0.out b2); have r0 := hdb2.k2.cell 0; have r1 := hdb2.k2.cell 1; have z0 := hdb2.k2.frozen 0; have z1 := hdb2.k2.frozen 1; simp only [List.getElem?_toArray, List.getElem?_cons_zero, List.getElem?_cons_succ] at r0 r1; replace hdb2 := hid hdb2; replace b2 := hid b2; replace hR1 := hid hR1; replace hR2 := hid hR2)
    all_goals (
      have kk := hid (kept_put2v w2 (w.heap.size + 1 + 1) (.slice ra rn rc) (.slice rb rm rd))
      go_wp2_with fail
      obtain ⟨e1, e2⟩ := next_swap (A := A) (B := B) (S := (nextS bs ts k).take j) hwn.out
      have hR1' := hR1.out
      have hR2' := hR2.out
      rw [e1] at hR1'
      rw [e2] at hR2'
      refine bodyPost_ret (v := .tuple #[.agg #[.slice ra rn rc, .slice rb rm rd], .int .i64 0]) (by rw [results_cell_tmp rfl]; go_simp) rfl ⟨.inr ⟨_, _, _, _, _, _, wh, k, _, rfl, hNI.out, ⟨j, rfl, hj3.out, rfl⟩, ?_, ?_⟩, hdb2.out.bel.trans (kk.out.below (by omega))⟩
      · exact (hR1'.keptN kk.out (by have := hdb1.out.sz; show _ < w1.heap.size; omega)).mono (by have := hdb1.out.sz; show _ ≤ w1.heap.size; omega)
      · exact (hR2'.keptN kk.out (by have := hdb1.out.sz; show _ < w1.heap.size; omega)).mono (by have := hdb1.out.sz; show _ ≤ w1.heap.size; omega))

/-- what Recover answers -/
def RetRc (e : Ending) (w : World) (A B : List Int) : Prop :=
  (∃ e' : Int, e = .returned (.tuple #[.agg #[.slice none 0 0, .slice none 0 0], .int .i64 0, .int .i64 e']) ∧ e' ≠ 0 ∧ (Fits A B → ∃ bs ts, Newest A B 0 0 bs ts)) ∨
  (∃ a n c ta tn tc wh k bs ts, e = .returned (.tuple #[.agg #[.slice a n c, .slice ta tn tc], .int .i64 k, .int .i64 0]) ∧ Fits A B ∧ Newest A B wh k bs ts ∧ wh ≠ 0 ∧ OkL bs ts ∧ (0 ≤ k ∧ k < 4294967296) ∧ n = bs.length ∧ PoolAt (fun _ => True) w a n (blksOf bs) ta tn ts)

set_option maxHeartbeats 4000000 in
set_option maxRecDepth 100000 in
theorem recover_any (a : Option Addr) (n c : Nat) (A : List Int) (b : Option Addr) (m d : Nat) (B : List Int) (w : World) (hA : RowB w a n c A) (hB : RowB w b m d B) :
    Calls Tryz.prog 16 #[.agg #[.slice a n c, .slice b m d]] w fun e w' => RetRc e w' A B ∧ Below w.heap.size w w' := by
  have hnI : (n : Int) ≤ 9223372036854775807 := by have := hA.cap; have := hA.big; unfold maxLen at this; omega
  have hmI : (m : Int) ≤ 9223372036854775807 := by have := hB.cap; have := hB.big; unfold maxLen at this; omega
  have hla := hid hA.nums.1
  have hlb := hid hB.nums.1
  have b0 := hid (below_two w (.cells #[.slice a n c, .slice b m d] 53) (.cells #[.slice none 0 0, .slice none 0 0] 27))
  have k0 : CellsAt _ w.heap.size #[.slice a n c, .slice b m d] 53 := (cellsAt_alloc w _ _).below (below_alloc _ (.cells #[.slice none 0 0, .slice none 0 0] 27))
  have k1 : CellsAt _ (w.heap.size + 1) #[.slice none 0 0, .slice none 0 0] 27 := cellsAt_alloc2 w (.cells #[.slice a n c, .slice b m d] 53) _ _
  have hsz : ((w.alloc (.cells #[.slice a n c, .slice b m d] 53)).alloc (.cells #[.slice none 0 0, .slice none 0 0] 27)).heap.size = w.heap.size + 2 := by simp
  replace hA := hid (hA.below b0.out)
  replace hB := hid (hB.below b0.out)
  go_enter Tryz.func16, Tryz.ntmps16
  go_upto_region 1 with fail
  generalize (w.alloc (.cells #[.slice a n c, .slice b m d] 53)).alloc (.cells #[.slice none 0 0, .slice none 0 0] 27) = w0 at *
  have p0 := k0.cell 0
  have p1 := k0.cell 1
  simp at p0 p1
  replace k0 := hid k0
  replace k1 := hid k1
  replace hsz := hid hsz
  go_wp2_with fail
  refine (tooLong_any a n c b m d w0 hnI hmI).mono ?_
  rintro e w1 ⟨rfl, b1⟩
  replace hA := hid (hA.out.below b1)
  replace hB := hid (hB.out.below b1)
  replace k0 := hid (k0.out.below b1)
  replace k1 := hid (k1.out.below b1)
  have hs1 := hid b1.size
  replace b0 := hid (Below.tr b0.out b1)
  clear b1 p0 p1
  by_cases hlong : (20009 : Int) < max (n : Int) (m : Int)
  · rw [decide_eq_true hlong]
    replace hlong := hid hlong
    have r0 := k1.out.cell 0
    have r1 := k1.out.cell 1
    have z0 := k1.out.frozen 0
    have z1 := k1.out.frozen 1
    simp only [List.getElem?_toArray, List.getElem?_cons_zero, List.getElem?_cons_succ] at r0 r1
    have kk := hid (kept_put2v w1 (w.heap.size + 1) (.slice none 0 0) (.slice none 0 0))
    go_wp2_with fail
    refine bodyPost_ret (v := .tuple #[.agg #[.slice none 0 0, .slice none 0 0], .int .i64 0, .int .i64 2]) (by rw [results_cell_tmps rfl]; go_simp) rfl ⟨.inl ⟨2, rfl, by omega, fun f => by unfold Fits at f; have := hlong.out; rw [hla.out, hlb.out] at f; omega⟩, b0.out.trans (kk.out.below (by omega))⟩
  rw [decide_eq_false hlong]
  have hfit : Hid (Fits A B) := hid (by unfold Fits; rw [hla.out, hlb.out]; omega)
  replace hlong := hid hlong
  have p0 := k0.out.cell 0
  have p1 := k0.out.cell 1
  simp at p0 p1
  go_wp2_with fail
  refine (newest_any a n c A b m d B w1 hA.out hB.out).mono ?_
  rintro e w3 ⟨⟨k, na, nn, nc, nta, ntn, ntc, wh, rfl, hk, hwh, bs', ts', hNw, hNP⟩, b3⟩
  have bA := hid (below_alloc w3 (.cells #[.int .u32 k, .slice na nn nc, .slice nta ntn ntc] 98))
  have kA : Hid (CellsAt _ w3.heap.size #[.int .u32 k, .slice na nn nc, .slice nta ntn ntc] 98) := hid (cellsAt_alloc w3 _ _)
  replace k1 := hid ((k1.out.below b3).below bA.out)
  replace b0 := hid (Below.tr (Below.tr b0.out b3) bA.out)
  replace hNw := hid hNw
  replace hNP := hid hNP
  obtain ⟨hk0, hk1⟩ := hk
  have hne : w3.heap.size ≠ w.heap.size + 1 := by have := b3.size; have := hs1.out; have := hsz.out; omega
  have hne' := hne.symm
  clear b3 p0 p1 k0 hA hB
  go_upto_region 4 with fail
  generalize w3.alloc (.cells #[.int .u32 k, .slice na nn nc, .slice nta ntn ntc] 98) = w4 at *
  have r0 := k1.out.cell 0
  have r1 := k1.out.cell 1
  have z0 := k1.out.frozen 0
  have z1 := k1.out.frozen 1
  simp only [List.getElem?_toArray, List.getElem?_cons_zero, List.getElem?_cons_succ] at r0 r1
  by_cases hw0 : wh = 0
  · have hw0' : (wh == 0) = true := by simp [hw0]
    have hN0 : Hid (Newest A B 0 0 bs' ts') := hid (by
      have h := hNw.out
      have h0 := hw0
      rcases h with ⟨e, _⟩ | ⟨e, _⟩ | ⟨_, e, h⟩
      · omega
      · omega
      · exact .inr (.inr ⟨rfl, rfl, h⟩))
    replace hw0 := hid hw0
    have kk := hid (kept_put2v w4 (w.heap.size + 1) (.slice none 0 0) (.slice none 0 0))
    go_wp2_with fail
    refine bodyPost_ret (v := .tuple #[.agg #[.slice none 0 0, .slice none 0 0], .int .i64 0, .int .i64 9]) (by rw [results_cell_tmps rfl]; go_simp) rfl ⟨.inl ⟨9, rfl, by omega, fun _ => ⟨bs', ts', hN0.out⟩⟩, b0.out.trans (kk.out.below (by omega))⟩
  have hw0' : (wh == 0) = false := by simp [hw0]
  obtain ⟨hok, hNP'⟩ := hNP.out hw0
  have q0 := kA.out.cell 0
  have q1 := kA.out.cell 1
  have q2 := kA.out.cell 2
  simp only [List.getElem?_toArray, List.getElem?_cons_zero, List.getElem?_cons_succ] at q0 q1 q2
  have hlen : Hid (nn = bs'.length) := hid hNP'.1
  have hPF : Hid (∀ w5, Kept (w.heap.size + 1) w4.drew w5 → PoolAt (fun _ => True) w5 na nn (blksOf bs') nta ntn ts') := hid (fun w5 kk => (((hNP'.below bA.out).below (below_drew _ _)).kept kk (by have := hsz.out; have := hs1.out; omega)).is)
  have kk := hid (kept_put2v w4.drew (w.heap.size + 1) (.slice na nn nc) (.slice nta ntn ntc))
  replace hok := hid hok
  clear hNP'
  go_upto_region 6 with fail
  go_region
  go_wp2_with fail
  refine bodyPost_ret (v := .tuple #[.agg #[.slice na nn nc, .slice nta ntn ntc], .int .i64 k, .int .i64 0]) (by rw [results_cell_tmps rfl]; go_simp) rfl ⟨.inr ⟨_, _, _, _, _, _, wh, k, bs', ts', rfl, hfit.out, hNw.out, hw0, hok.out, ⟨hk0, hk1⟩, hlen.out, hPF.out _ kk.out⟩, (b0.out.trans (below_drew _ _)).trans (kk.out.below (by omega))⟩
end Go.Proofs.YtihkljfcplfldaaGreat
