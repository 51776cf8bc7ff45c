/-
  ImgH, ImgI, ImageApartWalk, OpenS, OpenT in one text. Nothing here is trusted.
-/
import Derived.Test.YtmpedoklljhdbaaGreatPart25
import Derived.Test.YtmpedoklljhdbaaGreatPart01
import Derived.WalkKit
import Derived.ProofKit
import Derived.OpenShut
import Derived.Deep.Slices
import Derived.Lib.SmallJoins
set_option linter.unusedVariables false
namespace Go.Proofs.YtmpedoklljhdbaaGreat
open Go.RowKit

/-- a right pool, its blocks as a list -/
def OkL (bs : List Blk) (ts : List TenE) : Prop := PoolOk bs.length (blksOf bs) ts
/-- what PoolV is, for who asks no more -/
theorem PoolV.at {base : Nat} {bs : List Blk} {ts : List TenE} {v : Value} {w : World} (h : PoolV base (bs, ts) v w) : ∃ a n c ta tn tc, v = .agg #[.slice a n c, .slice ta tn tc] ∧ n = bs.length ∧ PoolAt (fun _ => True) w a n (blksOf bs) ta tn ts := by
  obtain ⟨a, n, c, ta, tn, tc, bm, tm, rfl, hbm, htm, hVB, hVT⟩ := h
  obtain ⟨h1, h2, _⟩ := blks_of hVB
  obtain ⟨h3, h4, _⟩ := tens_of hVT
  rw [hbm] at h2
  rw [htm] at h4
  exact ⟨a, n, c, ta, tn, tc, rfl, by rw [← h1, ← List.length_map, hbm], h2, h4.weaken (fun _ _ _ => trivial)⟩

theorem PoolV.only {base : Nat} {x : List Blk × List TenE} {v : Value} {w w' : World} {K : Nat → Prop} (h : PoolV base x v w) (o : Only K w w') (hK : ∀ b, base ≤ b → ¬ K b) : PoolV base x v w' := by
  obtain ⟨a, n, c, ta, tn, tc, bm, tm, rfl, hbm, htm, hVB, hVT⟩ := h
  exact ⟨a, n, c, ta, tn, tc, bm, tm, rfl, hbm, htm, hVB.only blkAt_ok o hK, hVT.only tenAt_ok o hK⟩
/-- what Read answers -/
def RetR7 (e : Ending) (w : World) (b : List Int) : Prop :=
  (∃ e' : Int, e = .returned (.tuple #[.agg #[.slice none 0 0, .slice none 0 0], .int .i64 e']) ∧ e' ≠ 0 ∧ (∀ bs ts, b.length ≤ 20000 → poolP b = some ((bs, ts), []) → ¬ OkL bs ts) ∧ (b.length ≤ 20000 → (∀ x, poolP b ≠ some (x, [])) → e' = 9)) ∨
  (∃ bs ts a n c ta tn tc, e = .returned (.tuple #[.agg #[.slice a n c, .slice ta tn tc], .int .i64 0]) ∧ poolP b = some ((bs, ts), []) ∧ OkL bs ts ∧ n = bs.length ∧ PoolAt (fun _ => True) w a n (blksOf bs) ta tn ts)

set_option maxHeartbeats 2000000 in
set_option maxRecDepth 100000 in
theorem read_any (Q : Nat → Prop) (ba : Option Addr) (bn bc : Nat) (b : List Int) (w : World) (hN : NumsAt Q .u8 w ba bn b) (hcap : bn ≤ bc) (hbig : bc ≤ maxLen) (hnil : ba = none → bc = 0) :
    Calls Tryz.prog 14 #[.slice ba bn bc] w fun e w' => RetR7 e w' b ∧ Below w.heap.size w w' := by
  have hlb := hid hN.1
  have b0 := hid (below_alloc w (.cells #[.slice none 0 0, .slice none 0 0] 27))
  have k0 : Hid (CellsAt _ w.heap.size #[.slice none 0 0, .slice none 0 0] 27) := hid (cellsAt_alloc w _ _)
  replace hN := hid (hN.below b0.out)
  have hszw : Hid ((w.alloc (.cells #[.slice none 0 0, .slice none 0 0] 27)).heap.size = w.heap.size + 1) := hid (by simp)
  have hbn : (bn : Int) ≤ 9223372036854775807 := by unfold maxLen at hbig; omega
  replace hbig := hid hbig
  go_enter Tryz.func14, Tryz.ntmps14
  go_upto_region 1 with fail
  generalize w.alloc (.cells #[.slice none 0 0, .slice none 0 0] 27) = w0 at *
  by_cases hmany : (20000 : Int) < (bn : Int)
  · have r0 := k0.out.cell 0
    have r1 := k0.out.cell 1
    have r2 := k0.out.frozen 0
    have r3 := k0.out.frozen 1
    simp at r0 r1
    have cF := hid (cells_put2v (.slice none 0 0) (.slice none 0 0) k0.out)
    have bF := hid (b0.out.trans ((kept_put2v w0 w.heap.size (.slice none 0 0) (.slice none 0 0)).below (Nat.le_refl _)))
    unfold put2v at cF bF
    go_wp2_with fail
    have c0 := cF.out.cell 0
    have c1 := cF.out.cell 1
    simp only [List.getElem?_toArray, List.getElem?_cons_zero, List.getElem?_cons_succ] at c0 c1
    refine bodyPost_ret (v := .tuple #[.agg #[.slice none 0 0, .slice none 0 0], .int .i64 2]) (by rw [results_cell_tmp rfl]; go_simp) rfl ⟨.inl ⟨2, rfl, by omega, fun bs ts h => ?_, fun h => ?_⟩, bF.out⟩
    · rw [hlb.out] at h; omega
    · rw [hlb.out] at h; omega
  · go_wp2_with fail
    refine (parse_any Q ba bn bc b w0 hN.out hcap hbig.out hnil).mono ?_
    rintro e w1 ⟨⟨⟨bs, ts⟩, v, hp, rfl, hV⟩ | ⟨hno, rfl⟩, b1⟩
    · obtain ⟨a, n, c, ta, tn, tc, rfl, hn, hP⟩ := hV.at
      have bA := hid (below_alloc w1 (.cells #[.slice a n c, .slice ta tn tc] 27))
      have kA : Hid (CellsAt _ w1.heap.size #[.slice a n c, .slice ta tn tc] 27) := hid (cellsAt_alloc w1 _ _)
      replace hV := hid hV
      replace hP := hid (hP.below bA.out)
      replace hp := hid hp
      replace hn := hid hn
      replace k0 := hid ((k0.out.below b1).below bA.out)
      replace b0 := hid (Below.tr (Below.tr b0.out b1) bA.out)
      have hs1 := hid b1.size
      clear b1
      go_upto_region 6 with fail
      generalize w1.alloc (.cells #[.slice a n c, .slice ta tn tc] 27) = w2 at *
      have p0 := kA.out.cell 0
      have p1 := kA.out.cell 1
      simp at p0 p1
      go_wp2_with fail
      refine (poolCheck_any (fun _ => True) a n c (blksOf bs) ta tn tc ts w2 hP.out).mono ?_
      rintro e w3 ⟨⟨e3, rfl, he3⟩, b3⟩
      replace he3 := hid he3
      have k3 := k0.out.below b3
      have kA3 := kA.out.below b3
      have r0 := k3.cell 0
      have r1 := k3.cell 1
      have r2 := k3.frozen 0
      have r3 := k3.frozen 1
      have q0 := kA3.cell 0
      have q1 := kA3.cell 1
      simp at r0 r1 q0 q1
      by_cases h3 : e3 = 0
      · have h3' : (e3 == 0) = true := by simp [h3]
        have hok : Hid (OkL bs ts) := hid (by unfold OkL; rw [← hn.out]; exact he3.out.1 h3)
        have kf := kept_put2v w3 w.heap.size (.slice a n c) (.slice ta tn tc)
        have cF := hid (cells_put2v (.slice a n c) (.slice ta tn tc) k3)
        have bF := hid ((Below.tr b0.out b3).trans (kf.below (Nat.le_refl _)))
        have hPF : Hid (PoolAt (fun _ => True) (put2v w3 w.heap.size (.slice a n c) (.slice ta tn tc)) a n (blksOf bs) ta tn ts) := hid (by
          have h1 := hV.out.only (Only.of_below (M := fun _ => False) bA.out) (fun _ _ m => m)
          have h2 := h1.only (Only.of_below (M := fun _ => False) b3) (fun _ _ m => m)
          have h4 := h2.only (Only.of_kept (M := fun k => k = w.heap.size) kf rfl) (fun b hb e => by have := hszw.out; omega)
          obtain ⟨a', n', c', ta', tn', tc', hv, hn', hP'⟩ := h4.at
          simp only [Value.agg.injEq, Array.mk.injEq, List.cons.injEq, Value.slice.injEq, and_true] at hv
          obtain ⟨⟨rfl, rfl, rfl⟩, rfl, rfl, rfl⟩ := hv
          exact hP')
        unfold put2v at cF bF hPF
        clear k3 kA3 kf b3 p0 p1
        go_wp2_with fail
        have c0 := cF.out.cell 0
        have c1 := cF.out.cell 1
        simp only [List.getElem?_toArray, List.getElem?_cons_zero, List.getElem?_cons_succ] at c0 c1
        refine bodyPost_ret (v := .tuple #[.agg #[.slice a n c, .slice ta tn tc], .int .i64 0]) (by rw [results_cell_tmp rfl]; go_simp) rfl ⟨.inr ⟨bs, ts, a, n, c, ta, tn, tc, rfl, hp.out, hok.out, hn.out, hPF.out⟩, bF.out⟩
      · have h3' : (e3 == 0) = false := by simp [h3]
        have hnok : Hid (¬ OkL bs ts) := hid (fun f => h3 (he3.out.2 (by rw [hn.out]; exact f)))
        have cF := hid (cells_put2v (.slice none 0 0) (.slice none 0 0) k3)
        have bF := hid ((Below.tr b0.out b3).trans ((kept_put2v w3 w.heap.size (.slice none 0 0) (.slice none 0 0)).below (Nat.le_refl _)))
        unfold put2v at cF bF
        clear k3 kA3 b3 p0 p1
        go_wp2_with fail
        have c0 := cF.out.cell 0
        have c1 := cF.out.cell 1
        simp only [List.getElem?_toArray, List.getElem?_cons_zero, List.getElem?_cons_succ] at c0 c1
        refine bodyPost_ret (v := .tuple #[.agg #[.slice none 0 0, .slice none 0 0], .int .i64 e3]) (by rw [results_cell_tmp rfl]; go_simp) rfl ⟨.inl ⟨e3, rfl, h3, fun bs' ts' _ h f => ?_, fun _ h => absurd hp.out (h _)⟩, bF.out⟩
        rw [hp.out] at h
        simp only [Option.some.injEq, Prod.mk.injEq, and_true] at h
        obtain ⟨rfl, rfl⟩ := h
        exact hnok.out f
    · replace hno := hid hno
      have bA := hid (below_alloc w1 (.cells #[.slice none 0 0, .slice none 0 0] 27))
      replace k0 := (k0.out.below b1).below bA.out
      replace b0 := hid (Below.tr (Below.tr b0.out b1) bA.out)
      clear b1
      go_upto_region 4 with fail
      generalize w1.alloc (.cells #[.slice none 0 0, .slice none 0 0] 27) = w2 at *
      have r0 := k0.cell 0
      have r1 := k0.cell 1
      have r2 := k0.frozen 0
      have r3 := k0.frozen 1
      simp at r0 r1
      have cF := hid (cells_put2v (.slice none 0 0) (.slice none 0 0) k0)
      have bF := hid (b0.out.trans ((kept_put2v w2 w.heap.size (.slice none 0 0) (.slice none 0 0)).below (Nat.le_refl _)))
      unfold put2v at cF bF
      clear k0
      go_wp2_with fail
      have c0 := cF.out.cell 0
      have c1 := cF.out.cell 1
      simp only [List.getElem?_toArray, List.getElem?_cons_zero, List.getElem?_cons_succ] at c0 c1
      refine bodyPost_ret (v := .tuple #[.agg #[.slice none 0 0, .slice none 0 0], .int .i64 9]) (by rw [results_cell_tmp rfl]; go_simp) rfl ⟨.inl ⟨9, rfl, by omega, fun bs ts _ h => absurd h (hno.out _), fun _ _ => rfl⟩, bF.out⟩
end Go.Proofs.YtmpedoklljhdbaaGreat

namespace Go.Proofs.YtmpedoklljhdbaaGreat
open Go.RowKit

def zero91 : List Blk := List.replicate 91 Blk.zero
theorem blksOf_zero (n : Nat) : (fun _ => Blk.zero) = blksOf (List.replicate n Blk.zero) := by
  funext i
  unfold blksOf
  simp only [List.getD_eq_getElem?_getD, List.getElem?_replicate]
  split <;> rfl
theorem poolOk_new {n : Nat} {l : List TenE} (hn : n ≤ 400) (hl : l.length ≤ 3) (ht : ∀ t ∈ l, (0 ≤ t.key ∧ t.key ≤ 1000) ∧ (0 ≤ t.quota ∧ t.quota ≤ 400) ∧ t.sets = []) (hq : sumQ l + 90 ≤ n) : PoolOk n (fun _ => Blk.zero) l := by
  have hr : ∀ t ∈ l, rootsT t = [] := fun t h => by unfold rootsT rootsL; rw [(ht t h).2.2]; rfl
  have hR : rootsP l = [] := by
    unfold rootsP
    rw [List.flatMap_eq_nil_iff]
    exact hr
  refine ⟨right_zero n hn, hl, fun t h => ⟨(ht t h).1, (ht t h).2.1, by rw [(ht t h).2.2]; simp, by rw [(ht t h).2.2]; simp, by rw [(ht t h).2.2]; simp⟩, fun _ => hq, fun t h => ⟨0, ⟨[], List.Pairwise.nil, fun x => ⟨fun hx => by simp at hx, fun hx => by rw [hr t h] at hx; exact (Clo.nil hx).elim⟩, rfl⟩, (ht t h).2.1.1⟩, ?_, fun k hk => by rw [outs_zero, hR]; rfl⟩
  refine List.pairwise_of_forall_mem_list (fun t h u _ x hx => ?_)
  rw [hr t h] at hx
  exact (Clo.nil hx).elim
theorem img91 : (imgB zero91 [⟨3, 1, []⟩]).length = 738 ∧ (imgB zero91 [⟨3, 1, []⟩]).take 3 = [0, 91, 0] ∧ (imgB zero91 [⟨3, 1, []⟩]).drop 730 = [0, 1, 0, 3, 0, 1, 0, 0] := by
  have e0 : blkB Blk.zero = [0, 0, 0, 0, 0, 0, 0, 0] := by decide
  have e1 : (zero91.flatMap blkB).length = 728 := by
    have := flat_bound (f := blkB) (c := 8) (l := zero91)
    unfold zero91
    rw [List.flatMap_replicate, List.length_flatten, List.map_replicate, e0]
    decide
  have e2 : imgB zero91 [⟨3, 1, []⟩] = [0, 91] ++ (zero91.flatMap blkB ++ [0, 1, 0, 3, 0, 1, 0, 0]) := by
    unfold imgB lstB
    rw [List.append_assoc]
    have h1 : numB ((zero91.length : Nat) : Int) = [0, 91] := by unfold zero91; rw [List.length_replicate]; decide
    have h2 : numB ((([⟨3, 1, []⟩] : List TenE).length : Nat) : Int) ++ List.flatMap tenB [⟨3, 1, []⟩] = [0, 1, 0, 3, 0, 1, 0, 0] := by decide
    rw [h1, h2]
  rw [e2]
  refine ⟨?_, ?_, ?_⟩
  · rw [List.length_append, List.length_append, e1]; rfl
  · have e3 : zero91.flatMap blkB = 0 :: ([0, 0, 0, 0, 0, 0, 0] ++ (List.replicate 90 Blk.zero).flatMap blkB) := by
      unfold zero91
      rw [show (91 : Nat) = 90 + 1 from rfl, List.replicate_succ, List.flatMap_cons, e0]
      rfl
    rw [e3]
    rfl
  · rw [show (730 : Nat) = 2 + 728 from rfl, ← List.drop_drop]
    have h3 : ([0, 91] ++ (zero91.flatMap blkB ++ [0, 1, 0, 3, 0, 1, 0, 0]) : List Int).drop 2 = zero91.flatMap blkB ++ [0, 1, 0, 3, 0, 1, 0, 0] := rfl
    rw [h3, List.drop_append_of_le_length (by rw [e1]; exact Nat.le_refl _), ← e1, List.drop_length, List.nil_append]

theorem nums_lit3 (w : World) (x y z : Int) (h : Byt [x, y, z]) : NumsAt (fun _ => True) .u8 (w.alloc (.cells #[.int .u8 x, .int .u8 y, .int .u8 z] 5)) (some ⟨w.heap.size, 0, none⟩) 3 [x, y, z] := by
  have k := cellsAt_alloc w #[.int .u8 x, .int .u8 y, .int .u8 z] 5
  refine ⟨rfl, fun u hu => wf_u8 (h u hu), fun _ => ⟨_, _, rfl, k.lt, trivial, fun i hi => ?_⟩⟩
  rcases (by omega : i = 0 ∨ i = 1 ∨ i = 2) with rfl | rfl | rfl
  · exact k.cell 0
  · exact k.cell 1
  · exact k.cell 2
theorem nums_lit8 (w : World) (l0 l1 l2 l3 l4 l5 l6 l7 : Int) (h : Byt [l0, l1, l2, l3, l4, l5, l6, l7]) : NumsAt (fun _ => True) .u8 (w.alloc (.cells #[.int .u8 l0, .int .u8 l1, .int .u8 l2, .int .u8 l3, .int .u8 l4, .int .u8 l5, .int .u8 l6, .int .u8 l7] 5)) (some ⟨w.heap.size, 0, none⟩) 8 [l0, l1, l2, l3, l4, l5, l6, l7] := by
  have k := cellsAt_alloc w #[.int .u8 l0, .int .u8 l1, .int .u8 l2, .int .u8 l3, .int .u8 l4, .int .u8 l5, .int .u8 l6, .int .u8 l7] 5
  refine ⟨rfl, fun u hu => wf_u8 (h u hu), fun _ => ⟨_, _, rfl, k.lt, trivial, fun i hi => ?_⟩⟩
  rcases (by omega : i = 0 ∨ i = 1 ∨ i = 2 ∨ i = 3 ∨ i = 4 ∨ i = 5 ∨ i = 6 ∨ i = 7) with rfl | rfl | rfl | rfl | rfl | rfl | rfl | rfl
  · exact k.cell 0
  · exact k.cell 1
  · exact k.cell 2
  · exact k.cell 3
  · exact k.cell 4
  · exact k.cell 5
  · exact k.cell 6
  · exact k.cell 7
theorem ok91 : OkL zero91 [⟨3, 1, []⟩] := by
  unfold OkL zero91
  rw [← blksOf_zero, List.length_replicate]
  exact poolOk_new (by omega) (by simp) (fun t ht => by simp only [List.mem_singleton] at ht; subst ht; simp) (by simp [sumQ])

set_option maxHeartbeats 4000000 in
set_option maxRecDepth 100000 in
theorem imaged_any (w : World) : Calls Tryz.prog 17 #[] w fun e w' => e = .returned (.bool true) ∧ Below w.heap.size w w' := by
  have b0 := hid (below_two w (.cells #[.int .i64 3] 3) (.cells #[.int .i64 1] 3))
  have hk : Hid (CellsAt _ w.heap.size #[.int .i64 3] 3) := hid ((cellsAt_alloc w _ _).below (below_alloc _ (.cells #[.int .i64 1] 3)))
  have hq := hid (cellsAt_alloc2 w (.cells #[.int .i64 3] 3) #[.int .i64 1] 3)
  go_enter Tryz.func17, Tryz.ntmps17
  go_wp2_with fail
  generalize (w.alloc (.cells #[.int .i64 3] 3)).alloc (.cells #[.int .i64 1] 3) = w0 at *
  have hok0 : PoolOk 91 (fun _ => Blk.zero) [⟨3, 1, []⟩] := poolOk_new (by omega) (by simp) (fun t ht => by simp only [List.mem_singleton] at ht; subst ht; simp) (by simp [sumQ])
  refine (new1_any 91 3 1 w.heap.size (w.heap.size + 1) w0 (by omega) hk.out hq.out (by omega) hok0).mono ?_
  rintro e w1 ⟨⟨a, c, ta, tn, tc, rfl, hP, htc⟩, b1⟩
  rw [blksOf_zero 91] at hP
  have bA := hid (below_alloc w1 (.cells #[.slice a 91 c, .slice ta tn tc] 27))
  have kA : Hid (CellsAt _ w1.heap.size #[.slice a 91 c, .slice ta tn tc] 27) := hid (cellsAt_alloc w1 _ _)
  replace hP := hid (hP.below bA.out)
  replace b0 := hid (Below.tr (Below.tr b0.out b1) bA.out)
  clear hk hq b1 hok0
  go_upto_region 2 with fail
  generalize w1.alloc (.cells #[.slice a 91 c, .slice ta tn tc] 27) = w2 at *
  have p0 := kA.out.cell 0
  have p1 := kA.out.cell 1
  simp at p0 p1
  go_wp2_with fail
  refine (write_any (fun _ => True) a 91 c (blksOf zero91) ta tn tc [⟨3, 1, []⟩] w2 hP.out).mono ?_
  rintro e w3 ⟨⟨e', rfl, he, hno⟩ | ⟨hok, xa, xm, xc, rfl, hxc, hxm, hNx⟩, b3⟩
  · exact absurd ok91 hno
  have himg : poolB 91 (blksOf zero91) [⟨3, 1, []⟩] = imgB zero91 [⟨3, 1, []⟩] := poolB_of zero91 _
  rw [himg] at hNx
  obtain rfl : xm = 738 := by rw [← hNx.1]; exact img91.1
  obtain ⟨xb, xo, rfl⟩ : ∃ b o, xa = some ⟨b, o, none⟩ := by
    obtain ⟨b, o, e, _⟩ := hNx.2.2 (by omega)
    exact ⟨b, o, e⟩
  obtain ⟨hxc1, hxc2⟩ := hxc
  have hxc3 : (xc : Int) ≤ 9223372036854775807 := by unfold maxLen at hxc2; omega
  replace hxc2 := hid hxc2
  replace hNx := hid hNx
  replace kA := hid (kA.out.below b3)
  replace hP := hid (hP.out.below b3)
  replace b0 := hid (Below.tr b0.out b3)
  clear p0 p1 b3 hok himg hxm bA
  go_wp2_with fail
  refine (read_any _ _ 738 xc _ w3 hNx.out hxc1 hxc2.out (fun e => by cases e)).mono ?_
  have hpar : Hid (poolP (imgB zero91 [⟨3, 1, []⟩]) = some ((zero91, [⟨3, 1, []⟩]), [])) := hid (by have := PoolOk.parse (bs := zero91) (ts := [⟨3, 1, []⟩]) ok91 []; rwa [List.append_nil] at this)
  rintro e w4 ⟨⟨e', rfl, he, hno, _⟩ | ⟨bs, ts, ya, yn, yc, za, zn, zc, rfl, hp, hok, hyn, hQ⟩, b4⟩
  · exact absurd ok91 (hno _ _ (by rw [img91.1]; omega) hpar.out)
  rw [hpar.out] at hp
  simp only [Option.some.injEq, Prod.mk.injEq, and_true] at hp
  obtain ⟨rfl, rfl⟩ := hp
  have bB := hid (below_alloc w4 (.cells #[.slice ya yn yc, .slice za zn zc] 27))
  have kB : Hid (CellsAt _ w4.heap.size #[.slice ya yn yc, .slice za zn zc] 27) := hid (cellsAt_alloc w4 _ _)
  replace hQ := hid (hQ.below bB.out)
  replace hNx := hid ((hNx.out.below b4).below bB.out)
  replace kA := hid ((kA.out.below b4).below bB.out)
  replace hP := hid ((hP.out.below b4).below bB.out)
  replace b0 := hid (Below.tr (Below.tr b0.out b4) bB.out)
  replace hyn := hid hyn
  clear b4 hok
  go_upto_region 4 with fail
  generalize w4.alloc (.cells #[.slice ya yn yc, .slice za zn zc] 27) = w5 at *
  have p0 := kA.out.cell 0
  have p1 := kA.out.cell 1
  have q0 := kB.out.cell 0
  have q1 := kB.out.cell 1
  simp at p0 p1 q0 q1
  go_wp2_with fail
  refine (same_any (fun _ => True) (fun _ => True) a 91 c (blksOf zero91) ta tn tc [⟨3, 1, []⟩] ya yn yc (blksOf zero91) za zn zc [⟨3, 1, []⟩] w5 hP.out hQ.out).mono ?_
  rintro e w6 ⟨⟨t, rfl, ht⟩, b6⟩
  obtain rfl : t = true := ht.2 ⟨ok91, by rw [hyn.out]; exact ok91, by rw [hyn.out]; rfl⟩
  replace hNx := hid (hNx.out.below b6)
  replace b0 := hid (Below.tr b0.out b6)
  clear p0 p1 q0 q1 ht b6
  have bC := hid (below_alloc w6 (.cells #[.int .u8 0, .int .u8 91, .int .u8 0] 5))
  have hN3 := hid (nums_lit3 w6 0 91 0 (fun x hx => by simp at hx; omega))
  replace hNx := hid (hNx.out.below bC.out)
  replace b0 := hid (Below.tr b0.out bC.out)
  go_wp2_with fail
  refine (bytesEq_any _ _ 3 xc 3 3 _ _ _ [0, 91, 0] _ (nums_take hNx.out (n := 3) (by omega)) hN3.out).mono ?_
  rintro e w7 ⟨rfl, rfl⟩
  have hd1 : decide ((imgB zero91 [⟨3, 1, []⟩]).take 3 = [0, 91, 0]) = true := by rw [img91.2.1]; rfl
  rw [hd1]
  clear hd1 hN3
  generalize w6.alloc (.cells #[.int .u8 0, .int .u8 91, .int .u8 0] 5) = w7 at *
  have bD := hid (below_alloc w7 (.cells #[.int .u8 0, .int .u8 1, .int .u8 0, .int .u8 3, .int .u8 0, .int .u8 1, .int .u8 0, .int .u8 0] 5))
  have hN8 := hid (nums_lit8 w7 0 1 0 3 0 1 0 0 (fun x hx => by simp at hx; omega))
  replace hNx := hid (hNx.out.below bD.out)
  replace b0 := hid (Below.tr b0.out bD.out)
  have hxn : ¬ xc = 730 := by omega
  go_wp2_with fail
  have hadd : (⟨xb, xo, none⟩ : Addr).add 730 = ⟨xb, xo + 730, none⟩ := by unfold Addr.add; split <;> simp_all
  have h8 := nums_drop hNx.out (n := 730) (by omega)
  rw [hadd] at h8
  refine (bytesEq_any _ _ 8 (xc - 730) 8 8 _ _ _ [0, 1, 0, 3, 0, 1, 0, 0] _ h8 hN8.out).mono ?_
  rintro e w8 ⟨rfl, rfl⟩
  have hd2 : decide ((imgB zero91 [⟨3, 1, []⟩]).drop 730 = [0, 1, 0, 3, 0, 1, 0, 0]) = true := by rw [img91.2.2]; rfl
  rw [hd2]
  clear hd2 hN8 h8 hadd
  go_wp2_with fail
  go_ret
  exact ⟨rfl, b0.out⟩
end Go.Proofs.YtmpedoklljhdbaaGreat

namespace Go.Proofs.YtmpedoklljhdbaaGreat
open Go.RowKit

theorem sameBytes_symm {n : Nat} {B : Nat → Blk} {l : List TenE} {n' : Nat} {B' : Nat → Blk} {l' : List TenE} : SameBytes n B l n' B' l' ↔ SameBytes n' B' l' n B l := ⟨fun h => ⟨h.2.1, h.1, h.2.2.symm⟩, fun h => ⟨h.2.1, h.1, h.2.2.symm⟩⟩
theorem sameBytes_self {n : Nat} {B : Nat → Blk} {l : List TenE} {e : Int} (he : e = 0 ↔ PoolOk n B l) {t : Bool} (ht : t = true ↔ SameBytes n B l n B l) : t = (e == 0) := by
  apply Bool.eq_iff_iff.2
  rw [ht]
  constructor
  · intro h; simpa using he.2 h.1
  · intro h; have := he.1 (by simpa using h); exact ⟨this, this, rfl⟩
theorem sameBytes_flip {n : Nat} {B : Nat → Blk} {l : List TenE} {n' : Nat} {B' : Nat → Blk} {l' : List TenE} {t u : Bool} (ht : t = true ↔ SameBytes n B l n' B' l') (hu : u = true ↔ SameBytes n' B' l' n B l) : u = t := Bool.eq_iff_iff.2 (hu.trans (sameBytes_symm.trans ht.symm))
/-- what Write answers, in one form -/
theorem RetW7.uni {base : Nat} {e : Ending} {w : World} {n : Nat} {B : Nat → Blk} {l : List TenE} (h : RetW7 base e w n B l) : ∃ (a : Option Addr) (m c : Nat) (e' : Int), e = .returned (.tuple #[.slice a m c, .int .i64 e']) ∧ (e' = 0 ↔ PoolOk n B l) ∧ (e' = 0 → NumsAt (fun _ => True) .u8 w a m (poolB n B l)) := by
  rcases h with ⟨e', rfl, he, hno⟩ | ⟨hok, a, m, c, rfl, _, _, hN⟩
  · exact ⟨none, 0, 0, e', rfl, ⟨fun h => absurd h he, fun h => absurd h hno⟩, fun h => absurd h he⟩
  · exact ⟨a, m, c, 0, rfl, ⟨fun _ => hok, fun _ => rfl⟩, fun _ => hN.weaken (fun _ _ _ => trivial)⟩

theorem same_ex (Q R : Nat → Prop) (a : Option Addr) (n c : Nat) (B : Nat → Blk) (ta : Option Addr) (tn tc : Nat) (l : List TenE) (a' : Option Addr) (n' c' : Nat) (B' : Nat → Blk) (ta' : Option Addr) (tn' tc' : Nat) (l' : List TenE) (w : World) (hP : PoolAt Q w a n B ta tn l) (hP' : PoolAt R w a' n' B' ta' tn' l') :
    Calls Tryz.prog 19 #[.agg #[.slice a n c, .slice ta tn tc], .agg #[.slice a' n' c', .slice ta' tn' tc']] w fun e w' => (∃ t, e = .returned (.bool t) ∧ (t = true ↔ SameBytes n B l n' B' l')) ∧ Below w.heap.size w w' := same_any Q R a n c B ta tn tc l a' n' c' B' ta' tn' tc' l' w hP hP'

set_option maxHeartbeats 8000000 in
set_option maxRecDepth 100000 in
theorem imageApart_walk (Q R : Nat → Prop) (a : Option Addr) (n c : Nat) (B : Nat → Blk) (ta : Option Addr) (tn tc : Nat) (l : List TenE) (a' : Option Addr) (n' c' : Nat) (B' : Nat → Blk) (ta' : Option Addr) (tn' tc' : Nat) (l' : List TenE) (w : World) (hP : PoolAt Q w a n B ta tn l) (hQ : PoolAt R w a' n' B' ta' tn' l') :
    Calls Tryz.prog 6 #[.agg #[.slice a n c, .slice ta tn tc], .agg #[.slice a' n' c', .slice ta' tn' tc']] w fun e w' => e = .returned (.bool true) ∧ Below w.heap.size w w' := by
  have b0 := hid (below_two w (.cells #[.slice a n c, .slice ta tn tc] 27) (.cells #[.slice a' n' c', .slice ta' tn' tc'] 27))
  have k0 : Hid (CellsAt _ w.heap.size #[.slice a n c, .slice ta tn tc] 27) := hid ((cellsAt_alloc w _ _).below (below_alloc _ (.cells #[.slice a' n' c', .slice ta' tn' tc'] 27)))
  have k1 := hid (cellsAt_alloc2 w (.cells #[.slice a n c, .slice ta tn tc] 27) #[.slice a' n' c', .slice ta' tn' tc'] 27)
  replace hP := hid (hP.below b0.out)
  replace hQ := hid (hQ.below b0.out)
  go_enter Tryz.func6, Tryz.ntmps6
  go_wp2_with fail
  generalize (w.alloc (.cells #[.slice a n c, .slice ta tn tc] 27)).alloc (.cells #[.slice a' n' c', .slice ta' tn' tc'] 27) = w0 at *
  have p0 := k0.out.cell 0
  have p1 := k0.out.cell 1
  simp at p0 p1
  refine (write_any Q a n c B ta tn tc l w0 hP.out).mono ?_
  rintro e w1 ⟨hw1, b1⟩
  obtain ⟨xa, xm, xc, e1, rfl, he1, hN1⟩ := hw1.uni
  replace he1 := hid he1
  replace hN1 := hid hN1
  replace k0 := hid (k0.out.below b1)
  replace k1 := hid (k1.out.below b1)
  replace hP := hid (hP.out.below b1)
  replace hQ := hid (hQ.out.below b1)
  replace b0 := hid (Below.tr b0.out b1)
  clear p0 p1 b1 hw1
  have q0 := k1.out.cell 0
  have q1 := k1.out.cell 1
  simp at q0 q1
  go_wp2_with fail
  refine (write_any R a' n' c' B' ta' tn' tc' l' w1 hQ.out).mono ?_
  rintro e w2 ⟨hw2, b2⟩
  obtain ⟨ya, ym, yc, e2, rfl, he2, hN2⟩ := hw2.uni
  replace he2 := hid he2
  replace hN2 := hid hN2
  replace hN1 : Hid (e1 = 0 → NumsAt (fun _ => True) .u8 w2 xa xm (poolB n B l)) := hid (fun h => (hN1.out h).below b2)
  replace k0 := hid (k0.out.below b2)
  replace k1 := hid (k1.out.below b2)
  replace hP := hid (hP.out.below b2)
  replace hQ := hid (hQ.out.below b2)
  replace b0 := hid (Below.tr b0.out b2)
  clear q0 q1 b2 hw2
  have p02 := k0.out.cell 0
  have p12 := k0.out.cell 1
  have q02 := k1.out.cell 0
  have q12 := k1.out.cell 1
  simp at p02 p12 q02 q12
  go_wp2_with fail
  go_region_held3 (fun w' => w'.cell? ⟨w.heap.size, 0, none⟩ = some (.slice a n c) ∧ w'.cell? ⟨w.heap.size, 1, none⟩ = some (.slice ta tn tc) ∧ w'.cell? ⟨w.heap.size + 1, 0, none⟩ = some (.slice a' n' c') ∧ w'.cell? ⟨w.heap.size + 1, 1, none⟩ = some (.slice ta' tn' tc')) (first | go_keep | assumption) (first
    | (go_at_call 17; with_reducible refine Calls.mono (imaged_any _) ?_; rintro e w3 ⟨rfl, b3⟩; have b23 := hid (Below.tr (below_drew _ w2) b3); have hP3 := hid (hP.out.below b23.out); have hQ3 := hid (hQ.out.below b23.out); have p03 := (b23.out.cell (p := ⟨w.heap.size, 0, none⟩) k0.out.lt).trans p02; have p13 := (b23.out.cell (p := ⟨w.heap.size, 1, none⟩) k0.out.lt).trans p12; have q03 := (b23.out.cell (p := ⟨w.heap.size + 1, 0, none⟩) k1.out.lt).trans q02; have q13 := (b23.out.cell (p := ⟨w.heap.size + 1, 1, none⟩) k1.out.lt).trans q12; clear b3)
    | (go_at_call 19; with_reducible refine Calls.mono (same_ex Q R a n c B ta tn tc l a' n' c' B' ta' tn' tc' l' w3 ?_ ?_) ?_; exact hP3.out; exact hQ3.out; rintro e w4 ⟨⟨t4, rfl, ht4⟩, b4⟩; replace ht4 := hid ht4; have b24 := hid (Below.tr b23.out b4); have hP4 := hid (hP.out.below b24.out); have hQ4 := hid (hQ.out.below b24.out); have p04 := (b24.out.cell (p := ⟨w.heap.size, 0, none⟩) k0.out.lt).trans p02; have p14 := (b24.out.cell (p := ⟨w.heap.size, 1, none⟩) k0.out.lt).trans p12; have q04 := (b24.out.cell (p := ⟨w.heap.size + 1, 0, none⟩) k1.out.lt).trans q02; have q14 := (b24.out.cell (p := ⟨w.heap.size + 1, 1, none⟩) k1.out.lt).trans q12; clear b4)
    | (go_at_call 19; with_reducible refine Calls.mono (same_ex R Q a' n' c' B' ta' tn' tc' l' a n c B ta tn tc l w4 ?_ ?_) ?_; exact hQ4.out; exact hP4.out; rintro e w5 ⟨⟨t5, rfl, ht5⟩, b5⟩; obtain rfl := sameBytes_flip ht4.out ht5; have b25 := hid (Below.tr b24.out b5); have hP5 := hid (hP.out.below b25.out); have hQ5 := hid (hQ.out.below b25.out); have p05 := (b25.out.cell (p := ⟨w.heap.size, 0, none⟩) k0.out.lt).trans p02; have p15 := (b25.out.cell (p := ⟨w.heap.size, 1, none⟩) k0.out.lt).trans p12; have q05 := (b25.out.cell (p := ⟨w.heap.size + 1, 0, none⟩) k1.out.lt).trans q02; have q15 := (b25.out.cell (p := ⟨w.heap.size + 1, 1, none⟩) k1.out.lt).trans q12; clear b5 ht5)
    | (go_at_call 19; with_reducible refine Calls.mono (same_ex Q Q a n c B ta tn tc l a n c B ta tn tc l w5 ?_ ?_) ?_; exact hP5.out; exact hP5.out; rintro e w6 ⟨⟨t6, rfl, ht6⟩, b6⟩; obtain rfl := sameBytes_self he1.out ht6; have b26 := hid (Below.tr b25.out b6); have p06 := (b26.out.cell (p := ⟨w.heap.size, 0, none⟩) k0.out.lt).trans p02; have p16 := (b26.out.cell (p := ⟨w.heap.size, 1, none⟩) k0.out.lt).trans p12; have q06 := (b26.out.cell (p := ⟨w.heap.size + 1, 0, none⟩) k1.out.lt).trans q02; have q16 := (b26.out.cell (p := ⟨w.heap.size + 1, 1, none⟩) k1.out.lt).trans q12; clear b6))
  replace hP := hid (hP.out.below b26.out)
  replace hQ := hid (hQ.out.below b26.out)
  replace hN1 : Hid (e1 = 0 → NumsAt (fun _ => True) .u8 w6 xa xm (poolB n B l)) := hid (fun h => (hN1.out h).below b26.out)
  replace hN2 : Hid (e2 = 0 → NumsAt (fun _ => True) .u8 w6 ya ym (poolB n' B' l')) := hid (fun h => (hN2.out h).below b26.out)
  replace b0 := hid (Below.tr b0.out b26.out)
  clear p02 p12 q02 q12 p03 p13 q03 q13 p04 p14 q04 q14 p05 p15 q05 q15 hP3 hQ3 hP4 hQ4 hP5 hQ5 b23 b24 b25 b26 ht4
  go_wp2_with fail
  refine (same_ex Q R a n c B ta tn tc l a' n' c' B' ta' tn' tc' l' w6 hP.out hQ.out).mono ?_
  rintro e w7 ⟨⟨t7, rfl, ht7⟩, b7⟩
  replace ht7 := hid ht7
  clear p06 p16 q06 q16
  by_cases h1 : e1 = 0
  · have h1' : (e1 == 0) = true := by simp [h1]
    by_cases h2 : e2 = 0
    · have h2' : (e2 == 0) = true := by simp [h2]
      have hX := hid ((hN1.out h1).below b7)
      have hY := hid ((hN2.out h2).below b7)
      have hd : t7 = decide (poolB n B l = poolB n' B' l') := Bool.eq_iff_iff.2 (ht7.out.trans ⟨fun h => by simpa using h.2.2, fun h => ⟨he1.out.1 h1, he2.out.1 h2, by simpa using h⟩⟩)
      go_wp2_with fail
      refine (bytesEq_any xa ya xm xc ym yc _ _ _ _ w7 hX.out hY.out).mono ?_
      rintro e w8 ⟨rfl, rfl⟩
      rw [← hd]
      clear hd
      go_wp2_with fail
      go_ret
      exact ⟨by simp, Below.tr b0.out b7⟩
    · have h2' : (e2 == 0) = false := by simp [h2]
      obtain rfl : t7 = false := by
        cases t7
        · rfl
        · exact absurd (he2.out.2 (ht7.out.1 rfl).2.1) h2
      go_wp2_with fail
      go_ret
      exact ⟨by simp, Below.tr b0.out b7⟩
  · have h1' : (e1 == 0) = false := by simp [h1]
    obtain rfl : t7 = false := by
      cases t7
      · rfl
      · exact absurd (he1.out.2 (ht7.out.1 rfl).1) h1
    go_wp2_with fail
    go_ret
    exact ⟨by simp, Below.tr b0.out b7⟩
end Go.Proofs.YtmpedoklljhdbaaGreat

namespace Go.Proofs.YtmpedoklljhdbaaGreat
open Go.ChangeShapes Go.WideShapes Go.RowKit Go.Deep

section
variable {H : Type} {enc : TypeId × Value → H} {W : World}

theorem addr_none {W : World} {a : Addr} {v : Value} (h : W.cell? a = some v) : a = ⟨a.block, a.off, none⟩ := by
  obtain ⟨b, off, spot⟩ := a
  have hspot : spot = none := World.cell?_spot h
  subst hspot
  rfl

theorem add_none (b off i : Nat) : (⟨b, off, none⟩ : Addr).add i = ⟨b, off + i, none⟩ := by unfold Addr.add; split <;> simp_all
theorem add_zero' (a : Addr) : a.add 0 = a := by unfold Addr.add; simp

theorem nums_open {t e : TypeId} {k : IntKind} {m : Nat} {v : Value} {y : DataW H × List MemPlace} (ht : Tryz.prog.underlying t = some (.slice e)) (he : Tryz.prog.underlying e = some (.int k)) (hc : Tryz.prog.cellsOf e = 1)
    (h : DataW.trod enc Tryz.prog W 0 (fun _ => true) true m t [v] = some y) : ∃ a len cap l, v = .slice a len cap ∧ len ≤ cap ∧ cap ≤ maxLen ∧ NumsAt (fun _ => True) k W a len l := by
  rcases open_ints ht he hc h with ⟨hcs, _⟩ | ⟨x, len, cap, zs, hcs, _, hl, hm, hz, _, hcell, hwz⟩
  · exact ⟨none, 0, 0, [], by simpa using hcs, Nat.le_refl _, Nat.zero_le _, numsAt_nil _ _ _ _⟩
  · simp only [if_true] at hz
    refine ⟨some x, len, cap, zs.take len, by simpa using hcs, hl, hm, by simp; omega, fun y hy => hwz y (List.mem_of_mem_take hy), fun hp => ?_⟩
    have h0 := hcell 0 (by omega)
    rw [add_zero'] at h0
    have hx := addr_none h0
    obtain ⟨b, off, spot⟩ := x
    simp only [Addr.mk.injEq, true_and] at hx
    subst hx
    refine ⟨b, off, rfl, cell_lt h0, trivial, fun i hi => ?_⟩
    have := hcell i (by omega)
    rw [add_none] at this
    rw [this]
    simp [List.getD, hi]

set_option maxRecDepth 100000 in
theorem blk_open {m : Nat} {cs : List Value} {y : DataW H × List MemPlace} (h : DataW.trod enc Tryz.prog W 0 (fun _ => true) true m 113 cs = some y) :
    ∃ (r lv : Int) (ka : Option Addr) (kn kc : Nat) (ba : Option Addr) (bn bc : Nat) (ks bs : List Int), cs = [.int .i64 r, .int .i64 lv, .slice ka kn kc, .slice ba bn bc] ∧
      (-9223372036854775808 ≤ r ∧ r ≤ 9223372036854775807) ∧ (-9223372036854775808 ≤ lv ∧ lv ≤ 9223372036854775807) ∧ (kn ≤ kc ∧ bn ≤ bc) ∧ NumsAt (fun _ => True) .i64 W ka kn ks ∧ NumsAt (fun _ => True) .u8 W ba bn bs := by
  obtain ⟨y0, y1, y2, y3, n, _, hl, h0, h1, h2, h3⟩ := Go.Joins.trod_struct4 Tryz.underlying113 h
  have hl4 : cs.length = 4 := hl.trans (by kernel_rfl)
  match cs, hl4 with
  | [c0, c1, c2, c3], _ =>
    have e1 : Tryz.prog.cellsOf 3 = 1 := by kernel_rfl
    have e2 : Tryz.prog.cellsOf 69 = 1 := by kernel_rfl
    have e3 : Tryz.prog.cellsOf 28 = 1 := by kernel_rfl
    simp [e1, e2, e3] at h0 h1 h2 h3
    obtain ⟨r, hr, _, wr⟩ := DataW.trod_int Tryz.underlying3 h0
    obtain ⟨lv, hlv, _, wl⟩ := DataW.trod_int Tryz.underlying3 h1
    obtain ⟨ka, kn, kc, ks, rfl, hk, _, hK⟩ := nums_open Tryz.underlying69 Tryz.underlying3 (by kernel_rfl) h2
    obtain ⟨ba, bn, bc, bs, rfl, hb, _, hB⟩ := nums_open Tryz.underlying28 Tryz.underlying5 (by kernel_rfl) h3
    simp at hr hlv
    subst hr hlv
    have := bounds_i64 wr
    have := bounds_i64 wl
    exact ⟨r, lv, ka, kn, kc, ba, bn, bc, ks, bs, rfl, by omega, by omega, ⟨hk, hb⟩, hK, hB⟩

set_option maxRecDepth 100000 in
theorem store_open {r : Reach} {b0 : Nat} {v : Value} {d : DataW H} {p : List MemPlace} (hv : Value.okWide Tryz.prog W r b0 24 v) (h : DataW.Trod enc Tryz.prog W 0 (fun _ => true) true 24 v d p) :
    ∃ a n c B, v = .agg #[.slice a n c] ∧ StoreAt W a n B := by
  obtain ⟨cs, rfl, hsz⟩ := okWide_struct Tryz.underlying24 hv
  have hsz1 : cs.size = 1 := hsz.trans (by kernel_rfl)
  obtain ⟨l⟩ := cs
  match l, hsz1 with
  | [c0], _ =>
    obtain ⟨fuel, hf⟩ := h
    obtain ⟨y0, n, _, _, h0⟩ := trod_struct1 Tryz.underlying24 hf
    have e1 : Tryz.prog.cellsOf 22 = 1 := by kernel_rfl
    have e4 : Tryz.prog.cellsOf 113 = 4 := by kernel_rfl
    simp [Value.cells, e1] at h0
    rcases open_slice Tryz.underlying22 h0 with ⟨hcs, _⟩ | ⟨a, len, cap, m, n', D, Pl, hcs, _, hl, hm, hmm, _, hx⟩
    · simp at hcs
      subst hcs
      exact ⟨none, 0, 0, fun _ => Blk.zero, rfl, fun hp => absurd hp (by omega)⟩
    · simp at hcs
      subst hcs
      simp only [if_true] at hmm
      subst hmm
      have hone : ∀ i, i < len → ∃ K : Blk, ∃ ka kn kc ba bn bc, W.cell? (a.add (i * 4)) = some (.int .i64 K.refs) ∧ W.cell? ((a.add (i * 4)).add 1) = some (.int .i64 K.level) ∧ W.cell? ((a.add (i * 4)).add 2) = some (.slice ka kn kc) ∧ W.cell? ((a.add (i * 4)).add 3) = some (.slice ba bn bc) ∧
          NumsAt (fun _ => True) .i64 W ka kn K.kids ∧ NumsAt (fun _ => True) .u8 W ba bn K.bytes ∧ (-9223372036854775808 ≤ K.refs ∧ K.refs ≤ 9223372036854775807) ∧ (-9223372036854775808 ≤ K.level ∧ K.level ≤ 9223372036854775807) ∧ (kn ≤ kc ∧ bn ≤ bc) := by
        intro i hi
        obtain ⟨cs', h1, h2⟩ := hx i (by omega)
        rw [e4] at h1
        obtain ⟨r, lv, ka, kn, kc, ba, bn, bc, ks, bs, rfl, b1, b2, b3, b4, b5⟩ := blk_open h2
        obtain ⟨_, _, hc⟩ := World.cells?_some h1
        have c0 := hc 0 (by omega)
        have c1 := hc 1 (by omega)
        have c2 := hc 2 (by omega)
        have c3 := hc 3 (by omega)
        have ez : (a.add (i * 4)).add 0 = a.add (i * 4) := add_zero' _
        rw [ez] at c0
        exact ⟨⟨r, lv, ks, bs⟩, ka, kn, kc, ba, bn, bc, c0, c1, c2, c3, b4, b5, b1, b2, b3⟩
      have : Inhabited Blk := ⟨Blk.zero⟩
      obtain ⟨B, hB⟩ := choose_lt hone
      refine ⟨some a, len, m, B, rfl, fun hp => ?_⟩
      obtain ⟨_, _, _, _, _, _, h0', _⟩ := hB 0 (by omega)
      rw [Nat.zero_mul, add_zero'] at h0'
      have hx0 := addr_none h0'
      obtain ⟨b, off, spot⟩ := a
      simp only [Addr.mk.injEq, true_and] at hx0
      subst hx0
      refine ⟨b, off, rfl, cell_lt h0', fun i hi => ?_⟩
      obtain ⟨ka, kn, kc, ba, bn, bc, c0, c1, c2, c3, k1, k2, k3, k4, k5⟩ := hB i hi
      rw [add_none] at c0 c1 c2 c3
      rw [add_none] at c1 c2 c3
      exact ⟨ka, kn, kc, ba, bn, bc, c0, c1, c2, c3, k1, k2, k3, k4, k5⟩
end

end Go.Proofs.YtmpedoklljhdbaaGreat

namespace Go.Proofs.YtmpedoklljhdbaaGreat
open Go.ChangeShapes Go.WideShapes Go.RowKit Go.Deep

section
variable {H : Type} {enc : TypeId × Value → H} {W : World}

set_option maxRecDepth 100000 in
theorem store_open_max {r : Reach} {b0 : Nat} {v : Value} {d : DataW H} {p : List MemPlace} (hv : Value.okWide Tryz.prog W r b0 24 v) (h : DataW.Trod enc Tryz.prog W 0 (fun _ => true) true 24 v d p) :
    ∃ a n c B, n ≤ 9223372036854775807 ∧ v = .agg #[.slice a n c] ∧ StoreAt W a n B := by
  obtain ⟨cs, rfl, hsz⟩ := okWide_struct Tryz.underlying24 hv
  have hsz1 : cs.size = 1 := hsz.trans (by kernel_rfl)
  obtain ⟨l⟩ := cs
  match l, hsz1 with
  | [c0], _ =>
    obtain ⟨fuel, hf⟩ := h
    obtain ⟨y0, n, _, _, h0⟩ := trod_struct1 Tryz.underlying24 hf
    have e1 : Tryz.prog.cellsOf 22 = 1 := by kernel_rfl
    have e4 : Tryz.prog.cellsOf 113 = 4 := by kernel_rfl
    simp [Value.cells, e1] at h0
    rcases open_slice Tryz.underlying22 h0 with ⟨hcs, _⟩ | ⟨a, len, cap, m, n', D, Pl, hcs, _, hl, hm, hmm, _, hx⟩
    · simp at hcs
      subst hcs
      exact ⟨none, 0, 0, fun _ => Blk.zero, by omega, rfl, fun hp => absurd hp (by omega)⟩
    · simp at hcs
      subst hcs
      simp only [if_true] at hmm
      subst hmm
      have hone : ∀ i, i < len → ∃ K : Blk, ∃ ka kn kc ba bn bc, W.cell? (a.add (i * 4)) = some (.int .i64 K.refs) ∧ W.cell? ((a.add (i * 4)).add 1) = some (.int .i64 K.level) ∧ W.cell? ((a.add (i * 4)).add 2) = some (.slice ka kn kc) ∧ W.cell? ((a.add (i * 4)).add 3) = some (.slice ba bn bc) ∧
          NumsAt (fun _ => True) .i64 W ka kn K.kids ∧ NumsAt (fun _ => True) .u8 W ba bn K.bytes ∧ (-9223372036854775808 ≤ K.refs ∧ K.refs ≤ 9223372036854775807) ∧ (-9223372036854775808 ≤ K.level ∧ K.level ≤ 9223372036854775807) ∧ (kn ≤ kc ∧ bn ≤ bc) := by
        intro i hi
        obtain ⟨cs', h1, h2⟩ := hx i (by omega)
        rw [e4] at h1
        obtain ⟨r, lv, ka, kn, kc, ba, bn, bc, ks, bs, rfl, b1, b2, b3, b4, b5⟩ := blk_open h2
        obtain ⟨_, _, hc⟩ := World.cells?_some h1
        have c0 := hc 0 (by omega)
        have c1 := hc 1 (by omega)
        have c2 := hc 2 (by omega)
        have c3 := hc 3 (by omega)
        have ez : (a.add (i * 4)).add 0 = a.add (i * 4) := add_zero' _
        rw [ez] at c0
        exact ⟨⟨r, lv, ks, bs⟩, ka, kn, kc, ba, bn, bc, c0, c1, c2, c3, b4, b5, b1, b2, b3⟩
      have : Inhabited Blk := ⟨Blk.zero⟩
      obtain ⟨B, hB⟩ := choose_lt hone
      refine ⟨some a, len, m, B, by unfold maxLen at hm; omega, rfl, fun hp => ?_⟩
      obtain ⟨_, _, _, _, _, _, h0', _⟩ := hB 0 (by omega)
      rw [Nat.zero_mul, add_zero'] at h0'
      have hx0 := addr_none h0'
      obtain ⟨b, off, spot⟩ := a
      simp only [Addr.mk.injEq, true_and] at hx0
      subst hx0
      refine ⟨b, off, rfl, cell_lt h0', fun i hi => ?_⟩
      obtain ⟨ka, kn, kc, ba, bn, bc, c0, c1, c2, c3, k1, k2, k3, k4, k5⟩ := hB i hi
      rw [add_none] at c0 c1 c2 c3
      rw [add_none] at c1 c2 c3
      exact ⟨ka, kn, kc, ba, bn, bc, c0, c1, c2, c3, k1, k2, k3, k4, k5⟩

set_option maxRecDepth 100000 in
theorem block_open {r : Reach} {b0 : Nat} {v : Value} {d : DataW H} {p : List MemPlace} (hv : Value.okWide Tryz.prog W r b0 113 v) (h : DataW.Trod enc Tryz.prog W 0 (fun _ => true) true 113 v d p) :
    ∃ (K : Blk) (ka : Option Addr) (kn kc : Nat) (ba : Option Addr) (bn bc : Nat), v = .agg #[.int .i64 K.refs, .int .i64 K.level, .slice ka kn kc, .slice ba bn bc] ∧
      (-9223372036854775808 ≤ K.level ∧ K.level ≤ 9223372036854775807) ∧ (kn ≤ kc ∧ bn ≤ bc) ∧ NumsAt (fun _ => True) .i64 W ka kn K.kids ∧ NumsAt (fun _ => True) .u8 W ba bn K.bytes := by
  obtain ⟨cs, rfl, hsz⟩ := okWide_struct Tryz.underlying113 hv
  obtain ⟨fuel, hf⟩ := h
  have hf' : DataW.trod enc Tryz.prog W 0 (fun _ => true) true fuel 113 cs.toList = some (d, p) := by simpa [Value.cells] using hf
  obtain ⟨rr, lv, ka, kn, kc, ba, bn, bc, ks, bs, hcs, _, b2, b3, b4, b5⟩ := blk_open hf'
  refine ⟨⟨rr, lv, ks, bs⟩, ka, kn, kc, ba, bn, bc, ?_, b2, b3, b4, b5⟩
  obtain ⟨l⟩ := cs
  simp at hcs
  subst hcs
  rfl
end

end Go.Proofs.YtmpedoklljhdbaaGreat
