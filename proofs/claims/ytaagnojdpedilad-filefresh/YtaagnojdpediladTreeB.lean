/-
  Contract of tree.Differ. Nothing here is trusted.
-/
import Derived.Test.YtaagnojdpediladTreeA
set_option linter.unusedVariables false
namespace Go.Proofs.Ytaagnojdpedilad
open Go.RowKit

/-- what Differ answers -/
def RetD (e : Ending) (w : World) (n : Nat) (B : Nat → Blk) (x y lv : Int) : Prop :=
  (∃ e' : Int, e = .returned (.tuple #[.slice none 0 0, .int .i64 e']) ∧ e' ≠ 0 ∧ ¬ (Checked n B x lv 0 ∧ Checked n B y lv 0)) ∨
  (∃ (l : Nat) (v : Option Addr) (ln lc : Nat), e = .returned (.tuple #[.slice v ln lc, .int .i64 0]) ∧ l ≤ 3 ∧ lv = l ∧ Right n B ∧ Root n B l x ∧ Root n B l y ∧ NumsAt (fun _ => True) .i64 w v ln (diffs B l x y 0))

theorem diffs_wf (B : Nat → Blk) (l : Nat) (x y : Int) (hl : l ≤ 3) : ∀ k ∈ diffs B l x y 0, (Lit.int .i64 k).wf = true := by
  intro k hk
  obtain ⟨j, hj, rfl⟩ := List.mem_map.1 hk
  have h1 := List.mem_range.1 (List.mem_filter.1 hj).1
  have h2 := pw_le hl
  exact WalkArith.wf_i64 (by omega)

theorem index2 (x y : Int) (j : Nat) (hj : j < 2) (w : World) : (Instr.index 50 (.agg #[.int .i64 x, .int .i64 y]) (.int .i64 (j : Int))).run Try.prog w = .ok (.int .i64 ([x, y].getD j 0)) w := by
  match j, hj with
  | 0, _ => simp [Instr.index, run_underlying Try.underlying50, asIntOf, go_sem]
  | 1, _ => simp [Instr.index, run_underlying Try.underlying50, asIntOf, go_sem]

theorem de_start {w w1 : World} {a : Option Addr} {n c : Nat} (b1 : Below w.heap.size w w1) (ks : CellsAt w1 w.heap.size #[.slice a n c] 24) :
    DE w ((w1.alloc (.cells #[.slice none 0 0] 35)).alloc (.cells #[.func (.func 18) #[] #[.pointer (some ⟨w.heap.size, 0, none⟩), .pointer (some ⟨w1.heap.size, 0, none⟩), .pointer (some ⟨w1.heap.size + 1, 0, none⟩)]] 53)) w.heap.size w1.heap.size (w1.heap.size + 1) (w1.heap.size + 2) a n c (fun _ => False) [] := by
  have b4 := below_alloc w1 (.cells #[.slice none 0 0] 35)
  have b5 := below_alloc (w1.alloc (.cells #[.slice none 0 0] 35)) (.cells #[.func (.func 18) #[] #[.pointer (some ⟨w.heap.size, 0, none⟩), .pointer (some ⟨w1.heap.size, 0, none⟩), .pointer (some ⟨w1.heap.size + 1, 0, none⟩)]] 53)
  have b45 := Below.tr b4 b5
  have hs := ks.lt
  have k5 := ks.below b45
  have kf := cellsAt_alloc2 w1 (.cells #[.slice none 0 0] 35) #[.func (.func 18) #[] #[.pointer (some ⟨w.heap.size, 0, none⟩), .pointer (some ⟨w1.heap.size, 0, none⟩), .pointer (some ⟨w1.heap.size + 1, 0, none⟩)]] 53
  have hlt := kf.lt
  refine ⟨Below.tr b1 b45, by simpa using k5.cell 0, k5.lt, by simp, kf.lt, ⟨_, (cellsAt_alloc w1 _ _).below b5, World.ownsRow_nil _ _ _ _, fun k hk => hk.elim⟩, ⟨by omega, by omega, by omega, by omega, by omega⟩, ⟨by omega, by omega⟩, fun k hk => hk.elim⟩

set_option maxHeartbeats 4000000 in
set_option maxRecDepth 100000 in
theorem treeDiffer_any (a : Option Addr) (n c : Nat) (B : Nat → Blk) (x y lv : Int) (w : World) (h : StoreAt w a n B) :
    Calls Try.prog 8 #[.agg #[.slice a n c], .int .i64 x, .int .i64 y, .int .i64 lv] w fun e w' => RetD e w' n B x y lv ∧ Below w.heap.size w w' := by
  have hmf : ∀ (fn : Fn) (first cap : Array Value) (w : World), (Instr.makeFunc fn first cap).run Try.prog w = .ok (.func fn first cap) w := fun _ _ _ _ => rfl
  have b0 := below_alloc w (.cells #[.slice a n c] 24)
  have ks := cellsAt_alloc w #[.slice a n c] 24
  have hP := ptr_boxed a n c B w 24 h
  replace hP := hid hP
  replace ks := hid ks
  replace h := hid h
  replace b0 := hid b0
  go_enter Try.func8, Try.ntmps8
  go_wp2_with fail
  generalize w.alloc (.cells #[.slice a n c] 24) = w0 at *
  go_loopw [18] (fun v wr => ∃ j : Nat, j ≤ 2 ∧ v = .int .i64 j ∧ Below w0.heap.size w0 wr ∧ (1 ≤ j → Checked n B x lv 0) ∧ (2 ≤ j → Checked n B y lv 0)) (fun v _ => 2 - (Go.RowKit.intOf v).toNat)
  case atStart => exact ⟨0, Nat.zero_le _, rfl, Below.refl _ _, fun h => absurd h (by omega), fun h => absurd h (by omega)⟩
  case round =>
    obtain ⟨j, hj2, rfl, bw, h1, h2⟩ := hrel
    replace h1 := hid h1
    replace h2 := hid h2
    by_cases hlt : j < 2
    · have hix := index2 x y j hlt
      have hcc : Hid (Checked n B ([x, y].getD j 0) lv 0 → (1 ≤ j + 1 → Checked n B x lv 0) ∧ (2 ≤ j + 1 → Checked n B y lv 0)) := hid (by
        intro hc
        match j, hlt with
        | 0, _ => exact ⟨fun _ => hc, fun h => absurd h (by omega)⟩
        | 1, _ => exact ⟨fun _ => h1.out (by omega), fun _ => hc⟩)
      have hcn : Hid (¬ Checked n B ([x, y].getD j 0) lv 0 → ¬ (Checked n B x lv 0 ∧ Checked n B y lv 0)) := hid (by
        intro hc hxy
        match j, hlt with
        | 0, _ => exact hc hxy.1
        | 1, _ => exact hc hxy.2)
      generalize [x, y].getD j 0 = r at *
      go_wp2_with fail
      refine (treeCheck_any ⟨w.heap.size, 0, none⟩ a n c B r lv 0 wr (hP.out.below bw)).mono ?_
      rintro e w1 ⟨⟨e1, rfl, he⟩, b1⟩
      replace bw := Below.tr bw b1
      by_cases h0 : e1 = 0
      · have h0' : (e1 == 0) = true := by simp [h0]
        have hcc' := hid (hcc.out (he.1 h0))
        clear he
        go_wp2_with fail
        go_roundw
        case rel => exact ⟨j + 1, by omega, by go_num, bw, hcc'.out.1, hcc'.out.2⟩
        case measure => simp [Go.RowKit.intOf]; omega
      · have h0' : (e1 == 0) = false := by simp [h0]
        have hno := hid (hcn.out (fun f => h0 (he.2 f)))
        clear he
        go_wp2_with fail
        go_ret2
        exact ⟨.inl ⟨e1, rfl, h0, hno.out⟩, Below.tr b0.out bw⟩
    · have hge : ¬ ((j : Int) < 2) := by omega
      obtain ⟨hR, l, hl, rfl, hrx, _, _⟩ := h1.out (by omega)
      obtain ⟨_, l', hl', e, hry, _, _⟩ := h2.out (by omega)
      obtain rfl : l = l' := by omega
      have hq := pw_le hl
      have ks1 := ks.out.below bw
      have b01 := Below.tr b0.out bw
      have hA := de_start b01 ks1
      have hwf := hid (diffs_wf B l x y hl)
      replace hR := hid hR
      replace hrx := hid hrx
      replace hry := hid hry
      replace hA := hid hA
      clear h1 h2 ks1 e
      go_wp2_with fail
      refine (diffWalk_any w a n c B w.heap.size wr.heap.size (wr.heap.size + 1) (wr.heap.size + 2) h.out hR.out l x y 0 [] (fun _ => False) _ hl hrx.out hry.out (by omega) (Nat.le_refl _) hA.out).mono ?_
      rintro e w6 ⟨rfl, hE, _⟩
      rw [List.nil_append] at hE
      obtain ⟨v, hv, hown, _⟩ := hE.places
      obtain ⟨va, vc, rfl, _, hN⟩ := numsAt_own hwf.out hown
      have m6 := hv.cell 0
      simp only [List.getElem?_toArray, List.getElem?_cons_zero] at m6
      replace hE := hid hE
      replace hN := hid (hN.weaken (R := fun _ => True) (fun _ _ _ => trivial))
      clear hA hv hown
      go_wp2_with fail
      go_ret2
      exact ⟨.inr ⟨l, _, _, _, rfl, hl, rfl, hR.out, hrx.out, hry.out, hN.out⟩, hE.out.bel⟩
end Go.Proofs.Ytaagnojdpedilad
