/-
  TreeB, TreeC, TreeD, Sto4, Few, FileA in one text. Nothing here is trusted.
-/
import Derived.Test.YtnmcgmpmcliinaaGreatPart11
import Derived.Test.YtnmcgmpmcliinaaGreatPart06
set_option linter.unusedVariables false
namespace Go.Proofs.YtnmcgmpmcliinaaGreat
open Go.RowKit

/-- what Differ answers -/
def RetD (e : Ending) (w : World) (n : Nat) (B : Nat → Blk) (x y lv : Int) : Prop :=
  (∃ e' : Int, e = .returned (.tuple #[.slice none 0 0, .int .i64 e']) ∧ e' ≠ 0 ∧ ¬ (Checked n B x lv 0 ∧ Checked n B y lv 0)) ∨
  (∃ (l : Nat) (v : Option Addr) (ln lc : Nat), e = .returned (.tuple #[.slice v ln lc, .int .i64 0]) ∧ l ≤ 3 ∧ lv = l ∧ Right n B ∧ Root n B l x ∧ Root n B l y ∧ NumsAt (fun _ => True) .i64 w v ln (diffs B l x y 0))

theorem diffs_wf (B : Nat → Blk) (l : Nat) (x y : Int) (hl : l ≤ 3) : ∀ k ∈ diffs B l x y 0, (Lit.int .i64 k).wf = true := by
  intro k hk
  obtain ⟨j, hj, rfl⟩ := List.mem_map.1 hk
  have h1 := List.mem_range.1 (List.mem_filter.1 hj).1
  have h2 := pw_le hl
  exact WalkArith.wf_i64 (by omega)

theorem index2 (x y : Int) (j : Nat) (hj : j < 2) (w : World) : (Instr.index 140 (.agg #[.int .i64 x, .int .i64 y]) (.int .i64 (j : Int))).run Tryz.prog w = .ok (.int .i64 ([x, y].getD j 0)) w := by
  match j, hj with
  | 0, _ => simp [Instr.index, run_underlying Tryz.underlying140, asIntOf, go_sem]
  | 1, _ => simp [Instr.index, run_underlying Tryz.underlying140, asIntOf, go_sem]

theorem de_start {w w1 : World} {a : Option Addr} {n c : Nat} (b1 : Below w.heap.size w w1) (ks : CellsAt w1 w.heap.size #[.slice a n c] 24) :
    DE w ((w1.alloc (.cells #[.slice none 0 0] 77)).alloc (.cells #[.func (.func 109) #[] #[.pointer (some ⟨w.heap.size, 0, none⟩), .pointer (some ⟨w1.heap.size, 0, none⟩), .pointer (some ⟨w1.heap.size + 1, 0, none⟩)]] 179)) w.heap.size w1.heap.size (w1.heap.size + 1) (w1.heap.size + 2) a n c (fun _ => False) [] := by
  have b4 := below_alloc w1 (.cells #[.slice none 0 0] 77)
  have b5 := below_alloc (w1.alloc (.cells #[.slice none 0 0] 77)) (.cells #[.func (.func 109) #[] #[.pointer (some ⟨w.heap.size, 0, none⟩), .pointer (some ⟨w1.heap.size, 0, none⟩), .pointer (some ⟨w1.heap.size + 1, 0, none⟩)]] 179)
  have b45 := Below.tr b4 b5
  have hs := ks.lt
  have k5 := ks.below b45
  have kf := cellsAt_alloc2 w1 (.cells #[.slice none 0 0] 77) #[.func (.func 109) #[] #[.pointer (some ⟨w.heap.size, 0, none⟩), .pointer (some ⟨w1.heap.size, 0, none⟩), .pointer (some ⟨w1.heap.size + 1, 0, none⟩)]] 179
  have hlt := kf.lt
  refine ⟨Below.tr b1 b45, by simpa using k5.cell 0, k5.lt, by simp, kf.lt, ⟨_, (cellsAt_alloc w1 _ _).below b5, World.ownsRow_nil _ _ _ _, fun k hk => hk.elim⟩, ⟨by omega, by omega, by omega, by omega, by omega⟩, ⟨by omega, by omega⟩, fun k hk => hk.elim⟩

set_option maxHeartbeats 4000000 in
set_option maxRecDepth 100000 in
theorem treeDiffer_any (a : Option Addr) (n c : Nat) (B : Nat → Blk) (x y lv : Int) (w : World) (h : StoreAt w a n B) :
    Calls Tryz.prog 74 #[.agg #[.slice a n c], .int .i64 x, .int .i64 y, .int .i64 lv] w fun e w' => RetD e w' n B x y lv ∧ Below w.heap.size w w' := by
  have hmf : ∀ (fn : Fn) (first cap : Array Value) (w : World), (Instr.makeFunc fn first cap).run Tryz.prog w = .ok (.func fn first cap) w := fun _ _ _ _ => rfl
  have b0 := below_alloc w (.cells #[.slice a n c] 24)
  have ks := cellsAt_alloc w #[.slice a n c] 24
  have hP := ptr_boxed a n c B w 24 h
  replace hP := hid hP
  replace ks := hid ks
  replace h := hid h
  replace b0 := hid b0
  go_enter Tryz.func74, Tryz.ntmps74
  go_wp2_with fail
  generalize w.alloc (.cells #[.slice a n c] 24) = w0 at *
  go_loopw [18] (fun v wr => ∃ j : Nat, j ≤ 2 ∧ v = .int .i64 j ∧ Below w0.heap.size w0 wr ∧ (1 ≤ j → Checked n B x lv 0) ∧ (2 ≤ j → Checked n B y lv 0)) (fun v _ => 2 - (Go.RowKit.intOf v).toNat)
  case atStart => exact ⟨0, Nat.zero_le _, rfl, Below.refl _ _, fun h => absurd h (by omega), fun h => absurd h (by omega)⟩
  case round =>
    obtain ⟨j, hj2, rfl, bw, h1, h2⟩ := hrel
    replace h1 := hid h1
    replace h2 := hid h2
    by_cases hlt : j < 2
    · have hix := index2 x y j hlt
      have hcc : Hid (Checked n B ([x, y].getD j 0) lv 0 → (1 ≤ j + 1 → Checked n B x lv 0) ∧ (2 ≤ j + 1 → Checked n B y lv 0)) := hid (by
        intro hc
        match j, hlt with
        | 0, _ => exact ⟨fun _ => hc, fun h => absurd h (by omega)⟩
        | 1, _ => exact ⟨fun _ => h1.out (by omega), fun _ => hc⟩)
      have hcn : Hid (¬ Checked n B ([x, y].getD j 0) lv 0 → ¬ (Checked n B x lv 0 ∧ Checked n B y lv 0)) := hid (by
        intro hc hxy
        match j, hlt with
        | 0, _ => exact hc hxy.1
        | 1, _ => exact hc hxy.2)
      generalize [x, y].getD j 0 = r at *
      go_wp2_with fail
      refine (treeCheck_any ⟨w.heap.size, 0, none⟩ a n c B r lv 0 wr (hP.out.below bw)).mono ?_
      rintro e w1 ⟨⟨e1, rfl, he⟩, b1⟩
      replace bw := Below.tr bw b1
      by_cases h0 : e1 = 0
      · have h0' : (e1 == 0) = true := by simp [h0]
        have hcc' := hid (hcc.out (he.1 h0))
        clear he
        go_wp2_with fail
        go_roundw
        case rel => exact ⟨j + 1, by omega, by go_num, bw, hcc'.out.1, hcc'.out.2⟩
        case measure => simp [Go.RowKit.intOf]; omega
      · have h0' : (e1 == 0) = false := by simp [h0]
        have hno := hid (hcn.out (fun f => h0 (he.2 f)))
        clear he
        go_wp2_with fail
        go_ret2
        exact ⟨.inl ⟨e1, rfl, h0, hno.out⟩, Below.tr b0.out bw⟩
    · have hge : ¬ ((j : Int) < 2) := by omega
      obtain ⟨hR, l, hl, rfl, hrx, _, _⟩ := h1.out (by omega)
      obtain ⟨_, l', hl', e, hry, _, _⟩ := h2.out (by omega)
      obtain rfl : l = l' := by omega
      have hq := pw_le hl
      have ks1 := ks.out.below bw
      have b01 := Below.tr b0.out bw
      have hA := de_start b01 ks1
      have hwf := hid (diffs_wf B l x y hl)
      replace hR := hid hR
      replace hrx := hid hrx
      replace hry := hid hry
      replace hA := hid hA
      clear h1 h2 ks1 e
      go_wp2_with fail
      refine (diffWalk_any w a n c B w.heap.size wr.heap.size (wr.heap.size + 1) (wr.heap.size + 2) h.out hR.out l x y 0 [] (fun _ => False) _ hl hrx.out hry.out (by omega) (Nat.le_refl _) hA.out).mono ?_
      rintro e w6 ⟨rfl, hE, _⟩
      rw [List.nil_append] at hE
      obtain ⟨v, hv, hown, _⟩ := hE.places
      obtain ⟨va, vc, rfl, _, hN⟩ := numsAt_own hwf.out hown
      have m6 := hv.cell 0
      simp only [List.getElem?_toArray, List.getElem?_cons_zero] at m6
      replace hE := hid hE
      replace hN := hid (hN.weaken (R := fun _ => True) (fun _ _ _ => trivial))
      clear hA hv hown
      go_wp2_with fail
      go_ret2
      exact ⟨.inr ⟨l, _, _, _, rfl, hl, rfl, hR.out, hrx.out, hry.out, hN.out⟩, hE.out.bel⟩
end Go.Proofs.YtnmcgmpmcliinaaGreat

namespace Go.Proofs.YtnmcgmpmcliinaaGreat
open Go.RowKit

theorem lowest_eq {n : Nat} {B : Nat → Blk} {i j : Nat} (h : Lowest n B i) (h0 : (B j).refs = 0) (hlt : ∀ k, k < j → (B k).refs ≠ 0) : i = j := by
  rcases Nat.lt_trichotomy i j with h' | h' | h'
  · exact absurd h.2.1 (hlt i h')
  · exact h'
  · exact absurd h0 (h.2.2 j h')

/-- the first leaf below nothing, at place 6 of level 2, has a root at address 3 -/
theorem puts_first {C : Nat → Blk} {a : Int} (h : Puts 9 [1, 2, 3, 4] 2 (fun _ => Blk.zero) 0 6 C a) : a = 3 := by
  obtain ⟨D, k, ⟨D1, k1, h0, h1⟩, h2⟩ := h
  simp only [kidsL_zero] at h0 h1 h2
  rcases h0 with ⟨h, _⟩ | ⟨_, j, hj, _, rfl, rfl⟩
  · exact absurd h (by simp)
  obtain rfl : j = 0 := lowest_eq hj rfl (fun k hk => absurd hk (by omega))
  have e1 : (kidsL (fun _ => Blk.zero) (([0, 0, 0, 0] : List Int).getD (6 / pw 1) 0)).set (6 % pw 1 / pw 0) (((0 : Nat) : Int) + 1) = [0, 0, 1, 0] := by decide
  rw [e1] at h1
  rcases h1 with ⟨h, _⟩ | ⟨_, j, hj1, _, rfl, rfl⟩
  · exact absurd h (by decide)
  obtain rfl : j = 1 := lowest_eq hj1 (by decide) (fun k hk => by
    obtain rfl : k = 0 := by omega
    decide)
  have e2 : ([0, 0, 0, 0] : List Int).set (6 / pw 1) (((1 : Nat) : Int) + 1) = [0, 2, 0, 0] := by decide
  rw [e2] at h2
  rcases h2 with ⟨h, _⟩ | ⟨_, j, hj2, _, rfl, rfl⟩
  · exact absurd h (by decide)
  obtain rfl : j = 2 := lowest_eq hj2 (by decide) (fun k hk => by
    match k, hk with
    | 0, _ => decide
    | 1, _ => decide)
  rfl

theorem diffs_one {C : Nat → Blk} {a : Int} (h : ∀ j, j < pw 2 → leafAt C 2 a j = if j = 6 then [1, 2, 3, 4] else []) : diffs C 2 a 0 0 = [6] := by
  have e : diffTo C 2 a 0 (pw 2) = (List.range (pw 2)).filter (fun j => decide (j = 6)) := by
    unfold diffTo
    apply List.filter_congr
    intro j hj
    have hj' := List.mem_range.1 hj
    rw [h j hj', leafAt_zero C 2 j hj']
    by_cases e : j = 6 <;> simp [e]
  unfold diffs
  rw [e]
  decide

theorem used_zero : ∀ n, usedTo (fun _ => Blk.zero) n = 0
  | 0 => rfl
  | n + 1 => by rw [usedTo_succ, used_zero n]; rfl

end Go.Proofs.YtnmcgmpmcliinaaGreat

namespace Go.Proofs.YtnmcgmpmcliinaaGreat
open Go.RowKit

theorem leavesL_getD (B : Nat → Blk) (l : Nat) (a : Int) (j : Nat) (hj : j < pw l) : (leavesL B l a).getD j [] = leafAt B l a j := by
  unfold leavesL
  simp [List.getD, hj]
theorem leavesL_ext {n : Nat} {B C : Nat → Blk} (h : Ext n B C) (hR : Right n B) (l : Nat) (a : Int) (ha : Root n B l a) : leavesL C l a = leavesL B l a := by
  unfold leavesL
  apply List.map_congr_left
  intro j hj
  exact h.leaf hR l a ha j (List.mem_range.1 hj)
/-- the store that Put made, the new root let go, is what was -/
theorem keeps_like {n : Nat} {B C : Nat → Blk} (hB : Right n B) (h : Ext n B C) : Like n C B := fun k hk => by
  by_cases e : (B k).refs = 0
  · exact .inr (.inl e)
  · obtain ⟨_, h1, h2, h3⟩ := h.keep k hk e
    exact .inr (.inr ⟨h1, h2, h3⟩)
theorem keeps_none {n : Nat} {B C : Nat → Blk} {l : Nat} {c : Int} (hB : Right n B) (h : Grew n B C l 0 c) : ∀ k, k < n → C k = B k := by
  refine same_of h.right hB (keeps_like hB h.ext) fun k hk => ?_
  rw [h.out k hk, if_neg (by omega)]
  omega
theorem keeps_back {n : Nat} {B C D : Nat → Blk} {l m : Nat} {c : Int} (hB : Right n B) (h : Grew n B C l ((m : Int) + 1) c) (hD : Right n D) (hF : Fell n C D [(m : Int) + 1]) : ∀ k, k < n → D k = B k := by
  refine same_of hD hB (fun k hk => ?_) fun k hk => ?_
  · rcases fell_like hF k hk with h' | h' | ⟨h1, h2, h3⟩
    · exact .inl h'
    · by_cases e : (B k).refs = 0
      · exact .inr (.inl e)
      · exact absurd h' (h.ext.keep k hk e).1
    · rcases keeps_like hB h.ext k hk with h' | h' | ⟨g1, g2, g3⟩
      · by_cases e : (B k).refs = 0
        · exact .inr (.inl e)
        · exact absurd h' (h.ext.keep k hk e).1
      · exact .inr (.inl h')
      · exact .inr (.inr ⟨h1.trans g1, h2.trans g2, h3.trans g3⟩)
  · rw [hF.outs k hk, h.out k hk]
    by_cases e : k = m
    · subst e
      rw [if_pos rfl, List.count_cons_self]
      simp
    · rw [if_neg (by omega), List.count_cons_of_ne (by omega)]
      simp
theorem outs_nonneg {n : Nat} {B : Nat → Blk} (hB : Right n B) (k : Nat) (hk : k < n) : 0 ≤ outs n B k := by
  have := hB.held k hk
  simp at this
  unfold outs
  omega

/-- what the laws of trees keep in memory -/
structure TE (W w : World) (a : Option Addr) (n c : Nat) : Prop where
  s : CellsAt w W.heap.size #[.slice a n c] 24
  bel : Below W.heap.size W w
theorem TE.below {W w w' : World} {a : Option Addr} {n c : Nat} (h : TE W w a n c) (b : Below w.heap.size w w') : TE W w' a n c := ⟨h.s.below b, h.bel.trans (b.mono h.bel.size)⟩
end Go.Proofs.YtnmcgmpmcliinaaGreat

namespace Go.Proofs.YtnmcgmpmcliinaaGreat

theorem heldL_rising (p : Nat → Bool) : ∀ i, Rising (heldL p i)
  | 0 => by simp [heldL, Rising]
  | i + 1 => by
    have h1 := heldL_rising p i
    unfold Rising at *
    unfold heldL
    rw [List.pairwise_append]
    refine ⟨h1, by split <;> simp, fun x hx y hy => ?_⟩
    obtain ⟨k, hk, _, rfl⟩ := (mem_heldL p x i).1 hx
    split at hy
    · simp only [List.mem_singleton] at hy
      omega
    · cases hy
theorem heldL_count (p : Nat → Bool) : ∀ i, (heldL p i).length = sumTo (fun k => if p k then 1 else 0) i
  | 0 => rfl
  | i + 1 => by
    have := heldL_count p i
    unfold heldL
    simp only [sumTo, List.length_append, this]
    split <;> simp

theorem all_reached {n : Nat} {B : Nat → Blk} (hR : Right n B) {l : List Int} (hl : ∀ k : Nat, k < n → 0 < outs n B k → ((k : Int) + 1) ∈ l) : ∀ i : Nat, i < n → (B i).refs ≠ 0 → Clo B l ((i : Int) + 1) := by
  have step : ∀ d : Nat, d ≤ 4 → ∀ i : Nat, i < n → (4 : Int) - d ≤ (B i).level → (B i).refs ≠ 0 → Clo B l ((i : Int) + 1) := by
    intro d
    induction d with
    | zero =>
      intro _ i hi hlv _
      have := (hR.one i hi).bounds
      omega
    | succ d ih =>
      intro hd i hi hlv hr
      by_cases ho : 0 < outs n B i
      · exact Clo.root (hl i hi ho) (by omega)
      · have hb := (hR.one i hi).bounds
        unfold outs at ho
        obtain ⟨j, hj, hc⟩ := sumTo_pos (f := fun j => (B j).kids.count ((i : Int) + 1)) (n := n) (show 0 < among n B ((i : Int) + 1) by omega)
        have hm := List.count_pos_iff.1 hc
        obtain ⟨_, h2, h3⟩ := kid_of hR hj hm
        have h4 := ih (by omega) j hj (by omega) h3
        exact h4.kid (by rw [show ((j : Int) + 1 - 1).toNat = j by omega]; exact hm) (by omega)
  intro i hi hr
  have := (hR.one i hi).bounds
  exact step 4 (Nat.le_refl _) i hi (by omega) hr

/-- a rising list of just what is there has as many as are used -/
theorem used_length {n : Nat} {B : Nat → Blk} (hR : Right n B) {L : List Int} (hL : Rising L) (hm : ∀ x, x ∈ L ↔ There n B x) : L.length = usedTo B n := by
  have e : L = heldL (fun k => decide (0 < (B k).refs)) n := rising_eq hL (heldL_rising _ _) (fun x => by
    rw [hm x, mem_heldL]
    constructor
    · rintro ⟨h1, h2, h3⟩
      have hb := (hR.one _ (ix h1 h2).1).bounds
      exact ⟨(x - 1).toNat, (ix h1 h2).1, decide_eq_true (show 0 < (B (x - 1).toNat).refs by omega), by omega⟩
    · rintro ⟨k, hk, hp, rfl⟩
      refine ⟨by omega, by omega, ?_⟩
      rw [show ((k : Int) + 1 - 1).toNat = k by omega]
      have h0 : 0 < (B k).refs := by simpa using hp
      omega)
  rw [e, heldL_count]
  unfold usedTo
  exact sumTo_congr fun k _ => by by_cases h : 0 < (B k).refs <;> simp [h]

/-- who starts from what was reached reaches just that -/
theorem clo_again {B : Nat → Blk} {l L : List Int} (hm : ∀ x, x ∈ L ↔ Clo B l x) (h0 : (0 : Int) ∉ L) (x : Int) : Clo B L x ↔ x ∈ L := by
  constructor
  · intro h
    exact (hm x).2 (h.mono fun r hr _ => (hm r).1 hr)
  · intro h
    exact Clo.root h (fun e => h0 (e ▸ h))
/-- from more roots no less is reached -/
theorem clo_more {B : Nat → Blk} {l m : List Int} {x : Int} (h : Clo B l x) : Clo B (l ++ m) x := h.mono fun r hr h0 => Clo.root (List.mem_append_left _ hr) h0
end Go.Proofs.YtnmcgmpmcliinaaGreat

namespace Go.Proofs.YtnmcgmpmcliinaaGreat

theorem sumTo_le {f g : Nat → Nat} : ∀ {n : Nat}, (∀ i, i < n → f i ≤ g i) → sumTo f n ≤ sumTo g n
  | 0, _ => Nat.le_refl _
  | n + 1, h => Nat.add_le_add (sumTo_le fun i hi => h i (by omega)) (h n (by omega))
theorem sumTo_add {f g : Nat → Nat} : ∀ {n : Nat}, sumTo (fun i => f i + g i) n = sumTo f n + sumTo g n
  | 0 => rfl
  | n + 1 => by
    have := sumTo_add (f := f) (g := g) (n := n)
    simp only [sumTo]
    omega
theorem sumTo_mul {f : Nat → Nat} (c : Nat) : ∀ {n : Nat}, sumTo (fun i => c * f i) n = c * sumTo f n
  | 0 => rfl
  | n + 1 => by
    have := sumTo_mul (f := f) c (n := n)
    simp only [sumTo]
    rw [this, Nat.mul_add]
theorem sumTo_nil : ∀ {n : Nat}, sumTo (fun _ => 0) n = 0
  | 0 => rfl
  | n + 1 => by
    have := sumTo_nil (n := n)
    simp only [sumTo]
    omega
theorem sumTo_swap {f : Nat → Nat → Nat} {n : Nat} : ∀ {m : Nat}, sumTo (fun k => sumTo (fun i => f i k) n) m = sumTo (fun i => sumTo (fun k => f i k) m) n
  | 0 => by
    simp only [sumTo]
    rw [sumTo_nil]
  | m + 1 => by
    have := sumTo_swap (f := f) (n := n) (m := m)
    simp only [sumTo]
    rw [this, sumTo_add]
theorem sumTo_at (x : Int) : ∀ {n : Nat}, sumTo (fun k => if (k : Int) + 1 = x then 1 else 0) n ≤ if 1 ≤ x ∧ x ≤ n then 1 else 0
  | 0 => by simp [sumTo]
  | n + 1 => by
    have := sumTo_at x (n := n)
    simp only [sumTo]
    split at this <;> split <;> split <;> omega
theorem count_sum (n : Nat) : ∀ (L : List Int), sumTo (fun k => L.count ((k : Int) + 1)) n ≤ L.length
  | [] => by
    simp only [List.count_nil, sumTo_nil]
    exact Nat.zero_le _
  | x :: L => by
    have h1 := count_sum n L
    have h2 := sumTo_at x (n := n)
    have e : sumTo (fun k => (x :: L).count ((k : Int) + 1)) n = sumTo (fun k => L.count ((k : Int) + 1) + if (k : Int) + 1 = x then 1 else 0) n := sumTo_congr fun k _ => by
      by_cases e : (k : Int) + 1 = x
      · subst e; rw [List.count_cons_self, if_pos rfl]
      · rw [List.count_cons_of_ne (fun h => e h.symm), if_neg e]; rfl
    rw [e, sumTo_add]
    simp only [List.length_cons]
    split at h2 <;> omega

/-- the block k is new, of that level -/
def isNew (B C : Nat → Blk) (lv : Int) (k : Nat) : Nat := if (B k).refs = 0 ∧ (C k).refs ≠ 0 ∧ (C k).level = lv then 1 else 0
/-- how many are new -/
def news (n : Nat) (B C : Nat → Blk) (lv : Int) : Nat := sumTo (isNew B C lv) n

theorem isNew_of {B C : Nat → Blk} {lv : Int} {k : Nat} (h1 : (B k).refs = 0) (h2 : (C k).refs ≠ 0) (h3 : (C k).level = lv) : isNew B C lv k = 1 := if_pos ⟨h1, h2, h3⟩
theorem isNew_le {B C : Nat → Blk} {lv : Int} {k : Nat} {m : Nat} (h : (B k).refs = 0 → (C k).refs ≠ 0 → (C k).level = lv → 1 ≤ m) : isNew B C lv k ≤ m := by
  unfold isNew
  split
  · next hh => exact h hh.1 hh.2.1 hh.2.2
  · exact Nat.zero_le _

theorem among_free {n : Nat} {B : Nat → Blk} (hB : Right n B) {k : Nat} (hk : k < n) (h0 : (B k).refs = 0) : among n B ((k : Int) + 1) = 0 := by
  have := outs_free hB hk h0
  unfold outs at this
  omega

theorem kids_free {n : Nat} {C : Nat → Blk} (hC : Right n C) {i : Nat} (hi : i < n) (h0 : (C i).refs = 0) : (C i).kids = [] := by
  rw [(hC.one i hi).zero h0]; rfl

theorem count_less {L : List Int} {x y : Int} (hx : x ∈ L) (hn : x ≠ y) (h4 : L.length ≤ 4) : L.count y ≤ 3 := by
  have h1 := List.count_le_length (a := y) (l := L)
  by_cases e : L.count y = L.length
  · exact absurd (List.count_eq_length.1 e x hx).symm hn
  · omega

theorem among_new {n : Nat} {B C : Nat → Blk} (hB : Right n B) (hC : Right n C) (hx : Ext n B C) {k : Nat} (hk : k < n) {m : Nat} (hm : ∀ i, i < n → (B i).refs = 0 → (C i).refs ≠ 0 → ((k : Int) + 1) ∈ (C i).kids → (C i).kids.count ((k : Int) + 1) ≤ m) :
    among n C ((k : Int) + 1) ≤ among n B ((k : Int) + 1) + m * news n B C ((C k).level + 1) := by
  unfold among news
  rw [← sumTo_mul, ← sumTo_add]
  refine sumTo_le fun i hi => ?_
  by_cases hb : (B i).refs = 0
  · by_cases hc : (C i).refs = 0
    · rw [kids_free hC hi hc]; simp
    · by_cases hin : ((k : Int) + 1) ∈ (C i).kids
      · rw [isNew_of hb hc (kid_of hC hi hin).2.1]
        have := hm i hi hb hc hin
        omega
      · rw [List.count_eq_zero.2 hin]; exact Nat.zero_le _
  · rw [(hx.keep i hi hb).2.2.1]
    exact Nat.le_add_right _ _

theorem news_top {n : Nat} {B C : Nat → Blk} (hC : Right n C) {lv : Int} (h : 3 < lv) : news n B C lv = 0 := by
  have e : sumTo (isNew B C lv) n = sumTo (fun _ => 0) n := sumTo_congr fun i hi => by
    unfold isNew
    rw [if_neg]
    intro ⟨_, _, h3⟩
    have := (hC.one i hi).bounds
    omega
  unfold news
  rw [e, sumTo_nil]

/-- what a turning leaves, as far as counts go -/
structure Held1 (n : Nat) (B C : Nat → Blk) (a : Int) : Prop where
  left : Right n B
  right : Right n C
  ext : Ext n B C
  root : Root n C 3 a
  out : ∀ k, k < n → outs n C k = outs n B k + if (k : Int) + 1 = a then 1 else 0

theorem count_four {n : Nat} {C : Nat → Blk} (hC : Right n C) {i : Nat} (hi : i < n) (x : Int) : (C i).kids.count x ≤ 4 := Nat.le_trans List.count_le_length (hC.one i hi).few

theorem Held1.level {n : Nat} {B C : Nat → Blk} {a : Int} (h : Held1 n B C a) {k : Nat} (e : (k : Int) + 1 = a) : (C k).level = 3 := by
  rcases h.root with hr | ⟨_, hl⟩
  · omega
  · rw [← e, show ((k : Int) + 1 - 1).toNat = k by omega] at hl; exact hl

theorem Held1.news3 {n : Nat} {B C : Nat → Blk} {a : Int} (h : Held1 n B C a) : news n B C 3 ≤ 1 := by
  have h2 := sumTo_at a (n := n)
  have h1 : news n B C 3 ≤ sumTo (fun k => if (k : Int) + 1 = a then 1 else 0) n := sumTo_le fun k hk => isNew_le fun hb hc hl => by
    have ha := among_new h.left h.right h.ext hk (m := 4) (fun i hi _ _ _ => count_four h.right hi _)
    rw [hl, news_top h.right (by omega), among_free h.left hk hb] at ha
    have ho := h.out k hk
    have hz := outs_free h.left hk hb
    have hbd := (h.right.one k hk).bounds
    unfold outs at ho
    unfold outs at hz
    by_cases e : (k : Int) + 1 = a
    · rw [if_pos e]; omega
    · rw [if_neg e] at ho; omega
  split at h2 <;> omega

theorem Held1.less {n : Nat} {B C : Nat → Blk} {a : Int} (h : Held1 n B C a) {lv : Int} (hl : lv < 3) : news n B C lv ≤ 4 * news n B C (lv + 1) := by
  have h1 : news n B C lv ≤ sumTo (fun k => sumTo (fun i => if (B i).refs = 0 ∧ (C i).refs ≠ 0 ∧ (C i).level = lv + 1 then (C i).kids.count ((k : Int) + 1) else 0) n) n := sumTo_le fun k hk => isNew_le fun hb hc he => by
    have ho := h.out k hk
    have hz := outs_free h.left hk hb
    have hbd := (h.right.one k hk).bounds
    have hne : ¬ (k : Int) + 1 = a := fun e => by have := h.level e; omega
    rw [if_neg hne] at ho
    unfold outs at ho
    unfold outs at hz
    have hpos : 1 ≤ among n C ((k : Int) + 1) := by omega
    refine Nat.le_trans hpos (sumTo_le fun i hi => ?_)
    by_cases hin : ((k : Int) + 1) ∈ (C i).kids
    · obtain ⟨_, h2, h3⟩ := kid_of h.right hi hin
      by_cases hbi : (B i).refs = 0
      · rw [if_pos ⟨hbi, h3, by omega⟩]; exact Nat.le_refl _
      · rw [(h.ext.keep i hi hbi).2.2.1] at hin
        exact absurd hb (kid_of h.left hi hin).1
    · show (C i).kids.count ((k : Int) + 1) ≤ _
      rw [List.count_eq_zero.2 hin]; exact Nat.zero_le _
  rw [sumTo_swap] at h1
  refine Nat.le_trans h1 ?_
  unfold news
  rw [← sumTo_mul]
  refine sumTo_le fun i hi => ?_
  unfold isNew
  by_cases hc : (B i).refs = 0 ∧ (C i).refs ≠ 0 ∧ (C i).level = lv + 1
  · simp only [if_pos hc]
    have := count_sum n (C i).kids
    have := (h.right.one i hi).few
    omega
  · simp only [if_neg hc]
    rw [sumTo_nil]
    exact Nat.zero_le _

theorem Held1.news_up {n : Nat} {B C : Nat → Blk} {a : Int} (h : Held1 n B C a) {lv : Int} (h0 : 0 ≤ lv) (hl : lv < 3) : news n B C (lv + 1) ≤ 16 := by
  have h3 := h.news3
  have h2 : news n B C 2 ≤ 4 * news n B C 3 := h.less (lv := 2) (by omega)
  have h1 : news n B C 1 ≤ 4 * news n B C 2 := h.less (lv := 1) (by omega)
  have hc : lv = 0 ∨ lv = 1 ∨ lv = 2 := by omega
  rcases hc with e | e | e <;> subst e
  · show news n B C 1 ≤ 16
    omega
  · show news n B C 2 ≤ 16
    omega
  · show news n B C 3 ≤ 16
    omega

/-- behind the turning of a file nothing is held more than 48 times more -/
theorem few48 {n : Nat} {B C : Nat → Blk} {a cc : Int} (h : Held1 n B C a) (hk : NewK n B C) (h64 : 64 ≤ cc) (hc : ∀ k, k < n → (B k).refs ≤ cc) : ∀ k, k < n → (C k).refs ≤ cc + 48 := by
  intro k hkn
  have hbd := (h.right.one k hkn).bounds
  have ho := h.out k hkn
  have hcb := hc k hkn
  by_cases hck : (C k).refs = 0
  · omega
  by_cases hb : (B k).refs = 0
  · have ha := among_new h.left h.right h.ext hkn (m := 4) (fun i hi _ _ _ => count_four h.right hi _)
    rw [among_free h.left hkn hb] at ha
    have hz := outs_free h.left hkn hb
    have hup : news n B C ((C k).level + 1) ≤ 16 := by
      by_cases e : (C k).level = 3
      · rw [e, news_top h.right (by omega)]; omega
      · exact h.news_up hbd.2.2.1 (by omega)
    rw [hz] at ho
    unfold outs at ho
    by_cases e : (k : Int) + 1 = a
    · rw [if_pos e] at ho
      have hl := h.level e
      rw [hl, news_top h.right (by omega)] at ha
      omega
    · rw [if_neg e] at ho; omega
  · have ha := among_new h.left h.right h.ext hkn (m := 3) (fun i hi hbi hci hin => by
      have hl := kid_of h.right hi hin
      obtain ⟨x, hx, hor⟩ := hk i hi hbi hci (by have := (h.right.one k hkn).bounds; omega)
      refine count_less hx (fun e => ?_) (h.right.one i hi).few
      subst e
      rcases hor with e | e
      · omega
      · rw [show ((k : Int) + 1 - 1).toNat = k by omega] at e; exact hb e)
    unfold outs at ho
    by_cases e : (k : Int) + 1 = a
    · rw [if_pos e] at ho
      have hl := h.level e
      rw [hl, news_top h.right (by omega)] at ha
      omega
    · rw [if_neg e] at ho
      have hup : news n B C ((C k).level + 1) ≤ 16 := by
        by_cases e : (C k).level = 3
        · rw [e, news_top h.right (by omega)]; omega
        · exact h.news_up hbd.2.2.1 (by omega)
      omega
end Go.Proofs.YtnmcgmpmcliinaaGreat

namespace Go.Proofs.YtnmcgmpmcliinaaGreat

/-- behind a Drop all that was there ahead of it all is there, if all who held it outside do still -/
theorem stay_all {n : Nat} {B D E : Nat → Blk} {T : List Int} (hB : Right n B) (hE : Right n E) (hx : Ext n B D) (hF : Fell n D E T) (ho : ∀ k, k < n → outs n B k ≤ outs n E k) : Ext n B E := by
  have hl : ∀ k : Nat, k < n → 0 < outs n B k → ((k : Int) + 1) ∈ ((List.range n).filter (fun k => decide (0 < outs n B k))).map (fun k : Nat => (k : Int) + 1) := fun k hk h =>
    List.mem_map.2 ⟨k, List.mem_filter.2 ⟨List.mem_range.2 hk, decide_eq_true h⟩, rfl⟩
  refine ⟨fun i hi h0 => ?_⟩
  have hc := all_reached hB hl i hi h0
  have key := hc (fun y => There n B y ∧ There n E y) (fun r hr h0' => by
    obtain ⟨k, hk, rfl⟩ := List.mem_map.1 hr
    have hkn := List.mem_range.1 (List.mem_filter.1 hk).1
    have hko := of_decide_eq_true (List.mem_filter.1 hk).2
    have hkE := ho k hkn
    have e : ((k : Int) + 1 - 1).toNat = k := by omega
    unfold outs at hko hkE
    refine ⟨⟨by omega, by omega, ?_⟩, ⟨by omega, by omega, ?_⟩⟩
    · rw [e]; omega
    · rw [e]; omega) (fun y ⟨hy, hyE⟩ k hk hk0 => by
    have hkB : There n B k := by
      rcases (hB.one _ (ix hy.1 hy.2.1).1).kids k hk with h | ⟨h, _⟩
      · exact absurd h hk0
      · exact h
    refine ⟨hkB, ?_⟩
    have h1 := (fell_content hF hyE).2.1
    have h2 := (hx.keep _ (ix hy.1 hy.2.1).1 hy.2.2).2.2.1
    rw [← h2, ← h1] at hk
    rcases (hE.one _ (ix hyE.1 hyE.2.1).1).kids k hk with h | ⟨h, _⟩
    · exact absurd h hk0
    · exact h)
  have hiE := key.2
  obtain ⟨c1, c2, c3⟩ := fell_content hF hiE
  have e : ((i : Int) + 1 - 1).toNat = i := by omega
  rw [e] at c1 c2 c3
  have hne := hiE.2.2
  rw [e] at hne
  obtain ⟨_, d1, d2, d3⟩ := hx.keep i hi h0
  exact ⟨hne, c1.trans d1, c2.trans d2, c3.trans d3⟩

theorem leaf_behind {n : Nat} {D E : Nat → Blk} {T : List Int} (hD : Right n D) (hE : Right n E) (hF : Fell n D E T) : ∀ (l : Nat) (a : Int), Root n D l a → (a = 0 ∨ There n E a) → Root n E l a ∧ ∀ i, i < pw l → leafAt E l a i = leafAt D l a i
  | l, a, hr, .inl h0 => by
    subst h0
    exact ⟨.inl rfl, fun i hi => by rw [leafAt_zero _ _ _ hi, leafAt_zero _ _ _ hi]⟩
  | 0, a, hr, .inr ht => by
    obtain ⟨c1, c2, c3⟩ := fell_content hF ht
    have h1 := ht.1
    refine ⟨?_, fun i _ => ?_⟩
    · rcases hr with h | ⟨_, h⟩
      · exact .inl h
      · exact .inr ⟨ht, c1.trans h⟩
    · simp only [leafAt, bytesL]
      rw [if_neg (by omega), if_neg (by omega), c3]
  | l + 1, a, hr, .inr ht => by
    obtain ⟨c1, c2, c3⟩ := fell_content hF ht
    have h1 := ht.1
    have hrE : Root n E (l + 1) a := by
      rcases hr with h | ⟨_, h⟩
      · exact .inl h
      · exact .inr ⟨ht, c1.trans h⟩
    have hk : kidsL E a = kidsL D a := by unfold kidsL; rw [if_neg (by omega), if_neg (by omega), c2]
    refine ⟨hrE, fun i hi => ?_⟩
    have hp := pw_pos l
    have hd : i / pw l < 4 := by simp only [pw] at hi; exact Nat.div_lt_of_lt_mul (by rw [Nat.mul_comm]; exact hi)
    simp only [leafAt]
    rw [hk]
    have hrk := hrE.kidAt hE hd
    rw [hk] at hrk
    exact (leaf_behind hD hE hF l _ (hr.kidAt hD hd) (hrk.imp id (·.1))).2 _ (Nat.mod_lt _ hp)

/-- C is B where the root a is held besides; nothing is held more often than c -/
structure Turned (n : Nat) (B C : Nat → Blk) (a : Int) (c : Int) : Prop where
  right : Right n C
  ext : Ext n B C
  root : Root n C 3 a
  out : ∀ k, k < n → outs n C k = outs n B k + if (k : Int) + 1 = a then 1 else 0
  few : ∀ k, k < n → (C k).refs ≤ c
  newk : NewK n B C

theorem newK_refl (n : Nat) (B : Nat → Blk) : NewK n B B := fun k _ h1 h2 _ => absurd h1 h2
theorem newK_trans {n : Nat} {B C D : Nat → Blk} (hx : Ext n B C) (hy : Ext n C D) (hD : Right n D) (h1 : NewK n B C) (h2 : NewK n C D) : NewK n B D := by
  intro k hk hb hd hl
  by_cases hc : (C k).refs = 0
  · obtain ⟨x, hxk, hor⟩ := h2 k hk hc hd hl
    refine ⟨x, hxk, hor.imp id fun hcx => ?_⟩
    rcases (hD.one k hk).kids x hxk with h0 | ⟨⟨g1, g2, _⟩, _⟩
    · subst h0
      exact Classical.byContradiction fun hne => by
        by_cases hn : (0 - 1 : Int).toNat < n
        · exact (hx.keep _ hn hne).1 hcx
        · exact absurd (show (0 - 1 : Int).toNat < n by simp; omega) hn
    · exact Classical.byContradiction fun hne => (hx.keep _ (by omega) hne).1 hcx
  · obtain ⟨_, g2, g3, _⟩ := hy.keep k hk hc
    rw [g3]
    exact h1 k hk hb hc (by rw [← g2]; exact hl)
theorem newK_fell {n : Nat} {B D E : Nat → Blk} {T : List Int} (hF : Fell n D E T) (h : NewK n B D) : NewK n B E := by
  intro k hk hb he hl
  have e0 : ((k : Int) + 1 - 1).toNat = k := by omega
  have hc := fell_content hF (x := (k : Int) + 1) ⟨by omega, by omega, by rw [e0]; exact he⟩
  rw [e0] at hc
  have hd : (D k).refs ≠ 0 := by
    rcases hF.same k hk with e | ⟨h1, h2, _⟩
    · exact absurd (by rw [e]; rfl) he
    · intro h0; omega
  rw [hc.2.1]
  exact h k hk hb hd (by rw [← hc.1]; exact hl)

theorem right_kept9 {n : Nat} {B : Nat → Blk} {i : Nat} (hR : Right n B) (hi : i < n) (h0 : (B i).refs ≠ 0) (hm : (B i).refs ≤ 999999) : Right n (keptB B ((i : Int) + 1)) := by
  have hth : ∀ x, There n B x → There n (keptB B ((i : Int) + 1)) x ∧ (keptB B ((i : Int) + 1) (x - 1).toNat).level = (B (x - 1).toNat).level := by
    intro x ⟨x1, x2, x3⟩
    by_cases e : (x - 1).toNat = i
    · have hb := (hR.one i hi).bounds
      rw [e, kept_same]
      refine ⟨⟨x1, x2, ?_⟩, rfl⟩
      rw [e, kept_same]
      show (B i).refs + 1 ≠ 0
      omega
    · rw [kept_other e]
      exact ⟨⟨x1, x2, by rw [kept_other e]; exact x3⟩, rfl⟩
  refine ⟨hR.small, fun k hk => ?_, fun k hk => ?_, by simp⟩
  · by_cases e : k = i
    · subst e
      rw [kept_same]
      have hb := (hR.one k hk).bounds
      exact (hR.one k hk).turn rfl rfl rfl (.inr ⟨h0, by show 1 ≤ (B k).refs + 1; omega, by show (B k).refs + 1 ≤ 1000000; omega⟩) fun x _ => hth x
    · rw [kept_other e]
      exact (hR.one k hk).turn rfl rfl rfl (.inl rfl) fun x _ => hth x
  · rw [among_kept]
    have h1 := hR.held k hk
    simp at h1 ⊢
    by_cases e : k = i
    · subst e; rw [kept_same]; show _ ≤ (B k).refs + 1; omega
    · rw [kept_other e]; exact h1

theorem turned_zero {n : Nat} {B : Nat → Blk} {c : Int} (hR : Right n B) (hc : ∀ k, k < n → (B k).refs ≤ c) : Turned n B B 0 c :=
  ⟨hR, Ext.refl _ _, .inl rfl, fun k _ => by rw [if_neg (by omega)]; omega, hc, newK_refl _ _⟩
theorem turned_kept {n : Nat} {B : Nat → Blk} {i : Nat} {c : Int} (hR : Right n B) (hr : Root n B 3 ((i : Int) + 1)) (hcm : c ≤ 999999) (hc : ∀ k, k < n → (B k).refs ≤ c) : Turned n B (keptB B ((i : Int) + 1)) ((i : Int) + 1) (c + 1) := by
  rcases hr with h | ⟨⟨h1, h2, h3⟩, hl⟩
  · omega
  have e : ((i : Int) + 1 - 1).toNat = i := by omega
  rw [e] at h3 hl
  have hi : i < n := by omega
  have hR' := right_kept9 hR hi h3 (by have := hc i hi; omega)
  have hx : Ext n B (keptB B ((i : Int) + 1)) := ⟨fun k hk h0 => by
    by_cases ek : k = i
    · subst ek
      have hb := (hR.one k hk).bounds
      rw [kept_same]
      exact ⟨by show (B k).refs + 1 ≠ 0; omega, rfl, rfl, rfl⟩
    · rw [kept_other ek]; exact ⟨h0, rfl, rfl, rfl⟩⟩
  refine ⟨hR', hx, ?_, fun k hk => ?_, fun k hk => ?_, fun k hk hb hc' _ => ?_⟩
  · exact (hx.root (a := (i : Int) + 1) (l := 3) (.inr ⟨⟨h1, h2, by rw [e]; exact h3⟩, by rw [e]; exact hl⟩)).1
  · rw [outs_kept]
    by_cases ek : k = i
    · subst ek; rw [if_pos rfl, if_pos rfl]
    · rw [if_neg ek, if_neg (by omega)]; omega
  · have := hc k hk
    by_cases ek : k = i
    · subst ek; rw [kept_same]; show (B k).refs + 1 ≤ _; omega
    · rw [kept_other ek]; omega
  · by_cases ek : k = i
    · subst ek; exact absurd hb h3
    · rw [kept_other ek] at hc'; exact absurd hb hc'

/-- one more Put, and what was made ahead of it is let go -/
theorem Turned.put {n : Nat} {B C D : Nat → Blk} {a a' c c' : Int} {i : Nat} {bs : List Int} (hB : Right n B) (h : Turned n B C a c) (hp : PutOk n C 3 a i bs c' D a') :
    Ext n B D ∧ Right n D ∧ Root n D 3 a' ∧ (∀ k, k < n → outs n D k = outs n B k + (if (k : Int) + 1 = a then 1 else 0) + (if (k : Int) + 1 = a' then 1 else 0)) ∧ NewK n B D ∧ (a ≠ 0 → a ≠ a') :=
  ⟨h.ext.trans hp.grew.ext, hp.grew.right, hp.grew.root, fun k hk => by rw [hp.grew.out k hk, h.out k hk], newK_trans h.ext hp.grew.ext hp.grew.right h.newk hp.newk, fun h0 e => by
    rcases h.root with hr | ⟨⟨_, _, hr⟩, _⟩
    · exact h0 hr
    · exact hr (by rw [e]; exact hp.grew.fresh (e ▸ h0))⟩
theorem Turned.put0 {n : Nat} {B C D : Nat → Blk} {a' c c' cc : Int} {i : Nat} {bs : List Int} (hB : Right n B) (h : Turned n B C 0 c) (h64 : 64 ≤ cc) (hc : ∀ k, k < n → (B k).refs ≤ cc) (hp : PutOk n C 3 0 i bs c' D a') : Turned n B D a' (cc + 48) := by
  obtain ⟨p1, p2, p3, p4, p5, _⟩ := h.put hB hp
  have ho : ∀ k, k < n → outs n D k = outs n B k + if (k : Int) + 1 = a' then 1 else 0 := fun k hk => by rw [p4 k hk, if_neg (by omega)]; omega
  exact ⟨p2, p1, p3, ho, few48 ⟨hB, p2, p1, p3, ho⟩ p5 h64 hc, p5⟩
theorem Turned.droppable {n : Nat} {B C D : Nat → Blk} {m : Nat} {a' c c' : Int} {i : Nat} {bs : List Int} (hB : Right n B) (h : Turned n B C ((m : Int) + 1) c) (hp : PutOk n C 3 ((m : Int) + 1) i bs c' D a') : Droppable n D ((m : Int) + 1) := by
  obtain ⟨p1, p2, p3, p4, p5, _⟩ := h.put hB hp
  rcases h.root with hr | ⟨⟨r1, r2, _⟩, _⟩
  · omega
  have hm : m < n := by omega
  refine droppable_of p2 hm ?_
  rw [p4 m hm, if_pos rfl]
  have := outs_nonneg hB m hm
  split <;> omega
theorem Turned.drop {n : Nat} {B C D E : Nat → Blk} {m : Nat} {a' c c' cc : Int} {i : Nat} {bs : List Int} (hB : Right n B) (h : Turned n B C ((m : Int) + 1) c) (h64 : 64 ≤ cc) (hc : ∀ k, k < n → (B k).refs ≤ cc) (hp : PutOk n C 3 ((m : Int) + 1) i bs c' D a') (hE : Right n E) (hF : Fell n D E [(m : Int) + 1]) :
    Turned n B E a' (cc + 48) ∧ (∀ j, j < pw 3 → leafAt E 3 a' j = leafAt D 3 a' j) ∧ usedTo E n ≤ usedTo D n := by
  obtain ⟨p1, p2, p3, p4, p5, p6⟩ := h.put hB hp
  have ho : ∀ k, k < n → outs n E k = outs n B k + if (k : Int) + 1 = a' then 1 else 0 := fun k hk => by
    rw [hF.outs k hk, p4 k hk]
    by_cases e : k = m
    · subst e; rw [List.count_cons_self, if_pos rfl]; simp; omega
    · rw [List.count_cons_of_ne (by omega), if_neg (by omega)]; simp
  have hx := stay_all hB hE p1 hF (fun k hk => by rw [ho k hk]; split <;> omega)
  have hle : ∀ k, k < n → (E k).refs ≤ (D k).refs := fun k hk => by
    rcases hF.same k hk with e | ⟨_, e, _⟩
    · have := (p2.one k hk).bounds
      rw [e]; show (0 : Int) ≤ _; omega
    · exact e
  have ht : a' = 0 ∨ There n E a' := by
    rcases p3 with h0 | ⟨⟨r1, r2, r3⟩, _⟩
    · exact .inl h0
    · obtain ⟨q, rfl⟩ : ∃ q : Nat, a' = (q : Int) + 1 := ⟨(a' - 1).toNat, by omega⟩
      have hq : q < n := by omega
      have hoq := ho q hq
      rw [if_pos rfl] at hoq
      have := outs_nonneg hB q hq
      refine .inr ⟨r1, r2, ?_⟩
      rw [show ((q : Int) + 1 - 1).toNat = q by omega]
      unfold outs at hoq this
      omega
  obtain ⟨q1, q2⟩ := leaf_behind p2 hE hF 3 a' p3 ht
  have hn := newK_fell hF p5
  exact ⟨⟨hE, hx, q1, ho, few48 ⟨hB, hE, hx, q1, ho⟩ hn h64 hc, hn⟩, q2, used_mono hle⟩

/-- let go, the root that was held besides never was -/
theorem Turned.none {n : Nat} {B C : Nat → Blk} {c : Int} (hB : Right n B) (h : Turned n B C 0 c) : ∀ k, k < n → C k = B k :=
  same_of h.right hB (keeps_like hB h.ext) fun k hk => by rw [h.out k hk, if_neg (by omega)]; omega
theorem Turned.back {n : Nat} {B C D : Nat → Blk} {m : Nat} {c : Int} (hB : Right n B) (h : Turned n B C ((m : Int) + 1) c) (hD : Right n D) (hF : Fell n C D [(m : Int) + 1]) : ∀ k, k < n → D k = B k := by
  refine same_of hD hB (fun k hk => ?_) fun k hk => ?_
  · rcases fell_like hF k hk with h' | h' | ⟨h1, h2, h3⟩
    · exact .inl h'
    · by_cases e : (B k).refs = 0
      · exact .inr (.inl e)
      · exact absurd h' (h.ext.keep k hk e).1
    · rcases keeps_like hB h.ext k hk with h' | h' | ⟨g1, g2, g3⟩
      · by_cases e : (B k).refs = 0
        · exact .inr (.inl e)
        · exact absurd h' (h.ext.keep k hk e).1
      · exact .inr (.inl h')
      · exact .inr (.inr ⟨h1.trans g1, h2.trans g2, h3.trans g3⟩)
  · rw [hF.outs k hk, h.out k hk]
    by_cases e : k = m
    · subst e
      rw [if_pos rfl, List.count_cons_self]
      simp
    · rw [if_neg (by omega), List.count_cons_of_ne (by omega)]
      simp
theorem Turned.droppable_end {n : Nat} {B C : Nat → Blk} {m : Nat} {c : Int} (hB : Right n B) (h : Turned n B C ((m : Int) + 1) c) : Droppable n C ((m : Int) + 1) := by
  rcases h.root with hr | ⟨⟨r1, r2, _⟩, _⟩
  · omega
  have hm : m < n := by omega
  refine droppable_of h.right hm ?_
  rw [h.out m hm, if_pos rfl]
  have := outs_nonneg hB m hm
  omega
theorem used_kept {n : Nat} {B : Nat → Blk} {i : Nat} (hR : Right n B) (h0 : (B i).refs ≠ 0) : usedTo (keptB B ((i : Int) + 1)) n ≤ usedTo B n := by
  have key : ∀ m, m ≤ n → usedTo (keptB B ((i : Int) + 1)) m ≤ usedTo B m := by
    intro m
    induction m with
    | zero => intro _; exact Nat.le_refl _
    | succ m ih =>
      intro hm
      have hb := (hR.one m (by omega)).bounds
      have h1 := ih (by omega)
      rw [usedTo_succ, usedTo_succ]
      by_cases e : m = i
      · subst e
        rw [if_pos (show 0 < (B m).refs by omega)]
        split <;> omega
      · rw [kept_other e]; omega
  exact key n (Nat.le_refl _)
/-- a root that is there has a leaf -/
theorem root_leaf {n : Nat} {B : Nat → Blk} (hR : Right n B) : ∀ (l : Nat) (a : Int), Root n B l a → a ≠ 0 → ∃ i, i < pw l ∧ leafAt B l a i ≠ []
  | 0, a, hr, h0 => ⟨0, by simp [pw], fun h => by
    have h1 := hr.leaf hR
    rw [if_neg h0] at h1
    simp only [leafAt] at h
    rw [h] at h1
    simp at h1⟩
  | l + 1, a, hr, h0 => by
    have h4 := hr.len hR
    have hk : ∃ x ∈ kidsL B a, x ≠ 0 := by
      rcases hr with h | ⟨⟨h1, h2, h3⟩, hl⟩
      · exact absurd h h0
      · unfold kidsL
        rw [if_neg h0]
        rcases hR.one _ (ix h1 h2).1 with ⟨h, _⟩ | ⟨_, ⟨h, _⟩ | ⟨_, _, _, _, h⟩⟩
        · exact absurd h h3
        · omega
        · exact h
    obtain ⟨x, hx, hx0⟩ := hk
    obtain ⟨j, hj, e⟩ := List.mem_iff_getElem.1 hx
    obtain ⟨i, hi, hne⟩ := root_leaf hR l x (hr.kid hR hx) hx0
    have hp := pw_pos l
    have e1 : (j * pw l + i) / pw l = j := by rw [Nat.add_comm, Nat.add_mul_div_right _ _ hp, Nat.div_eq_of_lt hi]; omega
    have e2 : (j * pw l + i) % pw l = i := by rw [Nat.add_comm, Nat.add_mul_mod_self_right, Nat.mod_eq_of_lt hi]
    refine ⟨j * pw l + i, ?_, ?_⟩
    · have : (j + 1) * pw l ≤ 4 * pw l := Nat.mul_le_mul_right _ (by omega)
      rw [Nat.add_mul] at this
      simp only [pw]
      omega
    · simp only [leafAt]
      rw [e1, e2]
      have e3 : (kidsL B a).getD j 0 = x := by simp [List.getD, hj, e]
      rw [e3]
      exact hne
theorem leafAt_04 {n : Nat} {B : Nat → Blk} (hR : Right n B) : ∀ (l : Nat) (a : Int), Root n B l a → ∀ i, i < pw l → leafAt B l a i = [] ∨ (leafAt B l a i).length = 4
  | 0, a, ha, i, _ => by
    have h := ha.leaf hR
    simp only [leafAt]
    by_cases e : a = 0
    · rw [if_pos e] at h; exact .inl (List.eq_nil_of_length_eq_zero h)
    · rw [if_neg e] at h; exact .inr h
  | l + 1, a, ha, i, hi => by
    have hp := pw_pos l
    have hd : i / pw l < 4 := by simp only [pw] at hi; exact Nat.div_lt_of_lt_mul (by rw [Nat.mul_comm]; exact hi)
    simp only [leafAt]
    exact leafAt_04 hR l _ (ha.kidAt hR hd) _ (Nat.mod_lt _ hp)
end Go.Proofs.YtnmcgmpmcliinaaGreat
