/-
  Contracts of tree.putLeaf, tree.putAbove. Nothing here is trusted.
-/
import Derived.Test.YtaagnojdpediladTree3
import Derived.Test.YtaagnojdpediladMakeF
set_option linter.unusedVariables false
namespace Go.Proofs.Ytaagnojdpedilad
open Go.RowKit

/-- what putLeaf and its like answer: P of the store that has come to be, and of the root; or an error, and then it is E -/
def RetP (e : Ending) (p : Addr) (g n : Nat) (P : (Nat → Blk) → Int → Prop) (E : Int → Prop) (w : World) : Prop :=
  (∃ e' : Int, e = .returned (.tuple #[.int .i64 0, .int .i64 e']) ∧ e' ≠ 0 ∧ E e') ∨
  (∃ (C : Nat → Blk) (a : Int), e = .returned (.tuple #[.int .i64 a, .int .i64 0]) ∧ P C a ∧ OwnPtr w p g n C)

theorem putLeaf_any (p : Addr) (g n : Nat) (B : Nat → Blk) (ba : Option Addr) (bn bc : Nat) (bs : List Int) (w : World) (h : OwnPtr w p g n B) (hb : NumsAt (fun b => b ≠ g) .u8 w ba bn bs) (hc : bn ≤ bc) :
    Calls Try.prog 58 #[.pointer (some p), .slice ba bn bc] w fun e w' => RetP e p g n (fun C a => Leafed n B bs C a) (fun e' => bs ≠ [] ∧ NotMade n B (leafB bs) e') w' ∧ Out g w w' ∧ FreshL w w' g n := by
  replace h := hid h
  by_cases h0 : bn = 0
  · subst h0
    have hnil : bs = [] := List.eq_nil_of_length_eq_zero hb.1
    replace hb := hid hb
    go_enter Try.func58, Try.ntmps58
    go_wp2_with fail
    go_ret2
    exact ⟨.inr ⟨B, 0, rfl, .inl ⟨hnil, rfl, rfl⟩, h.out⟩, Out.of_below (Below.refl _ _), FreshL.of_below (Below.refl _ _) h.out.own.lt⟩
  · have h0' : ((bn : Int) == 0) = false := by simp; omega
    have hnil : bs ≠ [] := fun e => h0 (by rw [← hb.1, e]; rfl)
    replace hb := hid hb
    go_enter Try.func58, Try.ntmps58
    go_wp2_with fail
    refine (makeF_any p g n B (leafB bs) none 0 0 ba bn bc (fun b => b ≠ g) w h.out (fun b h => h) (numsAt_nil _ _ _ _) hb.out (by simp [leafB]) ⟨Nat.le_refl _, hc⟩).mono ?_
    rintro e w1 ⟨hD, hO, hF⟩
    replace hO := hid hO
    replace hF := hid hF
    rcases hD with ⟨e', rfl, he, hn⟩ | ⟨i, hi, rfl, hy, hi0, hmin, hC⟩
    · replace hn := hid hn
      go_wp2_with fail
      go_ret2
      exact ⟨.inl ⟨e', rfl, he, hnil, hn.out⟩, hO.out, hF.out⟩
    · replace hy := hid hy
      replace hi0 := hid hi0
      replace hmin := hid hmin
      replace hC := hid hC
      go_wp2_with fail
      go_ret2
      exact ⟨.inr ⟨_, _, rfl, .inr ⟨hnil, i, ⟨hi, hi0.out, hmin.out⟩, hy.out, rfl, rfl⟩, hC.out⟩, hO.out, hF.out⟩

theorem eq4 (k0 k1 k2 k3 : Int) (w : World) : (Op.equalIn 10000 56 (.agg #[.int .i64 k0, .int .i64 k1, .int .i64 k2, .int .i64 k3]) (.agg #[.int .i64 0, .int .i64 0, .int .i64 0, .int .i64 0])).run Try.prog w = .ok (decide ([k0, k1, k2, k3] = [0, 0, 0, 0])) w := by
  have u3 := Try.underlying3
  have a3 := Try.isAgg3
  have z3 := Try.sizeOf3
  rw [show (10000 : Nat) = 9999 + 1 from rfl, Op.equalIn]
  simp only [Sem.run_bind, run_underlying Try.underlying56, Result.andThen_ok]
  simp only [Std.Legacy.Range.forIn_eq_forIn_range', Std.Legacy.Range.size, Nat.sub_zero, Nat.add_sub_cancel, Nat.div_one, List.range'_succ, List.range'_zero, List.forIn_cons, List.forIn_nil]
  go_simp
  by_cases h0 : k0 = 0 <;> by_cases h1 : k1 = 0 <;> by_cases h2 : k2 = 0 <;> by_cases h3 : k3 = 0 <;> simp [h0, h1, h2, h3]

set_option maxHeartbeats 2000000 in
set_option maxRecDepth 100000 in
theorem putAbove_any (p : Addr) (g n l : Nat) (B : Nat → Blk) (k0 k1 k2 k3 new : Int) (w : World) (h : OwnPtr w p g n B) (hl : l ≤ 3) (hn : n ≤ 400) (hwf : ∀ x ∈ [k0, k1, k2, k3], (Lit.int .i64 x).wf = true) (hnew : new = 0 ∨ (There n B new ∧ new ∈ [k0, k1, k2, k3])) :
    Calls Try.prog 59 #[.pointer (some p), .int .i64 l, .agg #[.int .i64 k0, .int .i64 k1, .int .i64 k2, .int .i64 k3], .int .i64 new] w fun e w' => RetP e p g n (fun C a => Above n B l [k0, k1, k2, k3] new C a) (fun e' => [k0, k1, k2, k3] ≠ [0, 0, 0, 0] ∧ NotMade n B (nodeB l [k0, k1, k2, k3]) e') w' ∧ Out g w w' ∧ FreshL w w' g n := by
  have hg0 : g < w.heap.size := h.own.lt
  have b0 := below_alloc w (.cells #[.int .i64 k0, .int .i64 k1, .int .i64 k2, .int .i64 k3] 56)
  have r1 := cellsAt_alloc w #[.int .i64 k0, .int .i64 k1, .int .i64 k2, .int .i64 k3] 56
  replace r1 := hid r1
  replace h := hid h
  by_cases hz : [k0, k1, k2, k3] = [0, 0, 0, 0]
  · obtain ⟨rfl, rfl, rfl, rfl⟩ : k0 = 0 ∧ k1 = 0 ∧ k2 = 0 ∧ k3 = 0 := by simp at hz; omega
    have heq : ∀ w, (Op.equalIn 10000 56 (.agg #[.int .i64 0, .int .i64 0, .int .i64 0, .int .i64 0]) (.agg #[.int .i64 0, .int .i64 0, .int .i64 0, .int .i64 0])).run Try.prog w = .ok true w := fun w => (eq4 0 0 0 0 w).trans rfl
    go_enter Try.func59, Try.ntmps59
    go_wp2_with fail
    go_ret2
    exact ⟨.inr ⟨B, 0, rfl, .inl ⟨rfl, rfl, rfl⟩, h.out.below b0⟩, Out.of_below b0, FreshL.of_below b0 hg0⟩
  · have heq : ∀ w, (Op.equalIn 10000 56 (.agg #[.int .i64 k0, .int .i64 k1, .int .i64 k2, .int .i64 k3]) (.agg #[.int .i64 0, .int .i64 0, .int .i64 0, .int .i64 0])).run Try.prog w = .ok false w := fun w => (eq4 k0 k1 k2 k3 w).trans (by rw [decide_eq_false hz])
    have hks : ∀ w', CellsAt w' w.heap.size #[.int .i64 k0, .int .i64 k1, .int .i64 k2, .int .i64 k3] 56 → NumsAt (fun b => b = w.heap.size) .i64 w' (some ⟨w.heap.size, 0, none⟩) 4 [k0, k1, k2, k3] := fun w' hc => ⟨rfl, hwf, fun _ => ⟨w.heap.size, 0, rfl, hc.lt, rfl, fun j hj => by
      rw [hc.cell]
      match j, hj with
      | 0, _ => rfl
      | 1, _ => rfl
      | 2, _ => rfl
      | 3, _ => rfl⟩⟩
    replace hks := hid hks
    replace hz := hid hz
    go_enter Try.func59, Try.ntmps59
    go_wp2_with fail
    generalize w.alloc (.cells #[.int .i64 k0, .int .i64 k1, .int .i64 k2, .int .i64 k3] 56) = w0 at *
    clear heq
    refine (makeF_any p g n B (nodeB l [k0, k1, k2, k3]) (some ⟨w.heap.size, 0, none⟩) 4 4 none 0 0 (fun b => b = w.heap.size) w0 (h.out.below b0) (fun b h => by omega) (hks.out _ r1.out) (numsAt_nil _ _ _ _) (by simp [nodeB]; omega) (by omega)).mono ?_
    rintro e w1 ⟨hD, hO, hF⟩
    replace hO := hid ((Out.of_below (g := g) b0).trans hO)
    replace hF := hid ((FreshL.of_below b0 hg0).trans hF b0.size)
    rcases hD with ⟨e', rfl, he, hno⟩ | ⟨i, hi, rfl, hy, hi0, hmin, hC⟩
    · have he' : (e' == 0) = false := by simp [he]
      replace hno := hid hno
      go_wp2_with fail
      go_ret2
      exact ⟨.inl ⟨e', rfl, he, hz.out, hno.out⟩, hO.out, hF.out⟩
    · replace hy := hid hy
      replace hi0 := hid hi0
      replace hmin := hid hmin
      by_cases hn0 : new = 0
      · subst hn0
        replace hC := hid hC
        go_wp2_with fail
        go_ret2
        exact ⟨.inr ⟨_, _, rfl, .inr ⟨hz.out, i, ⟨hi, hi0.out, hmin.out⟩, hy.out, rfl, rfl⟩, hC.out⟩, hO.out, hF.out⟩
      · have hn0' : (new == 0) = false := by simp [hn0]
        have hth : There n B new ∧ new ∈ [k0, k1, k2, k3] := hnew.resolve_left hn0
        obtain ⟨m, rfl⟩ : ∃ m : Nat, new = (m : Int) + 1 := ⟨(new - 1).toNat, by have := hth.1.1; omega⟩
        have hm : m < n := by have := hth.1.2.1; omega
        obtain ⟨xa, xn, xc, ya, yn, yc, hx⟩ := hC.own.cell hm
        have c0 := hx.c0
        have f0 := hC.own.free (m * 4) (by omega)
        have sp := hC.cell
        have hbd := hx.refs
        have hlo : -9223372036854775807 ≤ (made B (nodeB l [k0, k1, k2, k3]) i m).refs := by
          have hbm := (hy.out.1.one m hm).bounds
          by_cases e : m = i
          · rw [e, made_same]; show (-9223372036854775807 : Int) ≤ 1; omega
          · rw [made_other _ _ e]; show (-9223372036854775807 : Int) ≤ (B m).refs + _; omega
        have em : ((m : Int) + 1 - 1).toNat = m := by omega
        have hP' := hid (hC.kept (Kept.setCell (g := g) (Kept.refl _ w1) (p := ⟨g, m * 4, none⟩) rfl _) (hC.own.refs hm ((made B (nodeB l [k0, k1, k2, k3]) i m).refs - 1) (by omega)))
        have hO' := hid (hO.out.trans (Out.of_kept (Kept.setCell (g := g) (Kept.refl _ w1) (p := ⟨g, m * 4, none⟩) rfl (.int .i64 ((made B (nodeB l [k0, k1, k2, k3]) i m).refs - 1)))))
        have hle : Hid (upd (made B (nodeB l [k0, k1, k2, k3]) i) m { made B (nodeB l [k0, k1, k2, k3]) i m with refs := (made B (nodeB l [k0, k1, k2, k3]) i m).refs - 1 } = lessOne (made B (nodeB l [k0, k1, k2, k3]) i) ((m : Int) + 1)) := hid (by unfold lessOne; rw [if_neg (by omega), em])
        rw [hle.out] at hP'
        clear hx hC hth hle
        generalize (made B (nodeB l [k0, k1, k2, k3]) i m).refs = rf at *
        go_wp2_with fail
        refine (at_own p g n n m _ hn sp hm).mono ?_
        rintro e w6 ⟨rfl, rfl⟩
        go_wp2_with fail
        go_ret2
        exact ⟨.inr ⟨_, _, rfl, .inr ⟨hz.out, i, ⟨hi, hi0.out, hmin.out⟩, hy.out, rfl, rfl⟩, hP'.out⟩, hO'.out, hF.out.set m _⟩
end Go.Proofs.Ytaagnojdpedilad
