/-
  What a store, a block, a list of numbers that came in are in memory. Nothing here is trusted.
-/
import Derived.Test.YtaagnojdpediladMem
import Derived.WalkKit
import Derived.ProofKit
import Derived.OpenShut
import Derived.Deep.Slices
import Derived.Lib.SmallJoins
set_option linter.unusedVariables false
namespace Go.Proofs.Ytaagnojdpedilad
open Go.ChangeShapes Go.WideShapes Go.RowKit Go.Deep

section
variable {H : Type} {enc : TypeId × Value → H} {W : World}

theorem addr_none {W : World} {a : Addr} {v : Value} (h : W.cell? a = some v) : a = ⟨a.block, a.off, none⟩ := by
  obtain ⟨b, off, spot⟩ := a
  have hspot : spot = none := World.cell?_spot h
  subst hspot
  rfl

theorem add_none (b off i : Nat) : (⟨b, off, none⟩ : Addr).add i = ⟨b, off + i, none⟩ := by unfold Addr.add; split <;> simp_all
theorem add_zero' (a : Addr) : a.add 0 = a := by unfold Addr.add; simp

theorem nums_open {t e : TypeId} {k : IntKind} {m : Nat} {v : Value} {y : DataW H × List MemPlace} (ht : Try.prog.underlying t = some (.slice e)) (he : Try.prog.underlying e = some (.int k)) (hc : Try.prog.cellsOf e = 1)
    (h : DataW.trod enc Try.prog W 0 (fun _ => true) true m t [v] = some y) : ∃ a len cap l, v = .slice a len cap ∧ len ≤ cap ∧ cap ≤ maxLen ∧ NumsAt (fun _ => True) k W a len l := by
  rcases open_ints ht he hc h with ⟨hcs, _⟩ | ⟨x, len, cap, zs, hcs, _, hl, hm, hz, _, hcell, hwz⟩
  · exact ⟨none, 0, 0, [], by simpa using hcs, Nat.le_refl _, Nat.zero_le _, numsAt_nil _ _ _ _⟩
  · simp only [if_true] at hz
    refine ⟨some x, len, cap, zs.take len, by simpa using hcs, hl, hm, by simp; omega, fun y hy => hwz y (List.mem_of_mem_take hy), fun hp => ?_⟩
    have h0 := hcell 0 (by omega)
    rw [add_zero'] at h0
    have hx := addr_none h0
    obtain ⟨b, off, spot⟩ := x
    simp only [Addr.mk.injEq, true_and] at hx
    subst hx
    refine ⟨b, off, rfl, cell_lt h0, trivial, fun i hi => ?_⟩
    have := hcell i (by omega)
    rw [add_none] at this
    rw [this]
    simp [List.getD, hi]

set_option maxRecDepth 100000 in
theorem blk_open {m : Nat} {cs : List Value} {y : DataW H × List MemPlace} (h : DataW.trod enc Try.prog W 0 (fun _ => true) true m 41 cs = some y) :
    ∃ (r lv : Int) (ka : Option Addr) (kn kc : Nat) (ba : Option Addr) (bn bc : Nat) (ks bs : List Int), cs = [.int .i64 r, .int .i64 lv, .slice ka kn kc, .slice ba bn bc] ∧
      (-9223372036854775808 ≤ r ∧ r ≤ 9223372036854775807) ∧ (-9223372036854775808 ≤ lv ∧ lv ≤ 9223372036854775807) ∧ (kn ≤ kc ∧ bn ≤ bc) ∧ NumsAt (fun _ => True) .i64 W ka kn ks ∧ NumsAt (fun _ => True) .u8 W ba bn bs := by
  obtain ⟨y0, y1, y2, y3, n, _, hl, h0, h1, h2, h3⟩ := Go.Joins.trod_struct4 Try.underlying41 h
  have hl4 : cs.length = 4 := hl.trans (by kernel_rfl)
  match cs, hl4 with
  | [c0, c1, c2, c3], _ =>
    have e1 : Try.prog.cellsOf 3 = 1 := by kernel_rfl
    have e2 : Try.prog.cellsOf 35 = 1 := by kernel_rfl
    have e3 : Try.prog.cellsOf 28 = 1 := by kernel_rfl
    simp [e1, e2, e3] at h0 h1 h2 h3
    obtain ⟨r, hr, _, wr⟩ := DataW.trod_int Try.underlying3 h0
    obtain ⟨lv, hlv, _, wl⟩ := DataW.trod_int Try.underlying3 h1
    obtain ⟨ka, kn, kc, ks, rfl, hk, _, hK⟩ := nums_open Try.underlying35 Try.underlying3 (by kernel_rfl) h2
    obtain ⟨ba, bn, bc, bs, rfl, hb, _, hB⟩ := nums_open Try.underlying28 Try.underlying5 (by kernel_rfl) h3
    simp at hr hlv
    subst hr hlv
    have := bounds_i64 wr
    have := bounds_i64 wl
    exact ⟨r, lv, ka, kn, kc, ba, bn, bc, ks, bs, rfl, by omega, by omega, ⟨hk, hb⟩, hK, hB⟩

set_option maxRecDepth 100000 in
theorem store_open {r : Reach} {b0 : Nat} {v : Value} {d : DataW H} {p : List MemPlace} (hv : Value.okWide Try.prog W r b0 24 v) (h : DataW.Trod enc Try.prog W 0 (fun _ => true) true 24 v d p) :
    ∃ a n c B, v = .agg #[.slice a n c] ∧ StoreAt W a n B := by
  obtain ⟨cs, rfl, hsz⟩ := okWide_struct Try.underlying24 hv
  have hsz1 : cs.size = 1 := hsz.trans (by kernel_rfl)
  obtain ⟨l⟩ := cs
  match l, hsz1 with
  | [c0], _ =>
    obtain ⟨fuel, hf⟩ := h
    obtain ⟨y0, n, _, _, h0⟩ := trod_struct1 Try.underlying24 hf
    have e1 : Try.prog.cellsOf 22 = 1 := by kernel_rfl
    have e4 : Try.prog.cellsOf 41 = 4 := by kernel_rfl
    simp [Value.cells, e1] at h0
    rcases open_slice Try.underlying22 h0 with ⟨hcs, _⟩ | ⟨a, len, cap, m, n', D, Pl, hcs, _, hl, hm, hmm, _, hx⟩
    · simp at hcs
      subst hcs
      exact ⟨none, 0, 0, fun _ => Blk.zero, rfl, fun hp => absurd hp (by omega)⟩
    · simp at hcs
      subst hcs
      simp only [if_true] at hmm
      subst hmm
      have hone : ∀ i, i < len → ∃ K : Blk, ∃ ka kn kc ba bn bc, W.cell? (a.add (i * 4)) = some (.int .i64 K.refs) ∧ W.cell? ((a.add (i * 4)).add 1) = some (.int .i64 K.level) ∧ W.cell? ((a.add (i * 4)).add 2) = some (.slice ka kn kc) ∧ W.cell? ((a.add (i * 4)).add 3) = some (.slice ba bn bc) ∧
          NumsAt (fun _ => True) .i64 W ka kn K.kids ∧ NumsAt (fun _ => True) .u8 W ba bn K.bytes ∧ (-9223372036854775808 ≤ K.refs ∧ K.refs ≤ 9223372036854775807) ∧ (-9223372036854775808 ≤ K.level ∧ K.level ≤ 9223372036854775807) ∧ (kn ≤ kc ∧ bn ≤ bc) := by
        intro i hi
        obtain ⟨cs', h1, h2⟩ := hx i (by omega)
        rw [e4] at h1
        obtain ⟨r, lv, ka, kn, kc, ba, bn, bc, ks, bs, rfl, b1, b2, b3, b4, b5⟩ := blk_open h2
        obtain ⟨_, _, hc⟩ := World.cells?_some h1
        have c0 := hc 0 (by omega)
        have c1 := hc 1 (by omega)
        have c2 := hc 2 (by omega)
        have c3 := hc 3 (by omega)
        have ez : (a.add (i * 4)).add 0 = a.add (i * 4) := add_zero' _
        rw [ez] at c0
        exact ⟨⟨r, lv, ks, bs⟩, ka, kn, kc, ba, bn, bc, c0, c1, c2, c3, b4, b5, b1, b2, b3⟩
      have : Inhabited Blk := ⟨Blk.zero⟩
      obtain ⟨B, hB⟩ := choose_lt hone
      refine ⟨some a, len, m, B, rfl, fun hp => ?_⟩
      obtain ⟨_, _, _, _, _, _, h0', _⟩ := hB 0 (by omega)
      rw [Nat.zero_mul, add_zero'] at h0'
      have hx0 := addr_none h0'
      obtain ⟨b, off, spot⟩ := a
      simp only [Addr.mk.injEq, true_and] at hx0
      subst hx0
      refine ⟨b, off, rfl, cell_lt h0', fun i hi => ?_⟩
      obtain ⟨ka, kn, kc, ba, bn, bc, c0, c1, c2, c3, k1, k2, k3, k4, k5⟩ := hB i hi
      rw [add_none] at c0 c1 c2 c3
      rw [add_none] at c1 c2 c3
      exact ⟨ka, kn, kc, ba, bn, bc, c0, c1, c2, c3, k1, k2, k3, k4, k5⟩
end

end Go.Proofs.Ytaagnojdpedilad
