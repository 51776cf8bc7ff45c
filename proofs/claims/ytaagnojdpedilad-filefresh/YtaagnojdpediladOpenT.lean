/-
  What a store and a block that came in are in memory, more. Nothing here is trusted.
-/
import Derived.Test.YtaagnojdpediladOpenS
set_option linter.unusedVariables false
namespace Go.Proofs.Ytaagnojdpedilad
open Go.ChangeShapes Go.WideShapes Go.RowKit Go.Deep

section
variable {H : Type} {enc : TypeId × Value → H} {W : World}

set_option maxRecDepth 100000 in
theorem store_open_max {r : Reach} {b0 : Nat} {v : Value} {d : DataW H} {p : List MemPlace} (hv : Value.okWide Try.prog W r b0 24 v) (h : DataW.Trod enc Try.prog W 0 (fun _ => true) true 24 v d p) :
    ∃ a n c B, n ≤ 9223372036854775807 ∧ v = .agg #[.slice a n c] ∧ StoreAt W a n B := by
  obtain ⟨cs, rfl, hsz⟩ := okWide_struct Try.underlying24 hv
  have hsz1 : cs.size = 1 := hsz.trans (by kernel_rfl)
  obtain ⟨l⟩ := cs
  match l, hsz1 with
  | [c0], _ =>
    obtain ⟨fuel, hf⟩ := h
    obtain ⟨y0, n, _, _, h0⟩ := trod_struct1 Try.underlying24 hf
    have e1 : Try.prog.cellsOf 22 = 1 := by kernel_rfl
    have e4 : Try.prog.cellsOf 41 = 4 := by kernel_rfl
    simp [Value.cells, e1] at h0
    rcases open_slice Try.underlying22 h0 with ⟨hcs, _⟩ | ⟨a, len, cap, m, n', D, Pl, hcs, _, hl, hm, hmm, _, hx⟩
    · simp at hcs
      subst hcs
      exact ⟨none, 0, 0, fun _ => Blk.zero, by omega, rfl, fun hp => absurd hp (by omega)⟩
    · simp at hcs
      subst hcs
      simp only [if_true] at hmm
      subst hmm
      have hone : ∀ i, i < len → ∃ K : Blk, ∃ ka kn kc ba bn bc, W.cell? (a.add (i * 4)) = some (.int .i64 K.refs) ∧ W.cell? ((a.add (i * 4)).add 1) = some (.int .i64 K.level) ∧ W.cell? ((a.add (i * 4)).add 2) = some (.slice ka kn kc) ∧ W.cell? ((a.add (i * 4)).add 3) = some (.slice ba bn bc) ∧
          NumsAt (fun _ => True) .i64 W ka kn K.kids ∧ NumsAt (fun _ => True) .u8 W ba bn K.bytes ∧ (-9223372036854775808 ≤ K.refs ∧ K.refs ≤ 9223372036854775807) ∧ (-9223372036854775808 ≤ K.level ∧ K.level ≤ 9223372036854775807) ∧ (kn ≤ kc ∧ bn ≤ bc) := by
        intro i hi
        obtain ⟨cs', h1, h2⟩ := hx i (by omega)
        rw [e4] at h1
        obtain ⟨r, lv, ka, kn, kc, ba, bn, bc, ks, bs, rfl, b1, b2, b3, b4, b5⟩ := blk_open h2
        obtain ⟨_, _, hc⟩ := World.cells?_some h1
        have c0 := hc 0 (by omega)
        have c1 := hc 1 (by omega)
        have c2 := hc 2 (by omega)
        have c3 := hc 3 (by omega)
        have ez : (a.add (i * 4)).add 0 = a.add (i * 4) := add_zero' _
        rw [ez] at c0
        exact ⟨⟨r, lv, ks, bs⟩, ka, kn, kc, ba, bn, bc, c0, c1, c2, c3, b4, b5, b1, b2, b3⟩
      have : Inhabited Blk := ⟨Blk.zero⟩
      obtain ⟨B, hB⟩ := choose_lt hone
      refine ⟨some a, len, m, B, by unfold maxLen at hm; omega, rfl, fun hp => ?_⟩
      obtain ⟨_, _, _, _, _, _, h0', _⟩ := hB 0 (by omega)
      rw [Nat.zero_mul, add_zero'] at h0'
      have hx0 := addr_none h0'
      obtain ⟨b, off, spot⟩ := a
      simp only [Addr.mk.injEq, true_and] at hx0
      subst hx0
      refine ⟨b, off, rfl, cell_lt h0', fun i hi => ?_⟩
      obtain ⟨ka, kn, kc, ba, bn, bc, c0, c1, c2, c3, k1, k2, k3, k4, k5⟩ := hB i hi
      rw [add_none] at c0 c1 c2 c3
      rw [add_none] at c1 c2 c3
      exact ⟨ka, kn, kc, ba, bn, bc, c0, c1, c2, c3, k1, k2, k3, k4, k5⟩

set_option maxRecDepth 100000 in
theorem block_open {r : Reach} {b0 : Nat} {v : Value} {d : DataW H} {p : List MemPlace} (hv : Value.okWide Try.prog W r b0 41 v) (h : DataW.Trod enc Try.prog W 0 (fun _ => true) true 41 v d p) :
    ∃ (K : Blk) (ka : Option Addr) (kn kc : Nat) (ba : Option Addr) (bn bc : Nat), v = .agg #[.int .i64 K.refs, .int .i64 K.level, .slice ka kn kc, .slice ba bn bc] ∧
      (-9223372036854775808 ≤ K.level ∧ K.level ≤ 9223372036854775807) ∧ (kn ≤ kc ∧ bn ≤ bc) ∧ NumsAt (fun _ => True) .i64 W ka kn K.kids ∧ NumsAt (fun _ => True) .u8 W ba bn K.bytes := by
  obtain ⟨cs, rfl, hsz⟩ := okWide_struct Try.underlying41 hv
  obtain ⟨fuel, hf⟩ := h
  have hf' : DataW.trod enc Try.prog W 0 (fun _ => true) true fuel 41 cs.toList = some (d, p) := by simpa [Value.cells] using hf
  obtain ⟨rr, lv, ka, kn, kc, ba, bn, bc, ks, bs, hcs, _, b2, b3, b4, b5⟩ := blk_open hf'
  refine ⟨⟨rr, lv, ks, bs⟩, ka, kn, kc, ba, bn, bc, ?_, b2, b3, b4, b5⟩
  obtain ⟨l⟩ := cs
  simp at hcs
  subst hcs
  rfl
end

end Go.Proofs.Ytaagnojdpedilad
