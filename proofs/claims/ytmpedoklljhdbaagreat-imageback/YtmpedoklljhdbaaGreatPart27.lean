/-
  OpenX, OpenP, ImageBackWalk in one text. Nothing here is trusted.
-/
import Derived.Test.YtmpedoklljhdbaaGreatPart12
import Derived.Test.YtmpedoklljhdbaaGreatPart26
import Derived.Deep.Strs
import Derived.Test.YtmpedoklljhdbaaGreatPart16
import Derived.Lib.SliceRun
set_option linter.unusedVariables false
namespace Go.Proofs.YtmpedoklljhdbaaGreat
open Go.ChangeShapes Go.WideShapes Go.RowKit Go.Deep

section
variable {H : Type} {enc : TypeId × Value → H} {W : World}

theorem range_getD {α : Type} (f : Nat → α) (n i : Nat) (d : α) (h : i < n) : ((List.range n).map f).getD i d = f i := by
  simp [List.getD, h]

set_option maxRecDepth 100000 in
theorem ent_open {m : Nat} {cs : List Value} {y : DataW H × List MemPlace} (h : DataW.trod enc Tryz.prog W 0 (fun _ => true) true m 82 cs = some y) :
    ∃ x : Ent, cs = [.string x.name, .int .i64 x.root, .int .i64 x.size] ∧ x.ok := by
  obtain ⟨y0, y1, n, _, hl, h0, h1⟩ := trod_struct2 Tryz.underlying82 h
  have hl3 : cs.length = 3 := hl.trans (by kernel_rfl)
  match cs, hl3 with
  | [c0, c1, c2], _ =>
    have e0 : Tryz.prog.cellsOf 9 = 1 := by kernel_rfl
    have e1 : Tryz.prog.cellsOf 3 = 1 := by kernel_rfl
    have e2 : Tryz.prog.cellsOf 80 = 2 := by kernel_rfl
    simp [e0, e2] at h0 h1
    obtain ⟨s, hs, _, ws⟩ := DataW.trod_string Tryz.underlying9 h0
    obtain ⟨z0, z1, n', _, _, g0, g1⟩ := trod_struct2 Tryz.underlying80 h1
    simp [e1] at g0 g1
    obtain ⟨r, hr, _, wr⟩ := DataW.trod_int Tryz.underlying3 g0
    obtain ⟨z, hz, _, wz⟩ := DataW.trod_int Tryz.underlying3 g1
    simp at hs hr hz
    subst hs hr hz
    have b1 := bounds_i64 wr
    have b2 := bounds_i64 wz
    have b1' : -9223372036854775808 ≤ r ∧ r ≤ 9223372036854775807 := by omega
    have b2' : -9223372036854775808 ≤ z ∧ z ≤ 9223372036854775807 := by omega
    exact ⟨⟨s, r, z⟩, rfl, ws, b1', b2'⟩

set_option maxRecDepth 100000 in
theorem ents_open {m : Nat} {v : Value} {y : DataW H × List MemPlace} (h : DataW.trod enc Tryz.prog W 0 (fun _ => true) true m 44 [v] = some y) :
    ∃ a n c l, v = .slice a n c ∧ n ≤ c ∧ n ≤ maxLen ∧ EntsAt (fun _ => True) W a n l := by
  have e3 : Tryz.prog.cellsOf 82 = 3 := by kernel_rfl
  rcases open_slice Tryz.underlying44 h with ⟨hcs, _⟩ | ⟨a, len, cap, m, n', D, Pl, hcs, _, hl, hm, hmm, _, hx⟩
  · exact ⟨none, 0, 0, [], by simpa using hcs, Nat.le_refl _, Nat.zero_le _, entsAt_nil _ _ _⟩
  · simp at hcs
    subst hcs
    simp only [if_true] at hmm
    subst hmm
    have hone : ∀ i, i < len → ∃ x : Ent, W.cell? (a.add (i * 3)) = some (.string x.name) ∧ W.cell? ((a.add (i * 3)).add 1) = some (.int .i64 x.root) ∧ W.cell? ((a.add (i * 3)).add 2) = some (.int .i64 x.size) ∧ x.ok := by
      intro i hi
      obtain ⟨cs', h1, h2⟩ := hx i (by omega)
      rw [e3] at h1
      obtain ⟨x, rfl, hok⟩ := ent_open h2
      obtain ⟨_, _, hc⟩ := World.cells?_some h1
      have c0 := hc 0 (by omega)
      have c1 := hc 1 (by omega)
      have c2 := hc 2 (by omega)
      have ez : (a.add (i * 3)).add 0 = a.add (i * 3) := add_zero' _
      rw [ez] at c0
      exact ⟨x, c0, c1, c2, hok⟩
    obtain ⟨X, hX⟩ := choose_lt hone
    refine ⟨some a, len, m, (List.range len).map X, rfl, hl, by omega, by simp, fun x hx => ?_, fun hp => ?_⟩
    · obtain ⟨i, hi, rfl⟩ := List.mem_map.1 hx
      exact (hX i (List.mem_range.1 hi)).2.2.2
    · obtain ⟨h0', _⟩ := hX 0 (by omega)
      rw [Nat.zero_mul, add_zero'] at h0'
      have hx0 := addr_none h0'
      obtain ⟨b, off, spot⟩ := a
      simp only [Addr.mk.injEq, true_and] at hx0
      subst hx0
      refine ⟨b, off, rfl, cell_lt h0', trivial, fun i hi => ?_⟩
      obtain ⟨c0, c1, c2, _⟩ := hX i hi
      rw [add_none] at c0 c1 c2
      rw [add_none] at c1 c2
      rw [range_getD _ _ _ _ hi]
      exact ⟨c0, c1, c2⟩

set_option maxRecDepth 100000 in
theorem snap_open {m : Nat} {cs : List Value} {y : DataW H × List MemPlace} (h : DataW.trod enc Tryz.prog W 0 (fun _ => true) true m 85 cs = some y) :
    ∃ (x : SnapE) (fa : Option Addr) (fn fc : Nat), cs = [.string x.name, .slice fa fn fc] ∧ x.name.size ≤ maxLen ∧ fn ≤ fc ∧ EntsAt (fun _ => True) W fa fn x.files := by
  obtain ⟨y0, y1, n, _, hl, h0, h1⟩ := trod_struct2 Tryz.underlying85 h
  have hl2 : cs.length = 2 := hl.trans (by kernel_rfl)
  match cs, hl2 with
  | [c0, c1], _ =>
    have e0 : Tryz.prog.cellsOf 9 = 1 := by kernel_rfl
    have e1 : Tryz.prog.cellsOf 44 = 1 := by kernel_rfl
    simp [e0, e1] at h0 h1
    obtain ⟨s, hs, _, ws⟩ := DataW.trod_string Tryz.underlying9 h0
    obtain ⟨fa, fn, fc, l, rfl, hc, _, hE⟩ := ents_open h1
    simp at hs
    subst hs
    exact ⟨⟨s, l⟩, fa, fn, fc, rfl, ws, hc, hE⟩

set_option maxRecDepth 100000 in
theorem snaps_open {m : Nat} {v : Value} {y : DataW H × List MemPlace} (h : DataW.trod enc Tryz.prog W 0 (fun _ => true) true m 45 [v] = some y) :
    ∃ a n c l, v = .slice a n c ∧ n ≤ c ∧ n ≤ maxLen ∧ SnapsAt (fun _ => True) W a n l := by
  have e3 : Tryz.prog.cellsOf 85 = 2 := by kernel_rfl
  rcases open_slice Tryz.underlying45 h with ⟨hcs, _⟩ | ⟨a, len, cap, m, n', D, Pl, hcs, _, hl, hm, hmm, _, hx⟩
  · exact ⟨none, 0, 0, [], by simpa using hcs, Nat.le_refl _, Nat.zero_le _, snapsAt_nil _ _ _⟩
  · simp at hcs
    subst hcs
    simp only [if_true] at hmm
    subst hmm
    have hone : ∀ i, i < len → ∃ x : SnapE, ∃ fa fn fc, W.cell? (a.add (i * 2)) = some (.string x.name) ∧ W.cell? ((a.add (i * 2)).add 1) = some (.slice fa fn fc) ∧ x.name.size ≤ maxLen ∧ fn ≤ fc ∧ EntsAt (fun _ => True) W fa fn x.files := by
      intro i hi
      obtain ⟨cs', h1, h2⟩ := hx i (by omega)
      rw [e3] at h1
      obtain ⟨x, fa, fn, fc, rfl, hs, hcp, hE⟩ := snap_open h2
      obtain ⟨_, _, hc⟩ := World.cells?_some h1
      have c0 := hc 0 (by omega)
      have c1 := hc 1 (by omega)
      have ez : (a.add (i * 2)).add 0 = a.add (i * 2) := add_zero' _
      rw [ez] at c0
      exact ⟨x, fa, fn, fc, c0, c1, hs, hcp, hE⟩
    obtain ⟨X, hX⟩ := choose_lt hone
    refine ⟨some a, len, m, (List.range len).map X, rfl, hl, by omega, by simp, fun hp => ?_⟩
    obtain ⟨_, _, _, h0', _⟩ := hX 0 (by omega)
    rw [Nat.zero_mul, add_zero'] at h0'
    have hx0 := addr_none h0'
    obtain ⟨b, off, spot⟩ := a
    simp only [Addr.mk.injEq, true_and] at hx0
    subst hx0
    refine ⟨b, off, rfl, cell_lt h0', trivial, fun i hi => ?_⟩
    obtain ⟨fa, fn, fc, c0, c1, hs, hcp, hE⟩ := hX i hi
    rw [add_none] at c0 c1
    rw [add_none] at c1
    rw [range_getD _ _ _ _ hi]
    exact ⟨fa, fn, fc, c0, c1, hE, hs, hcp⟩

set_option maxRecDepth 100000 in
theorem set_open {r : Reach} {b0 : Nat} {v : Value} {d : DataW H} {p : List MemPlace} (hv : Value.okWide Tryz.prog W r b0 47 v) (h : DataW.Trod enc Tryz.prog W 0 (fun _ => true) true 47 v d p) :
    ∃ (V : SetV) (x : SetE), v = V.val ∧ SetAt (fun _ => True) W V x ∧ V.fn ≤ maxLen ∧ V.sn ≤ maxLen := by
  obtain ⟨cs, rfl, hsz⟩ := okWide_struct Tryz.underlying47 hv
  have hsz3 : cs.size = 3 := hsz.trans (by kernel_rfl)
  obtain ⟨l⟩ := cs
  match l, hsz3 with
  | [c0, c1, c2], _ =>
    obtain ⟨fuel, hf⟩ := h
    obtain ⟨y0, y1, y2, n, _, _, h0, h1, h2⟩ := trod_struct3 Tryz.underlying47 hf
    have e0 : Tryz.prog.cellsOf 9 = 1 := by kernel_rfl
    have e1 : Tryz.prog.cellsOf 44 = 1 := by kernel_rfl
    have e2 : Tryz.prog.cellsOf 45 = 1 := by kernel_rfl
    simp [Value.cells, e0, e1, e2] at h0 h1 h2
    obtain ⟨s, hs, _, ws⟩ := DataW.trod_string Tryz.underlying9 h0
    obtain ⟨fa, fn, fc, fl, rfl, hfc, hfm, hE⟩ := ents_open h1
    obtain ⟨sa, sn, sc, sl, rfl, hsc, hsm, hS⟩ := snaps_open h2
    simp at hs
    subst hs
    exact ⟨⟨s, fa, fn, fc, sa, sn, sc⟩, ⟨s, fl, sl⟩, rfl, ⟨rfl, ws, hE, hS, hfc, hsc⟩, hfm, hsm⟩

set_option maxRecDepth 100000 in
theorem ask_open {m : Nat} {cs : List Value} {y : DataW H × List MemPlace} (h : DataW.trod enc Tryz.prog W 0 (fun _ => true) true m 30 cs = some y) :
    ∃ (x : AskE) (ba : Option Addr) (bn bc : Nat), cs = [.int .i64 x.kind, .string x.set, .string x.file, .string x.to, .int .i64 x.pos, .int .i64 x.num, .slice ba bn bc] ∧ x.ok ∧ bn ≤ bc ∧ NumsAt (fun _ => True) .u8 W ba bn x.bytes := by
  obtain ⟨xs, n, _, rfl, hl, hlen, hf⟩ := DataW.trod_struct Tryz.underlying30 h
  have hl7 : cs.length = 7 := hl.trans (by kernel_rfl)
  match xs, hlen, cs, hl7 with
  | [y0, y1, y2, y3, y4, y5, y6], _, [c0, c1, c2, c3, c4, c5, c6], _ =>
    have e0 : Tryz.prog.cellsOf 9 = 1 := by kernel_rfl
    have e1 : Tryz.prog.cellsOf 3 = 1 := by kernel_rfl
    have e2 : Tryz.prog.cellsOf 28 = 1 := by kernel_rfl
    have h0 := hf 0 _ rfl
    have h1 := hf 1 _ rfl
    have h2 := hf 2 _ rfl
    have h3 := hf 3 _ rfl
    have h4 := hf 4 _ rfl
    have h5 := hf 5 _ rfl
    have h6 := hf 6 _ rfl
    simp [e0, e1, e2] at h0 h1 h2 h3 h4 h5 h6
    obtain ⟨k, hk, _, wk⟩ := DataW.trod_int Tryz.underlying3 h0
    obtain ⟨s1, hs1, _, ws1⟩ := DataW.trod_string Tryz.underlying9 h1
    obtain ⟨s2, hs2, _, ws2⟩ := DataW.trod_string Tryz.underlying9 h2
    obtain ⟨s3, hs3, _, ws3⟩ := DataW.trod_string Tryz.underlying9 h3
    obtain ⟨q, hq, _, wq⟩ := DataW.trod_int Tryz.underlying3 h4
    obtain ⟨u, hu, _, wu⟩ := DataW.trod_int Tryz.underlying3 h5
    obtain ⟨ba, bn, bc, bs, rfl, hb, _, hB⟩ := nums_open Tryz.underlying28 Tryz.underlying5 (by kernel_rfl) h6
    simp at hk hs1 hs2 hs3 hq hu
    subst hk hs1 hs2 hs3 hq hu
    have b1 := bounds_i64 wk
    have b2 := bounds_i64 wq
    have b3 := bounds_i64 wu
    have b1' : -9223372036854775808 ≤ k ∧ k ≤ 9223372036854775807 := by omega
    have b2' : -9223372036854775808 ≤ q ∧ q ≤ 9223372036854775807 := by omega
    have b3' : -9223372036854775808 ≤ u ∧ u ≤ 9223372036854775807 := by omega
    exact ⟨⟨k, s1, s2, s3, q, u, bs⟩, ba, bn, bc, rfl, ⟨⟨ws1, ws2, ws3⟩, b1', b2', b3'⟩, hb, hB⟩

set_option maxRecDepth 100000 in
theorem asks_open {r : Reach} {b0 : Nat} {v : Value} {d : DataW H} {p : List MemPlace} (hv : Value.okWide Tryz.prog W r b0 70 v) (h : DataW.Trod enc Tryz.prog W 0 (fun _ => true) true 70 v d p) :
    ∃ a n c l, v = .slice a n c ∧ n ≤ c ∧ n ≤ maxLen ∧ AsksAt W a n l := by
  obtain ⟨a, n, c, rfl⟩ := okWide_slice Tryz.underlying70 hv
  obtain ⟨fuel, hf⟩ := h
  have e3 : Tryz.prog.cellsOf 30 = 7 := by kernel_rfl
  simp [Value.cells] at hf
  rcases open_slice Tryz.underlying70 hf with ⟨hcs, _⟩ | ⟨a, len, cap, m, n', D, Pl, hcs, _, hl, hm, hmm, _, hx⟩
  · simp at hcs
    obtain ⟨rfl, rfl, rfl⟩ := hcs
    exact ⟨none, 0, 0, [], rfl, Nat.le_refl _, Nat.zero_le _, rfl, fun h => absurd h (by omega)⟩
  · simp at hcs
    obtain ⟨rfl, rfl, rfl⟩ := hcs
    simp only [if_true] at hmm
    subst hmm
    have hone : ∀ i, i < n → ∃ x : AskE, ∃ ba bn bc, (W.cell? (a.add (i * 7)) = some (.int .i64 x.kind) ∧ W.cell? ((a.add (i * 7)).add 1) = some (.string x.set) ∧ W.cell? ((a.add (i * 7)).add 2) = some (.string x.file) ∧ W.cell? ((a.add (i * 7)).add 3) = some (.string x.to) ∧
        W.cell? ((a.add (i * 7)).add 4) = some (.int .i64 x.pos) ∧ W.cell? ((a.add (i * 7)).add 5) = some (.int .i64 x.num) ∧ W.cell? ((a.add (i * 7)).add 6) = some (.slice ba bn bc)) ∧ x.ok ∧ bn ≤ bc ∧ NumsAt (fun _ => True) .u8 W ba bn x.bytes := by
      intro i hi
      obtain ⟨cs', h1, h2⟩ := hx i (by omega)
      rw [e3] at h1
      obtain ⟨x, ba, bn, bc, rfl, hok, hcp, hB⟩ := ask_open h2
      obtain ⟨_, _, hc⟩ := World.cells?_some h1
      have c0 := hc 0 (by omega)
      have c1 := hc 1 (by omega)
      have c2 := hc 2 (by omega)
      have c3 := hc 3 (by omega)
      have c4 := hc 4 (by omega)
      have c5 := hc 5 (by omega)
      have c6 := hc 6 (by omega)
      have ez : (a.add (i * 7)).add 0 = a.add (i * 7) := add_zero' _
      rw [ez] at c0
      exact ⟨x, ba, bn, bc, ⟨c0, c1, c2, c3, c4, c5, c6⟩, hok, hcp, hB⟩
    obtain ⟨X, hX⟩ := choose_lt hone
    refine ⟨some a, n, m, (List.range n).map X, rfl, hl, by omega, by simp, fun hp => ?_⟩
    obtain ⟨_, _, _, ⟨h0', _⟩, _⟩ := hX 0 (by omega)
    rw [Nat.zero_mul, add_zero'] at h0'
    have hx0 := addr_none h0'
    obtain ⟨b, off, spot⟩ := a
    simp only [Addr.mk.injEq, true_and] at hx0
    subst hx0
    refine ⟨b, off, rfl, cell_lt h0', fun i hi => ?_⟩
    obtain ⟨ba, bn, bc, ⟨c0, c1, c2, c3, c4, c5, c6⟩, hok, hcp, hB⟩ := hX i hi
    rw [add_none] at c0 c1 c2 c3 c4 c5 c6
    rw [add_none] at c1 c2 c3 c4 c5 c6
    rw [range_getD _ _ _ _ hi]
    exact ⟨ba, bn, bc, c0, c1, c2, c3, c4, c5, c6, hB, hok, hcp⟩
end

end Go.Proofs.YtmpedoklljhdbaaGreat

namespace Go.Proofs.YtmpedoklljhdbaaGreat
open Go.ChangeShapes Go.WideShapes Go.RowKit Go.Deep

section
variable {H : Type} {enc : TypeId × Value → H} {W : World}

set_option maxRecDepth 100000 in
theorem store_cells {m : Nat} {c0 : Value} {y : DataW H × List MemPlace} (hf : DataW.trod enc Tryz.prog W 0 (fun _ => true) true m 24 [c0] = some y) :
    ∃ a n c B, c0 = .slice a n c ∧ StoreAt W a n B := by
    obtain ⟨y0, n, _, _, h0⟩ := trod_struct1 Tryz.underlying24 hf
    have e1 : Tryz.prog.cellsOf 22 = 1 := by kernel_rfl
    have e4 : Tryz.prog.cellsOf 113 = 4 := by kernel_rfl
    simp [e1] at h0
    rcases open_slice Tryz.underlying22 h0 with ⟨hcs, _⟩ | ⟨a, len, cap, m, n', D, Pl, hcs, _, hl, hm, hmm, _, hx⟩
    · simp at hcs
      subst hcs
      exact ⟨none, 0, 0, fun _ => Blk.zero, rfl, fun hp => absurd hp (by omega)⟩
    · simp at hcs
      subst hcs
      simp only [if_true] at hmm
      subst hmm
      have hone : ∀ i, i < len → ∃ K : Blk, ∃ ka kn kc ba bn bc, W.cell? (a.add (i * 4)) = some (.int .i64 K.refs) ∧ W.cell? ((a.add (i * 4)).add 1) = some (.int .i64 K.level) ∧ W.cell? ((a.add (i * 4)).add 2) = some (.slice ka kn kc) ∧ W.cell? ((a.add (i * 4)).add 3) = some (.slice ba bn bc) ∧
          NumsAt (fun _ => True) .i64 W ka kn K.kids ∧ NumsAt (fun _ => True) .u8 W ba bn K.bytes ∧ (-9223372036854775808 ≤ K.refs ∧ K.refs ≤ 9223372036854775807) ∧ (-9223372036854775808 ≤ K.level ∧ K.level ≤ 9223372036854775807) ∧ (kn ≤ kc ∧ bn ≤ bc) := by
        intro i hi
        obtain ⟨cs', h1, h2⟩ := hx i (by omega)
        rw [e4] at h1
        obtain ⟨r, lv, ka, kn, kc, ba, bn, bc, ks, bs, rfl, b1, b2, b3, b4, b5⟩ := blk_open h2
        obtain ⟨_, _, hc⟩ := World.cells?_some h1
        have c0 := hc 0 (by omega)
        have c1 := hc 1 (by omega)
        have c2 := hc 2 (by omega)
        have c3 := hc 3 (by omega)
        have ez : (a.add (i * 4)).add 0 = a.add (i * 4) := add_zero' _
        rw [ez] at c0
        exact ⟨⟨r, lv, ks, bs⟩, ka, kn, kc, ba, bn, bc, c0, c1, c2, c3, b4, b5, b1, b2, b3⟩
      have : Inhabited Blk := ⟨Blk.zero⟩
      obtain ⟨B, hB⟩ := choose_lt hone
      refine ⟨some a, len, m, B, rfl, fun hp => ?_⟩
      obtain ⟨_, _, _, _, _, _, h0', _⟩ := hB 0 (by omega)
      rw [Nat.zero_mul, add_zero'] at h0'
      have hx0 := addr_none h0'
      obtain ⟨b, off, spot⟩ := a
      simp only [Addr.mk.injEq, true_and] at hx0
      subst hx0
      refine ⟨b, off, rfl, cell_lt h0', fun i hi => ?_⟩
      obtain ⟨ka, kn, kc, ba, bn, bc, c0, c1, c2, c3, k1, k2, k3, k4, k5⟩ := hB i hi
      rw [add_none] at c0 c1 c2 c3
      rw [add_none] at c1 c2 c3
      exact ⟨ka, kn, kc, ba, bn, bc, c0, c1, c2, c3, k1, k2, k3, k4, k5⟩

set_option maxRecDepth 100000 in
theorem set_cells {m : Nat} {cs : List Value} {y : DataW H × List MemPlace} (h : DataW.trod enc Tryz.prog W 0 (fun _ => true) true m 47 cs = some y) :
    ∃ (x : SetE) (V : SetV), cs = [.string V.name, .slice V.fa V.fn V.fc, .slice V.sa V.sn V.sc] ∧ SetAt (fun _ => True) W V x := by
  obtain ⟨y0, y1, y2, n, _, hl, h0, h1, h2⟩ := trod_struct3 Tryz.underlying47 h
  have hl3 : cs.length = 3 := hl.trans (by kernel_rfl)
  match cs, hl3 with
  | [c0, c1, c2], _ =>
    have e0 : Tryz.prog.cellsOf 9 = 1 := by kernel_rfl
    have e1 : Tryz.prog.cellsOf 44 = 1 := by kernel_rfl
    have e2 : Tryz.prog.cellsOf 45 = 1 := by kernel_rfl
    simp [e0, e1, e2] at h0 h1 h2
    obtain ⟨s, hs, _, ws⟩ := DataW.trod_string Tryz.underlying9 h0
    obtain ⟨fa, fn, fc, fl, rfl, hfc, hfm, hE⟩ := ents_open h1
    obtain ⟨sa, sn, sc, sl, rfl, hsc, hsm, hS⟩ := snaps_open h2
    simp at hs
    subst hs
    exact ⟨⟨s, fl, sl⟩, ⟨s, fa, fn, fc, sa, sn, sc⟩, rfl, ⟨rfl, ws, hE, hS, hfc, hsc⟩⟩

set_option maxRecDepth 100000 in
theorem sets_open {m : Nat} {v : Value} {y : DataW H × List MemPlace} (h : DataW.trod enc Tryz.prog W 0 (fun _ => true) true m 40 [v] = some y) :
    ∃ a n c l, v = .slice a n c ∧ n ≤ c ∧ SetsAt (fun _ => True) W a n l := by
  have e3 : Tryz.prog.cellsOf 47 = 3 := by kernel_rfl
  rcases open_slice Tryz.underlying40 h with ⟨hcs, _⟩ | ⟨a, len, cap, m, n', D, Pl, hcs, _, hl, hm, hmm, _, hx⟩
  · exact ⟨none, 0, 0, [], by simpa using hcs, Nat.le_refl _, setsAt_nil _ _ _⟩
  · simp at hcs
    subst hcs
    simp only [if_true] at hmm
    subst hmm
    have hone : ∀ i, i < len → ∃ x : SetE, ∃ V : SetV, W.cell? (a.add (i * 3)) = some (.string V.name) ∧ W.cell? ((a.add (i * 3)).add 1) = some (.slice V.fa V.fn V.fc) ∧ W.cell? ((a.add (i * 3)).add 2) = some (.slice V.sa V.sn V.sc) ∧ SetAt (fun _ => True) W V x := by
      intro i hi
      obtain ⟨cs', h1, h2⟩ := hx i (by omega)
      rw [e3] at h1
      obtain ⟨x, V, rfl, hX⟩ := set_cells h2
      obtain ⟨_, _, hc⟩ := World.cells?_some h1
      have c0 := hc 0 (by omega)
      have c1 := hc 1 (by omega)
      have c2 := hc 2 (by omega)
      have ez : (a.add (i * 3)).add 0 = a.add (i * 3) := add_zero' _
      rw [ez] at c0
      exact ⟨x, V, c0, c1, c2, hX⟩
    obtain ⟨X, hX⟩ := choose_lt hone
    refine ⟨some a, len, m, (List.range len).map X, rfl, hl, by simp, fun hp => ?_⟩
    obtain ⟨_, h0', _⟩ := hX 0 (by omega)
    rw [Nat.zero_mul, add_zero'] at h0'
    have hx0 := addr_none h0'
    obtain ⟨b, off, spot⟩ := a
    simp only [Addr.mk.injEq, true_and] at hx0
    subst hx0
    refine ⟨b, off, rfl, cell_lt h0', trivial, fun i hi => ?_⟩
    obtain ⟨V, c0, c1, c2, hS⟩ := hX i hi
    rw [add_none] at c0 c1 c2
    rw [add_none] at c1 c2
    rw [range_getD _ _ _ _ hi]
    exact ⟨V, c0, c1, c2, hS⟩

set_option maxRecDepth 100000 in
theorem ten_cells {m : Nat} {cs : List Value} {y : DataW H × List MemPlace} (h : DataW.trod enc Tryz.prog W 0 (fun _ => true) true m 42 cs = some y) :
    ∃ (t : TenE) (sa : Option Addr) (sn sc : Nat), cs = [.int .i64 t.key, .int .i64 t.quota, .slice sa sn sc] ∧ TenAt (fun _ => True) W t sa sn sc := by
  obtain ⟨y0, y1, y2, n, _, hl, h0, h1, h2⟩ := trod_struct3 Tryz.underlying42 h
  have hl3 : cs.length = 3 := hl.trans (by kernel_rfl)
  match cs, hl3 with
  | [c0, c1, c2], _ =>
    have e0 : Tryz.prog.cellsOf 3 = 1 := by kernel_rfl
    have e2 : Tryz.prog.cellsOf 40 = 1 := by kernel_rfl
    simp [e0, e2] at h0 h1 h2
    obtain ⟨k, hk, _, wk⟩ := DataW.trod_int Tryz.underlying3 h0
    obtain ⟨q, hq, _, wq⟩ := DataW.trod_int Tryz.underlying3 h1
    obtain ⟨sa, sn, sc, sl, rfl, hsc, hS⟩ := sets_open h2
    simp at hk hq
    subst hk hq
    have b1 := bounds_i64 wk
    have b2 := bounds_i64 wq
    exact ⟨⟨k, q, sl⟩, sa, sn, sc, rfl, ⟨hS, by simp only; omega, by simp only; omega, hsc⟩⟩

set_option maxRecDepth 100000 in
theorem tens_open {m : Nat} {v : Value} {y : DataW H × List MemPlace} (h : DataW.trod enc Tryz.prog W 0 (fun _ => true) true m 25 [v] = some y) :
    ∃ a n c l, v = .slice a n c ∧ n ≤ c ∧ TensAt (fun _ => True) W a n l := by
  have e3 : Tryz.prog.cellsOf 42 = 3 := by kernel_rfl
  rcases open_slice Tryz.underlying25 h with ⟨hcs, _⟩ | ⟨a, len, cap, m, n', D, Pl, hcs, _, hl, hm, hmm, _, hx⟩
  · exact ⟨none, 0, 0, [], by simpa using hcs, Nat.le_refl _, tensAt_nil _ _ _⟩
  · simp at hcs
    subst hcs
    simp only [if_true] at hmm
    subst hmm
    have hone : ∀ i, i < len → ∃ t : TenE, ∃ sa sn sc, W.cell? (a.add (i * 3)) = some (.int .i64 t.key) ∧ W.cell? ((a.add (i * 3)).add 1) = some (.int .i64 t.quota) ∧ W.cell? ((a.add (i * 3)).add 2) = some (.slice sa sn sc) ∧ TenAt (fun _ => True) W t sa sn sc := by
      intro i hi
      obtain ⟨cs', h1, h2⟩ := hx i (by omega)
      rw [e3] at h1
      obtain ⟨t, sa, sn, sc, rfl, hT⟩ := ten_cells h2
      obtain ⟨_, _, hc⟩ := World.cells?_some h1
      have c0 := hc 0 (by omega)
      have c1 := hc 1 (by omega)
      have c2 := hc 2 (by omega)
      have ez : (a.add (i * 3)).add 0 = a.add (i * 3) := add_zero' _
      rw [ez] at c0
      exact ⟨t, sa, sn, sc, c0, c1, c2, hT⟩
    obtain ⟨X, hX⟩ := choose_lt hone
    refine ⟨some a, len, m, (List.range len).map X, rfl, hl, by simp, fun hp => ?_⟩
    obtain ⟨_, _, _, h0', _⟩ := hX 0 (by omega)
    rw [Nat.zero_mul, add_zero'] at h0'
    have hx0 := addr_none h0'
    obtain ⟨b, off, spot⟩ := a
    simp only [Addr.mk.injEq, true_and] at hx0
    subst hx0
    refine ⟨b, off, rfl, cell_lt h0', trivial, fun i hi => ?_⟩
    obtain ⟨sa, sn, sc, c0, c1, c2, hT⟩ := hX i hi
    rw [add_none] at c0 c1 c2
    rw [add_none] at c1 c2
    rw [range_getD _ _ _ _ hi]
    exact ⟨sa, sn, sc, c0, c1, c2, hT⟩

set_option maxRecDepth 100000 in
theorem pool_open {r : Reach} {b0 : Nat} {v : Value} {d : DataW H} {p : List MemPlace} (hv : Value.okWide Tryz.prog W r b0 27 v) (h : DataW.Trod enc Tryz.prog W 0 (fun _ => true) true 27 v d p) :
    ∃ a n c B ta tn tc l, v = .agg #[.slice a n c, .slice ta tn tc] ∧ PoolAt (fun _ => True) W a n B ta tn l := by
  obtain ⟨cs, rfl, hsz⟩ := okWide_struct Tryz.underlying27 hv
  have hsz2 : cs.size = 2 := hsz.trans (by kernel_rfl)
  obtain ⟨l⟩ := cs
  match l, hsz2 with
  | [c0, c1], _ =>
    obtain ⟨fuel, hf⟩ := h
    obtain ⟨y0, y1, n, _, _, h0, h1⟩ := trod_struct2 Tryz.underlying27 hf
    have e0 : Tryz.prog.cellsOf 24 = 1 := by kernel_rfl
    have e1 : Tryz.prog.cellsOf 25 = 1 := by kernel_rfl
    simp [Value.cells, e0, e1] at h0 h1
    obtain ⟨a, n, c, B, rfl, hS⟩ := store_cells h0
    obtain ⟨ta, tn, tc, tl, rfl, _, hT⟩ := tens_open h1
    exact ⟨a, n, c, B, ta, tn, tc, tl, rfl, hS, hT⟩

set_option maxRecDepth 100000 in
/-- bytes, and what nil is -/
theorem bytes_nil_open {r : Reach} {b0 : Nat} {v : Value} {d : DataW H} {p : List MemPlace} (hv : Value.okWide Tryz.prog W r b0 28 v) (h : DataW.Trod enc Tryz.prog W 0 (fun _ => true) true 28 v d p) :
    ∃ a n c l, v = .slice a n c ∧ n ≤ c ∧ c ≤ maxLen ∧ (a = none → c = 0) ∧ NumsAt (fun _ => True) .u8 W a n l := by
  obtain ⟨a, n, c, rfl⟩ := okWide_slice Tryz.underlying28 hv
  obtain ⟨fuel, hf⟩ := h
  have hf' : DataW.trod enc Tryz.prog W 0 (fun _ => true) true fuel 28 [.slice a n c] = some (d, p) := by simpa [Value.cells] using hf
  obtain ⟨a', n', c', l, he, hc, hm, hN⟩ := nums_open (v := .slice a n c) Tryz.underlying28 Tryz.underlying5 (by kernel_rfl) hf'
  simp only [Value.slice.injEq] at he
  obtain ⟨rfl, rfl, rfl⟩ := he
  refine ⟨_, _, _, l, rfl, hc, hm, fun hn => ?_, hN⟩
  rcases open_ints Tryz.underlying28 Tryz.underlying5 (by kernel_rfl) hf' with ⟨hcs, _⟩ | ⟨x, len, cap, zs, hcs, _⟩
  · simp at hcs; exact hcs.2.2
  · simp at hcs; rw [hn] at hcs; cases hcs.1
end
end Go.Proofs.YtmpedoklljhdbaaGreat

namespace Go.Proofs.YtmpedoklljhdbaaGreat
open Go.RowKit

set_option maxHeartbeats 400000 in
theorem cloneBy_any (x : Addr) (n c : Nat) (l : List Int) (Q : Nat → Prop) (w : World) (hn : n ≤ 100000) (h : NumsAt Q .u8 w (some x) n l) :
    Calls Tryz.prog 18 #[.slice (some x) n c] w fun e w' =>
      Below w.heap.size w w' ∧ ∃ v, e = .returned v ∧ w'.ownsRow w.heap.size 5 1 v n (l.map (Value.int .u8)) := by
  obtain ⟨i0, hi, hz0, hz1, hz2⟩ := info_parts Tryz.infoByte
  have qn : ∀ (w : World) (a : Option Addr) (n c n' c' : Nat), (binOp .eql 28 (.slice a n c) (.slice none n' c')).run Tryz.prog w = .ok (.bool a.isNone) w := fun w a n c n' c' => Lib.run_eql_slice_nil w _ _ a n c n' c' Tryz.underlying28
  have hl := h.1
  have hcn : ∀ j u, (l.map (Value.int .u8))[j]? = some u → (w.alloc (.cells #[] 5)).cell? (x.add j) = some u := by
    intro j u hj
    have hjl : j < l.length := by
      rcases Nat.lt_or_ge j l.length with h | h
      · exact h
      · simp [List.getElem?_eq_none h] at hj
    obtain ⟨b, off, he, hb, _, hc⟩ := h.2.2 (by omega)
    obtain rfl : x = ⟨b, off, none⟩ := by simpa using he
    have ea : (⟨b, off, none⟩ : Addr).add j = ⟨b, off + j, none⟩ := by unfold Addr.add; split <;> simp_all
    rw [ea, World.cell?_alloc_past _ _ _ hb, hc j (by omega)]
    simp [hjl] at hj
    simp [List.getD, hjl, hj]
  have A := hid hcn
  replace hl := hid hl
  clear hcn h
  go_enter Tryz.func18, Tryz.ntmps18
  go_wp2_with (at_builtin; refine wpList_append_own _ rfl _ _ 28 rfl w.heap.size 5 i0 (.int .u8 0) 1 1 Tryz.underlying28 hi hz0 hz1 hz2 rfl (by decide) _ _ _ rfl (World.ownsRow_made w #[] 0 (Nat.le_refl _) (Nat.zero_le _) (by simp)) x n c (l.map (Value.int .u8)) rfl ?qc1 ?qc2 ?qc3 ?qc4 ?qc5 ?qc6 ?_)
  case qc1 => simp [hl.out]
  case qc2 => exact A.out
  case qc3 => intro u hu; simp at hu; obtain ⟨x, _, rfl⟩ := hu; rfl
  case qc4 => unfold maxLen; omega
  case qc5 => omega
  case qc6 => simp
  intro v' w1 hown hgrow hnil
  have hown' : w1.ownsRow w.heap.size 5 1 v' n (l.map (Value.int .u8)) := by simpa using hown
  have hbel := ((Below.refl _ w).alloc (Nat.le_refl _) _).grown hgrow (by simp) (by intro k hk; simp [Value.ownBlock] at hk; omega)
  clear hown hgrow A hnil
  obtain ⟨a', m', c', rfl⟩ : ∃ a m c, v' = .slice a m c := by
    rcases hown'.2 with ⟨hv, _⟩ | ⟨g, cap, cur, hv, _⟩
    · exact ⟨_, _, _, hv⟩
    · exact ⟨_, _, _, hv⟩
  replace hown' := hid hown'
  go_wp2_with fail
  go_ret
  exact ⟨hbel, _, rfl, hown'.out⟩

/-- what Read answers, in one form -/
theorem RetR7.uni {e : Ending} {w : World} {b : List Int} (h : RetR7 e w b) : ∃ (a : Option Addr) (n c : Nat) (ta : Option Addr) (tn tc : Nat) (e' : Int), e = .returned (.tuple #[.agg #[.slice a n c, .slice ta tn tc], .int .i64 e']) ∧ (e' = 0 → ∃ bs ts, poolP b = some ((bs, ts), []) ∧ OkL bs ts ∧ n = bs.length ∧ PoolAt (fun _ => True) w a n (blksOf bs) ta tn ts) ∧ (e' ≠ 0 → ∀ bs ts, b.length ≤ 20000 → poolP b = some ((bs, ts), []) → ¬ OkL bs ts) ∧ (b.length ≤ 20000 → (∀ x, poolP b ≠ some (x, [])) → e' = 9) := by
  rcases h with ⟨e', rfl, he, h1, h2⟩ | ⟨bs, ts, a, n, c, ta, tn, tc, rfl, hp, hok, hn, hP⟩
  · exact ⟨none, 0, 0, none, 0, 0, e', rfl, fun h => absurd h he, fun _ => h1, h2⟩
  · exact ⟨a, n, c, ta, tn, tc, 0, rfl, fun _ => ⟨bs, ts, hp, hok, hn, hP⟩, fun h => absurd rfl h, fun _ h => absurd hp (h _)⟩

theorem imgB_len (bs : List Blk) (ts : List TenE) : 4 ≤ (imgB bs ts).length := by
  unfold imgB lstB
  simp only [List.length_append, numB_len]
  omega
/-- what is read of a list is read of a longer one -/
def ExtP {α : Type} (P : List Int → Option (α × List Int)) : Prop := ∀ l x r s, P l = some (x, r) → P (l ++ s) = some (x, r ++ s)
def andP {α β : Type} (P : List Int → Option (α × List Int)) (f : α → List Int → Option (β × List Int)) (l : List Int) : Option (β × List Int) :=
  match P l with
  | none => none
  | some (x, r) => f x r
theorem ext_and {α β : Type} {P : List Int → Option (α × List Int)} {f : α → List Int → Option (β × List Int)} (hP : ExtP P) (hf : ∀ x, ExtP (f x)) : ExtP (andP P f) := by
  intro l x r s h
  unfold andP at h ⊢
  cases h1 : P l with
  | none => simp [h1] at h
  | some p =>
    obtain ⟨y, t⟩ := p
    rw [hP l y t s h1]
    simp only [h1] at h
    exact hf y t x r s h
theorem ext_pure {α : Type} (x : α) : ExtP (fun l => some (x, l)) := by
  intro l y r s h
  simp only [Option.some.injEq, Prod.mk.injEq] at h ⊢
  exact ⟨h.1, by rw [h.2]⟩
theorem numP_ext : ExtP numP := by
  intro l x r s h
  match l, h with
  | a :: b :: t, h =>
    simp only [numP, Option.some.injEq, Prod.mk.injEq] at h
    obtain ⟨rfl, rfl⟩ := h
    rfl
theorem takeP_ext (n : Nat) : ExtP (fun r => if n ≤ r.length then some (r.take n, r.drop n) else none) := by
  intro l x r s h
  by_cases hn : n ≤ l.length
  · simp only [hn, if_true, Option.some.injEq, Prod.mk.injEq] at h
    have h2 : n ≤ (l ++ s).length := by rw [List.length_append]; omega
    simp only [h2, if_true, Option.some.injEq, Prod.mk.injEq]
    rw [List.take_append_of_le_length hn, List.drop_append_of_le_length hn, h.1, h.2]
    exact ⟨rfl, rfl⟩
  · simp [hn] at h
theorem bytesP_ext : ExtP bytesP := by
  have e : bytesP = andP numP (fun n r => if n.toNat ≤ r.length then some (r.take n.toNat, r.drop n.toNat) else none) := by kernel_rfl
  rw [e]
  exact ext_and numP_ext (fun n => takeP_ext n.toNat)
theorem nameP_ext : ExtP nameP := by
  have e : nameP = andP bytesP (fun b l => some (strOfNums b, l)) := by kernel_rfl
  rw [e]
  exact ext_and bytesP_ext (fun b => ext_pure (strOfNums b))
theorem listP_ext {α : Type} {one : List Int → Option (α × List Int)} (h1 : ExtP one) : ∀ n, ExtP (listP one n)
  | 0 => ext_pure []
  | n + 1 => by
    have e : listP one (n + 1) = andP one (fun x => andP (listP one n) (fun xs l => some (x :: xs, l))) := by kernel_rfl
    rw [e]
    exact ext_and h1 (fun x => ext_and (listP_ext h1 n) (fun xs => ext_pure (x :: xs)))
theorem lst_ext {α : Type} {one : List Int → Option (α × List Int)} (h1 : ExtP one) : ExtP (andP numP (fun n => listP one n.toNat)) := ext_and numP_ext (fun n => listP_ext h1 n.toNat)
theorem entP_ext : ExtP entP := by
  have e : entP = andP nameP (fun s => andP numP (fun r => andP numP (fun z l => some ((⟨s, r, z⟩ : Ent), l)))) := by kernel_rfl
  rw [e]
  exact ext_and nameP_ext (fun s => ext_and numP_ext (fun r => ext_and numP_ext (fun z => ext_pure (⟨s, r, z⟩ : Ent))))
theorem filesP_ext : ExtP filesP := by
  have e : filesP = andP numP (fun n => listP entP n.toNat) := by kernel_rfl
  rw [e]
  exact lst_ext entP_ext
theorem snapP_ext : ExtP snapP := by
  have e : snapP = andP nameP (fun s => andP filesP (fun fs l => some ((⟨s, fs⟩ : SnapE), l))) := by kernel_rfl
  rw [e]
  exact ext_and nameP_ext (fun s => ext_and filesP_ext (fun fs => ext_pure (⟨s, fs⟩ : SnapE)))
theorem snapsP_ext : ExtP snapsP := by
  have e : snapsP = andP numP (fun n => listP snapP n.toNat) := by kernel_rfl
  rw [e]
  exact lst_ext snapP_ext
theorem setP_ext : ExtP setP := by
  have e : setP = andP nameP (fun s => andP filesP (fun fs => andP snapsP (fun ss l => some ((⟨s, fs, ss⟩ : SetE), l)))) := by kernel_rfl
  rw [e]
  exact ext_and nameP_ext (fun s => ext_and filesP_ext (fun fs => ext_and snapsP_ext (fun ss => ext_pure (⟨s, fs, ss⟩ : SetE))))
theorem setsP_ext : ExtP setsP := by
  have e : setsP = andP numP (fun n => listP setP n.toNat) := by kernel_rfl
  rw [e]
  exact lst_ext setP_ext
theorem tenP_ext : ExtP tenP := by
  have e : tenP = andP numP (fun k => andP numP (fun q => andP setsP (fun ss l => some ((⟨k, q, ss⟩ : TenE), l)))) := by kernel_rfl
  rw [e]
  exact ext_and numP_ext (fun k => ext_and numP_ext (fun q => ext_and setsP_ext (fun ss => ext_pure (⟨k, q, ss⟩ : TenE))))
theorem tensP_ext : ExtP tensP := by
  have e : tensP = andP numP (fun n => listP tenP n.toNat) := by kernel_rfl
  rw [e]
  exact lst_ext tenP_ext
theorem kidsP_ext : ExtP kidsP := by
  have e : kidsP = andP numP (fun n => listP numP n.toNat) := by kernel_rfl
  rw [e]
  exact lst_ext numP_ext
theorem blkP_ext : ExtP blkP := by
  have e : blkP = andP numP (fun r => andP numP (fun v => andP kidsP (fun ks => andP bytesP (fun b l => some ((⟨r, v, ks, b⟩ : Blk), l))))) := by kernel_rfl
  rw [e]
  exact ext_and numP_ext (fun r => ext_and numP_ext (fun v => ext_and kidsP_ext (fun ks => ext_and bytesP_ext (fun b => ext_pure (⟨r, v, ks, b⟩ : Blk)))))
theorem blksP_ext : ExtP blksP := by
  have e : blksP = andP numP (fun n => listP blkP n.toNat) := by kernel_rfl
  rw [e]
  exact lst_ext blkP_ext
theorem poolP_ext : ExtP poolP := by
  have e : poolP = andP blksP (fun bs => andP tensP (fun ts l => some ((bs, ts), l))) := by kernel_rfl
  rw [e]
  exact ext_and blksP_ext (fun bs => ext_and tensP_ext (fun ts => ext_pure (bs, ts)))

/-- without the last byte, or with one more, it is torn -/
theorem torn_less {bs : List Blk} {ts : List TenE} (h : OkL bs ts) {m : Nat} (hm : m + 1 = (imgB bs ts).length) (x : (List Blk × List TenE)) : poolP ((imgB bs ts).take m) ≠ some (x, []) := by
  intro e
  have e1 := poolP_ext _ _ _ ((imgB bs ts).drop m) e
  rw [List.take_append_drop, List.nil_append] at e1
  have e3 := PoolOk.parse h []
  rw [List.append_nil, e1] at e3
  simp only [Option.some.injEq, Prod.mk.injEq] at e3
  have e4 : ((imgB bs ts).drop m).length = 0 := by rw [e3.2]; rfl
  rw [List.length_drop] at e4
  omega
theorem torn_more {bs : List Blk} {ts : List TenE} (h : OkL bs ts) (y : Int) (x : (List Blk × List TenE)) : poolP (imgB bs ts ++ [y]) ≠ some (x, []) := by
  rw [PoolOk.parse h [y]]
  simp

set_option maxHeartbeats 4000000 in
set_option maxRecDepth 100000 in
theorem imageBack_walk (Q R : Nat → Prop) (a : Option Addr) (n c : Nat) (bs : List Blk) (ta : Option Addr) (tn tc : Nat) (ts : List TenE) (ba : Option Addr) (bn bc : Nat) (b : List Int) (more : Int) (w : World) (hP : PoolAt Q w a n (blksOf bs) ta tn ts) (hn : n = bs.length) (hN : NumsAt R .u8 w ba bn b) (hcap : bn ≤ bc) (hbig : bc ≤ maxLen) (hnil : ba = none → bc = 0) (hmo : 0 ≤ more ∧ more < 256) :
    Calls Tryz.prog 5 #[.agg #[.slice a n c, .slice ta tn tc], .slice ba bn bc, .int .u8 more] w fun e w' => e = .returned (.bool true) ∧ Below w.heap.size w w' := by
  have b0 := hid (below_alloc w (.cells #[.slice a n c, .slice ta tn tc] 27))
  have k0 : Hid (CellsAt _ w.heap.size #[.slice a n c, .slice ta tn tc] 27) := hid (cellsAt_alloc w _ _)
  have hBy : Hid (Byt b) := hid (fun z hz => by have := bounds_u8 (hN.2.1 z hz); omega)
  replace hP := hid (hP.below b0.out)
  replace hN := hid (hN.below b0.out)
  replace hn := hid hn
  replace hbig := hid hbig
  go_enter Tryz.func5, Tryz.ntmps5
  go_wp2_with fail
  generalize w.alloc (.cells #[.slice a n c, .slice ta tn tc] 27) = w0 at *
  refine (read_any R ba bn bc b w0 hN.out hcap hbig.out hnil).mono ?_
  rintro e w1 ⟨hr1, b1⟩
  obtain ⟨qa, qn, qc, ua, un, uc, e1, rfl, hq1, _, _⟩ := hr1.uni
  have bA := hid (below_alloc w1 (.cells #[.slice qa qn qc, .slice ua un uc] 27))
  have kA : Hid (CellsAt _ w1.heap.size #[.slice qa qn qc, .slice ua un uc] 27) := hid (cellsAt_alloc w1 _ _)
  replace hq1 := hid hq1
  have b1A := hid (Below.tr b1 bA.out)
  clear b1 hr1
  go_upto_if 24 with fail
  generalize w1.alloc (.cells #[.slice qa qn qc, .slice ua un uc] 27) = w2 at *
  go_cut [7, 8, 9, 10] from 18 (fun _ _ _ _ wc => Below w0.heap.size w0 wc)
  case first =>
    by_cases h1 : e1 = 0
    · subst h1
      obtain ⟨bs', ts', hp, hok, hqn, hPq⟩ := hq1.out rfl
      have hdec := poolP_dec hBy.out hp
      rw [List.append_nil] at hdec
      replace hPq := hid (hPq.below bA.out)
      replace hok := hid hok
      replace hqn := hid hqn
      have p0 := kA.out.cell 0
      have p1 := kA.out.cell 1
      simp at p0 p1
      replace hdec := hid hdec
      clear hp
      go_wp2_with fail
      refine (write_any (fun _ => True) qa qn qc (blksOf bs') ua un uc ts' w2 hPq.out).mono ?_
      rintro e w3 ⟨⟨e', rfl, he, hno⟩ | ⟨_, xa, xm, xc, rfl, hxc, hxm, hNx⟩, b3⟩
      · exact absurd (by rw [hqn.out]; exact hok.out) hno
      have hNb := hid (hN.out.below (Below.tr b1A.out b3))
      have hNx' : Hid (NumsAt (fun b => w2.heap.size ≤ b) .u8 w3 xa xm b) := hid (by rw [hdec.out, ← poolB_of, ← hqn.out]; exact hNx)
      have b3' := hid (Below.tr b1A.out b3)
      clear p0 p1 hNx b3
      go_wp2_with fail
      refine (bytesEqual_same ba xa bn bc xm xc _ _ b w3 hNb.out hNx'.out).mono ?_
      rintro e w4 ⟨rfl, rfl⟩
      go_wp2_with fail
      go_meet
      exact b3'.out
    · have h1' : (e1 == 0) = false := by simp [h1]
      go_wp2_with fail
      go_meet
      exact b1A.out
  case rest =>
    have hb := hid hcut
    clear hcut kA bA b1A hq1
    replace hP := hid (hP.out.below hb.out)
    replace k0 := hid (k0.out.below hb.out)
    replace b0 := hid (Below.tr b0.out hb.out)
    clear hb
    have p0 := k0.out.cell 0
    have p1 := k0.out.cell 1
    simp at p0 p1
    go_wp2_with fail
    refine (write_any Q a n c (blksOf bs) ta tn tc ts wc hP.out).mono ?_
    rintro e w3 ⟨⟨e', rfl, he, hno⟩ | ⟨hok, xa, xm, xc, rfl, hxc, hxm, hNx⟩, b3⟩
    · have he' : (e' == 0) = false := by simp [he]
      replace b0 := hid (Below.tr b0.out b3)
      clear p0 p1 b3
      go_wp2_with fail
      refine (imaged_any w3).mono ?_
      rintro e w4 ⟨rfl, b4⟩
      replace b0 := hid (Below.tr b0.out b4)
      clear b4
      go_wp2_with fail
      refine (imaged_any w4).mono ?_
      rintro e w5 ⟨rfl, b5⟩
      replace b0 := hid (Below.tr b0.out b5)
      clear b5
      go_wp2_with fail
      go_ret
      exact ⟨rfl, b0.out⟩
    · have hokL : Hid (OkL bs ts) := hid (by unfold OkL; rw [← hn.out]; exact hok)
      have himg : poolB n (blksOf bs) ts = imgB bs ts := by rw [hn.out]; exact poolB_of bs ts
      rw [himg] at hNx
      have hlen := imgB_len bs ts
      rw [hNx.1] at hlen
      obtain ⟨m, rfl⟩ : ∃ m, xm = m + 1 := ⟨xm - 1, by omega⟩
      obtain ⟨xb, xo, rfl⟩ : ∃ b o, xa = some ⟨b, o, none⟩ := by
        obtain ⟨b, o, e, _⟩ := hNx.2.2 (by omega)
        exact ⟨b, o, e⟩
      obtain ⟨hxc1, hxc2⟩ := hxc
      have hxc3 : (xc : Int) ≤ 9223372036854775807 := by unfold maxLen at hxc2; omega
      have hml := hid hNx.1
      replace hxc2 := hid hxc2
      replace hNx := hid hNx
      replace hP := hid (hP.out.below b3)
      replace k0 := hid (k0.out.below b3)
      replace b0 := hid (Below.tr b0.out b3)
      clear p0 p1 b3 himg hok
      go_wp2_with fail
      refine (imaged_any w3).mono ?_
      rintro e w4 ⟨rfl, b4⟩
      replace hNx := hid (hNx.out.below b4)
      replace hP := hid (hP.out.below b4)
      replace k0 := hid (k0.out.below b4)
      replace b0 := hid (Below.tr b0.out b4)
      clear b4
      go_wp2_with fail
      refine (read_any _ _ (m + 1) xc _ w4 hNx.out hxc1 hxc2.out (fun e => by cases e)).mono ?_
      rintro e w5 ⟨hr5, b5⟩
      have hpar : poolP (imgB bs ts) = some ((bs, ts), []) := by have := PoolOk.parse hokL.out []; rwa [List.append_nil] at this
      obtain ⟨qa, qn, qc, ua, un, uc, e5, rfl, hq5, hq5', _⟩ := hr5.uni
      obtain rfl : e5 = 0 := by
        rcases Classical.em (e5 = 0) with h | h
        · exact h
        · exact absurd hokL.out (hq5' h bs ts (by rw [hml.out]; omega) hpar)
      obtain ⟨bs', ts', hp', hok', hqn, hPq⟩ := hq5 rfl
      rw [hpar] at hp'
      simp only [Option.some.injEq, Prod.mk.injEq, and_true] at hp'
      obtain ⟨rfl, rfl⟩ := hp'
      have bB := hid (below_alloc w5 (.cells #[.slice qa qn qc, .slice ua un uc] 27))
      have kB : Hid (CellsAt _ w5.heap.size #[.slice qa qn qc, .slice ua un uc] 27) := hid (cellsAt_alloc w5 _ _)
      replace hqn := hid hqn
      replace hPq := hid (hPq.below bB.out)
      replace hNx := hid ((hNx.out.below b5).below bB.out)
      replace hP := hid ((hP.out.below b5).below bB.out)
      replace k0 := hid ((k0.out.below b5).below bB.out)
      replace b0 := hid (Below.tr (Below.tr b0.out b5) bB.out)
      clear b5 hr5 hq5 hq5' hok' hpar bB
      go_upto_region 10 with fail
      generalize w5.alloc (.cells #[.slice qa qn qc, .slice ua un uc] 27) = w6 at *
      go_wp2_with fail
      have hTk := nums_take hNx.out (n := m) (by omega)
      refine (read_any _ _ m xc _ w6 hTk (by omega) hxc2.out (fun e => by cases e)).mono ?_
      rintro e w7 ⟨hr7, b7⟩
      obtain ⟨ra, rn, rc, va, vn, vc, e7, rfl, _, _, h79⟩ := hr7.uni
      obtain rfl : e7 = 9 := h79 (by rw [hTk.1]; omega) (torn_less hokL.out hml.out.symm)
      have bC := hid (below_alloc w7 (.cells #[.slice ra rn rc, .slice va vn vc] 27))
      replace hPq := hid ((hPq.out.below b7).below bC.out)
      replace hNx := hid ((hNx.out.below b7).below bC.out)
      replace hP := hid ((hP.out.below b7).below bC.out)
      replace k0 := hid ((k0.out.below b7).below bC.out)
      replace kB := hid ((kB.out.below b7).below bC.out)
      replace b0 := hid (Below.tr (Below.tr b0.out b7) bC.out)
      clear b7 hr7 h79 hTk bC
      go_upto_region 11 with fail
      generalize w7.alloc (.cells #[.slice ra rn rc, .slice va vn vc] 27) = w8 at *
      go_wp2_with fail
      refine (cloneBy_any ⟨xb, xo, none⟩ (m + 1) xc (imgB bs ts) _ w8 (by omega) hNx.out).mono ?_
      rintro e w9 ⟨b9, v9, rfl, hv9⟩
      have bD := below_alloc w9 (.cells #[.int .u8 more] 5)
      have kD := cellsAt_alloc w9 #[.int .u8 more] 5
      have hN1 : NumsAt (fun _ => True) .u8 (w9.alloc (.cells #[.int .u8 more] 5)) (some ⟨w9.heap.size, 0, none⟩) 1 [more] := ⟨rfl, fun z hz => by simp only [List.mem_singleton] at hz; subst hz; exact wf_u8 hmo, fun _ => ⟨_, 0, rfl, kD.lt, trivial, fun i hi => by obtain rfl : i = 0 := (by omega); exact kD.cell 0⟩⟩
      obtain ⟨v10, w10, hrun, hrow, hg10, _⟩ := run_append_u8 (w9.alloc (.cells #[.int .u8 more] 5)) w8.heap.size 28 v9 (m + 1) _ (row_below hv9 bD) (some ⟨w9.heap.size, 0, none⟩) 1 1 [more] hN1 (Nat.le_trans b9.size bD.size) (by omega) (by omega)
      rw [← List.map_append] at hrow
      have hwf10 : ∀ z ∈ imgB bs ts ++ [more], (Lit.int .u8 z).wf = true := fun z hz => by
        rcases List.mem_append.1 hz with h | h
        · exact hNx.out.2.1 z h
        · simp only [List.mem_singleton] at h; subst h; exact wf_u8 hmo
      have hb10 : Below w8.heap.size w8 w10 := (b9.trans (bD.mono b9.size)).grown hg10 (Nat.le_trans b9.size bD.size) (fun k hk => (hv9.lt k hk).1)
      obtain ⟨za, zc, rfl, hzc, hNz⟩ := numsAt_own hwf10 hrow
      have hzb := hid (row_big hrow)
      obtain ⟨zb, zo, rfl⟩ : ∃ b o, za = some ⟨b, o, none⟩ := by
        obtain ⟨b, o, e, _⟩ := hNz.2.2 (by omega)
        exact ⟨b, o, e⟩
      obtain ⟨a9, m9, c9, rfl⟩ : ∃ a m c, v9 = .slice a m c := by
        rcases hv9.2 with ⟨hv, _⟩ | ⟨g, cap, cur, hv, _⟩
        · exact ⟨_, _, _, hv⟩
        · exact ⟨_, _, _, hv⟩
      replace hNz := hid hNz
      replace hPq := hid (hPq.out.below hb10)
      replace hP := hid (hP.out.below hb10)
      replace k0 := hid (k0.out.below hb10)
      replace kB := hid (kB.out.below hb10)
      replace b0 := hid (Below.tr b0.out hb10)
      have hlz : Hid ((imgB bs ts ++ [more]).length = m + 1 + 1) := hid (by rw [List.length_append, hml.out]; rfl)
      clear hrow hwf10 hg10 hv9 hN1 kD bD b9 hb10 hNx
      go_wp2_with (at_builtin; refine Lib.wpList_append_run _ rfl _ _ _ _ rfl _ _ rfl rfl _ _ hrun ?_)
      refine (read_any _ _ (m + 1 + 1) zc _ w10 hNz.out hzc hzb.out (fun e => by cases e)).mono ?_
      rintro e w11 ⟨hr11, b11⟩
      obtain ⟨ra', rn', rc', va', vn', vc', e11, rfl, _, _, h119⟩ := hr11.uni
      obtain rfl : e11 = 9 := h119 (by rw [hlz.out]; omega) (torn_more hokL.out more)
      have bE := hid (below_alloc w11 (.cells #[.slice ra' rn' rc', .slice va' vn' vc'] 27))
      replace hPq := hid ((hPq.out.below b11).below bE.out)
      replace hP := hid ((hP.out.below b11).below bE.out)
      replace k0 := hid ((k0.out.below b11).below bE.out)
      replace kB := hid ((kB.out.below b11).below bE.out)
      replace b0 := hid (Below.tr (Below.tr b0.out b11) bE.out)
      clear b11 hr11 h119 hNz bE
      go_upto_region 12 with fail
      generalize w11.alloc (.cells #[.slice ra' rn' rc', .slice va' vn' vc'] 27) = w12 at *
      have p0 := k0.out.cell 0
      have p1 := k0.out.cell 1
      have q0 := kB.out.cell 0
      have q1 := kB.out.cell 1
      simp at p0 p1 q0 q1
      go_wp2_with fail
      refine (same_any Q (fun _ => True) a n c (blksOf bs) ta tn tc ts qa qn qc (blksOf bs) ua un uc ts w12 hP.out hPq.out).mono ?_
      rintro e w13 ⟨⟨t, rfl, ht⟩, b13⟩
      obtain rfl : t = true := ht.2 ⟨by rw [hn.out]; exact hokL.out, by rw [hqn.out]; exact hokL.out, by rw [hn.out, hqn.out]⟩
      replace b0 := hid (Below.tr b0.out b13)
      clear p0 p1 q0 q1 ht b13
      go_wp2_with fail
      go_ret
      exact ⟨rfl, b0.out⟩
end Go.Proofs.YtmpedoklljhdbaaGreat
